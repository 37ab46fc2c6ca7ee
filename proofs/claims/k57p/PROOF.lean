import PyProof.Rows.All
import Wide.All
import OpenK.AllK
import Wide.FinOn
import HandS.ForMost
import HandS.SetFor
import HandS.IsInst
import HandS.Defaults
import HandS.Base
import HandS.ForExc
import HandS.ExcInit
import HandS.ExcField
import KE.KExcIs
import HandS.Head2
import HandS.HeadEnd
import HandS.HeadHook2
import HandS.Property
import HandS.NoneIn
import HandS.More
import HandS.SortInts
import KE.GoesEnum
import PyProof.TupleOfSeq
import HandS.Codes
import HandS.Strs
import HandS.TupSets
import HandS.TupAny
import HandS.OwnEq
import HandS.Deep
import KE.DataMinMax
import HandS.TryMany
import HandS.Ends
import PyProof.ReprRoads
import PyProof.Rows.NestShow
import PyProof.ReprLen
import HandS.SetKeys
import HandS.SortRule
import KE.SortKeyHeap
import HandS.Lambda
import HandS.EndTab
import HandS.SortKw
import HandS.HeadHook4
import KE.KListMore
import HandS.Zip
import HandS.DictComp
import HandS.DictTup
import HandS.Iter
import HandS.Walk
import PySem.Challenge.RW_headamid_k57_whole_calls_by_table
set_option Elab.async false
set_option linter.all false
set_option maxRecDepth 100000
set_option maxHeartbeats 4000000
namespace Kw
open PySem PySem.Spec PyProof.Rows L2

/-! ### as many different ones as there are -/
theorem len_le_of_sub : ∀ {ks ns : List Int}, ks.Nodup → (∀ k ∈ ks, k ∈ ns) → ks.length ≤ ns.length
  | [], _, _, _ => Nat.zero_le _
  | k :: r, ns, hn, hs => by
    have hk : k ∈ ns := hs k List.mem_cons_self
    obtain ⟨h1, h2⟩ := List.nodup_cons.mp hn
    have ih := len_le_of_sub (ks := r) (ns := ns.erase k) h2 fun y hy => by
      have ne : y ≠ k := fun e => h1 (by rw [← e]; exact hy)
      exact (List.mem_erase_of_ne ne).mpr (hs y (List.mem_cons_of_mem _ hy))
    rw [List.length_erase_of_mem hk] at ih
    have := List.length_pos_of_mem hk
    show r.length + 1 ≤ ns.length
    omega
theorem nodup_of_len : ∀ {ns ks : List Int}, ks.Nodup → (∀ k ∈ ks, k ∈ ns) → ns.length ≤ ks.length → ns.Nodup
  | [], _, _, _, _ => List.nodup_nil
  | n :: r, ks, hn, hs, hl => by
    by_cases hr : n ∈ r
    · have z := len_le_of_sub (ks := ks) (ns := r) hn fun k hk => by
        rcases List.mem_cons.mp (hs k hk) with e | e
        · rw [e]; exact hr
        · exact e
      have : r.length + 1 ≤ ks.length := hl
      omega
    · refine List.nodup_cons.mpr ⟨hr, nodup_of_len (ks := ks.erase n) (hn.erase n) (fun k hk => ?_) ?_⟩
      · have h1 := (hn.mem_erase_iff).mp hk
        rcases List.mem_cons.mp (hs k h1.2) with e | e
        · exact absurd e h1.1
        · exact e
      · have h2 : r.length + 1 ≤ ks.length := hl
        by_cases hm : n ∈ ks
        · rw [List.length_erase_of_mem hm]
          omega
        · rw [List.erase_of_not_mem hm]
          omega
theorem len_nodup {ks ns : List Int} (hn : ks.Nodup) (hs : ∀ k, k ∈ ks ↔ k ∈ ns) : ks.length = ns.length ↔ ns.Nodup :=
  ⟨fun e => nodup_of_len hn (fun k hk => (hs k).mp hk) (by omega), fun h => Nat.le_antisymm (len_le_of_sub hn fun k hk => (hs k).mp hk) (len_le_of_sub h fun k hk => (hs k).mpr hk)⟩
theorem firstMet_facts (ns : List Int) : ∀ i, i ≤ ns.length → (firstMet (fun i => ns.getD i 0) i).Nodup ∧ ∀ k, k ∈ firstMet (fun i => ns.getD i 0) i ↔ k ∈ ns.take i
  | 0, _ => ⟨List.nodup_nil, fun k => by simp [firstMet_zero]⟩
  | i + 1, hi => by
    obtain ⟨h1, h2⟩ := firstMet_facts ns i (Nat.le_of_succ_le hi)
    have hlt : i < ns.length := hi
    have e : ns.getD i 0 = ns[i] := by
      rw [List.getD_eq_getElem?_getD, List.getElem?_eq_getElem hlt] <;> rfl
    have tk : ns.take (i + 1) = ns.take i ++ [ns[i]] := by
      rw [List.take_add_one, List.getElem?_eq_getElem hlt] <;> rfl
    rw [firstMet_succ, tk]
    unfold step_dedup
    rw [e]
    by_cases hb : (firstMet (fun i => ns.getD i 0) i).any (· == ns[i]) = true
    · rw [if_pos hb]
      obtain ⟨y, hy, ey⟩ := List.any_eq_true.mp hb
      have ey2 : y = ns[i] := eq_of_beq ey
      refine ⟨h1, fun k => ⟨fun hk => List.mem_append_left _ ((h2 k).mp hk), fun hk => ?_⟩⟩
      rcases List.mem_append.mp hk with z | z
      · exact (h2 k).mpr z
      · rw [List.mem_singleton.mp z, ← ey2]
        exact hy
    · rw [if_neg hb]
      have hno : ns[i] ∉ firstMet (fun i => ns.getD i 0) i := fun z => hb (List.any_eq_true.mpr ⟨_, z, beq_iff_eq.mpr rfl⟩)
      refine ⟨List.nodup_append.mpr ⟨h1, by simp, fun a ha b hb' e' => hno ?_⟩, fun k => ?_⟩
      · rw [List.mem_singleton.mp hb'] at e'
        exact e' ▸ ha
      · rw [List.mem_append, List.mem_append, h2 k]
/-! ### len(set(xs)), xs a list or a tuple of ints, whatever they are -/
def tLenSetA (K : PySem.W.Frag) (ta : TE) : TE := fun σ H Q => ta σ H fun x H1 => ∃ (l : Addr) (ns : List Int), x = .ref l ∧ (SqL K H1 l (ns.map V.int) ∨ SqT K H1 l (ns.map V.int)) ∧ ns.length ≤ 4000 ∧ ∀ n : Nat, (n = ns.length ↔ ns.Nodup) → Q (.int n) H1
theorem intsAre_of : ∀ {ns : List Int} {us : List Value}, Vals (ns.map V.int) us → IntsAre us ns
  | [], _, .nil => .nil
  | n :: r, _, .cons h t => by
    obtain ⟨k, e⟩ := h
    rw [e]
    exact .cons n k (intsAre_of t)
theorem pe_lenSetA {X : Cx} {a : Expr} {ta : TE} {p p2 q pos : Pos} (hg : Gl X "len") (hm : X.mg "len" = none) (hg2 : Gl X "set") (hm2 : X.mg "set" = none) (ha : PE X a ta) (hc : X.calm = true := by rfl)
    (na : starEach [a] X.env = (false, eval a X.env) :: starEach [] X.env := by rfl) : PE X (.Call (.Name "len" p) [.Call (.Name "set" p2) [a] [] q] [] pos) (tLenSetA X.K ta) := by
  refine ⟨fun pins s σ H Q I h => Call_ (ld_blt I hg hm PySem.boot_len ?_)⟩
  refine callWith_builtin1 (args_cons (Call_ (ld_blt I hg2 hm2 PyProof.Rows.boot_set ?_)) rfl) rfl rfl
  refine callWith_type1 (args_cons (thn (ha.run pins s σ H _ I h) fun v s1 ⟨x, H1, I1, r1, q1⟩ => args_nil ?_) na) na rfl
  obtain ⟨l, ns, ex, hq, h4, q2⟩ := q1
  subst ex
  obtain rfl : v = Value.ref l := r1
  rcases hq with hq | hq
  · obtain ⟨its, r, pl, hz⟩ := I1.list hq
    have hlen : its.toArray.size = ns.length := by rw [List.size_toArray, ← r.length, List.length_map]
    have ia : IntsAre its.toArray.toList ns := by
      have z := intsAre_of r
      simpa using z
    refine call_set_list (I1.ok.hd hc) pl.isList ia (by rw [hlen]; unfold scanBound; omega) fun h' tk hS hk => args_nil ?_
    rw [hlen] at hS
    obtain ⟨f1, f2⟩ := firstMet_facts ns ns.length (Nat.le_refl _)
    rw [List.take_length] at f2
    have key := len_nodup f1 f2
    have le := firstMet_length_le (fun i => ns.getD i 0) ns.length
    generalize hm : (firstMet (fun i => ns.getD i 0) ns.length).length = m at hS key le
    obtain ⟨o, es, ep, t, ho, hex, hd, _, _, _, hf, hn⟩ := hS
    have I2 : Inv X pins σ H1 { s1 with heap := h', toks := tk } := I1.kept fun b o e => hk b o (Heap.lt_size e) e
    exact call_len_set ho hex hd hf (by rw [hn]; omega) ⟨.int m, H1, I2.tok _, ⟨_, by rw [hn]⟩, q2 m key⟩
  · obtain ⟨its, r, pl, hz⟩ := I1.tuple hq
    have ia : IntsAre its.toArray.toList ns := by
      have z := intsAre_of r
      simpa using z
    refine call_set_tupI ns (I1.ok.hd hc) pl ia (by unfold scanBound; omega) fun h' tk c hS hc' hk => args_nil ?_
    obtain ⟨o, es, ep, t, ho, hex, hd, hg3, hnd, hmem, hbd, hf, hn, _, _⟩ := hS
    have key := len_nodup hnd (ns := ns) fun k => (hmem k).symm.trans (by simp)
    have e1 : (es.toList.map keyOf).length = es.size := by rw [List.length_map, Array.length_toList]
    rw [e1] at key
    have I2 : Inv X pins σ H1 { s1 with heap := h', toks := tk } := I1.kept fun b o e => hk b o e
    exact call_len_set ho hex hd hf (by unfold scanBound at hbd; omega) ⟨.int es.size, H1, I2.tok _, ⟨_, rfl⟩, q2 es.size key⟩
end Kw

set_option maxRecDepth 100000
set_option maxHeartbeats 4000000
namespace K57
open PySem PySem.Spec PyProof.Rows L2 Kw
def top (i : Nat) : Stmt := PySem.Challenge.pw_headamid_k57_whole_calls_by_table.main.body.getD i (.Pass ⟨0, 0, 0, 0⟩)
abbrev FnP (K : PySem.W.Frag) (x : Str) (i : Nat) (f : Addr) (fd : FuncData) : Prop := FunD K x x (defArgs (top i)) (defBody (top i)) (defScope (top i)) [] [] f fd
abbrev FnDf (K : PySem.W.Frag) (x : Str) (i : Nat) (dvs : List V) (f : Addr) (fd : FuncData) : Prop := FunD K x x (defArgs (top i)) (defBody (top i)) (defScope (top i)) dvs [] f fd
theorem same_new {H : Hp} {p : Addr} {o : HO} (hp : H p = none) : Same H (upd H p o) := fun b u e => by
  rw [upd_ne (ne_of_none e hp)]
  exact e
/-- a plain thing's type stays -/
inductive Ty0 (H : Hp) : V → String → Prop where
  | non : Ty0 H .non "NoneType"
  | bl (x : Bool) : Ty0 H (.bl x) "bool"
  | int (i : Int) : Ty0 H (.int i) "int"
  | str (x : Str) : Ty0 H (.str x) "str"
  | lst {a : Addr} {xs : List V} (e : H a = some (.lst xs)) : Ty0 H (.ref a) "list"
  | tup {a : Addr} {xs : List V} (e : H a = some (.tup xs)) : Ty0 H (.ref a) "tuple"
  | dK {a : Addr} {kvs : List (Key × V)} (e : H a = some (.dK kvs)) : Ty0 H (.ref a) "dict"
theorem Ty0.same {H H' : Hp} {x : V} {t : String} (h : Ty0 H x t) (s : Same H H') : Ty0 H' x t := by
  cases h with
  | non => exact .non
  | bl x => exact .bl x
  | int i => exact .int i
  | str x => exact .str x
  | lst e => exact .lst (s _ _ e)
  | tup e => exact .tup (s _ _ e)
  | dK e => exact .dK (s _ _ e)
theorem Ty0.x {K : PySem.W.Frag} {H : Hp} {x : V} {t : String} (h : Ty0 H x t) : TyX K H x (.type t) := by
  cases h with
  | non => exact .base .non
  | bl x => exact .base (.bl x)
  | int i => exact .base (.int i)
  | str x => exact .base (.str x)
  | lst e => exact .base (.lst e)
  | tup e => exact .base (.tup e)
  | dK e => exact .base (.dK e)
def seqT (t : String) : Bool := t == "list" || t == "tuple"
theorem Ty0.seq {K : PySem.W.Frag} {H : Hp} {x : V} {t : String} (h : Ty0 H x t) : PySem.W.kitAny K (.type t) [.type "list", .type "tuple"] = some (seqT t) := by
  have two : kitB t "list" = some (t == "list") → kitB t "tuple" = some (t == "tuple") → PySem.W.kitAny K (.type t) [.type "list", .type "tuple"] = some (seqT t) := fun hb hc => by
    unfold seqT
    refine kitAny_cons (kit_ty hb) (fun eb => ?_) fun eb => by rw [eb]; rfl
    rw [eb, Bool.false_or]
    refine kitAny_cons (kit_ty hc) (fun ec => ?_) fun ec => ec
    rw [ec]
    exact kitAny_nil
  cases h <;> exact two (by decide +kernel) (by decide +kernel)
theorem Ty0.isBool {K : PySem.W.Frag} {H : Hp} {x : V} {t : String} (h : Ty0 H x t) : PySem.W.kitOne K (.type t) (.type "bool") = some (t == "bool") := by
  cases h <;> exact kit_ty (by decide +kernel)
theorem Ty0.isInt {K : PySem.W.Frag} {H : Hp} {x : V} {t : String} (h : Ty0 H x t) : PySem.W.kitOne K (.type t) (.type "int") = some (t == "bool" || t == "int") := by
  cases h <;> exact kit_ty (by decide +kernel)
structure Fr (mg : Str → Option Value) : Prop where
  isinstance : mg "isinstance" = none
  list : mg "list" = none
  tuple : mg "tuple" = none
  bool : mg "bool" = none
  int : mg "int" = none
  len : mg "len" = none
  set : mg "set" = none
  range : mg "range" = none
  sorted : mg "sorted" = none
  enumerate : mg "enumerate" = none
section
variable {P : Program} {w : World} {K : PySem.W.Frag} {mg : Str → Option Value} {base : Heap} {f : Addr} {fd : FuncData}
/-! ### is_sequence -/
def spIsSeq : Sp := fun vs H Q _ => ∃ (x : V) (t : String), vs = [x] ∧ Ty0 H x t ∧ ∀ H', Same H H' → Q (.bl (seqT t)) H'
theorem sc_isSeq : FnScope ["thing"] ["thing"] (defScope (top 12)) := ⟨rfl, rfl, rfl, by decide +kernel, rfl, by decide +kernel, by decide +kernel⟩
theorem ok_isSeq (F : FnP K "is_sequence" 12 f fd) (B : Fr mg) : FnOk P w K mg base CX0 1 f fd ["thing"] spIsSeq := by
  refine F.ok sc_isSeq (fun vs H Q E h => ?_) (fun cdv A outer s H vs Q E hr h => ?_)
  · obtain ⟨x, t, rfl, _⟩ := h
    rfl
  · obtain ⟨x, t, rfl, ty, k⟩ := h
    refine ⟨_, PSs.nox (pss_one (ps_ret (pe_callB call_isiT (by rfl) B.isinstance PyProof.Rows.boot_isinstance (pa_cons (pv 0) (pa_cons (pe_tup (pa_cons (pe_bltn (v := .ty "list") (by rfl) B.list PyProof.Rows.boot_list rfl) (pa_cons (pe_bltn (v := .ty "tuple") (by rfl) B.tuple PyProof.Rows.boot_tuple rfl) pa_nil))) pa_nil))))), ?_⟩
    exact ⟨_, rfl, (by show 2 ≤ sizeLine; decide), fun p np => ⟨x, p, _, _, _, _, rfl, upd_same, .cons (.ty "list") (.cons (.ty "tuple") .nil), (ty.same (same_new np)).x, ty.seq, k _ (same_new np)⟩⟩
/-! ### is_whole -/
def inLo : V → Int → Bool
  | .int l, i => decide (l ≤ i)
  | _, _ => true
def inHi : V → Int → Bool
  | .int h, i => decide (i ≤ h)
  | _, _ => true
def Lim (x : V) : Prop := x = .non ∨ ∃ i, x = .int i
def wholeB (lo hi : V) : V → Bool
  | .int i => inLo lo i && inHi hi i
  | _ => false
def spWhole : Sp := fun vs H Q _ => ∃ (x lo hi : V) (t : String), vs = [x, lo, hi] ∧ Ty0 H x t ∧ Lim lo ∧ Lim hi ∧ Q (.bl (wholeB lo hi x)) H
theorem sc_whole : FnScope ["thing", "low", "high"] ["thing", "low", "high"] (defScope (top 13)) := ⟨rfl, rfl, rfl, by decide +kernel, rfl, by decide +kernel, by decide +kernel⟩
theorem ok_whole (F : FnDf K "is_whole" 13 [.non, .non] f fd) (B : Fr mg) : FnOk P w K mg base CX0 1 f fd ["thing", "low", "high"] spWhole := by
  refine F.ok sc_whole (fun vs H Q E h => ?_) (fun cdv A outer s H vs Q E hr h => ?_)
  · obtain ⟨x, lo, hi, t, rfl, _⟩ := h
    rfl
  · obtain ⟨x, lo, hi, t, rfl, ty, hlo, hhi, k⟩ := h
    refine ⟨_, PSs.nox (pss_cons (ps_if (PW.pt (pw_or (pt_val (pe_callB call_isi (by rfl) B.isinstance PyProof.Rows.boot_isinstance (pa_cons (pv 0) (pa_cons (pe_bltn (v := .ty "bool") (by rfl) B.bool PyProof.Rows.boot_bool rfl) pa_nil))))
        (pw_or1 (pt_not (pt_val (pe_callB call_isi (by rfl) B.isinstance PyProof.Rows.boot_isinstance (pa_cons (pv 0) (pa_cons (pe_bltn (v := .ty "int") (by rfl) B.int PyProof.Rows.boot_int rfl) pa_nil)))))))) (pss_one (ps_ret pe_bl)) pss_nil)
      (pss_cons (ps_if (PW.pt (pw_and (pt_cmpR op_notN (pv 1) pe_non (nomark _)) (pw_and1 (pt_cmpR op_lt (pv 0) (pv 1) (nomark _))))) (pss_one (ps_ret pe_bl)) pss_nil)
      (pss_one (ps_ret (pe_or (pe_cmpR op_isN (pv 2) pe_non (nomark _)) (pe_one (pe_cmpR op_le (pv 0) (pv 2) (nomark _)))))))), ?_⟩
    have tyx := ty.x (K := K)
    have tyb := ty.isBool (K := K)
    have tyi := ty.isInt (K := K)
    refine ⟨_, rfl, x, _, _, _, _, rfl, .ty "bool", tyx, tyb, _, rfl, ?_⟩
    cases ty with
    | bl y => exact iteT k
    | int i =>
      refine iteF ⟨_, rfl, _, _, _, _, _, rfl, .ty "int", tyx, tyi, _, rfl, iteF ?_⟩
      have go2 : inLo lo i = true → (tRet (tOrV (tOp (fun x y H Q => y = V.non ∧ Q (V.bl (decide (x = V.non))) H) (tVar 2) (tC V.non)) (tOp (rI0 fun i j => V.bl (decide (i ≤ j))) (tVar 0) (tVar 2)))) { nx := fun _ H' => Q .non H', rt := Q } [some (.int i), some lo, some hi] H := fun e => by
        refine ⟨_, rfl, rfl, _, rfl, ?_⟩
        have k' : Q (.bl (inHi hi i)) H := by
          have z : wholeB lo hi (.int i) = inHi hi i := by
            show (inLo lo i && inHi hi i) = inHi hi i
            rw [e, Bool.true_and]
          rw [← z]
          exact k
        rcases hhi with rfl | ⟨h, rfl⟩
        · exact k'
        · exact ⟨_, rfl, _, rfl, _, _, rfl, rfl, k'⟩
      rcases hlo with rfl | ⟨l, rfl⟩
      · exact ⟨_, rfl, rfl, _, rfl, go2 rfl⟩
      · refine ⟨_, rfl, rfl, _, rfl, _, rfl, _, rfl, _, _, rfl, rfl, _, rfl, ?_⟩
        by_cases hl : i < l
        · rw [decide_eq_true hl]
          refine iteT ?_
          have z : wholeB (.int l) hi (.int i) = false := by
            show (decide (l ≤ i) && inHi hi i) = false
            rw [decide_eq_false (by omega), Bool.false_and]
          rw [z] at k
          exact k
        · rw [decide_eq_false hl]
          exact iteF (go2 (decide_eq_true (by omega)))
    | non => exact iteF ⟨_, rfl, _, _, _, _, _, rfl, .ty "int", tyx, tyi, _, rfl, iteT k⟩
    | str y => exact iteF ⟨_, rfl, _, _, _, _, _, rfl, .ty "int", tyx, tyi, _, rfl, iteT k⟩
    | lst e => exact iteF ⟨_, rfl, _, _, _, _, _, rfl, .ty "int", tyx, tyi, _, rfl, iteT k⟩
    | tup e => exact iteF ⟨_, rfl, _, _, _, _, _, rfl, .ty "int", tyx, tyi, _, rfl, iteT k⟩
    | dK e => exact iteF ⟨_, rfl, _, _, _, _, _, rfl, .ty "int", tyx, tyi, _, rfl, iteT k⟩
end
end K57

set_option maxRecDepth 100000
set_option maxHeartbeats 4000000
/-! a tuple of texts that stands in the written part (a constant of a module) -/
namespace Kw
open PySem PySem.Spec PyProof.Rows L2
def strsAre : List Str → List Value → Bool
  | [], [] => true
  | x :: xs, .str y _ :: vs => decide (x = y) && strsAre xs vs
  | _, _ => false
theorem strsAre_ok : ∀ {xs : List Str} {vs : List Value}, strsAre xs vs = true → Vals (xs.map V.str) vs
  | [], [], _ => .nil
  | x :: xs, .str y t :: vs, h => by
    unfold strsAre at h
    rw [Bool.and_eq_true] at h
    have e := of_decide_eq_true h.1
    subst e
    exact .cons ⟨t, rfl⟩ (strsAre_ok h.2)
  | [], _ :: _, h => by cases h
  | _ :: _, [], h => by cases h
  | _ :: _, .none :: _, h => by cases h
  | _ :: _, .bool _ :: _, h => by cases h
  | _ :: _, .int _ _ :: _, h => by cases h
  | _ :: _, .float _ _ :: _, h => by cases h
  | _ :: _, .bytes _ _ :: _, h => by cases h
  | _ :: _, .ref _ :: _, h => by cases h
  | _ :: _, .type _ :: _, h => by cases h
  | _ :: _, .builtin _ :: _, h => by cases h
def tupS (K : PySem.W.Frag) (a : Addr) (xs : List Str) : Bool := match K.lookup a with
  | some o => (match o.cls with | .type t => decide (t = "tuple") | _ => false) && (match o.data with | .seq its _ => decide (its.size ≤ 1000) && strsAre xs its.toList | _ => false)
  | none => false
theorem tupS_ok {K : PySem.W.Frag} {a : Addr} {xs : List Str} (h : tupS K a xs = true) (H : Hp) : SqT K H a (xs.map V.str) := by
  unfold tupS at h
  split at h
  · rename_i o ho
    rw [Bool.and_eq_true] at h
    obtain ⟨h1, h2⟩ := h
    split at h1
    · rename_i t ht
      have e := of_decide_eq_true h1
      subst e
      split at h2
      · rename_i its n hd
        rw [Bool.and_eq_true] at h2
        have l := of_decide_eq_true h2.1
        exact .inr ⟨o, its, n, ho, ht, hd, (by show _ ≤ 2 ^ 24; omega), strsAre_ok h2.2⟩
      · cases h2
    · cases h1
  · cases h
end Kw

set_option maxRecDepth 100000
set_option maxHeartbeats 4000000
namespace Kx
open PySem PySem.Spec PyProof.Rows L2

/-- a held exception's class, as far as reading its fields and asking its class goes -/
structure HeldC (K : PySem.W.Frag) (C : Addr) : Prop where
  fld : XfC K C
  icl : (PySem.W.clsIn K C).isSome = true
  cla : PySem.W.findIn K (.ref C) "__class__" = some (some (.builtin "object.__class__"))
  obj : PySem.W.mroIn K C (.type "object") = some true

/-- an exception stands at a, with the fields fs (none: it has no dict as yet) -/
def Held (H : Hp) (a C : Addr) (fs : List (Str × V)) : Prop :=
  (H a = some (exo a C none) ∧ fs = []) ∨ ∃ dx, H a = some (exo a C (some dx)) ∧ H dx = some (exd dx fs)

section
variable {X : Cx} {pins : List (Addr × Obj)} {σ : L2.St} {H : Hp} {s : Shared} {a C dx : Addr} {f : Str} {fs : List (Str × V)}

theorem held_at (I : Inv X pins σ H s) (h : Held H a C fs) : ∃ ox od, PySem.W.InstAt s.heap a ox C od := by
  rcases h with ⟨ha, _⟩ | ⟨dx, ha, hd⟩
  · obtain ⟨t, ho⟩ := exo_at I.hok ha
    exact ⟨_, none, ⟨ho, rfl, rfl, trivial⟩⟩
  · obtain ⟨t, ho⟩ := exo_at I.hok ha
    obtain ⟨mA, hn, _⟩ := exd_at I.hok hd
    obtain ⟨od, e, _⟩ := lookIn_ns hn
    exact ⟨_, some od, ⟨ho, rfl, rfl, e⟩⟩

/-- e.f of a held exception -/
def tHf (K : PySem.W.Frag) (f : Str) (te : TE) : TE := fun σ H Q => te σ H fun x H1 => ∃ (a C dx : Addr) (fs : List (Str × V)) (v : V),
  x = .ref a ∧ XfC K C ∧ PySem.W.findIn K (.ref C) f = some none ∧ H1 a = some (exo a C (some dx)) ∧ H1 dx = some (exd dx fs) ∧ fs.lookup f = some v ∧ Q v H1
theorem pe_hf {e : Expr} {te : TE} {pos : Pos} (he : PE X e te) (hb : attributeBase e f X.env (eval e X.env) = eval e X.env := by rfl) : PE X (.Attribute e f pos) (tHf X.K f te) := by
  refine ⟨fun pins s σ H Q I h => attr_of hb (thn (he.run pins s σ H _ I h) fun u s1 hh => ?_)⟩
  obtain ⟨x, H1, I1, rx, a, C, dx, fs, v, ex, T, hno, ha, hd, hl, q⟩ := hh
  subst ex
  obtain rfl : u = Value.ref a := rx
  obtain ⟨t, ho⟩ := exo_at I1.hok ha
  obtain ⟨mA, hn, rel⟩ := exd_at I1.hok hd
  obtain ⟨od, eo, look⟩ := lookIn_ns hn
  have rv : RelO (some v) (mA f) := hl ▸ rel f
  obtain ⟨z, ez, rz⟩ := RelO.some_of rv
  have J : PySem.W.InstAt s1.heap a _ C (some od) := ⟨ho, rfl, rfl, eo⟩
  have fo := PySem.W.findObj_own (od := od) (v := z) T.hdC hno rfl (by rw [look, ez])
  exact HandSPX.exc_get I1.kIn J T.ga T.gg T.exC fo (handed_of rz) ⟨v, H1, I1.tok _, rz, q⟩

/-- isinstance(e, D), e a held exception -/
def rHis (K : PySem.W.Frag) : List V → Hp → VK → Prop := fun xs H Q => ∃ (a C : Addr) (fs : List (Str × V)) (c : V) (t : Value) (b : Bool),
  xs = [.ref a, c] ∧ Held H a C fs ∧ HeldC K C ∧ PySem.W.specialIn K (.builtin "object.__class__") "__get__" = some (some (.builtin "getset_descriptor.__get__")) ∧ PySem.W.takesIn K (.builtin "object.__class__") = some true ∧ (∀ u, RelV c u → u = t) ∧ PySem.W.kitOne K (.ref C) t = some b ∧ Q (.bl b) H
theorem call_his : CallR X (.builtin "isinstance") (rHis X.K) := by
  intro pins s σ H xs us Q I r h
  obtain ⟨a, C, fs, c, t, b, ex, hh, T, sp, tk, ct, e, q⟩ := h
  subst ex
  obtain ⟨u1, u2, eu, r1, r2⟩ := vals2 r
  subst eu
  obtain rfl : u1 = Value.ref a := r1
  rw [ct u2 r2]
  obtain ⟨ox, od, J⟩ := held_at I hh
  exact PySem.W.kia_one (PySem.W.kitx_exc T.icl T.fld.ga T.fld.gg T.fld.exC T.cla sp tk T.obj) I.kIn J e (fun z => nomatch z) fun k => ⟨.bl b, H, I.tok k, rfl, q⟩
end

section
variable {X : Cx} {C fI : Addr} {k : Nat} {fd : FuncData} {ps : List Str} {sp : Sp} {x : Str} {e : Expr} {es : List Expr} {ta : TA} {p pos : Pos} {CX : CXT}
/-- the class at C called with values: a new exception, kept, its own __init__ run -/
theorem hold_call {pins : List (Addr × Obj)} {σ : L2.St} {H : Hp} {s : Shared} {Q : VK} {us : List Value} {vs : List V} (T : OexC X.K C) (iC : PySem.W.findIn X.K (.ref C) "__init__" = some (some (.ref fI))) (tI : PySem.W.typeIn X.K (.ref fI) = some (.type "function"))
    (F1 : FnOk X.prog X.w X.K X.mg X.base CX k fI fd ps sp) (hr : Room (k + 1) X.A) (hb : Binds X.K fd ps []) (hx : Passes CX X E0) (I : Inv X pins σ H s) (r : Vals vs us) (hz : vs.length ≤ 1000)
    (q : ∀ a, H a = none → sp (.ref a :: vs) (upd H a (exo a C none)) (fun v H2 => v = .non ∧ Q (.ref a) H2) E0) :
    wpAny (model X.prog X.w) X.A (call (.ref C) us) (EP X pins σ Q) X.xe s := by
  obtain ⟨nm, qn, N, bs, bm, sn, sub, ab, col, dd, k0, k1, k2, k3, k5, hC, hbm⟩ := T.cls
  obtain ⟨hp, g, dr, tk, os⟩ := s
  generalize ea : hp.objs.size + 1 = a
  have hsz : hp.objs.size ≤ a := by omega
  have hn : H a = none := I.hok.fresh hsz
  have hq := q a hn
  have kk : ∀ b o, hp.get? b = some o → ((hp.push (PySem.W.kdv_tup us)).push (PySem.HandSPX.excO C hp.objs.size)).get? b = some o :=
    fun b o z => Heap.get?_push_of_some _ (Heap.get?_push_of_some _ z)
  have hget : ((hp.push (PySem.W.kdv_tup us)).push (PySem.HandSPX.excO C hp.objs.size)).get? a = some (PySem.HandSPX.excO C hp.objs.size) := by
    rw [← ea]
    heap_get
  have I2 : Inv X pins σ (upd H a (exo a C none)) ⟨(hp.push (PySem.W.kdv_tup us)).push (PySem.HandSPX.excO C hp.objs.size), g, dr, tk, os⟩ :=
    I.laid (t' := tk) kk hsz (exo_ok hget)
  have r2 : Vals (V.ref a :: vs) (Value.ref a :: us) := .cons rfl r
  have hl : (Value.ref a :: us).length = ps.length := r2.length.symm.trans (F1.len _ _ _ _ hq)
  have hus : us.length ≤ sizeLine := by
    rw [← Paired.length r, sizeLine_eq]
    omega
  have bd : BindsTo ⟨(hp.push (PySem.W.kdv_tup us)).push (PySem.HandSPX.excO C hp.objs.size), g, dr, tk, os⟩ fd ⟨Value.ref a :: us, []⟩ (ps.zip (Value.ref a :: us)) := by
    have z := hb ⟨(hp.push (PySem.W.kdv_tup us)).push (PySem.HandSPX.excO C hp.objs.size), g, dr, tk, os⟩ (Value.ref a :: us) I2.kIn (by rw [List.append_nil]; exact hl)
    rw [List.append_nil] at z
    exact z
  have go := F1.run _ X.stack _ _ ⟨Value.ref a :: us, []⟩ (Value.ref a :: us) _ _ E0 (hr.make C us []) (I2.env0.make C us []) bd r2 hq
  refine wpAny_call (PySem.HandSPX.call_own F.excBase_ValueError (fun Y => PySem.HandSPX.refsVE_contains Y bm hbm) (I.kIn _ _ hC) (PySem.W.looks_findIn I.kIn iC) (fun self => PySem.W.bind_fn I.kIn self tI) hus ?_)
  rw [ea]
  refine codeAny_mono go fun r s' hq' => ?_
  cases r with
  | error er => exact hx pins σ _ _ er s' I2 hq'
  | ok fl =>
    cases fl with
    | ret u =>
      obtain ⟨v, H2, J, rv, ev, q2⟩ := I2.after (show CE _ _ _ _ _ _ u s' from hq')
      subst ev
      exact ⟨rv, .ref a, H2, J, rfl, q2⟩
    | next => exact False.elim hq'
    | brk => exact False.elim hq'
    | cont => exact False.elim hq'

/-- C(e, ..) kept as a value -/
def tHold (C : Addr) (sp : Sp) (ta : TA) : TE := fun σ H Q => ta σ H fun vs H1 => vs.length ≤ 1000 ∧ ∀ a, H1 a = none → sp (.ref a :: vs) (upd H1 a (exo a C none)) (fun v H2 => v = .non ∧ Q (.ref a) H2) E0
theorem pe_hold (T : OexC X.K C) (iC : PySem.W.findIn X.K (.ref C) "__init__" = some (some (.ref fI))) (tI : PySem.W.typeIn X.K (.ref fI) = some (.type "function"))
    (F1 : FnOk X.prog X.w X.K X.mg X.base CX k fI fd ps sp) (hr : Room (k + 1) X.A) (hb : Binds X.K fd ps []) (hx : Passes CX X E0) (hg : Gl X x) (hm : X.mg x = some (.ref C)) (ha : PA X (e :: es) ta)
    (hdb : (x == ("__debug__" : Str)) = false := by decide) (he : starEach (e :: es) X.env = (false, eval e X.env) :: starEach es X.env := by rfl) (hpl : (backTo pos (starEach es X.env)).any (·.1) = false := by rfl) :
    PE X (.Call (.Name x p) (e :: es) [] pos) (tHold C sp ta) := by
  refine ⟨fun pins s σ H Q I h => wpAny_Call_Name_kw (ld_glob I hg hm ?_ hdb)⟩
  refine PySem.W.callWith_K (h₀ := X.base) I.ok.mod.kin T.kC (thn (ha.run pos pins s σ H _ I h) fun us s1 ⟨vs, H1, I1, r1, hz, q1⟩ => ?_) he hpl
  exact ⟨I1.kIn, hold_call T iC tI F1 hr hb hx I1 r1 hz q1⟩
/-- C() -/
theorem pe_hold0 (T : OexC X.K C) (iC : PySem.W.findIn X.K (.ref C) "__init__" = some (some (.ref fI))) (tI : PySem.W.typeIn X.K (.ref fI) = some (.type "function"))
    (F1 : FnOk X.prog X.w X.K X.mg X.base CX k fI fd ps sp) (hr : Room (k + 1) X.A) (hb : Binds X.K fd ps []) (hx : Passes CX X E0) (hg : Gl X x) (hm : X.mg x = some (.ref C))
    (hdb : (x == ("__debug__" : Str)) = false := by decide) :
    PE X (.Call (.Name x p) [] [] pos) (tHold C sp tNil) := by
  refine ⟨fun pins s σ H Q I h => wpAny_Call_Name_kw (ld_glob I hg hm ?_ hdb)⟩
  obtain ⟨hz, q1⟩ := h
  exact PySem.W.callWith_K0 I.kIn T.kC (hold_call T iC tI F1 hr hb hx I (us := []) .nil hz q1)
end
end Kx

set_option maxRecDepth 100000
set_option maxHeartbeats 4000000
namespace Kx
open PySem PySem.Spec PyProof.Rows L2 He

/-- the class at C, by its object alone: over ValueError, its own chain, a dict for its instances -/
def shapeB (K : PySem.W.Frag) (C Kin : Addr) : Bool :=
  match K.lookup C with
  | some ⟨c, _, .cls cd, sl⟩ =>
    (match cd.mro, sl.toList with
      | a :: bm, [_, _, _, _, some (.builtin n), _] => (c == .type "type") && ((a == .ref C) && ((n == "ValueError.__new__") && (cd.hasDict && ((!cd.hasDel) && (bm == .ref Kin :: veBase)))))
      | _, _ => false)
  | _ => false

theorem shapeB_ok {K : PySem.W.Frag} {C Kin : Addr} (h : shapeB K C Kin = true) :
    ∃ nm q N bs sn sub ab col dd k0 k1 k2 k3 k5, K.lookup C = some (excClassObj nm q C N bs (.ref Kin :: veBase) true sn sub ab col dd k0 k1 k2 k3 k5 "ValueError.__new__") := by
  unfold shapeB at h
  split at h
  · rename_i c dd cd sl ho
    split at h
    · rename_i a bm k0 k1 k2 k3 n k5 hm hs
      simp only [Bool.and_eq_true, beq_iff_eq, Bool.not_eq_true'] at h
      obtain ⟨rfl, rfl, rfl, hd, hdel, rfl⟩ := h
      obtain ⟨nm, bs, mro, ns, qn, hdct, sn, sub, ab, col, del⟩ := cd
      dsimp only at hm hdel hd
      subst hm hdel hd
      obtain ⟨l⟩ := sl
      have e : l = [k0, k1, k2, k3, some (.builtin "ValueError.__new__"), k5] := hs
      subst e
      exact ⟨_, _, _, _, _, _, _, _, _, _, _, _, _, _, ho⟩
    · cases h
  · cases h

/-- one error class of the text: its name, the parameters of its own __init__ -/
structure ErrD where
  name : Str
  ps : List Str

/-- all that is asked of such a class -/
def ErrD.ok (K : PySem.W.Frag) (Kin : Addr) (d : ErrD) : Bool :=
  shapeB K (ga K d.name) Kin && (xfB K (ga K d.name)
    && (eqO (PySem.W.findIn K (.ref (ga K d.name)) "__setattr__") (some (some (.builtin "object.__setattr__")))
    && (decide (PySem.W.typeIn K (.ref (ga K d.name)) = some (.type "type"))
    && (PySem.W.keepIn K (.ref (ga K d.name))
    && (eqO (PySem.W.findIn K (.ref (ga K d.name)) "__class__") (some (some (.builtin "object.__class__")))
    && (eqO (PySem.W.findIn K (.ref (ga K d.name)) "__init__") (some (some (.ref (ma K (ga K d.name) "__init__"))))
    && (decide (PySem.W.typeIn K (.ref (ma K (ga K d.name) "__init__")) = some (.type "function"))
    && d.ps.all fun p => eqO (PySem.W.findIn K (.ref (ga K d.name)) p) (some none))))))))

/-- the same, said -/
structure ErrOk (K : PySem.W.Frag) (Kin : Addr) (d : ErrD) : Prop where
  oex : OexC K (ga K d.name)
  held : HeldC K (ga K d.name)
  ini : PySem.W.findIn K (.ref (ga K d.name)) "__init__" = some (some (.ref (ma K (ga K d.name) "__init__")))
  inT : PySem.W.typeIn K (.ref (ma K (ga K d.name) "__init__")) = some (.type "function")
  no : ∀ p ∈ d.ps, PySem.W.findIn K (.ref (ga K d.name)) p = some none
  mro : ∃ cd, PySem.W.clsIn K (ga K d.name) = some cd ∧ cd.mro = .ref (ga K d.name) :: .ref Kin :: veBase

theorem refsVE_kin {Kin : Addr} : PySem.HandSPX.refsVE (.ref Kin :: veBase) = true := by
  show PySem.HandSPX.refsVE veBase = true
  decide +kernel
theorem ErrD.ok_ok {K : PySem.W.Frag} {Kin : Addr} {d : ErrD} (h : d.ok K Kin = true) : ErrOk K Kin d := by
  obtain ⟨h1, h⟩ := ba h
  obtain ⟨h2, h⟩ := ba h
  obtain ⟨h3, h⟩ := ba h
  obtain ⟨h4, h⟩ := ba h
  obtain ⟨h5, h⟩ := ba h
  obtain ⟨h6, h⟩ := ba h
  obtain ⟨h7, h⟩ := ba h
  obtain ⟨h8, h9⟩ := ba h
  obtain ⟨nm, q, N, bs, sn, sub, ab, col, dd, k0, k1, k2, k3, k5, hC⟩ := shapeB_ok h1
  have hcl : PySem.W.clsIn K (ga K d.name) = some { name := nm, bases := bs, mro := .ref (ga K d.name) :: .ref Kin :: veBase, ns := N, qualname := q, hasDict := true, slotNames := sn, subclasses := sub, abstract := ab, collection := col, hasDel := false } := by
    unfold PySem.W.clsIn
    rw [hC]
    all_goals rfl
  have X := xfB_ok h2
  refine ⟨⟨⟨nm, q, N, bs, _, sn, sub, ab, col, dd, k0, k1, k2, k3, k5, hC, refsVE_kin⟩, eqO_ok h3, X.exC, of_decide_eq_true h4, h5⟩, ⟨X, by rw [hcl]; rfl, eqO_ok h6, ?_⟩, eqO_ok h7, of_decide_eq_true h8, fun p hp => eqO_ok (List.all_eq_true.mp h9 p hp), ⟨_, hcl, rfl⟩⟩
  unfold PySem.W.mroIn
  rw [hcl]
  show (if ((Value.ref (ga K d.name) :: .ref Kin :: veBase).isEmpty) = true then none else some ((Value.ref (ga K d.name) :: .ref Kin :: veBase).contains (.type "object"))) = some true
  rw [if_neg (by exact Bool.false_ne_true)]
  have e : (Value.ref (ga K d.name) :: .ref Kin :: veBase).contains (.type "object") = veBase.contains (.type "object") := rfl
  rw [e]
  exact congrArg some (by decide +kernel)

/-- isinstance of one of them against another -/
theorem kit_err {K : PySem.W.Frag} {Kin C D : Addr} {cd cd' : ClassData} (hC : PySem.W.clsIn K C = some cd) (mC : cd.mro = .ref C :: .ref Kin :: veBase) (hD : PySem.W.clsIn K D = some cd') (tD : PySem.W.typeIn K (.ref D) = some (.type "type")) :
    PySem.W.kitOne K (.ref C) (.ref D) = some (decide (C = D) || decide (Kin = D)) := by
  unfold PySem.W.kitOne
  by_cases e : C = D
  · subst e
    have e1 : ((Value.ref C) == (Value.ref C)) = true := beq_iff_eq.mpr rfl
    rw [if_pos e1]
    simp
  · have e1 : ¬ ((Value.ref C) == (Value.ref D)) = true := fun z => e (Value.ref.inj (beq_iff_eq.mp z))
    rw [if_neg e1]
    show (if ((PySem.W.clsIn K D).isSome && PySem.W.typeIn K (.ref D) == some (.type "type")) = true then PySem.W.subIn K (.ref C) (.ref D) else none) = _
    have e2 : ((PySem.W.clsIn K D).isSome && PySem.W.typeIn K (.ref D) == some (.type "type")) = true := by
      rw [hD, tD] <;> rfl
    rw [if_pos e2]
    show PySem.W.mroIn K C (.ref D) = _
    unfold PySem.W.mroIn
    rw [hC]
    show (if cd.mro.isEmpty = true then none else some (cd.mro.contains (.ref D))) = _
    rw [mC]
    show (if (List.isEmpty (Value.ref C :: .ref Kin :: veBase)) = true then none else some ((Value.ref C :: .ref Kin :: veBase).contains (.ref D))) = _
    rw [if_neg (by exact Bool.false_ne_true)]
    have tail : veBase.contains (Value.ref D) = false := by
      show ([Value.type "ValueError", .type "Exception", .type "BaseException", .type "object"] : List Value).contains (Value.ref D) = false
      rfl
    have d1 : decide (C = D) = false := decide_eq_false e
    rw [d1, Bool.false_or, List.contains_cons, List.contains_cons, tail, Bool.or_false]
    have b1 : (Value.ref D == Value.ref C) = false := beq_eq_false_iff_ne.mpr fun z => e (Value.ref.inj z).symm
    rw [b1, Bool.false_or]
    congr 1
    by_cases k : Kin = D
    · subst k
      rw [decide_eq_true rfl]
      exact beq_iff_eq.mpr rfl
    · rw [decide_eq_false k]
      exact beq_eq_false_iff_ne.mpr fun z => k (Value.ref.inj z).symm
/-- and against ValueError -/
theorem kit_val {K : PySem.W.Frag} {Kin C : Addr} {cd : ClassData} (hC : PySem.W.clsIn K C = some cd) (mC : cd.mro = .ref C :: .ref Kin :: veBase) : PySem.W.kitOne K (.ref C) (.type "ValueError") = some true := by
  unfold PySem.W.kitOne
  have e1 : ¬ ((Value.ref C) == (Value.type "ValueError")) = true := fun z => by
    have q := beq_iff_eq.mp z
    cases q
  rw [if_neg e1]
  show (if PySem.W.kitMeta "ValueError" = true then PySem.W.subIn K (.ref C) (.type "ValueError") else none) = _
  rw [if_pos (by decide +kernel)]
  show PySem.W.mroIn K C (.type "ValueError") = _
  unfold PySem.W.mroIn
  rw [hC]
  show (if cd.mro.isEmpty = true then none else some (cd.mro.contains (.type "ValueError"))) = _
  rw [mC]
  show (if (List.isEmpty (Value.ref C :: .ref Kin :: veBase)) = true then none else some ((Value.ref C :: .ref Kin :: veBase).contains (.type "ValueError"))) = _
  rw [if_neg (by exact Bool.false_ne_true)]
  have e : (Value.ref C :: .ref Kin :: veBase).contains (.type "ValueError") = veBase.contains (.type "ValueError") := rfl
  rw [e]
  exact congrArg some (by decide +kernel)

/-! ### the head's look: facts, defs, and one Bool more -/
abbrev AlK : Type := AlD × Bool
def obsK (fa : List Fa) (fn : List DefD) (ex : PySem.W.Frag → Bool) (K : PySem.W.Frag) : AlK := (obsD fa fn K, ex K)
/-- what an object leads on to: a def's code, a class's own names, a dict's values -/
def refK (o : Obj) : List Addr :=
  match o.data with
  | .func fd => refV fd.code ++ refV fd.defaults
  | .cls cd => [cd.ns]
  | .dict es _ => es.toList.flatMap fun e => refV e.val
  | _ => []
def stepK (g : Addr → Option Obj) (as : List Addr) : List Addr := as.flatMap fun a =>
  match g a with
  | some o => refK o
  | none => []
/-- the module's names, what they stand for, the classes' names, the methods, their codes: level by level -/
def lvK (g : Addr → Option Obj) : Nat → List Addr → List Addr
  | 0, as => as
  | n + 1, as => as ++ lvK g n (stepK g as)
def frK (g : Addr → Option Obj) : PySem.W.Frag := frG g (lvK g 4 [mainGlobals])
def obsKG (fa : List Fa) (fn : List DefD) (ex : PySem.W.Frag → Bool) (g : Addr → Option Obj) : AlK := obsK fa fn ex (frK g)
structure SaysK (fa : List Fa) (fn : List DefD) (ex : PySem.W.Frag → Bool) (K : PySem.W.Frag) : Prop where
  d : SaysD fa fn K
  x : ex K = true
def hookK (fa : List Fa) (fn : List DefD) (ex : PySem.W.Frag → Bool) : PySem.W.Hook where
  α := AlK
  obs s := obsKG fa fn ex s.heap.get?
  val _ := (valD fn, true)
  says _ h := ∃ K : PySem.W.Frag, K.In h ∧ SaysK fa fn ex K
  of := fun _ _ e => ⟨_, frG_in, ⟨congrArg (fun z : AlK => z.1) e, congrArg (fun z : AlK => z.2) e⟩⟩
  keeps := fun _ _ _ ⟨K, hK, c⟩ k => ⟨K, hK.keeps k, c⟩
theorem obsKG_eq {fa : List Fa} {fn : List DefD} {ex : PySem.W.Frag → Bool} {g : Addr → Option Obj} {s : Shared} (h : ∀ a, g a = s.heap.get? a) : obsKG fa fn ex g = (hookK fa fn ex).obs s := by
  have e : g = s.heap.get? := funext h
  subst e
  rfl
end Kx

set_option maxRecDepth 100000
set_option maxHeartbeats 4000000
namespace Kx
open PySem PySem.Spec PyProof.Rows L2 He
/-! ### the head's look, with the defs that read properties -/
/-- the def behind a property: the first of the property's own record -/
def gtA (K : PySem.W.Frag) (p : Str × Option Str) : Addr := match PySem.W.recIn K (fAd K p) "property" with
  | some (.ref g :: _) => g
  | _ => 0
def fdAt (K : PySem.W.Frag) (a : Addr) : Option FuncData := (K.lookup a).bind fun o => match o.data with
  | .func fd => some fd
  | _ => none
def gtW (K : PySem.W.Frag) (d : DefD) : FnW := (fdAt K (gtA K d.at_)).map fun fd => (fd.name, fd.qualname, fd.params, fd.body, fd.scope, fd.globals, fd.closure, fd.builtins)
def gtC (K : PySem.W.Frag) (d : DefD) : Bool := match fdAt K (gtA K d.at_) with
  | some fd => PySem.W.codeIn K fd.code d.qual && dflB K fd.defaults []
  | none => false
def gtR (K : PySem.W.Frag) (d : DefD) : Bool := match PySem.W.recIn K (fAd K d.at_) "property" with
  | some (.ref _ :: _) => true
  | _ => false
def gtB (K : PySem.W.Frag) (d : DefD) : Bool := PySem.W.keepIn K (.ref (gtA K d.at_)) && (gtC K d && (gtR K d && (eqO (PySem.W.findIn K (.ref (ga K d.at_.1)) d.name) (some (some (.ref (fAd K d.at_))))
  && (eqO (PySem.W.specialIn K (.ref (fAd K d.at_)) "__get__") (some (some (.builtin "property.__get__"))) && decide (PySem.W.takesIn K (.ref (fAd K d.at_)) = some true)))))
theorem gt_fun {K : PySem.W.Frag} {d : DefD} (e : gtW K d = d.val) (c : gtB K d = true) : ∃ fd, FunD K d.name d.qual d.params d.body d.scope [] [] (gtA K d.at_) fd := by
  obtain ⟨kp, c⟩ := ba c
  have c2 := (ba c).1
  unfold gtC at c2
  unfold gtW at e
  cases q : fdAt K (gtA K d.at_) with
  | none =>
    rw [q] at c2
    cases c2
  | some fd =>
    rw [q] at c2 e
    obtain ⟨k1, k2⟩ := ba c2
    obtain ⟨n1, n2, n3, n4, n5, n6, n7, n8, n9, n10, n11, n12, n13, n14, n15⟩ := fd
    have e2 : (some (n1, n2, n3, n4, n5, n6, n7, n15) : FnW) = some (d.name, d.qual, d.params, .stmts d.body, d.scope, mainGlobals, [], builtinsNs) := e
    simp only [Option.some.injEq, Prod.mk.injEq] at e2
    obtain ⟨h1, h2, h3, h4, h5, h6, h7, h8⟩ := e2
    subst h1 h2 h3 h4 h5 h6 h7 h8
    obtain ⟨o, ho, hd⟩ := Option.bind_eq_some_iff.mp q
    obtain ⟨oc, od, dt, osl⟩ := o
    cases dt with
    | func f2 =>
      have e3 : f2 = _ := Option.some.inj hd
      subst e3
      exact ⟨_, ⟨oc, od, n8, n9, n10, n11, n12, n13, n14, osl, rfl, ho, k1, dflB_ok k2, .inl rfl⟩, kp⟩
    | _ => cases hd
theorem gt_prop {K : PySem.W.Frag} {d : DefD} (c : gtB K d = true) : PropOf K (ga K d.at_.1) d.name (fAd K d.at_) (gtA K d.at_) := by
  obtain ⟨_, c⟩ := ba c
  obtain ⟨_, c⟩ := ba c
  obtain ⟨c3, c⟩ := ba c
  obtain ⟨c4, c⟩ := ba c
  obtain ⟨c5, c6⟩ := ba c
  refine ⟨eqO_ok c4, eqO_ok c5, of_decide_eq_true c6, ?_⟩
  unfold gtR at c3
  unfold gtA
  split at c3
  · rename_i g rest q
    rw [q]
    exact ⟨rest, rfl⟩
  · cases c3
/-- what an object leads on to: a property's getter too -/
def refP (o : Obj) : List Addr :=
  match o.data with
  | .fields vs => if o.cls == .type "property" then vs.toList.flatMap refV else []
  | _ => refK o
def stepP (g : Addr → Option Obj) (as : List Addr) : List Addr := as.flatMap fun a =>
  match g a with
  | some o => refP o
  | none => []
def lvP (g : Addr → Option Obj) : Nat → List Addr → List Addr
  | 0, as => as
  | n + 1, as => as ++ lvP g n (stepP g as)
def frP (g : Addr → Option Obj) : PySem.W.Frag := frG g (lvP g 5 [mainGlobals])
abbrev AlP : Type := AlK × List FnW
def valP (fn pr : List DefD) : AlP := ((valD fn, true), pr.map DefD.val)
def obsP (fa : List Fa) (fn pr : List DefD) (ex : PySem.W.Frag → Bool) (g : Addr → Option Obj) : AlP := ((obsD fa fn (frP g), ex (frP g) && pr.all fun d => gtB (frP g) d), pr.map fun d => gtW (frP g) d)
structure SaysP (fa : List Fa) (fn pr : List DefD) (ex : PySem.W.Frag → Bool) (K : PySem.W.Frag) : Prop where
  d : SaysD fa fn K
  x : ex K = true
  b : (pr.all fun d => gtB K d) = true
  p : (pr.map fun d => gtW K d) = pr.map DefD.val
def hookP (fa : List Fa) (fn pr : List DefD) (ex : PySem.W.Frag → Bool) : PySem.W.Hook where
  α := AlP
  obs s := obsP fa fn pr ex s.heap.get?
  val _ := valP fn pr
  says _ h := ∃ K : PySem.W.Frag, K.In h ∧ SaysP fa fn pr ex K
  of := fun _ s e => by
    have e1 : obsD fa fn (frP s.heap.get?) = valD fn := congrArg (fun z : AlP => z.1.1) e
    have e2 : (ex (frP s.heap.get?) && pr.all fun d => gtB (frP s.heap.get?) d) = true := congrArg (fun z : AlP => z.1.2) e
    obtain ⟨h1, h2⟩ := ba e2
    exact ⟨_, frG_in, ⟨e1, h1, h2, congrArg (fun z : AlP => z.2) e⟩⟩
  keeps := fun _ _ _ ⟨K, hK, c⟩ k => ⟨K, hK.keeps k, c⟩
theorem obsP_eq {fa : List Fa} {fn pr : List DefD} {ex : PySem.W.Frag → Bool} {g : Addr → Option Obj} {s : Shared} (h : ∀ a, g a = s.heap.get? a) : obsP fa fn pr ex g = (hookP fa fn pr ex).obs s := by
  have e : g = s.heap.get? := funext h
  subst e
  rfl
section
variable {fa : List Fa} {fn pr : List DefD} {ex : PySem.W.Frag → Bool} {K : PySem.W.Frag}
theorem SaysP.get (c : SaysP fa fn pr ex K) (i : Nat) {d : DefD} (h : pr[i]? = some d := by rfl) : ∃ fd, FunD K d.name d.qual d.params d.body d.scope [] [] (gtA K d.at_) fd := by
  have e2 : (pr.map fun d => gtW K d)[i]? = (pr.map DefD.val)[i]? := by rw [c.p]
  rw [List.getElem?_map, List.getElem?_map, h] at e2
  exact gt_fun (Option.some.inj e2) (List.all_eq_true.mp c.b d (List.mem_of_getElem? h))
theorem SaysP.prop (c : SaysP fa fn pr ex K) (i : Nat) {d : DefD} (h : pr[i]? = some d := by rfl) : PropOf K (ga K d.at_.1) d.name (fAd K d.at_) (gtA K d.at_) :=
  gt_prop (List.all_eq_true.mp c.b d (List.mem_of_getElem? h))
end
end Kx

set_option maxRecDepth 100000
set_option maxHeartbeats 0
namespace K57
open PySem PySem.Spec PyProof.Rows L2 He Kx
def errs : List ErrD := [⟨"BadWorld", ["index", "what"]⟩, ⟨"NoClass", ["cls"]⟩, ⟨"NoField", ["field"]⟩, ⟨"BadLaying", ["index"]⟩, ⟨"BadName", ["name"]⟩, ⟨"NoMethod", ["cls", "name"]⟩, ⟨"TwoAnswers", ["cls", "name", "a", "b"]⟩, ⟨"NotView", ["view", "cls"]⟩]
def dM (i j : Nat) (x m qn : Str) : DefD := ⟨(x, some m), m, qn, defArgs (inClass (top i) j), defBody (inClass (top i) j), defScope (inClass (top i) j), [], []⟩
def dF (i : Nat) (x : Str) (dv : List Dv) : DefD := ⟨(x, none), x, x, defArgs (top i), defBody (top i), defScope (top i), dv, []⟩
def pr : List DefD := [dM 24 1 "World" "all_fields" "World.all_fields"]
def fn : List DefD := [dF 12 "is_sequence" [],
  dF 13 "is_whole" [.non, .non],
  dF 14 "is_unlike_row" [],
  dF 15 "is_whole_couple" [],
  dF 17 "check_class" [],
  dF 18 "fields_of" [],
  dF 25 "entry_fault" [],
  dF 26 "elder_rows" [],
  dF 27 "heir_rows" [],
  dF 29 "check_name" [],
  dF 30 "defining_of" [],
  dF 31 "answers_of" [],
  dF 32 "last_heirs" [],
  dF 33 "definer_of" [],
  dF 37 "extent_of" [],
  dF 38 "cells_of" [],
  dF 41 "all_entries" [],
  dF 42 "entries_of" [],
  dF 43 "entry_world" [],
  dF 44 "entry_places" [],
  dF 45 "table_row" [],
  dF 46 "call_by_table" [],
  dF 48 "_law_hand" [],
  dF 49 "_law_mixed" [],
  dF 50 "_law_take" [],
  dF 51 "_law_bases" [],
  dF 52 "_law_methods" [],
  dF 53 "_law_shape" [],
  dF 54 "_law_classes" [],
  dF 55 "_law_elders" [],
  dF 56 "_law_tops" [],
  dF 57 "_law_defining" [],
  dF 58 "_law_answers" [],
  dF 59 "_law_brought" [],
  dF 60 "_law_entries" [],
  dF 61 "_law_few" [],
  dF 62 "_law_table_places" [],
  dF 63 "_law_call" [],
  dF 64 "_law_call_due" [],
  dF 65 "_law_found" [],
  dF 66 "_law_row_due" [],
  dF 67 "_law_laying_right" [],
  dF 68 "law" [],
  dM 3 0 "BadWorld" "__init__" "BadWorld.__init__",
  dM 4 0 "NoClass" "__init__" "NoClass.__init__",
  dM 5 0 "NoField" "__init__" "NoField.__init__",
  dM 6 0 "BadLaying" "__init__" "BadLaying.__init__",
  dM 7 0 "BadName" "__init__" "BadName.__init__",
  dM 8 0 "NoMethod" "__init__" "NoMethod.__init__",
  dM 9 0 "TwoAnswers" "__init__" "TwoAnswers.__init__",
  dM 10 0 "NotView" "__init__" "NotView.__init__",
  dM 24 0 "World" "__init__" "World.__init__",
  dM 24 6 "World" "__len__" "World.__len__",
  dM 24 7 "World" "__iter__" "World.__iter__",
  dM 24 8 "World" "__eq__" "World.__eq__",
  dM 36 0 "Laying" "__init__" "Laying.__init__",
  dM 36 1 "Laying" "place_of" "Laying.place_of",
  dM 36 3 "Laying" "__eq__" "Laying.__eq__"]
def fa : List Fa := [.free "len",
  .free "int",
  .free "abs",
  .free "isinstance",
  .free "range",
  .free "set",
  .free "sorted",
  .free "enumerate",
  .free "tuple",
  .free "list",
  .free "bool",
  .free "str",
  .free "max",
  .free "min",
  .free "all",
  .free "any",
  .free "repr",
  .free "ValueError",
  .free "zip",
  .int "MOST_CLASSES" 12,
  .int "MOST_FIELDS" 3,
  .int "MOST_METHODS" 3,
  .int "METHOD_NAMES" 6,
  .int "FARTHEST" 99,
  .str "HEAD" "head",
  .glo "is_sequence",
  .glo "is_whole",
  .glo "is_unlike_row",
  .glo "is_whole_couple",
  .glo "check_class",
  .glo "fields_of",
  .glo "entry_fault",
  .glo "elder_rows",
  .glo "heir_rows",
  .glo "check_name",
  .glo "defining_of",
  .glo "answers_of",
  .glo "last_heirs",
  .glo "definer_of",
  .glo "extent_of",
  .glo "cells_of",
  .glo "all_entries",
  .glo "entries_of",
  .glo "entry_world",
  .glo "entry_places",
  .glo "table_row",
  .glo "call_by_table",
  .glo "_law_hand",
  .glo "_law_mixed",
  .glo "_law_take",
  .glo "_law_bases",
  .glo "_law_methods",
  .glo "_law_shape",
  .glo "_law_classes",
  .glo "_law_elders",
  .glo "_law_tops",
  .glo "_law_defining",
  .glo "_law_answers",
  .glo "_law_brought",
  .glo "_law_entries",
  .glo "_law_few",
  .glo "_law_table_places",
  .glo "_law_call",
  .glo "_law_call_due",
  .glo "_law_found",
  .glo "_law_row_due",
  .glo "_law_laying_right",
  .glo "law",
  .glo "KinError",
  .glo "BadWorld",
  .exm "BadWorld" "BadWorld" true,
  .glo "NoClass",
  .exm "NoClass" "NoClass" true,
  .glo "NoField",
  .exm "NoField" "NoField" true,
  .glo "BadLaying",
  .exm "BadLaying" "BadLaying" true,
  .glo "BadName",
  .exm "BadName" "BadName" true,
  .glo "NoMethod",
  .exm "NoMethod" "NoMethod" true,
  .glo "TwoAnswers",
  .exm "TwoAnswers" "TwoAnswers" true,
  .glo "NotView",
  .exm "NotView" "NotView" true,
  .exm "NoMethod" "NotView" false,
  .exm "TwoAnswers" "NotView" false,
  .exm "TwoAnswers" "NoMethod" false,
  .glo "World",
  .cls "World",
  .mkr "World",
  .noat "World" "classes",
  .noat "World" "bases",
  .noat "World" "owns",
  .noat "World" "methods",
  .noat "World" "elders",
  .noat "World" "heirs",
  .meth "World" "__len__",
  .meth "World" "__iter__",
  .meth "World" "__eq__",
  .glo "Laying",
  .cls "Laying",
  .mkr "Laying",
  .noat "Laying" "fields",
  .noat "Laying" "places",
  .meth "Laying" "place_of",
  .meth "Laying" "__eq__"]
def exA (K : PySem.W.Frag) : Bool := errs.all fun d => d.ok K (ga K "KinError")
def exC (K : PySem.W.Frag) : Bool := ((eqO (PySem.W.findIn K (.ref (ga K "Laying")) "__class__") (some (some (.builtin "object.__class__"))) && decide (PySem.W.mroIn K (ga K "Laying") (.type "object") = some true)) && ((eqO (PySem.W.findIn K (.ref (ga K "World")) "__class__") (some (some (.builtin "object.__class__"))) && decide (PySem.W.mroIn K (ga K "World") (.type "object") = some true)) && (decide (PySem.W.specialIn K (.builtin "object.__class__") "__get__" = some (some (.builtin "getset_descriptor.__get__"))) && decide (PySem.W.takesIn K (.builtin "object.__class__") = some true))))
def ex (K : PySem.W.Frag) : Bool := exA K && exC K
def loose0 : List PySem.Str := ["_wall", "KinError", "BadWorld", "NoClass", "NoField", "BadLaying", "BadName", "NoMethod", "TwoAnswers", "NotView", "is_sequence", "is_whole", "is_unlike_row", "is_whole_couple", "check_class", "fields_of", "MOST_CLASSES", "MOST_FIELDS", "MOST_METHODS", "METHOD_NAMES", "World", "entry_fault", "elder_rows", "heir_rows"]
def loose1 : List PySem.Str := ["check_name", "defining_of", "answers_of", "last_heirs", "definer_of", "FARTHEST", "Laying", "extent_of", "cells_of", "HEAD", "all_entries", "entries_of", "entry_world", "entry_places", "table_row", "call_by_table", "_law_hand", "_law_mixed", "_law_take", "_law_bases", "_law_methods", "_law_shape", "_law_classes", "_law_elders"]
def loose2 : List PySem.Str := ["_law_tops", "_law_defining", "_law_answers", "_law_brought", "_law_entries", "_law_few", "_law_table_places", "_law_call", "_law_call_due", "_law_found", "_law_row_due", "_law_laying_right"]
def loose : List PySem.Str := loose0 ++ loose1 ++ loose2
abbrev R : PySem.W.OpenRow := PySem.W.OpenLaw.row PySem.Challenge.rw_headamid_k57_whole_calls_by_table
abbrev hk : PySem.W.Hook := hookP fa fn pr ex
def ob (s : PySem.W.SharedT) : AlP := obsP fa fn pr ex (HandSHeadRun.getT s)
theorem ob_eq (s : PySem.W.SharedT) : ob s = hk.obs s.abs := obsP_eq (HandSHeadRun.getT_eq s)
noncomputable def endO (w : World) (os : OsState) : Option PySem.W.SharedT := HandSHeadRun.endF (HandSHeadRun.stepQ (HandSHeadRun.denQ HandSHeadRun.tabQ) R.prog w) 40000 R.prog w os
def fr (s : PySem.W.SharedT) : PySem.W.Frag := frP (HandSHeadRun.getT s)
open PySem.W PySem.Calls in
theorem run1 (w : World) (os : OsState) : (endO w os).map (fun s => (HandSHeadRun.looksF R.prog (boot_heap w.params) s.abs, HandSHeadRun.seenQ (PySem.W.view R.prog [68]) loose (importedModules R.prog.main.body) (fun s => PySem.W.xlAt (PySem.W.view R.prog [68]) [] s && PySem.W.recOk R.toRowW.records s) s.abs)) = some (true, PySem.W.openGood (PySem.W.view R.prog [68]) loose) := by
  kernel_rfl
theorem run2 (w : World) (os : OsState) : (endO w os).map (fun s => obsD fa fn (fr s)) = some (valD fn) := by
  kernel_rfl
theorem run3 (w : World) (os : OsState) : (endO w os).map (fun s => ex (fr s) && pr.all fun d => gtB (fr s) d) = some true := by
  kernel_rfl
theorem run4 (w : World) (os : OsState) : (endO w os).map (fun s => pr.map fun d => gtW (fr s) d) = some (pr.map DefD.val) := by
  kernel_rfl
theorem run (w : World) : HandSHeadRun.RunEq R (PySem.W.view R.prog [68]) hk ob 40000 loose w := by
  intro os
  have h1 := run1 w os
  have h2 := run2 w os
  have h3 := run3 w os
  have h4 := run4 w os
  show (endO w os).map _ = _
  cases e : endO w os with
  | none =>
    rw [e] at h1
    cases h1
  | some s =>
    rw [e] at h1 h2 h3 h4
    obtain ⟨a1, a2⟩ := Prod.mk.inj (Option.some.inj h1)
    have b2 : obsD fa fn (fr s) = valD fn := Option.some.inj h2
    have b3 : (ex (fr s) && pr.all fun d => gtB (fr s) d) = true := Option.some.inj h3
    have b : ob s = valP fn pr := Prod.ext (Prod.ext b2 b3) (Option.some.inj h4)
    exact congrArg some (Prod.ext a1 (Prod.ext a2 b))
end K57

set_option maxRecDepth 100000
set_option maxHeartbeats 4000000
namespace K57
open PySem PySem.Spec PyProof.Rows L2 Kw
/-- a list or a tuple of these -/
def SeqAt (H : Hp) (a : Addr) (xs : List V) : Prop := H a = some (.lst xs) ∨ H a = some (.tup xs)
theorem SeqAt.same {H H' : Hp} {a : Addr} {xs : List V} (h : SeqAt H a xs) (s : Same H H') : SeqAt H' a xs := by
  rcases h with h | h
  · exact .inl (s _ _ h)
  · exact .inr (s _ _ h)
theorem SeqAt.sq {K : PySem.W.Frag} {H : Hp} {a : Addr} {xs : List V} (h : SeqAt H a xs) : SqL K H a xs ∨ SqT K H a xs := by
  rcases h with h | h
  · exact .inl (SqL.of h)
  · exact .inr (SqT.of h)
theorem SeqAt.ty {H : Hp} {a : Addr} {xs : List V} (h : SeqAt H a xs) : ∃ t, Ty0 H (.ref a) t ∧ seqT t = true := by
  rcases h with h | h
  · exact ⟨_, .lst h, rfl⟩
  · exact ⟨_, .tup h, rfl⟩
def intOf : V → Int
  | .int i => i
  | _ => 0
theorem ints_of {lo hi : V} : ∀ {xs : List V}, (∀ x ∈ xs, wholeB lo hi x = true) → xs = (xs.map intOf).map V.int
  | [], _ => rfl
  | x :: r, h => by
    have hx := h x List.mem_cons_self
    have e : x = V.int (intOf x) := by
      cases x with
      | int i => rfl
      | _ => cases hx
    rw [List.map_cons, List.map_cons, ← e, ← ints_of (xs := r) fun y hy => h y (List.mem_cons_of_mem _ hy)]
def unlikeB (m : Int) (xs : List V) : Bool := xs.all (fun x => wholeB (.int 0) (.int (m - 1)) x) && decide ((xs.map intOf).Nodup)
section
variable {P : Program} {w : World} {K : PySem.W.Frag} {mg : Str → Option Value} {base : Heap} {f fS fW : Addr} {fd fdS fdW : FuncData}
theorem binds_whole3 (F : FnDf K "is_whole" 13 [.non, .non] f fd) : L2.Binds K fd ["thing", "low", "high"] [] := by
  obtain ⟨ds, v, b⟩ := F.binds1 (ps := ["thing", "low", "high"]) 3 2 (by simp) rfl fun T kV doc pm an cdv ct us its hu hi => match us, hu, its, hi with | [_, _, _], _, [_, _], _ => ⟨_, rfl, rfl⟩
  cases v
  exact b
theorem binds_whole1 (F : FnDf K "is_whole" 13 [.non, .non] f fd) : ∃ ds, Vals [.non, .non] ds ∧ L2.Binds K fd ["thing", "low", "high"] ds :=
  F.binds1 (ps := ["thing", "low", "high"]) 1 0 (by simp) rfl fun T kV doc pm an cdv ct us its hu hi => match us, hu, its, hi with | [_], _, [_, _], _ => ⟨_, rfl, rfl⟩
/-- what is_unlike_row says of a thing, and how long it is where it is a row -/
def UnlikeIs (H : Hp) (x : V) (m : Int) (r : Bool) (n : Nat) : Prop :=
  (∃ t, Ty0 H x t ∧ seqT t = false ∧ r = false) ∨ (∃ a xs, x = .ref a ∧ SeqAt H a xs ∧ xs.length ≤ 1000 ∧ (∀ y ∈ xs, ∃ t, Ty0 H y t) ∧ r = unlikeB m xs ∧ n = xs.length)
theorem UnlikeIs.same {H H' : Hp} {x : V} {m : Int} {r : Bool} {n : Nat} (h : UnlikeIs H x m r n) (s : Same H H') : UnlikeIs H' x m r n := by
  rcases h with ⟨t, ty, e1, e2⟩ | ⟨a, xs, e, hA, hl, hty, e1, e2⟩
  · exact .inl ⟨t, ty.same s, e1, e2⟩
  · exact .inr ⟨a, xs, e, hA.same s, hl, fun y hy => ⟨_, (hty y hy).choose_spec.same s⟩, e1, e2⟩
def spUnlike : Sp := fun vs H Q _ => ∃ (x : V) (m : Int) (r : Bool) (n : Nat), vs = [x, .int m] ∧ UnlikeIs H x m r n ∧ ∀ H', Same H H' → Q (.bl r) H'
theorem sc_unlike : FnScope ["thing", "many", "item"] ["thing", "many"] (defScope (top 14)) := ⟨rfl, rfl, rfl, by decide +kernel, rfl, by decide +kernel, by decide +kernel⟩
theorem ok_unlike (F : FnP K "is_unlike_row" 14 f fd) (B : Fr mg) (FS : FnP K "is_sequence" 12 fS fdS) (mS : mg "is_sequence" = some (.ref fS)) (FW : FnDf K "is_whole" 13 [.non, .non] fW fdW) (mW : mg "is_whole" = some (.ref fW)) :
    FnOk P w K mg base CX0 2 f fd ["thing", "many"] spUnlike := by
  have GS : FnOk P w K mg base CX0 1 fS fdS ["thing"] spIsSeq := ok_isSeq FS B
  have GW : FnOk P w K mg base CX0 1 fW fdW ["thing", "low", "high"] spWhole := ok_whole FW B
  have bS : L2.Binds K fdS ["thing"] [] := FS.bindsN fun _ _ _ _ _ _ us hl => match us, hl with | [_], _ => rfl
  have bW := binds_whole3 FW
  refine F.ok sc_unlike (fun vs H Q E h => ?_) (fun cdv A outer s H vs Q E hr h => ?_)
  · obtain ⟨x, m, r, n, rfl, _⟩ := h
    rfl
  · obtain ⟨x, m, r, n, rfl, h, k⟩ := h
    rcases h with ⟨t, ty, hs, rfl⟩ | ⟨a, xs, rfl, hA, hl, hty, rfl, rfl⟩
    · refine ⟨_, PSs.nox (pss_cons (ps_if (pt_not (pt_val (pe_call GS (hr.mono (by decide)) (by rfl) mS FS.kp bS .nil pass0 (pa_cons (pv 0) pa_nil)))) (pss_one (ps_ret pe_bl)) pss_nil)
      (pss_cons (ps_for PassesOwn.never rfl (pi_list (pv 0)) (pg_name (i := 2) sc_unlike.nd rfl (Or.inl rfl)) (pss_one (ps_if (pt_not (pt_val (pe_call GW (hr.mono (by decide)) (by rfl) mW FW.kp bW .nil pass0 (pa_cons (pv 2) (pa_cons pe_int (pa_cons (pe_op op_sub (pv 1) pe_int) pa_nil)))))) (pss_one (ps_ret pe_bl)) pss_nil)))
      (pss_one (ps_ret (pe_cmpR op_eq (pe_lenSetA (by rfl) B.len (by rfl) B.set (pv 0)) (pe_callB call_len_seq (by rfl) B.len PySem.boot_len (pa_cons (pv 0) pa_nil)) (nomark _)))))), ?_⟩
      exact ⟨_, rfl, x, t, rfl, ty, fun H1 s1 => ⟨_, rfl, by rw [hs]; exact iteT (k H1 s1)⟩⟩
    · obtain ⟨t, ty, hseq⟩ := hA.ty
      -- a turn: an item that is no such number ends it
      have turn : ∀ (i : Nat) (y : V) (H' : Hp) (v : Option V), xs[i]? = some y → Same H H' → (∀ j z, j < i → xs[j]? = some z → wholeB (.int 0) (.int (m - 1)) z = true) → ∀ (N : L2.St → Hp → Prop),
          (∀ H'', Same H H'' → (∀ j z, j < i + 1 → xs[j]? = some z → wholeB (.int 0) (.int (m - 1)) z = true) → N [some (.ref a), some (.int m), some y] H'') → ∀ D : Ends, D.rt = Q → D.nx = N →
          (tIfS (tNot (tB (tCall spWhole [] E0 (tCons (tVar 2) (tCons (tC (.int 0)) (tCons (tOp (rI0 fun i j => .int (i - j)) (tVar 1) (tC (.int 1))) tNil)))))) (tRet (tC (.bl false))) tNext) D [some (.ref a), some (.int m), some y] H' := by
        intro i y H' v hi sH hall N hN D hrt hnx
        obtain ⟨ty', hy⟩ := hty y (List.mem_of_getElem? hi)
        refine ⟨_, rfl, _, rfl, _, _, rfl, rfl, y, _, _, ty', rfl, hy.same sH, .inr ⟨_, rfl⟩, .inr ⟨_, rfl⟩, _, rfl, ?_⟩
        cases hb : wholeB (.int 0) (.int (m - 1)) y with
        | false =>
          refine iteT ?_
          show D.rt (.bl false) H'
          rw [hrt]
          have e : unlikeB m xs = false := by
            unfold unlikeB
            have z : xs.all (fun x => wholeB (.int 0) (.int (m - 1)) x) = false := List.all_eq_false.mpr ⟨y, List.mem_of_getElem? hi, by rw [hb]; decide⟩
            rw [z, Bool.false_and]
          rw [← e]
          exact k H' sH
        | true =>
          refine iteF ?_
          show D.nx _ H'
          rw [hnx]
          refine hN H' sH fun j z hj hz => ?_
          by_cases e : j = i
          · rw [e, hi] at hz
            rw [← Option.some.inj hz]
            exact hb
          · exact hall j z (by omega) hz
      have done : ∀ (H' : Hp) (v : Option V), Same H H' → (∀ j z, j < xs.length → xs[j]? = some z → wholeB (.int 0) (.int (m - 1)) z = true) →
          (tRet (tOp rEq (tLenSetA K (tVar 0)) (tCB (fun xs H Q => ∃ p ys, xs = [.ref p] ∧ (SqL K H p ys ∨ SqT K H p ys) ∧ Q (.int ys.length) H) (tCons (tVar 0) tNil)))) { nx := fun _ H' => Q .non H', rt := Q } [some (.ref a), some (.int m), v] H' := by
        intro H' v sH hall
        have hall' : ∀ z ∈ xs, wholeB (.int 0) (.int (m - 1)) z = true := fun z hz => by
          obtain ⟨j, hj, e⟩ := List.mem_iff_getElem.mp hz
          exact hall j z hj (by rw [List.getElem?_eq_getElem hj, e])
        have ei := ints_of hall'
        have sq := (hA.same sH).sq (K := K)
        have sq' : SqL K H' a ((xs.map intOf).map V.int) ∨ SqT K H' a ((xs.map intOf).map V.int) := by
          rw [← ei]
          exact sq
        refine ⟨_, rfl, a, xs.map intOf, rfl, sq', by rw [List.length_map]; omega, fun n hn => ⟨_, rfl, a, _, rfl, sq, rfl, ?_⟩⟩
        have e : decide (V.int (n : Int) = V.int (xs.length : Int)) = unlikeB m xs := by
          unfold unlikeB
          rw [List.all_eq_true.mpr hall', Bool.true_and]
          rw [List.length_map] at hn
          by_cases q : (xs.map intOf).Nodup
          · rw [decide_eq_true q, decide_eq_true (by rw [hn.mpr q])]
          · rw [decide_eq_false q, decide_eq_false fun z => q (hn.mp (by have := V.int.inj z; omega))]
        rw [e]
        exact k H' sH
      have at_ty : ∀ H1, Same H H1 → SeqAt H1 a xs := fun H1 s1 => hA.same s1
      rcases hA with hA | hA
      · refine ⟨_, PSs.nox (pss_cons (ps_if (pt_not (pt_val (pe_call GS (hr.mono (by decide)) (by rfl) mS FS.kp bS .nil pass0 (pa_cons (pv 0) pa_nil)))) (pss_one (ps_ret pe_bl)) pss_nil)
      (pss_cons (ps_for PassesOwn.never rfl (pi_list (pv 0)) (pg_name (i := 2) sc_unlike.nd rfl (Or.inl rfl)) (pss_one (ps_if (pt_not (pt_val (pe_call GW (hr.mono (by decide)) (by rfl) mW FW.kp bW .nil pass0 (pa_cons (pv 2) (pa_cons pe_int (pa_cons (pe_op op_sub (pv 1) pe_int) pa_nil)))))) (pss_one (ps_ret pe_bl)) pss_nil)))
      (pss_one (ps_ret (pe_cmpR op_eq (pe_lenSetA (by rfl) B.len (by rfl) B.set (pv 0)) (pe_callB call_len_seq (by rfl) B.len PySem.boot_len (pa_cons (pv 0) pa_nil)) (nomark _)))))), ?_⟩
        refine ⟨_, rfl, _, t, rfl, ty, fun H1 s1 => ⟨_, rfl, ?_⟩⟩
        rw [hseq]
        refine iteF ?_
        refine ⟨_, rfl, a, rfl, ⟨_, SqL.of (s1 _ _ hA)⟩, for_list (K := K) (a := a) (xs := xs) (fun i σ H' => Same H H' ∧ (∃ v, σ = [some (.ref a), some (.int m), v]) ∧ ∀ j z, j < i → xs[j]? = some z → wholeB (.int 0) (.int (m - 1)) z = true)
          ⟨s1, ⟨_, rfl⟩, fun j z hj => absurd hj (Nat.not_lt_zero j)⟩ (fun i σ H' _ h => SqL.of (h.1 _ _ hA)) ?_ ?_⟩
        · rintro i y σ H' hi ⟨sH, ⟨v, rfl⟩, hall⟩
          exact turn i y H' v hi sH hall _ (fun H'' s hh => ⟨s, ⟨_, rfl⟩, hh⟩) _ rfl rfl
        · rintro σ H' ⟨sH, ⟨v, rfl⟩, hall⟩
          exact done H' v sH hall
      · refine ⟨_, PSs.nox (pss_cons (ps_if (pt_not (pt_val (pe_call GS (hr.mono (by decide)) (by rfl) mS FS.kp bS .nil pass0 (pa_cons (pv 0) pa_nil)))) (pss_one (ps_ret pe_bl)) pss_nil)
      (pss_cons (ps_for PassesOwn.never rfl (pi_tup (pv 0)) (pg_name (i := 2) sc_unlike.nd rfl (Or.inl rfl)) (pss_one (ps_if (pt_not (pt_val (pe_call GW (hr.mono (by decide)) (by rfl) mW FW.kp bW .nil pass0 (pa_cons (pv 2) (pa_cons pe_int (pa_cons (pe_op op_sub (pv 1) pe_int) pa_nil)))))) (pss_one (ps_ret pe_bl)) pss_nil)))
      (pss_one (ps_ret (pe_cmpR op_eq (pe_lenSetA (by rfl) B.len (by rfl) B.set (pv 0)) (pe_callB call_len_seq (by rfl) B.len PySem.boot_len (pa_cons (pv 0) pa_nil)) (nomark _)))))), ?_⟩
        refine ⟨_, rfl, _, t, rfl, ty, fun H1 s1 => ⟨_, rfl, ?_⟩⟩
        rw [hseq]
        refine iteF ?_
        refine ⟨_, rfl, a, rfl, ⟨_, SqT.of (s1 _ _ hA)⟩, for_tup (K := K) (a := a) (xs := xs) (fun i σ H' => Same H H' ∧ (∃ v, σ = [some (.ref a), some (.int m), v]) ∧ ∀ j z, j < i → xs[j]? = some z → wholeB (.int 0) (.int (m - 1)) z = true)
          ⟨s1, ⟨_, rfl⟩, fun j z hj => absurd hj (Nat.not_lt_zero j)⟩ (fun i σ H' _ h => SqT.of (h.1 _ _ hA)) ?_ ?_⟩
        · rintro i y σ H' hi ⟨sH, ⟨v, rfl⟩, hall⟩
          exact turn i y H' v hi sH hall _ (fun H'' s hh => ⟨s, ⟨_, rfl⟩, hh⟩) _ rfl rfl
        · rintro σ H' ⟨sH, ⟨v, rfl⟩, hall⟩
          exact done H' v sH hall
end
end K57

set_option maxRecDepth 100000
set_option maxHeartbeats 4000000
namespace K57
open PySem PySem.Spec PyProof.Rows L2 Kw
def optV : Option Str → V
  | some z => .str z
  | none => .non
/-- the word due for an entry -/
def entryWord (rb rm : Bool) (wg : Bool) (nm : Nat) : Option Str :=
  if rb = false then some "base" else if wg = false then some "fields" else if rm = false then some "method" else if 3 < nm then some "method" else none
def EntryIs (H : Hp) (x : V) (c : Int) (what : Option Str) : Prop :=
  (∃ t, Ty0 H x t ∧ seqT t = false ∧ what = some "class") ∨ (∃ a xs, x = .ref a ∧ SeqAt H a xs ∧ xs.length ≠ 3 ∧ what = some "class") ∨
  (∃ a b g m rb nb tg rm nm, x = .ref a ∧ SeqAt H a [b, g, m] ∧ UnlikeIs H b c rb nb ∧ Ty0 H g tg ∧ UnlikeIs H m 6 rm nm ∧ what = entryWord rb rm (wholeB (.int 0) (.int 3) g) nm)
def spEntry : Sp := fun vs H Q _ => ∃ (x : V) (c : Int) (what : Option Str), vs = [x, .int c] ∧ EntryIs H x c what ∧ ∀ H', Same H H' → Q (optV what) H'
structure Cst (mg : Str → Option Value) : Prop where
  mf : ∃ t, mg "MOST_FIELDS" = some (.int 3 t)
  mm : ∃ t, mg "MOST_METHODS" = some (.int 3 t)
  mn : ∃ t, mg "METHOD_NAMES" = some (.int 6 t)
  mc : ∃ t, mg "MOST_CLASSES" = some (.int 12 t)
section
variable {P : Program} {w : World} {K : PySem.W.Frag} {mg : Str → Option Value} {base : Heap} {f fS fW fU : Addr} {fd fdS fdW fdU : FuncData}
theorem sc_entry : FnScope ["entry", "c", "bases", "fields", "methods"] ["entry", "c"] (defScope (top 25)) := ⟨rfl, rfl, rfl, by decide +kernel, rfl, by decide +kernel, by decide +kernel⟩
theorem ok_entry (F : FnP K "entry_fault" 25 f fd) (B : Fr mg) (Z : Cst mg) (FS : FnP K "is_sequence" 12 fS fdS) (mS : mg "is_sequence" = some (.ref fS)) (FW : FnDf K "is_whole" 13 [.non, .non] fW fdW) (mW : mg "is_whole" = some (.ref fW))
    (FU : FnP K "is_unlike_row" 14 fU fdU) (mU : mg "is_unlike_row" = some (.ref fU)) : FnOk P w K mg base CX0 3 f fd ["entry", "c"] spEntry := by
  have GS : FnOk P w K mg base CX0 1 fS fdS ["thing"] spIsSeq := ok_isSeq FS B
  have GW : FnOk P w K mg base CX0 1 fW fdW ["thing", "low", "high"] spWhole := ok_whole FW B
  have GU : FnOk P w K mg base CX0 2 fU fdU ["thing", "many"] spUnlike := ok_unlike FU B FS mS FW mW
  have bS : L2.Binds K fdS ["thing"] [] := FS.bindsN fun _ _ _ _ _ _ us hl => match us, hl with | [_], _ => rfl
  have bU : L2.Binds K fdU ["thing", "many"] [] := FU.bindsN fun _ _ _ _ _ _ us hl => match us, hl with | [_, _], _ => rfl
  have bW := binds_whole3 FW
  obtain ⟨tf, zf⟩ := Z.mf
  obtain ⟨tm, zm⟩ := Z.mm
  obtain ⟨tn, zn⟩ := Z.mn
  refine F.ok sc_entry (fun vs H Q E h => ?_) (fun cdv A outer s H vs Q E hr h => ?_)
  · obtain ⟨x, c, what, rfl, _⟩ := h
    rfl
  · obtain ⟨x, c, what, rfl, h, k⟩ := h
    -- what is asked of an entry of three, its parts at hand
    have parts : ∀ (H1 : Hp) (y b g m : V) (rb rm : Bool) (nb nm : Nat) (tg : String), UnlikeIs H1 b c rb nb → Ty0 H1 g tg → UnlikeIs H1 m 6 rm nm → (∀ H', Same H1 H' → Q (optV (entryWord rb rm (wholeB (.int 0) (.int 3) g) nm)) H') →
        (tSeq (tIfS (tNot (tB (tCall spUnlike [] E0 (tCons (tVar 2) (tCons (tVar 1) tNil))))) (tRet (tC (.str "base"))) tNext) (tSeq (tIfS (tNot (tB (tCall spWhole [] E0 (tCons (tVar 3) (tCons (tC (.int 0)) (tCons (tC (.int 3)) tNil)))))) (tRet (tC (.str "fields"))) tNext) (tSeq (tIfS (tOr (tNot (tB (tCall spUnlike [] E0 (tCons (tVar 4) (tCons (tC (.int 6)) tNil))))) (tTest (tOp (rI0 fun i j => .bl (decide (j < i))) (tCB (fun xs H Q => ∃ p ys, xs = [.ref p] ∧ (SqL K H p ys ∨ SqT K H p ys) ∧ Q (.int ys.length) H) (tCons (tVar 4) tNil)) (tC (.int 3))))) (tRet (tC (.str "method"))) tNext) (tRet (tC .non))))) { nx := fun _ H' => Q .non H', rt := Q } [some y, some (.int c), some b, some g, some m] H1 := by
      intro H1 y b g m rb rm nb nm tg hb hg hm k
      refine ⟨_, rfl, _, rfl, b, c, rb, nb, rfl, hb, fun H2 s2 => ⟨_, rfl, ?_⟩⟩
      cases rb with
      | false => exact iteT (k H2 s2)
      | true =>
        refine iteF ⟨_, rfl, g, _, _, tg, rfl, hg.same s2, .inr ⟨_, rfl⟩, .inr ⟨_, rfl⟩, _, rfl, ?_⟩
        cases hw : wholeB (.int 0) (.int 3) g with
        | false =>
          rw [hw] at k
          exact iteT (k H2 s2)
        | true =>
          rw [hw] at k
          refine iteF ⟨_, rfl, m, 6, rm, nm, rfl, hm.same s2, fun H3 s3 => ⟨_, rfl, ?_⟩⟩
          cases rm with
          | false => exact iteT (k H3 (s2.trans s3))
          | true =>
            refine iteF ?_
            rcases hm with ⟨t, ty, e1, e2⟩ | ⟨a, xs, rfl, hA, hl, hty, e1, e2⟩
            · cases e2
            · refine ⟨_, rfl, a, xs, rfl, ((hA.same s2).same s3).sq, _, _, rfl, rfl, _, rfl, ?_⟩
              have k3 := k H3 (s2.trans s3)
              by_cases q : (3 : Int) < (xs.length : Int)
              · have q' : 3 < nm := by omega
                unfold entryWord at k3
                rw [if_neg (by decide), if_neg (by decide), if_neg (by decide), if_pos q'] at k3
                rw [decide_eq_true q]
                exact iteT k3
              · have q' : ¬ 3 < nm := by omega
                unfold entryWord at k3
                rw [if_neg (by decide), if_neg (by decide), if_neg (by decide), if_neg q'] at k3
                rw [decide_eq_false q]
                exact iteF k3
    rcases h with ⟨t, ty, hs, e⟩ | ⟨a, xs, rfl, hA, hn, e⟩ | ⟨a, b, g, m, rb, nb, tg, rm, nm, rfl, hA, hb, hg, hm, e⟩
    · subst e
      refine ⟨_, PSs.nox (pss_cons (ps_if (PW.pt (pw_or (pt_not (pt_val (pe_call GS (hr.mono (by decide)) (by rfl) mS FS.kp bS .nil pass0 (pa_cons (pv 0) pa_nil)))) (pw_or1 (pt_cmpR op_ne (pe_callB call_len_seq (by rfl) B.len PySem.boot_len (pa_cons (pv 0) pa_nil)) pe_int (nomark _))))) (pss_one (ps_ret pe_str)) pss_nil)
        (pss_cons (ps_asg (pv 0) (pg_tup (by rfl) (pgs_cons (pg_name (i := 2) sc_entry.nd rfl (Or.inl rfl)) (pgs_cons (pg_name (i := 3) sc_entry.nd rfl (Or.inl rfl)) (pgs_cons (pg_name (i := 4) sc_entry.nd rfl (Or.inl rfl)) pgs_nil)))))
        (pss_cons (ps_if (pt_not (pt_val (pe_call GU hr (by rfl) mU FU.kp bU .nil pass0 (pa_cons (pv 2) (pa_cons (pv 1) pa_nil))))) (pss_one (ps_ret pe_str)) pss_nil)
        (pss_cons (ps_if (pt_not (pt_val (pe_call GW (hr.mono (by decide)) (by rfl) mW FW.kp bW .nil pass0 (pa_cons (pv 3) (pa_cons pe_int (pa_cons (pe_glob (v := .int 3) (by rfl) zf ⟨_, rfl⟩) pa_nil)))))) (pss_one (ps_ret pe_str)) pss_nil)
        (pss_cons (ps_if (PW.pt (pw_or (pt_not (pt_val (pe_call GU hr (by rfl) mU FU.kp bU .nil pass0 (pa_cons (pv 4) (pa_cons (pe_glob (v := .int 6) (by rfl) zn ⟨_, rfl⟩) pa_nil))))) (pw_or1 (pt_cmpR op_gt (pe_callB call_len_seq (by rfl) B.len PySem.boot_len (pa_cons (pv 4) pa_nil)) (pe_glob (v := .int 3) (by rfl) zm ⟨_, rfl⟩) (nomark _))))) (pss_one (ps_ret pe_str)) pss_nil)
        (pss_one (ps_ret pe_non))))))), ?_⟩
      refine ⟨_, rfl, x, t, rfl, ty, fun H1 s1 => ⟨_, rfl, ?_⟩⟩
      rw [hs]
      exact iteT (k H1 s1)
    · subst e
      obtain ⟨t, ty, hseq⟩ := hA.ty
      refine ⟨_, PSs.nox (pss_cons (ps_if (PW.pt (pw_or (pt_not (pt_val (pe_call GS (hr.mono (by decide)) (by rfl) mS FS.kp bS .nil pass0 (pa_cons (pv 0) pa_nil)))) (pw_or1 (pt_cmpR op_ne (pe_callB call_len_seq (by rfl) B.len PySem.boot_len (pa_cons (pv 0) pa_nil)) pe_int (nomark _))))) (pss_one (ps_ret pe_str)) pss_nil)
        (pss_cons (ps_asg (pv 0) (pg_tup (by rfl) (pgs_cons (pg_name (i := 2) sc_entry.nd rfl (Or.inl rfl)) (pgs_cons (pg_name (i := 3) sc_entry.nd rfl (Or.inl rfl)) (pgs_cons (pg_name (i := 4) sc_entry.nd rfl (Or.inl rfl)) pgs_nil)))))
        (pss_cons (ps_if (pt_not (pt_val (pe_call GU hr (by rfl) mU FU.kp bU .nil pass0 (pa_cons (pv 2) (pa_cons (pv 1) pa_nil))))) (pss_one (ps_ret pe_str)) pss_nil)
        (pss_cons (ps_if (pt_not (pt_val (pe_call GW (hr.mono (by decide)) (by rfl) mW FW.kp bW .nil pass0 (pa_cons (pv 3) (pa_cons pe_int (pa_cons (pe_glob (v := .int 3) (by rfl) zf ⟨_, rfl⟩) pa_nil)))))) (pss_one (ps_ret pe_str)) pss_nil)
        (pss_cons (ps_if (PW.pt (pw_or (pt_not (pt_val (pe_call GU hr (by rfl) mU FU.kp bU .nil pass0 (pa_cons (pv 4) (pa_cons (pe_glob (v := .int 6) (by rfl) zn ⟨_, rfl⟩) pa_nil))))) (pw_or1 (pt_cmpR op_gt (pe_callB call_len_seq (by rfl) B.len PySem.boot_len (pa_cons (pv 4) pa_nil)) (pe_glob (v := .int 3) (by rfl) zm ⟨_, rfl⟩) (nomark _))))) (pss_one (ps_ret pe_str)) pss_nil)
        (pss_one (ps_ret pe_non))))))), ?_⟩
      refine ⟨_, rfl, _, t, rfl, ty, fun H1 s1 => ⟨_, rfl, ?_⟩⟩
      rw [hseq]
      refine iteF ⟨_, rfl, a, xs, rfl, (hA.same s1).sq, rfl, _, rfl, ?_⟩
      have z : decide (V.int (xs.length : Int) = V.int 3) = false := decide_eq_false fun q => hn (by have := V.int.inj q; omega)
      rw [z]
      exact iteT (k H1 s1)
    · subst e
      obtain ⟨t, ty, hseq⟩ := hA.ty
      rcases hA with hA | hA
      · refine ⟨_, PSs.nox (pss_cons (ps_if (PW.pt (pw_or (pt_not (pt_val (pe_call GS (hr.mono (by decide)) (by rfl) mS FS.kp bS .nil pass0 (pa_cons (pv 0) pa_nil)))) (pw_or1 (pt_cmpR op_ne (pe_callB call_len_seq (by rfl) B.len PySem.boot_len (pa_cons (pv 0) pa_nil)) pe_int (nomark _))))) (pss_one (ps_ret pe_str)) pss_nil)
        (pss_cons (ps_asg (pv 0) (pg_unl (by rfl) (pgs_cons (pg_name (i := 2) sc_entry.nd rfl (Or.inl rfl)) (pgs_cons (pg_name (i := 3) sc_entry.nd rfl (Or.inl rfl)) (pgs_cons (pg_name (i := 4) sc_entry.nd rfl (Or.inl rfl)) pgs_nil)))))
        (pss_cons (ps_if (pt_not (pt_val (pe_call GU hr (by rfl) mU FU.kp bU .nil pass0 (pa_cons (pv 2) (pa_cons (pv 1) pa_nil))))) (pss_one (ps_ret pe_str)) pss_nil)
        (pss_cons (ps_if (pt_not (pt_val (pe_call GW (hr.mono (by decide)) (by rfl) mW FW.kp bW .nil pass0 (pa_cons (pv 3) (pa_cons pe_int (pa_cons (pe_glob (v := .int 3) (by rfl) zf ⟨_, rfl⟩) pa_nil)))))) (pss_one (ps_ret pe_str)) pss_nil)
        (pss_cons (ps_if (PW.pt (pw_or (pt_not (pt_val (pe_call GU hr (by rfl) mU FU.kp bU .nil pass0 (pa_cons (pv 4) (pa_cons (pe_glob (v := .int 6) (by rfl) zn ⟨_, rfl⟩) pa_nil))))) (pw_or1 (pt_cmpR op_gt (pe_callB call_len_seq (by rfl) B.len PySem.boot_len (pa_cons (pv 4) pa_nil)) (pe_glob (v := .int 3) (by rfl) zm ⟨_, rfl⟩) (nomark _))))) (pss_one (ps_ret pe_str)) pss_nil)
        (pss_one (ps_ret pe_non))))))), ?_⟩
        refine ⟨_, rfl, _, t, rfl, ty, fun H1 s1 => ⟨_, rfl, ?_⟩⟩
        rw [hseq]
        refine iteF ⟨_, rfl, a, _, rfl, .inl (SqL.of (s1 _ _ hA)), rfl, _, rfl, iteF ?_⟩
        refine ⟨_, rfl, a, _, rfl, SqL.of (s1 _ _ hA), rfl, _, _, rfl, _, _, rfl, _, _, rfl, rfl, ?_⟩
        exact parts H1 _ b g m rb rm nb nm tg (hb.same s1) (hg.same s1) (hm.same s1) fun H' s => k H' (s1.trans s)
      · refine ⟨_, PSs.nox (pss_cons (ps_if (PW.pt (pw_or (pt_not (pt_val (pe_call GS (hr.mono (by decide)) (by rfl) mS FS.kp bS .nil pass0 (pa_cons (pv 0) pa_nil)))) (pw_or1 (pt_cmpR op_ne (pe_callB call_len_seq (by rfl) B.len PySem.boot_len (pa_cons (pv 0) pa_nil)) pe_int (nomark _))))) (pss_one (ps_ret pe_str)) pss_nil)
        (pss_cons (ps_asg (pv 0) (pg_tup (by rfl) (pgs_cons (pg_name (i := 2) sc_entry.nd rfl (Or.inl rfl)) (pgs_cons (pg_name (i := 3) sc_entry.nd rfl (Or.inl rfl)) (pgs_cons (pg_name (i := 4) sc_entry.nd rfl (Or.inl rfl)) pgs_nil)))))
        (pss_cons (ps_if (pt_not (pt_val (pe_call GU hr (by rfl) mU FU.kp bU .nil pass0 (pa_cons (pv 2) (pa_cons (pv 1) pa_nil))))) (pss_one (ps_ret pe_str)) pss_nil)
        (pss_cons (ps_if (pt_not (pt_val (pe_call GW (hr.mono (by decide)) (by rfl) mW FW.kp bW .nil pass0 (pa_cons (pv 3) (pa_cons pe_int (pa_cons (pe_glob (v := .int 3) (by rfl) zf ⟨_, rfl⟩) pa_nil)))))) (pss_one (ps_ret pe_str)) pss_nil)
        (pss_cons (ps_if (PW.pt (pw_or (pt_not (pt_val (pe_call GU hr (by rfl) mU FU.kp bU .nil pass0 (pa_cons (pv 4) (pa_cons (pe_glob (v := .int 6) (by rfl) zn ⟨_, rfl⟩) pa_nil))))) (pw_or1 (pt_cmpR op_gt (pe_callB call_len_seq (by rfl) B.len PySem.boot_len (pa_cons (pv 4) pa_nil)) (pe_glob (v := .int 3) (by rfl) zm ⟨_, rfl⟩) (nomark _))))) (pss_one (ps_ret pe_str)) pss_nil)
        (pss_one (ps_ret pe_non))))))), ?_⟩
        refine ⟨_, rfl, _, t, rfl, ty, fun H1 s1 => ⟨_, rfl, ?_⟩⟩
        rw [hseq]
        refine iteF ⟨_, rfl, a, _, rfl, .inr (SqT.of (s1 _ _ hA)), rfl, _, rfl, iteF ?_⟩
        refine ⟨_, rfl, a, _, rfl, SqT.of (s1 _ _ hA), rfl, _, _, rfl, _, _, rfl, _, _, rfl, rfl, ?_⟩
        exact parts H1 _ b g m rb rm nb nm tg (hb.same s1) (hg.same s1) (hm.same s1) fun H' s => k H' (s1.trans s)
end
end K57

set_option maxRecDepth 100000
set_option maxHeartbeats 4000000
namespace Kw
open PySem PySem.Spec PyProof.Rows L2
theorem ints_at : ∀ {us : List Value} {ks : List Int}, us.length = ks.length → (∀ (j : Nat) (v : Value), us[j]? = some v → ∃ (x : Int) (t : Tok), ks[j]? = some x ∧ v = Value.int x t) → IntsAre us ks
  | [], [], _, _ => .nil
  | u :: us, k :: ks, hl, h => by
    obtain ⟨x, t, e1, e2⟩ := h 0 u rfl
    obtain rfl : k = x := Option.some.inj e1
    rw [e2]
    exact .cons _ _ (ints_at (Nat.succ.inj hl) fun j v e => h (j + 1) v e)
  | [], _ :: _, hl, _ => by cases hl
  | _ :: _, [], hl, _ => by cases hl
/-- sorted(d), d a dict whose keys are ints -/
def rSortDI : List V → Hp → VK → Prop := fun xs H Q => ∃ (a : Addr) (kvs : List (Key × V)) (ks : List Int), xs = [.ref a] ∧ Rd H a (.dK kvs) ∧ kvs.map (·.1) = ks.map Sum.inl ∧ ks.length ≤ 4000 ∧
  ∀ (ys : List Int) (p : Addr), ys.Perm ks → ys.Pairwise (· ≤ ·) → H p = none → Q (.ref p) (upd H p (.lst (ys.map V.int)))
theorem call_sortedDI {X : Cx} (hcalm : X.calm = true) : CallR X (.builtin "sorted") rSortDI := by
  intro pins s σ H xs us Q I r q
  obtain ⟨a, kvs, ks, ex, hd, hks, h64, q⟩ := q
  subst ex
  obtain ⟨u, eu, rx⟩ := vals1 r
  subst eu
  obtain rfl : u = Value.ref a := rx
  obtain ⟨z, lo, vs, rel, dd⟩ := dk_rd I.hok hd
  obtain ⟨ep, hat⟩ := dd.dictAt
  have hkeys : vs.map (·.1) = ks.map Sum.inl := rel.keys.symm.trans hks
  have hl : vs.length = ks.length := by simpa using congrArg List.length hkeys
  have h16 : vs.length ≤ sizeLine := by rw [hl]; exact Nat.le_trans h64 (by decide)
  refine Calls.call_function_entry kind_sorted plain_sorted entry_sorted (args_sorted1 _) ?_
  unfold Builtin.«sorted»
  refine wpAny_bind (m := checkCount "sorted" 1 1 _) (wpAny_pure (wpAny_bind ?_))
  refine PySem.W.kdu_collect (A := X.A.in1) (PySem.W.kdl_dict (knd := mixKind X.prog X.w) (kvs := vs) (ep := ep) lo) (I.ok.hd hcalm) hat h16 fun h' tk acc hk hacc => ?_
  have hal : acc.toList.length = ks.length := by rw [Array.length_toList, hacc.1, hl]
  have hI : IntsAre acc.toList ks := ints_at hal fun j v e => by
    obtain ⟨k, x, e1, e2⟩ := hacc.2 j v (by rw [← Array.getElem?_toList]; exact e)
    have e3 : (vs.map (·.1))[j]? = some k := by rw [List.getElem?_map, e1] <;> rfl
    rw [hkeys, List.getElem?_map] at e3
    obtain ⟨y, e4, e5⟩ := Option.map_eq_some_iff.mp e3
    subst e5
    obtain ⟨t, ev⟩ := Value.isInt_shape (k := y) (v := v) e2
    exact ⟨y, t, e4, ev⟩
  have I1 : Inv X pins σ H { s with heap := h', toks := tk } := I.kept hk
  have hZ : acc.toList.length ≤ sizeLine := by rw [hal]; exact Nat.le_trans h64 (by decide)
  refine wpAny_bind (wpAny_newList ?_ hZ)
  have hoL : (h'.push (seqObj "list" acc.toList.toArray 0)).get? h'.objs.size = some (seqObj "list" acc.toList.toArray 0) := Heap.get?_push_size _ rfl
  show wpAny _ _ _ _ _ { s with heap := h'.push (seqObj "list" acc.toList.toArray 0), toks := tk }
  refine wpAny_bind (wpAny_holding (wpAny_call_entry slot_list_sort ⟨_, hoL, rfl⟩ entry_list_sort ?_ (args_list_sort _)))
  refine SrtO.list_sort_ord SrtO.swo_int hoL hZ (fun h2 => SrtO.ints_sortable hI h2) fun out g1 g2 => ⟨_, rfl, ?_⟩
  obtain ⟨k1, k2, k3⟩ := SrtO.ints_out hI g1 g2
  obtain ⟨e', he'⟩ := sortedHeap_at (vs := acc.toList) (out := out.toArray) hoL
  have hlen : ((out.map SrtO.iv).map V.int).length ≤ sizeLine := by
    rw [List.length_map, k2.length_eq]
    exact Nat.le_trans h64 (by decide)
  refine wpAny_pure ⟨_, rfl, .ref h'.objs.size, upd H h'.objs.size (.lst ((out.map SrtO.iv).map V.int)), I1.laid (t' := tk) (fun b u e => ?_) (Nat.le_refl _)
    (show ObjOk X.prog X.w _ _ _ (.lst ((out.map SrtO.iv).map V.int)) from ⟨hlen, out, e', vals_of_ints k1, he'⟩), rfl, q _ _ k2 k3 (I1.hok.fresh (Nat.le_refl _))⟩
  have hb : b < h'.objs.size := Heap.lt_size e
  rw [sortedHeap_old (Nat.ne_of_lt hb) (by rw [size_push']; exact Nat.lt_succ_of_lt hb)]
  exact Heap.get?_push_of_some _ e
end Kw

set_option maxRecDepth 100000
set_option maxHeartbeats 4000000
namespace K57
open PySem PySem.Spec PyProof.Rows L2 Kw
/-! ### elders, as plain lists -/
def isEld (rows : List (List Nat)) (row : List Nat) (e : Nat) : Bool := row.any fun b => e == b || (rows.getD b []).contains e
def elStep (rows : List (List Nat)) (row : List Nat) : List Nat := (List.range rows.length).filter (isEld rows row)
def elders (bs : List (List Nat)) : List (List Nat) := bs.foldl (fun rows row => rows ++ [elStep rows row]) []
def validB (bs : List (List Nat)) : Prop := ∀ (c : Nat) (row : List Nat), bs[c]? = some row → ∀ b ∈ row, b < c
theorem elders_more {bs : List (List Nat)} {i : Nat} {row : List Nat} (h : bs[i]? = some row) : elders (bs.take (i + 1)) = elders (bs.take i) ++ [elStep (elders (bs.take i)) row] := by
  unfold elders
  rw [List.take_add_one, h, Option.toList_some, List.foldl_append]
  rfl
theorem elders_len : ∀ (bs : List (List Nat)), (elders bs).length = bs.length := by
  intro bs
  have key : ∀ (bs : List (List Nat)) (acc : List (List Nat)), (bs.foldl (fun rows row => rows ++ [elStep rows row]) acc).length = acc.length + bs.length := by
    intro bs
    induction bs with
    | nil => intro acc; rfl
    | cons b r ih =>
      intro acc
      rw [List.foldl_cons, ih, List.length_append]
      simp only [List.length_cons, List.length_nil]
      omega
  have z := key bs []
  rw [List.length_nil, Nat.zero_add] at z
  exact z
theorem elStep_lt {rows : List (List Nat)} {row : List Nat} {e : Nat} (h : e ∈ elStep rows row) : e < rows.length := List.mem_range.mp (List.mem_filter.mp h).1
/-- every elder of an elder row lies below -/
theorem elders_lt : ∀ (bs : List (List Nat)) (c : Nat) (l : List Nat), (elders bs)[c]? = some l → ∀ e ∈ l, e < c := by
  intro bs
  have key : ∀ (bs : List (List Nat)) (acc : List (List Nat)), (∀ (c : Nat) (l : List Nat), acc[c]? = some l → ∀ e ∈ l, e < c) → ∀ (c : Nat) (l : List Nat), (bs.foldl (fun rows row => rows ++ [elStep rows row]) acc)[c]? = some l → ∀ e ∈ l, e < c := by
    intro bs
    induction bs with
    | nil => intro acc h; exact h
    | cons b r ih =>
      intro acc h
      rw [List.foldl_cons]
      refine ih _ fun c l hc e he => ?_
      by_cases q : c < acc.length
      · rw [List.getElem?_append_left q] at hc
        exact h c l hc e he
      · rw [List.getElem?_append_right (by omega)] at hc
        by_cases q2 : c - acc.length = 0
        · rw [q2] at hc
          have e1 : elStep acc b = l := Option.some.inj hc
          rw [← e1] at he
          have := elStep_lt he
          omega
        · rw [List.getElem?_eq_none (by rw [List.length_singleton]; omega)] at hc
          cases hc
  exact key bs [] fun c l h => by simp at h
/-! ### keys of a dict, as they are put in -/
def addN (ks : List Nat) (e : Nat) : List Nat := if e ∈ ks then ks else ks ++ [e]
def KeysAre (kvs : List (Key × V)) (ks : List Nat) : Prop := kvs.map (·.1) = ks.map fun (n : Nat) => (Sum.inl (n : Int) : Key)
theorem mem_addN {ks : List Nat} {e x : Nat} : x ∈ addN ks e ↔ x ∈ ks ∨ x = e := by
  unfold addN
  by_cases h : e ∈ ks
  · rw [if_pos h]
    exact ⟨.inl, fun q => q.elim id fun z => z ▸ h⟩
  · rw [if_neg h, List.mem_append, List.mem_singleton]
theorem nodup_addN {ks : List Nat} {e : Nat} (h : ks.Nodup) : (addN ks e).Nodup := by
  unfold addN
  by_cases q : e ∈ ks
  · rw [if_pos q]
    exact h
  · rw [if_neg q]
    refine List.nodup_append.mpr ⟨h, by simp, fun a ha b hb z => q ?_⟩
    rw [List.mem_singleton.mp hb] at z
    exact z ▸ ha
theorem len_addN {ks : List Nat} {e : Nat} : (addN ks e).length ≤ ks.length + 1 := by
  unfold addN
  split
  · omega
  · rw [List.length_append, List.length_singleton]; omega
theorem keys_put {kvs : List (Key × V)} {ks : List Nat} {e : Nat} {v : V} (h : KeysAre kvs ks) : KeysAre (putK kvs (Sum.inl (e : Int)) v) (addN ks e) := by
  have hm : ∀ n : Nat, (Sum.inl (n : Int) : Key) ∈ kvs.map (·.1) ↔ n ∈ ks := fun n => by
    rw [h, List.mem_map]
    constructor
    · rintro ⟨k, hk, e⟩
      have z : (k : Int) = (n : Int) := Sum.inl.inj e
      have z2 : k = n := by omega
      subst z2
      exact hk
    · exact fun hk => ⟨n, hk, rfl⟩
  unfold putK addN
  by_cases q : e ∈ ks
  · have a : (kvs.any fun kv => decide (kv.1 = (Sum.inl (e : Int) : Key))) = true := by
      obtain ⟨kv, h1, h2⟩ := List.mem_map.mp ((hm e).mpr q)
      exact List.any_eq_true.mpr ⟨kv, h1, decide_eq_true h2⟩
    rw [if_pos a, if_pos q]
    unfold KeysAre
    rw [List.map_map, ← h]
    refine List.map_congr_left fun kv _ => ?_
    show (if kv.1 = Sum.inl (e : Int) then (kv.1, v) else kv).1 = kv.1
    split <;> rfl
  · have a : ¬ (kvs.any fun kv => decide (kv.1 = (Sum.inl (e : Int) : Key))) = true := fun z => by
      obtain ⟨kv, h1, h2⟩ := List.any_eq_true.mp z
      exact q ((hm e).mp (List.mem_map.mpr ⟨kv, h1, of_decide_eq_true h2⟩))
    rw [if_neg a, if_neg q]
    unfold KeysAre
    rw [List.map_append, List.map_append, h]
    rfl
/-! ### a list of tuples of numbers -/
def natV (n : Nat) : V := V.int (n : Int)
def TupsAt (H : Hp) : List V → List (List Nat) → Prop := Paired fun v l => ∃ t, v = .ref t ∧ H t = some (.tup (l.map natV))
theorem TupsAt.mono {H H' : Hp} (k : ∀ b xs, H b = some (.tup xs) → H' b = some (.tup xs)) : ∀ {vs : List V} {ls : List (List Nat)}, TupsAt H vs ls → TupsAt H' vs ls
  | [], [], _ => .nil
  | _ :: _, _ :: _, .cons ⟨t, e, h⟩ r => .cons ⟨t, e, k _ _ h⟩ (TupsAt.mono k r)
theorem TupsAt.same {H H' : Hp} {vs : List V} {ls : List (List Nat)} (h : TupsAt H vs ls) (s : Same H H') : TupsAt H' vs ls := h.mono fun b xs e => s b _ e
theorem TupsAt.len {H : Hp} {vs : List V} {ls : List (List Nat)} (h : TupsAt H vs ls) : vs.length = ls.length := Paired.length h
theorem TupsAt.get {H : Hp} : ∀ {vs : List V} {ls : List (List Nat)} {i : Nat} {l : List Nat}, TupsAt H vs ls → ls[i]? = some l → ∃ t, vs[i]? = some (.ref t) ∧ H t = some (.tup (l.map natV))
  | [], [], _, _, _, h => by simp at h
  | _ :: _, _ :: _, 0, _, .cons ⟨t, e1, h⟩ _, e => by
    obtain rfl := Option.some.inj e
    exact ⟨t, by rw [e1]; rfl, h⟩
  | _ :: _, _ :: _, i + 1, _, .cons _ r, e => TupsAt.get (i := i) r e
theorem TupsAt.app {H : Hp} : ∀ {vs us : List V} {ls ms : List (List Nat)}, TupsAt H vs ls → TupsAt H us ms → TupsAt H (vs ++ us) (ls ++ ms)
  | [], _, [], _, _, h => h
  | _ :: _, _, _ :: _, _, .cons h r, s => .cons h (TupsAt.app r s)
/-- a list's or a dict's place written: tuples stand -/
theorem tups_upd {H : Hp} {a : Addr} {o u : HO} (ha : H a = some o) (hn : ∀ xs, o ≠ .tup xs) : ∀ b xs, H b = some (.tup xs) → upd H a u b = some (.tup xs) := fun b xs e => by
  have ne : b ≠ a := fun z => by
    rw [z, ha] at e
    exact hn xs (Option.some.inj e)
  rw [upd_ne ne]
  exact e
theorem sorted_one {ys : List Int} {a b : List Nat} (p : ys.Perm (a.map fun (n : Nat) => (n : Int))) (hs : ys.Pairwise (· ≤ ·)) (ha : a.Nodup) (hb : b.Nodup) (hm : ∀ x, x ∈ a ↔ x ∈ b) (hbs : b.Pairwise (· < ·)) : ys.map V.int = b.map natV := by
  have p2 : ys.Perm (b.map fun (n : Nat) => (n : Int)) := p.trans (((List.perm_ext_iff_of_nodup ha hb).mpr hm).map _)
  have hb2 : (b.map fun (n : Nat) => (n : Int)).Pairwise (· ≤ ·) := List.pairwise_map.mpr (hbs.imp fun h => by omega)
  have e : ys = b.map fun (n : Nat) => (n : Int) := p2.eq_of_pairwise (fun x y _ _ h1 h2 => Int.le_antisymm h1 h2) hs hb2
  rw [e, List.map_map]
  rfl
end K57

set_option maxRecDepth 100000
set_option maxHeartbeats 4000000
namespace K57
open PySem PySem.Spec PyProof.Rows L2 Kw
theorem same_upd {H0 H1 : Hp} {p : Addr} {o : HO} (s : Same H0 H1) (hp : H0 p = none) : Same H0 (upd H1 p o) := fun b u e => by
  rw [upd_ne (ne_of_none e hp)]
  exact s b u e
/-- a dict that holds just these numbers as keys -/
def DictHas (H : Hp) (p : Addr) (P : Nat → Prop) (n : Nat) : Prop := ∃ kvs ks, H p = some (.dK kvs) ∧ KeysAre kvs ks ∧ ks.Nodup ∧ ks.length ≤ n ∧ kvs.length ≤ n ∧ ∀ x, x ∈ ks ↔ P x
theorem DictHas.put {H : Hp} {p : Addr} {P : Nat → Prop} {n e : Nat} {v : V} (h : DictHas H p P n) (hn : n < sizeLine) : ∃ H', DPut H p (.int (e : Int)) v H' ∧ (∃ o, H' = upd H p o) ∧ DictHas H' p (fun x => P x ∨ x = e) (n + 1) := by
  obtain ⟨kvs, ks, h1, h2, h3, h4, h5, h6⟩ := h
  refine ⟨_, DPut.k (k := Sum.inl (e : Int)) h1 (by omega), ⟨_, rfl⟩, _, addN ks e, upd_same, keys_put h2, nodup_addN h3, Nat.le_trans len_addN (by omega), Nat.le_trans (length_putK _ _ _) (by omega), fun x => ?_⟩
  rw [mem_addN, h6]
theorem DictHas.iff {H : Hp} {p : Addr} {P P' : Nat → Prop} {n : Nat} (h : DictHas H p P n) (k : ∀ x, P x ↔ P' x) : DictHas H p P' n := by
  obtain ⟨kvs, ks, h1, h2, h3, h4, h5, h6⟩ := h
  exact ⟨kvs, ks, h1, h2, h3, h4, h5, fun x => (h6 x).trans (k x)⟩
theorem DictHas.le {H : Hp} {p : Addr} {P : Nat → Prop} {n m : Nat} (h : DictHas H p P n) (k : n ≤ m) : DictHas H p P m := by
  obtain ⟨kvs, ks, h1, h2, h3, h4, h5, h6⟩ := h
  exact ⟨kvs, ks, h1, h2, h3, by omega, by omega, h6⟩
theorem elStep_mem {rows : List (List Nat)} {row : List Nat} (hlt : ∀ b ∈ row, b < rows.length) (hr : ∀ (c : Nat) (l : List Nat), rows[c]? = some l → ∀ e ∈ l, e < c) (x : Nat) : x ∈ elStep rows row ↔ ∃ b ∈ row, x = b ∨ x ∈ rows.getD b [] := by
  unfold elStep isEld
  rw [List.mem_filter, List.mem_range, List.any_eq_true]
  constructor
  · rintro ⟨_, b, hb, h⟩
    refine ⟨b, hb, ?_⟩
    rw [Bool.or_eq_true] at h
    exact h.imp (fun h => by simpa using h) fun h => by simpa using h
  · rintro ⟨b, hb, h⟩
    have hbl := hlt b hb
    refine ⟨?_, b, hb, ?_⟩
    · rcases h with h | h
      · omega
      · have e : rows[b]? = some (rows.getD b []) := by
          rw [List.getElem?_eq_getElem hbl, List.getD_eq_getElem?_getD, List.getElem?_eq_getElem hbl]
          rfl
        have := hr b _ e x h
        omega
    · rw [Bool.or_eq_true]
      exact h.imp (fun h => by simpa using h) fun h => by simpa using h
theorem elStep_up (rows : List (List Nat)) (row : List Nat) : (elStep rows row).Pairwise (· < ·) := List.Pairwise.filter _ List.pairwise_lt_range
theorem elStep_len (rows : List (List Nat)) (row : List Nat) : (elStep rows row).length ≤ rows.length := by
  have := List.length_filter_le (isEld rows row) (List.range rows.length)
  rw [List.length_range] at this
  exact this
theorem up_nodup {l : List Nat} (h : l.Pairwise (· < ·)) : l.Nodup := h.imp fun h => Nat.ne_of_lt h
theorem elders_len_row : ∀ (bs : List (List Nat)) (c : Nat) (l : List Nat), (elders bs)[c]? = some l → l.length ≤ bs.length := by
  intro bs
  have key : ∀ (bs : List (List Nat)) (acc : List (List Nat)), (∀ l ∈ acc, l.length ≤ acc.length) → ∀ l ∈ bs.foldl (fun rows row => rows ++ [elStep rows row]) acc, l.length ≤ acc.length + bs.length := by
    intro bs
    induction bs with
    | nil => intro acc h l hl; exact Nat.le_trans (h l hl) (Nat.le_add_right _ _)
    | cons b r ih =>
      intro acc h l hl
      rw [List.foldl_cons] at hl
      have hlen : (acc ++ [elStep acc b]).length = acc.length + 1 := by rw [List.length_append]; rfl
      have := ih (acc ++ [elStep acc b]) (fun l hl => by
        rw [hlen]
        rcases List.mem_append.mp hl with hl | hl
        · exact Nat.le_succ_of_le (h l hl)
        · rw [List.mem_singleton.mp hl]
          exact Nat.le_succ_of_le (elStep_len _ _)) l hl
      rw [hlen] at this
      rw [List.length_cons]
      omega
  intro c l h
  have := key bs [] (fun l hl => by cases hl) l (List.mem_of_getElem? h)
  rw [List.length_nil, Nat.zero_add] at this
  exact this
section
variable {P : Program} {w : World} {K : PySem.W.Frag} {mg : Str → Option Value} {base : Heap} {f : Addr} {fd : FuncData}
def spElders : Sp := fun vs H Q _ => ∃ (a : Addr) (ws : List V) (bs : List (List Nat)), vs = [.ref a] ∧ H a = some (.tup ws) ∧ TupsAt H ws bs ∧ validB bs ∧ bs.length ≤ 12 ∧ (∀ row ∈ bs, row.length ≤ 12) ∧
  ∀ H' p us, Same H H' → H' p = some (.tup us) → TupsAt H' us (elders bs) → Q (.ref p) H'
theorem sc_elders : FnScope ["bases", "rows", "row", "found", "base", "elder"] ["bases"] (defScope (top 26)) := ⟨rfl, rfl, rfl, by decide +kernel, rfl, by decide +kernel, by decide +kernel⟩
theorem ok_elders (F : FnP K "elder_rows" 26 f fd) (B : Fr mg) : FnOk P w K mg base CX0 1 f fd ["bases"] spElders := by
  refine F.ok sc_elders (fun vs H Q E h => ?_) (fun cdv A outer s H vs Q E hr h => ?_)
  · obtain ⟨a, ws, bs, rfl, _⟩ := h
    rfl
  · obtain ⟨a, ws, bs, rfl, hA, hT, hv, h12, hr12, k⟩ := h
    refine ⟨_, PSs.nox (pss_cons (ps_set (i := 1) sc_elders.nd rfl (Or.inl rfl) (pe_lst pa_nil))
      (pss_cons (ps_for PassesOwn.never rfl (pi_tup (pv 0)) (pg_name (i := 2) sc_elders.nd rfl (Or.inl rfl))
        (pss_cons (ps_set (i := 3) sc_elders.nd rfl (Or.inl rfl) pe_dnewK)
        (pss_cons (ps_for PassesOwn.never rfl (pi_tup (pv 2)) (pg_name (i := 4) sc_elders.nd rfl (Or.inl rfl))
          (pss_cons (ps_dput (hu_of hr) (pv 3) (pv 4) pe_bl rfl)
          (pss_one (ps_for PassesOwn.never rfl (pi_tup (pe_ix ix_list (pv 1) (pv 4) (fun _ _ => rfl))) (pg_name (i := 5) sc_elders.nd rfl (Or.inl rfl))
            (pss_one (ps_dput (hu_of hr) (pv 3) (pv 5) pe_bl rfl))))))
        (pss_one (ps_expr (pe_bm PySem.F.plainAttrs_list PySem.F.slot_list_append PySem.F.type_list_append mt_append (pv 1) (pa_cons (pe_callTy call_tuple_of (by rfl) B.tuple (by decide +kernel) (pa_cons (pe_callB (Kw.call_sortedDI rfl) (by rfl) B.sorted (by decide +kernel) (pa_cons (pv 3) pa_nil)) pa_nil)) pa_nil)))))))
      (pss_one (ps_ret (pe_callTy call_tuple_of (by rfl) B.tuple (by decide +kernel) (pa_cons (pv 1) pa_nil)))))), ?_⟩
    refine ⟨by decide, fun R hR => ?_⟩
    refine ⟨_, rfl, a, rfl, ⟨_, SqT.of (same_new hR _ _ hA)⟩, for_tup (K := K) (a := a) (xs := ws) (fun i σ H' => Same H H' ∧ ∃ us x y z u, σ = [some (.ref a), some (.ref R), x, y, z, u] ∧ H' R = some (.lst us) ∧ TupsAt H' us (elders (bs.take i)))
      ⟨same_new hR, [], none, none, none, none, rfl, upd_same, .nil⟩ (fun i σ H' _ h => SqT.of (h.1 _ _ hA)) ?_ ?_⟩
    · rintro i y σ H' hi ⟨sH, us, x0, y0, z0, u0, rfl, hRu, hU⟩
      have hbl : ws.length = bs.length := hT.len
      have hil : i < bs.length := by
        rw [← hbl]
        exact (List.getElem?_eq_some_iff.mp hi).1
      obtain ⟨row, hrow⟩ : ∃ row, bs[i]? = some row := ⟨_, List.getElem?_eq_getElem hil⟩
      obtain ⟨t, et, ht⟩ := hT.get hrow
      obtain rfl : V.ref t = y := Option.some.inj (et.symm.trans hi)
      have hE : (elders (bs.take i)).length = i := by rw [elders_len, List.length_take, Nat.min_eq_left (Nat.le_of_lt hil)]
      have hlt : ∀ b ∈ row, b < i := hv i row hrow
      have hrl : row.length ≤ 12 := hr12 row (List.mem_of_getElem? hrow)
      have hus : us.length = i := hU.len.trans hE
      refine fun p hp => ?_
      have sp : Same H' (upd H' p (.dK [])) := same_new hp
      refine ⟨_, rfl, t, rfl, ⟨_, SqT.of (sp _ _ (sH _ _ ht))⟩, for_tup (K := K) (a := t) (xs := row.map natV) (fun j σ H2 => Same H' H2 ∧ ∃ z u, σ = [some (.ref a), some (.ref R), some (.ref t), some (.ref p), z, u] ∧ DictHas H2 p (fun x => ∃ b ∈ row.take j, x = b ∨ x ∈ (elders (bs.take i)).getD b []) (j * 14))
        ⟨sp, z0, u0, rfl, [], [], upd_same, rfl, List.nodup_nil, Nat.zero_le _, Nat.zero_le _, fun x => by simp⟩ (fun j σ H2 _ h => SqT.of (h.1 _ _ (sH _ _ ht))) ?_ ?_⟩
      · rintro j y σ H2 hj ⟨s2, z1, u1, rfl, hD⟩
        rw [List.getElem?_map] at hj
        obtain ⟨b, hb, rfl⟩ := Option.map_eq_some_iff.mp hj
        have hjl : j < row.length := (List.getElem?_eq_some_iff.mp hb).1
        have hbi : b < i := hlt b (List.mem_of_getElem? hb)
        obtain ⟨H3, hput, ⟨o3, e3⟩, hD3⟩ := hD.put (e := b) (v := .bl true) (by show j * 14 < 2 ^ 24; omega)
        have s3 : Same H' H3 := by
          rw [e3]
          exact same_upd s2 hp
        refine ⟨_, rfl, _, rfl, p, H3, rfl, hput, ?_⟩
        obtain ⟨l, hl⟩ : ∃ l, (elders (bs.take i))[b]? = some l := ⟨_, List.getElem?_eq_getElem (by rw [hE]; exact hbi)⟩
        have hgd : (elders (bs.take i)).getD b [] = l := by
          rw [List.getD_eq_getElem?_getD, hl]
          rfl
        have hll : l.length ≤ 12 := by
          have := elders_len_row _ _ _ hl
          rw [List.length_take] at this
          omega
        obtain ⟨q, eq, hq⟩ := hU.get hl
        refine ⟨_, rfl, _, rfl, R, us, _, _, rfl, rfl, SqL.of (s3 _ _ hRu), atI_nat eq, q, rfl, ⟨_, SqT.of (s3 _ _ hq)⟩, for_tup (K := K) (a := q) (xs := l.map natV) (fun m σ H4 => Same H' H4 ∧ ∃ u, σ = [some (.ref a), some (.ref R), some (.ref t), some (.ref p), some (natV b), u] ∧ DictHas H4 p (fun x => ((∃ b ∈ row.take j, x = b ∨ x ∈ (elders (bs.take i)).getD b []) ∨ x = b) ∨ x ∈ l.take m) (j * 14 + 1 + m))
          ⟨s3, u1, rfl, hD3.iff fun x => by simp⟩ (fun m σ H4 _ h => SqT.of (h.1 _ _ hq)) ?_ ?_⟩
        · rintro m y σ H4 hm ⟨s4, u2, rfl, hD4⟩
          rw [List.getElem?_map] at hm
          obtain ⟨e, he, rfl⟩ := Option.map_eq_some_iff.mp hm
          have hml : m < l.length := (List.getElem?_eq_some_iff.mp he).1
          obtain ⟨H5, hput5, ⟨o5, e5⟩, hD5⟩ := hD4.put (e := e) (v := .bl true) (by show j * 14 + 1 + m < 2 ^ 24; omega)
          refine ⟨_, rfl, _, rfl, p, H5, rfl, hput5, by rw [e5]; exact same_upd s4 hp, _, rfl, hD5.iff fun x => ?_⟩
          rw [List.take_add_one, he, Option.toList_some, List.mem_append, List.mem_singleton, or_assoc]
        · rintro σ H4 ⟨s4, u2, rfl, hD4⟩
          rw [List.length_map] at hD4
          refine ⟨s4, _, _, rfl, (hD4.iff fun x => ?_).le (by omega)⟩
          rw [List.take_add_one, hb, Option.toList_some, List.take_length]
          constructor
          · rintro ((⟨c, hc, h⟩ | h) | h)
            · exact ⟨c, List.mem_append_left _ hc, h⟩
            · exact ⟨b, List.mem_append_right _ (List.mem_singleton.mpr rfl), .inl h⟩
            · exact ⟨b, List.mem_append_right _ (List.mem_singleton.mpr rfl), .inr (by rw [hgd]; exact h)⟩
          · rintro ⟨c, hc, h⟩
            rcases List.mem_append.mp hc with hc | hc
            · exact .inl (.inl ⟨c, hc, h⟩)
            · obtain rfl := List.mem_singleton.mp hc
              rcases h with h | h
              · exact .inl (.inr h)
              · rw [hgd] at h
                exact .inr h
      · rintro σ H2 ⟨s2, z1, u1, rfl, kvs, ks, h1, h2, h3, h4, h5, h6⟩
        rw [List.length_map, List.take_length] at h6
        rw [List.length_map] at h4
        refine ⟨_, rfl, .inl ⟨rfl, _, SqL.of (s2 _ _ hRu)⟩, _, rfl, p, kvs, ks.map fun (n : Nat) => (n : Int), rfl, .inl h1, ?_, ?_, fun ys L perm srt hL => ?_⟩
        · rw [h2, List.map_map]
          rfl
        · rw [List.length_map]
          omega
        · have sL : Same H2 (upd H2 L (.lst (ys.map V.int))) := same_new hL
          refine ⟨L, ys.map V.int, rfl, .inl ⟨SqL.of upd_same, fun T hT' => ?_⟩⟩
          have sT : Same (upd H2 L (.lst (ys.map V.int))) (upd (upd H2 L (.lst (ys.map V.int))) T (.tup (ys.map V.int))) := same_new hT'
          have sAll := (s2.trans sL).trans sT
          have eys : ys.map V.int = (elStep (elders (bs.take i)) row).map natV := sorted_one perm srt h3 (up_nodup (elStep_up _ _)) (fun x => (h6 x).trans (elStep_mem (fun b hb => by rw [hE]; exact hlt b hb) (elders_lt _) x).symm) (elStep_up _ _)
          refine ⟨R, us, _, rfl, rfl, sAll _ _ hRu, by rw [hus]; show i < 2 ^ 24; omega, same_upd ((sH.trans s2).trans (sL.trans sT)) hR, us ++ [.ref T], _, _, _, _, rfl, upd_same, ?_⟩
          have keep : ∀ b xs, upd (upd H2 L (.lst (ys.map V.int))) T (.tup (ys.map V.int)) b = some (.tup xs) → upd (upd (upd H2 L (.lst (ys.map V.int))) T (.tup (ys.map V.int))) R (.lst (us ++ [.ref T])) b = some (.tup xs) := tups_upd (sAll _ _ hRu) fun xs z => by cases z
          rw [elders_more hrow]
          refine ((hU.same sAll).mono keep).app (.cons ⟨T, rfl, ?_⟩ .nil)
          rw [← eys]
          exact keep _ _ upd_same
    · rintro σ H' ⟨sH, us, x0, y0, z0, u0, rfl, hRu, hU⟩
      have hbl : ws.length = bs.length := hT.len
      rw [hbl, List.take_length] at hU
      refine ⟨_, rfl, R, us, rfl, .inl ⟨SqL.of hRu, fun p hp => ?_⟩⟩
      exact k _ p us (sH.trans (same_new hp)) upd_same (hU.same (same_new hp))
end
end K57

set_option maxRecDepth 100000
set_option maxHeartbeats 4000000
namespace K57
open PySem PySem.Spec PyProof.Rows L2 Kw
def heirRow (es : List (List Nat)) (n c : Nat) : List Nat := (List.range n).filter fun h => (es.getD h []).contains c
def heirs (es : List (List Nat)) : List (List Nat) := (List.range es.length).map (heirRow es es.length)
theorem inV_nat (c : Nat) : ∀ l : List Nat, inV (natV c) (l.map natV) = l.contains c
  | [] => rfl
  | x :: r => by
    unfold inV
    rw [List.map_cons, List.any_cons, List.contains_cons]
    have ih := inV_nat c r
    unfold inV at ih
    rw [ih]
    congr 1
    show ((x : Int) == (c : Int)) = (c == x)
    rw [Bool.eq_iff_iff, beq_iff_eq, beq_iff_eq]
    omega
theorem flat_nats : ∀ l : List Nat, (l.map natV).all flatV = true
  | [] => rfl
  | _ :: r => by
    rw [List.map_cons, List.all_cons, flat_nats r]
    rfl
theorem heirRow_more (es : List (List Nat)) (n c i : Nat) (hi : i < n) : ((List.range n).take (i + 1)).filter (fun h => (es.getD h []).contains c) = ((List.range n).take i).filter (fun h => (es.getD h []).contains c) ++ (if (es.getD i []).contains c then [i] else []) := by
  rw [List.take_add_one, List.filter_append, List.getElem?_range hi, Option.toList_some]
  congr 1
  cases h : (es.getD i []).contains c with
  | true => rw [List.filter_cons_of_pos (by exact h)]; rfl
  | false => rw [List.filter_cons_of_neg (by show ¬ (es.getD i []).contains c = true; rw [h]; decide)]; rfl
/-- tuple(xs) -/
structure rTupOf (K : PySem.W.Frag) (xs : List V) (H : Hp) (Q : VK) : Prop where
  h : ∃ p ys, xs = [.ref p] ∧ ((SqL K H p ys ∧ ∀ l, H l = none → Q (.ref l) (upd H l (.tup ys))) ∨ (SqT K H p ys ∧ Q (.ref p) H))
theorem call_tup {X : Cx} : CallR X (.type "tuple") (rTupOf X.K) := fun pins s σ H vs us Q I r h => call_tuple_of pins s σ H vs us Q I r h.h
section
variable {P : Program} {w : World} {K : PySem.W.Frag} {mg : Str → Option Value} {base : Heap} {f : Addr} {fd : FuncData}
def spHeirs : Sp := fun vs H Q _ => ∃ (a : Addr) (ws : List V) (es : List (List Nat)), vs = [.ref a] ∧ H a = some (.tup ws) ∧ TupsAt H ws es ∧ es.length ≤ 12 ∧ ∀ H' p us, Same H H' → H' p = some (.tup us) → TupsAt H' us (heirs es) → Q (.ref p) H'
theorem sc_heirs : FnScope ["elders", "many", "c", "heir"] ["elders"] (defScope (top 27)) := ⟨rfl, rfl, rfl, by decide +kernel, rfl, by decide +kernel, by decide +kernel⟩
theorem ok_heirs (F : FnP K "heir_rows" 27 f fd) (B : Fr mg) : FnOk P w K mg base CX0 1 f fd ["elders"] spHeirs := by
  refine F.ok sc_heirs (fun vs H Q E h => ?_) (fun cdv A outer s H vs Q E hr h => ?_)
  · obtain ⟨a, ws, es, rfl, _⟩ := h
    rfl
  · obtain ⟨a, ws, es, rfl, hA, hT, h12, k⟩ := h
    refine ⟨_, PSs.nox (pss_cons (ps_set (i := 1) sc_heirs.nd rfl (Or.inr rfl) (pe_callB call_len_seq (by rfl) B.len PySem.boot_len (pa_cons (pv 0) pa_nil)))
      (pss_one (ps_ret (pe_callTy call_tuple_of (by rfl) B.tuple (by decide +kernel) (pa_cons
        (pe_lc (own := [("c", 2)]) (g := gName 2) (tt := tYes) rfl sc_heirs.nd (pi_range1 (by rfl) B.range (pa_cons (pv 1) pa_nil)) (blkOk_by (N := ["elders", "many", "c", "heir"]) (sc := defScope (top 27)) (by decide +kernel))
          (fun _ _ _ _ _ => pg_name (i := 2) sc_heirs.nd rfl (Or.inr rfl)) (fun _ _ _ _ _ => pts_nil)
          (fun _ _ _ _ _ => pe_callTy (T := "tuple") (r := rTupOf K) (call_tup (X := _)) (by rfl) B.tuple (by decide +kernel) (pa_cons
            (pe_lc (own := [("heir", 3)]) (g := gName 3) rfl sc_heirs.nd (pi_range1 (by rfl) B.range (pa_cons (pv 1) pa_nil)) (blkOk_by (by rfl))
              (fun _ _ _ _ _ => pg_name (i := 3) sc_heirs.nd rfl (Or.inl rfl)) (fun _ _ _ _ _ => pts_one (pt_cmpR (r := rIn K false) op_in_seq (pv 2) (pe_ix (r := rIxT K) ix_tup (pv 0) (pv 3) (fun _ _ => rfl)) (by rfl)))
              (fun _ _ _ _ _ => pv 3)) pa_nil))) pa_nil))))), ?_⟩
    have hbl : ws.length = es.length := hT.len
    refine ⟨_, rfl, a, ws, rfl, .inr (SqT.of hA), ?_⟩
    refine ⟨_, rfl, _, rfl, by omega, by omega, fun D hD => lc_range (n := ws.length) (fun i H2 => Same H H2 ∧ ∃ us, H2 D = some (.lst us) ∧ TupsAt H2 us ((heirs es).take i))
      ⟨same_new hD, [], upd_same, .nil⟩ ?_ ?_⟩
    · rintro i H2 hi ⟨s2, us, hDu, hU⟩
      have hlen : (heirs es).length = ws.length := by
        unfold heirs
        rw [List.length_map, List.length_range, hbl]
      have hrow : (heirs es)[i]? = some (heirRow es ws.length i) := by
        unfold heirs
        rw [List.getElem?_map, List.getElem?_range (by omega), hbl]
        rfl
      have husl : us.length = i := by
        rw [hU.len, List.length_take, hlen]
        omega
      refine ⟨rfl, _, rfl, _, rfl, by omega, by omega, fun D2 hD2 => lc_range (n := ws.length) (fun j H3 => Same H2 H3 ∧ H3 D2 = some (.lst ((((List.range ws.length).take j).filter fun h => (es.getD h []).contains i).map natV)))
        ⟨same_new hD2, upd_same⟩ ?_ ?_⟩
      · rintro j H3 hj ⟨s3, hD3⟩
        obtain ⟨l, hl⟩ : ∃ l, es[j]? = some l := ⟨_, List.getElem?_eq_getElem (by omega)⟩
        have hgd : es.getD j [] = l := by
          rw [List.getD_eq_getElem?_getD, hl]
          rfl
        obtain ⟨t, et, ht⟩ := hT.get hl
        have e0 : (0 : Int) + (i : Int) = (i : Int) := Int.zero_add _
        refine ⟨rfl, _, rfl, _, rfl, _, rfl, a, ws, (0 : Int) + (j : Int), _, rfl, rfl, SqT.of (s3 _ _ (s2 _ _ hA)), by rw [Int.zero_add]; exact atI_nat et, t, _, rfl, .inr (SqT.of (s3 _ _ (s2 _ _ ht))), rfl, flat_nats l, _, rfl, ?_⟩
        have ein : inV (.int ((0 : Int) + (i : Int))) (l.map natV) = l.contains i := by
          rw [e0]
          exact inV_nat i l
        show (if inV (.int ((0 : Int) + (i : Int))) (l.map natV) = true then _ else _)
        rw [ein]
        have hm := heirRow_more es ws.length i j hj
        rw [hgd] at hm
        cases hb : l.contains i with
        | true =>
          rw [hb, if_pos rfl] at hm
          rw [if_pos rfl]
          refine ⟨_, rfl, _, hD3, ?_, same_upd s3 hD2, ?_⟩
          · rw [List.length_map]
            refine Nat.lt_of_le_of_lt (List.length_filter_le _ _) ?_
            rw [List.length_take]
            show _ < 2 ^ 24
            omega
          · rw [hm, List.map_append, upd_same, Int.zero_add]
            rfl
        | false =>
          rw [hb, if_neg (by decide), List.append_nil] at hm
          rw [if_neg (by decide)]
          exact ⟨s3, by rw [hm]; exact hD3⟩
      · rintro H3 ⟨s3, hD3⟩
        rw [List.take_of_length_le (by rw [List.length_range]; exact Nat.le_refl _)] at hD3
        refine ⟨D2, _, rfl, .inl ⟨SqL.of hD3, fun T hT' => ?_⟩⟩
        have sT := s3.trans (same_new (o := .tup ((heirRow es ws.length i).map natV)) hT')
        refine ⟨us, sT _ _ hDu, by rw [husl]; show i < 2 ^ 24; omega, same_upd (s2.trans sT) hD, us ++ [.ref T], upd_same, ?_⟩
        have keep : ∀ b xs, upd H3 T (.tup ((heirRow es ws.length i).map natV)) b = some (.tup xs) → upd (upd H3 T (.tup ((heirRow es ws.length i).map natV))) D (.lst (us ++ [.ref T])) b = some (.tup xs) := tups_upd (sT _ _ hDu) fun xs z => by cases z
        rw [List.take_add_one, hrow, Option.toList_some]
        exact ((hU.same sT).mono keep).app (.cons ⟨T, rfl, keep _ _ upd_same⟩ .nil)
    · rintro H2 ⟨s2, us, hDu, hU⟩
      rw [List.take_of_length_le (by unfold heirs; rw [List.length_map, List.length_range, hbl]; exact Nat.le_refl _)] at hU
      refine ⟨D, us, rfl, .inl ⟨SqL.of hDu, fun p hp => ?_⟩⟩
      exact k _ p us (s2.trans (same_new hp)) upd_same (hU.same (same_new hp))
end
end K57

set_option maxRecDepth 100000
set_option maxHeartbeats 4000000
namespace PySem
open Sem (wp)
open AutoSeq1 (wpAny_loadPart')
theorem meets_enumerate_newV {v : Value} {o : Obj} {H : Heap → Prop} (B : Begins v o H) :
    Meets (Builtin.«enumerate.__new__» ⟨[.type "enumerate", v], []⟩) (fun _ R s => H s.heap ∧
      R (.ok (.ret (.ref (s.heap.push o).objs.size))) { s with heap := (s.heap.push o).push { cls := .type "enumerate", data := .fields #[.none, .bool false, .ref s.heap.objs.size, rawInt 0, .none, .none] } }) :=
  .of_wp fun prog w A R s h => by
    obtain ⟨hp, g, d, tk, os⟩ := s; obtain ⟨h1, h⟩ := h
    have hsub := sub_enumerate
    have q1 : ∀ {A' : Around} {E : Value → Shared → Prop} {Q : Value → Shared → Prop}, Q (.ref hp.objs.size) ⟨hp.push o, g, d, tk, os⟩ → wpAny (model prog w) A' (pyIter v) Q E ⟨hp, g, d, tk, os⟩ :=
      fun q => B.iter prog w _ _ ⟨hp, g, d, tk, os⟩ _ h1 q
    wp_walk using q1
    refine wpAny_stack_any fun st => wpAny_pure ?_
    split
    · rename_i c _ _ _ _ _
      cases (c == Value.type "enumerate")
      · wp_walk using q1
        exact ⟨_, rfl, h⟩
      · wp_walk using q1
        exact ⟨_, rfl, h⟩
    · wp_walk using q1
      exact ⟨_, rfl, h⟩
section
variable {prog : Program} {w : World} {A : Around} {E : Value → Shared → Prop} {s : Shared}
theorem call_enumerate_tuple {l : Addr} {items : Array Value} {Q : Value → Shared → Prop} (hL : s.heap.IsTuple l items)
    (h : ∀ h', IsEnum h' (s.heap.objs.size + 1) s.heap.objs.size 0 .none → h'.IsTupleIter s.heap.objs.size l 0 → h'.objs.size = s.heap.objs.size + 2 →
      (∀ b o, s.heap.get? b = some o → h'.get? b = some o) → Q (.ref (s.heap.objs.size + 1)) { s with heap := h' }) :
    wpAny (model prog w) A (call (.type "enumerate") [.ref l]) Q E s := by
  refine callType_new F.called_enumerate (by decide) (F.typeCall_enumerate_1 _) (F.newCall_enumerate_1 _) (fun obj => F.args_object_init_2 obj _) F.entry_enumerate_new
    (meets_enumerate_newV (begins_tuple l items)) ⟨hL, ?_⟩
  have hz : (s.heap.push { cls := .type "tuple_iterator", data := .fields #[.ref l, .int 0 0] }).objs.size = s.heap.objs.size + 1 := Heap.size_push ..
  show _ ∧ _
  rw [hz]
  have he : IsEnum ((s.heap.push { cls := .type "tuple_iterator", data := .fields #[.ref l, .int 0 0] }).push
      { cls := .type "enumerate", data := .fields #[.none, .bool false, .ref s.heap.objs.size, rawInt 0, .none, .none] }) (s.heap.objs.size + 1) s.heap.objs.size 0 .none := by
    have := Heap.get?_push_size (s.heap.push { cls := .type "tuple_iterator", data := .fields #[.ref l, .int 0 0] })
      (o := { cls := .type "enumerate", data := .fields #[.none, .bool false, .ref s.heap.objs.size, rawInt 0, .none, .none] }) rfl
    rw [hz] at this; exact this
  refine ⟨⟨_, he, rfl⟩, h _ he ⟨_, Heap.get?_push_of_some _ (Heap.get?_push_size _ rfl), rfl, rfl⟩ (by rw [Heap.size_push, hz]) fun b o x => Heap.get?_push_of_some _ (Heap.get?_push_of_some _ x)⟩
end
end PySem
namespace L2
open PySem PySem.Spec PyProof.Rows
/-- the tuple at a, each item in a new pair -/
def Itet (K : PySem.W.Frag) (a : Addr) : It :=
  ⟨fun i H => ∃ (xs : List V) (x : V), SqT K H a xs ∧ xs[i]? = some x, fun i H v H' => ∃ T x, v = .ref T ∧ H T = none ∧ H' = upd H T (.tup [.int (i : Nat), x]) ∧ ∀ xs, SqT K H a xs → xs[i]? = some x, fun i H => ∃ xs : List V, SqT K H a xs ∧ xs.length = i⟩
theorem turn_enumT {P : Program} {w : World} {K : PySem.W.Frag} {elts : List Expr} {kk : Nat} {tpos : Pos} (a e it : Addr) :
    Turn P w K (.Tuple elts kk tpos) (Itet K a) [e, it] e (fun i h => (∃ old, IsEnum h e it ((i : Nat) : Int) old) ∧ h.IsTupleIter it a i ∧ e ≠ it) where
  mem := by simp
  obj := fun i h st b hb => by
    obtain ⟨⟨old, he⟩, ⟨o, ho, hc, hd⟩, _⟩ := st
    have e' : b = e ∨ b = it := by simpa using hb
    rcases e' with z | z
    · rw [z]; exact ⟨_, he, fun v q => nomatch q⟩
    · rw [z]; exact ⟨o, ho, fun v q => by rw [hd] at q; cases q⟩
  keep := fun i h h' st k => let ⟨⟨old, he⟩, hi, hne⟩ := st; ⟨⟨old, k e (by simp) _ he⟩, hi.at fun o q => k it (by simp) o q, hne⟩
  item := by
    intro X hP hw hK hc i pins s σ H E I hf st hg
    subst hP hw hK
    obtain ⟨⟨old, he⟩, hit, hne⟩ := st
    obtain ⟨xs, x, hq, hx⟩ := hg
    obtain ⟨its, rv, p, hz⟩ := I.tuple hq
    obtain ⟨u, hu, ru⟩ := rv.get hx
    have hT0 : s.heap.IsTuple a its.toArray := p
    have hel : e < s.heap.objs.size := Heap.lt_size he
    have hil : it < s.heap.objs.size := by obtain ⟨_, q, _⟩ := hit; exact Heap.lt_size q
    have hea : e ≠ a := fun z => by
      obtain ⟨o, q1, q2, _⟩ := hT0
      rw [← z, he] at q1
      have q3 := Option.some.inj q1
      subst q3
      exact absurd (Value.type.inj q2) (by decide)
    have hai : a ≠ it := fun z => by
      obtain ⟨o, q1, q2, _⟩ := hT0
      obtain ⟨o', r1, r2, _⟩ := hit
      rw [z, r1] at q1
      have q3 := Option.some.inj q1
      subst q3
      rw [q2] at r2
      exact absurd (Value.type.inj r2) (by decide)
    have hii : i < its.toArray.size := by
      rw [List.size_toArray]
      exact (List.getElem?_eq_some_iff.mp hu).1
    refine wpAny_pyNext_enum_itemD (Draws.tuple (show X.A.in1.handled = none from I.ok.hd hc) it a hai its.toArray) he ⟨hit, hT0⟩ hii hne (by simp [hne, hea]) fun v h' tk hv ho hit' hT hsz hk => ?_
    obtain rfl : u = v := by
      have z : its.toArray[i]? = some u := by simpa using hu
      exact Option.some.inj (z.symm.trans hv)
    refine ⟨_, rfl, wpAny_letOwnedTupleGo_enum (s := { s with heap := h', toks := tk + 1 }) ho fun h'' he' sb => ?_⟩
    have hT2 : h''.get? s.heap.objs.size = some { cls := .type "tuple", data := .seq #[.int i tk, u] } := (sb.2 _ (Nat.ne_of_gt hel)).trans hT
    have new : ObjOk X.prog X.w (upd H s.heap.objs.size (.tup [.int (i : Nat), x])) h'' s.heap.objs.size (.tup [.int (i : Nat), x]) :=
      ⟨by show 2 ≤ sizeLine; decide, [.int i tk, u], .cons ⟨_, rfl⟩ (.cons ru .nil), ⟨_, hT2, rfl, _, rfl⟩⟩
    have I1 : Inv X pins σ (upd H s.heap.objs.size (.tup [.int (i : Nat), x])) { s with heap := h'', toks := tk + 1 } :=
      I.turnedNew (ch := [e, it]) (fun b ob hb q => (sb.2 b (fun z => hb (by simp [z]))).trans (hk b ob (fun z => hb (by simp [z])) (fun z => hb (by simp [z])) q)) hf (Nat.le_refl _) new
    refine ⟨.ref s.heap.objs.size, _, I1, rfl, ⟨_, x, rfl, I.hok.fresh (Nat.le_refl _), rfl, fun ys hy => by rw [I.tuple_inj hy hq]; exact hx⟩, ⟨⟨u, ?_⟩, hit'.1.at fun o q => (sb.2 it (Ne.symm hne)).trans q, hne⟩, fun b hb => ?_⟩
    · have e1 : ((i + 1 : Nat) : Int) = (i : Int) + 1 := by omega
      rw [e1]; exact he'
    · have hb' : b < s.heap.objs.size := by
        have e' : b = e ∨ b = it := by simpa using hb
        rcases e' with z | z
        · rw [z]; exact hel
        · rw [z]; exact hil
      rw [upd_ne (Nat.ne_of_lt hb')]
      exact (hf b hb).1
  done := by
    intro X hP hw hK hc i pins s σ H E I hf st hg
    subst hP hw hK
    obtain ⟨⟨old, he⟩, hit, hne⟩ := st
    obtain ⟨xs, hq, hx⟩ := hg
    obtain ⟨its, rv, p, hz⟩ := I.tuple hq
    have hT0 : s.heap.IsTuple a its.toArray := p
    obtain ⟨f0, f1, f2, f3, f4, f5⟩ := hf it (by simp)
    have hl := rv.length
    have hai : a ≠ it := fun z => by
      obtain ⟨o, q1, q2, _⟩ := hT0
      obtain ⟨o', r1, r2, _⟩ := hit
      rw [z, r1] at q1
      have q3 := Option.some.inj q1
      subst q3
      rw [q2] at r2
      exact absurd (Value.type.inj r2) (by decide)
    have hn : its.toArray.size = i := by
      rw [List.size_toArray]
      omega
    refine wpAny_pyNext_enum_endD (n := i) (it := it) (fp := [it, a]) (P := fun i v => its.toArray[i]? = some v) (St := fun i h => h.IsTupleIter it a i ∧ h.IsTuple a its.toArray) ?_ he ⟨hit, hT0⟩ fun h' eb => ⟨rfl, I.turned (t' := s.toks) (fun b o hb q => eb b o hb q) f0 f1 f3 f4 f5⟩
    have D := Draws.tuple (prog := X.prog) (w := X.w) (show X.A.in1.handled = none from I.ok.hd hc) it a hai its.toArray
    rw [hn] at D
    exact D
  self := fun A i s Q E st h => let ⟨⟨_, he⟩, _⟩ := st; wpAny_pyIter_enum he h
def iEnumT (K : PySem.W.Frag) (ta : TA) : TI := fun σ H R => ta σ H fun vs H1 => ∃ a xs, vs = [.ref a] ∧ SqT K H1 a xs ∧ R (Itet K a) H1
theorem pi_enumT {X : Cx} {e : Expr} {ta : TA} {p pos tpos : Pos} {elts : List Expr} {kk : Nat} (hg : Gl X "enumerate") (hm : X.mg "enumerate" = none) (ha : PA X [e] ta) (hs : starEach [e] X.env = [(false, eval e X.env)] := by rfl) :
    PI X (.Tuple elts kk tpos) (.Call (.Name "enumerate" p) [e] [] pos) (iEnumT X.K ta) := by
  refine ⟨fun pins s σ H R I h => ?_⟩
  refine Call_ (ld_blt I hg hm boot_enumerate (PyProof.Rows.callWith_type1 (thn (ha.run pos pins s σ H _ I h) fun us s1 ⟨vs, H1, I1, r1, q1⟩ => ?_) hs rfl))
  obtain ⟨a, xs, ex, hq, q⟩ := q1
  subst ex
  cases r1 with
  | cons r rr =>
    cases rr
    cases r
    obtain ⟨its, rv, p', hz⟩ := I1.tuple hq
    refine call_enumerate_tuple (show s1.heap.IsTuple a its.toArray from p') fun h' he hit hsz hk => wpAny_pyIter_enum he ?_
    have I2 : Inv X pins σ H1 { s1 with heap := h' } := I1.kept (t' := s1.toks) hk
    refine ⟨s1.heap.objs.size + 1, [s1.heap.objs.size + 1, s1.heap.objs.size], _, _, H1, rfl, I2, turn_enumT a (s1.heap.objs.size + 1) s1.heap.objs.size, ⟨⟨.none, he⟩, hit, Nat.succ_ne_self _⟩, fun b hb => ?_, q⟩
    have e' : b = s1.heap.objs.size + 1 ∨ b = s1.heap.objs.size := by simpa using hb
    have hle : s1.heap.objs.size ≤ b := by
      rcases e' with z | z
      · rw [z]; exact Nat.le_add_right _ _
      · rw [z]; exact Nat.le_refl _
    exact I1.fpOk hle (I1.hok.fresh hle)
/-- the turns over a tuple that stands -/
theorem for_enumT {K : PySem.W.Frag} {a : Addr} {xs : List V} {g : TG} {tb : TS} {D : Ends} {σ : St} {H : Hp} (Pv : Nat → St → Hp → Prop) (h0 : Pv 0 σ H) (hl : ∀ i σ H, i ≤ xs.length → Pv i σ H → SqT K H a xs)
    (hs : ∀ i x σ H T, xs[i]? = some x → Pv i σ H → H T = none → g (.ref T) σ (upd H T (.tup [.int (i : Nat), x])) fun σ2 H2 => tb { D with nx := Pv (i + 1), ct := Pv (i + 1), bk := D.nx } σ2 H2) (hd : ∀ σ H, Pv xs.length σ H → D.nx σ H) :
    ∃ W : Nat → Nat → St → Hp → Prop, (∃ m, W 0 m σ H) ∧ ∀ i m σ H, W i m σ H →
      ((Itet K a).stop i H ∧ D.nx σ H) ∨ ((Itet K a).go i H ∧ ∃ N : St → Hp → Prop, (∀ σ' H', N σ' H' → ∃ m', m' < m ∧ W (i + 1) m' σ' H') ∧ ∀ x H', (Itet K a).yld i H x H' → g x σ H' fun σ2 H2 => tb { D with nx := N, ct := N, bk := D.nx } σ2 H2) := by
  refine ⟨fun i m σ H => m = xs.length - i ∧ i ≤ xs.length ∧ Pv i σ H, ⟨xs.length, by simp, Nat.zero_le _, h0⟩, ?_⟩
  rintro i m σ H ⟨rfl, hi, p⟩
  have q := hl i σ H hi p
  by_cases hlt : i < xs.length
  · refine .inr ⟨⟨xs, xs[i], q, by simp [hlt]⟩, Pv (i + 1), fun σ' H' p' => ⟨xs.length - (i + 1), by omega, rfl, hlt, p'⟩, fun x H' y => ?_⟩
    obtain ⟨T, z, e1, e2, e3, e4⟩ := y
    subst e1 e3
    exact hs i z σ H T (e4 xs q) p e2
  · have e : i = xs.length := by omega
    subst e
    exact .inl ⟨⟨xs, q, rfl⟩, hd σ H p⟩
theorem for_enumL {K : PySem.W.Frag} {a : Addr} {xs : List V} {g : TG} {tb : TS} {D : Ends} {σ : St} {H : Hp} (Pv : Nat → St → Hp → Prop) (h0 : Pv 0 σ H) (hl : ∀ i σ H, i ≤ xs.length → Pv i σ H → SqL K H a xs)
    (hs : ∀ i x σ H T, xs[i]? = some x → Pv i σ H → H T = none → g (.ref T) σ (upd H T (.tup [.int (i : Nat), x])) fun σ2 H2 => tb { D with nx := Pv (i + 1), ct := Pv (i + 1), bk := D.nx } σ2 H2) (hd : ∀ σ H, Pv xs.length σ H → D.nx σ H) :
    ∃ W : Nat → Nat → St → Hp → Prop, (∃ m, W 0 m σ H) ∧ ∀ i m σ H, W i m σ H →
      ((Ite K a).stop i H ∧ D.nx σ H) ∨ ((Ite K a).go i H ∧ ∃ N : St → Hp → Prop, (∀ σ' H', N σ' H' → ∃ m', m' < m ∧ W (i + 1) m' σ' H') ∧ ∀ x H', (Ite K a).yld i H x H' → g x σ H' fun σ2 H2 => tb { D with nx := N, ct := N, bk := D.nx } σ2 H2) := by
  refine ⟨fun i m σ H => m = xs.length - i ∧ i ≤ xs.length ∧ Pv i σ H, ⟨xs.length, by simp, Nat.zero_le _, h0⟩, ?_⟩
  rintro i m σ H ⟨rfl, hi, p⟩
  have q := hl i σ H hi p
  by_cases hlt : i < xs.length
  · refine .inr ⟨⟨xs, xs[i], q, by simp [hlt]⟩, Pv (i + 1), fun σ' H' p' => ⟨xs.length - (i + 1), by omega, rfl, hlt, p'⟩, fun x H' y => ?_⟩
    obtain ⟨T, z, e1, e2, e3, e4⟩ := y
    subst e1 e3
    exact hs i z σ H T (e4 xs q) p e2
  · have e : i = xs.length := by omega
    subst e
    exact .inl ⟨⟨xs, q, Nat.le_refl _⟩, hd σ H p⟩
end L2

set_option maxRecDepth 100000
set_option maxHeartbeats 4000000
namespace Kw
open PySem PySem.Spec PyProof.Rows L2
/-- the fields that such an __init__ leaves, the last first -/
def errF (ps : List Str) (vs : List V) : List (Str × V) := (ps.zip vs).reverse
/-- an error's __init__ that keeps all its parameters, one or more, in their order -/
def spR (C : Addr) (ps : List Str) : Sp := fun vs H Q _ => ∃ (a : Addr) (xs : List V), vs = .ref a :: xs ∧ xs.length = ps.length ∧ H a = some (exo a C none) ∧
  ∀ d H', H d = none → d ≠ a → H' a = some (exo a C (some d)) → H' d = some (exd d (errF ps xs)) → (∀ b o, b ≠ a → H b = some o → H' b = some o) → Q .non H'
/-- what a raise of it asks, once its arguments are read -/
theorem raise_q {C : Addr} {ps : List Str} {H1 : Hp} {vs : List V} {Q : XK} (hl : vs.length = ps.length) (hz : ps.length ≤ 1000) (q : ∀ d H', Same H1 H' → H1 d = none → H' d = some (.xd (errF ps vs)) → Q (.ref C) (some d) H') :
    vs.length ≤ 1000 ∧ ∀ a, H1 a = none → spR C ps (.ref a :: (vs ++ [])) (upd H1 a (exo a C none))
      (fun v H2 => v = .non ∧ ∃ (d : Addr) (fs : List (Str × V)), H2 a = some (exo a C (some d)) ∧ H2 d = some (exd d fs) ∧ H1 d = none ∧ Q (.ref C) (some d) (upd (del H2 a) d (.xd fs))) (fun _ _ _ => False) := by
  refine ⟨by omega, fun a ha => ⟨a, vs, by rw [List.append_nil], hl, upd_same, fun d H' hd hda e1 e2 s => ?_⟩⟩
  rw [upd_ne hda] at hd
  refine ⟨rfl, d, _, e1, e2, hd, q d _ (fun b o e => ?_) hd upd_same⟩
  have hba : b ≠ a := ne_of_none e ha
  rw [upd_ne (ne_of_none e hd), del_ne hba]
  exact s b o hba (by rw [upd_ne hba]; exact e)
/-- the facts of an own error class -/
structure ErrX (K : PySem.W.Frag) (mg : Str → Option Value) (x : Str) (ps : List Str) (C fI : Addr) : Prop where
  oex : OexC K C
  ini : PySem.W.findIn K (.ref C) "__init__" = some (some (.ref fI))
  inT : PySem.W.typeIn K (.ref fI) = some (.type "function")
  no : ∀ p ∈ ps, PySem.W.findIn K (.ref C) p = some none
  mg : mg x = some (.ref C)
theorem upB {H : Hp} {a b : Addr} {o u : HO} (h : b ≠ a) (e : H b = some o) : upd H a u b = some o := by rw [upd_ne h]; exact e
end Kw

set_option maxRecDepth 100000
set_option maxHeartbeats 4000000
namespace K57
open PySem PySem.Spec PyProof.Rows L2 Kw
def inClass (st : Stmt) (j : Nat) : Stmt := match st with
  | .ClassDef (body := b) .. => b.getD j (.Pass ⟨0, 0, 0, 0⟩)
  | _ => .Pass ⟨0, 0, 0, 0⟩
abbrev FnM (K : PySem.W.Frag) (x qual : Str) (st : Stmt) (f : Addr) (fd : FuncData) : Prop := FunD K x qual (defArgs st) (defBody st) (defScope st) [] [] f fd
section
variable {P : Program} {w : World} {K : PySem.W.Frag} {mg : Str → Option Value} {base : Heap} {f C : Addr} {fd : FuncData}
theorem sc_badWorld : FnScope ["self", "index", "what"] ["self", "index", "what"] (defScope (inClass (top 3) 0)) := ⟨rfl, rfl, rfl, by decide +kernel, rfl, by decide +kernel, by decide +kernel⟩
theorem ok_badWorld (F : FnM K "__init__" "BadWorld.__init__" (inClass (top 3) 0) f fd) (T : ErrX K mg "BadWorld" ["index", "what"] C f) : FnOk P w K mg base CX0 1 f fd ["self", "index", "what"] (spR C ["index", "what"]) ∧ Binds K fd ["self", "index", "what"] [] := by
  refine ⟨F.ok sc_badWorld (fun vs H Q E h => ?_) (fun cdv A outer s H vs Q E hr h => ?_), F.bindsN fun _ _ _ _ _ _ us hl => match us, hl with | [_, _, _], _ => rfl⟩
  · obtain ⟨a, xs, rfl, hl, _⟩ := h
    exact congrArg Nat.succ hl
  · obtain ⟨a, xs, rfl, hl, ha, k⟩ := h
    match xs, hl with
    | [x1, x2], _ =>
      refine ⟨_, PSs.nox (pss_cons (ps_ost (pv 0) (pv 1)) (pss_one (ps_ost (pv 0) (pv 2)))), ?_⟩
      refine ⟨_, rfl, _, rfl, a, C, rfl, T.oex, T.no _ (List.mem_of_getElem? (i := 0) rfl), .inl ⟨ha, fun dx hd ne => ?_⟩⟩
      have A1 := @upd_same (upd H dx (exd dx [("index", x1)])) a (exo a C (some dx))
      have D1 : upd (upd H dx (exd dx [("index", x1)])) a (exo a C (some dx)) dx = some (exd dx [("index", x1)]) := upB ne upd_same
      have B1 : ∀ b o, b ≠ a → H b = some o → upd (upd H dx (exd dx [("index", x1)])) a (exo a C (some dx)) b = some o := fun b o hb e => upB hb (upB (ne_of_none e hd) e)
      generalize hG1 : upd (upd H dx (exd dx [("index", x1)])) a (exo a C (some dx)) = G1 at A1 D1 B1 ⊢
      refine ⟨_, rfl, _, rfl, a, C, rfl, T.oex, T.no _ (List.mem_of_getElem? (i := 1) rfl), .inr ⟨dx, [("index", x1)], A1, D1, (by show 1 ≤ 900; decide), ?_⟩⟩
      exact k dx _ hd ne (upB ne.symm A1) upd_same fun b o hb e => upB (ne_of_none e hd) (B1 b o hb e)
end
end K57

set_option maxRecDepth 100000
set_option maxHeartbeats 4000000
namespace Kw
open PySem PySem.Spec PyProof.Rows L2
/-- one rule or another, for a place where either kind of thing may stand -/
theorem pg_or {X : Cx} {tg : Expr} {t1 t2 : TG} (h1 : PG X tg t1) (h2 : PG X tg t2) : PG X tg (fun v σ H Q => t1 v σ H Q ∨ t2 v σ H Q) :=
  ⟨fun pins s σ H v u Q I r h => h.elim (h1.run pins s σ H v u Q I r) (h2.run pins s σ H v u Q I r)⟩
theorem pi_or {X : Cx} {tg e : Expr} {w1 w2 : TI} (h1 : PI X tg e w1) (h2 : PI X tg e w2) : PI X tg e (fun σ H R => w1 σ H R ∨ w2 σ H R) :=
  ⟨fun pins s σ H R I h => h.elim (h1.run pins s σ H R I) (h2.run pins s σ H R I)⟩
theorem call_or {X : Cx} {f : Value} {r1 r2 : List V → Hp → VK → Prop} (h1 : CallR X f r1) (h2 : CallR X f r2) : CallR X f (fun vs H Q => r1 vs H Q ∨ r2 vs H Q) :=
  fun pins s σ H xs us Q I r h => h.elim (h1 pins s σ H xs us Q I r) (h2 pins s σ H xs us Q I r)
theorem pe_or {X : Cx} {e : Expr} {t1 t2 : TE} (h1 : PE X e t1) (h2 : PE X e t2) : PE X e (fun σ H Q => t1 σ H Q ∨ t2 σ H Q) :=
  ⟨fun pins s σ H Q I h => h.elim (h1.run pins s σ H Q I) (h2.run pins s σ H Q I)⟩
/-- sorted(t), t a list or a tuple of whole numbers -/
def rSortSI (K : PySem.W.Frag) : List V → Hp → VK → Prop := fun xs H Q => ∃ (a : Addr) (ks : List Int), xs = [.ref a] ∧ (SqL K H a (ks.map V.int) ∨ SqT K H a (ks.map V.int)) ∧
  ∀ (ys : List Int) (p : Addr), ys.Perm ks → ys.Pairwise (· ≤ ·) → H p = none → Q (.ref p) (upd H p (.lst (ys.map V.int)))
theorem call_sortedSI {X : Cx} : CallR X (.builtin "sorted") (rSortSI X.K) := by
  intro pins s σ H xs us Q I r q
  obtain ⟨a, ks, ex, hd, q⟩ := q
  subst ex
  rcases hd with hd | hd
  · exact cr_sortedI pins s σ H _ us Q I r ⟨a, ks, rfl, hd, q⟩
  · obtain ⟨u, eu, rx⟩ := vals1 r
    subst eu
    obtain rfl : u = Value.ref a := rx
    obtain ⟨its, rv, p, hz⟩ := I.tuple hd
    have hI : IntsAre its ks := rv.ints
    obtain ⟨o, ho, hc, n, hdt⟩ : s.heap.IsTuple a its.toArray := p
    have hzi : its.toArray.size ≤ sizeLine := by
      rw [List.size_toArray, ← rv.length]
      exact hz
    refine Calls.call_function_entry kind_sorted plain_sorted entry_sorted (args_sorted1 _) ?_
    unfold Builtin.«sorted»
    refine wpAny_bind (m := checkCount "sorted" 1 1 _) (wpAny_pure (wpAny_bind ?_))
    refine wpAny_collect_seq a (T := "tuple") (.inr rfl) ho hc hdt (hsz := hzi) fun h' hk => ?_
    have ea : its.toArray.toList = its := rfl
    rw [ea]
    have I1 : Inv X pins σ H { s with heap := h' } := I.kept (t' := s.toks) hk
    have hZ : its.length ≤ sizeLine := by
      rw [← rv.length]
      exact hz
    refine wpAny_bind (wpAny_newList ?_ hZ)
    have hoL : (h'.push (seqObj "list" its.toArray 0)).get? h'.objs.size = some (seqObj "list" its.toArray 0) := Heap.get?_push_size _ rfl
    show wpAny _ _ _ _ _ { s with heap := h'.push (seqObj "list" its.toArray 0) }
    refine wpAny_bind (wpAny_holding (wpAny_call_entry slot_list_sort ⟨_, hoL, rfl⟩ entry_list_sort ?_ (args_list_sort _)))
    refine SrtO.list_sort_ord SrtO.swo_int hoL hZ (fun h2 => SrtO.ints_sortable hI h2) fun out g1 g2 => ⟨_, rfl, ?_⟩
    obtain ⟨k1, k2, k3⟩ := SrtO.ints_out hI g1 g2
    obtain ⟨e', he'⟩ := sortedHeap_at (vs := its) (out := out.toArray) hoL
    have hlen : ((out.map SrtO.iv).map V.int).length ≤ sizeLine := by
      rw [List.length_map, k2.length_eq, ← List.length_map (f := V.int)]
      exact hz
    refine wpAny_pure ⟨_, rfl, .ref h'.objs.size, upd H h'.objs.size (.lst ((out.map SrtO.iv).map V.int)), I1.laid (t' := s.toks) (fun b u e => ?_) (Nat.le_refl _)
      (show ObjOk X.prog X.w _ _ _ (.lst ((out.map SrtO.iv).map V.int)) from ⟨hlen, out, e', vals_of_ints k1, he'⟩), rfl, q _ _ k2 k3 (I1.hok.fresh (Nat.le_refl _))⟩
    have hb : b < h'.objs.size := Heap.lt_size e
    rw [sortedHeap_old (Nat.ne_of_lt hb) (by rw [size_push']; exact Nat.lt_succ_of_lt hb)]
    exact Heap.get?_push_of_some _ e
end Kw

set_option maxRecDepth 100000
set_option maxHeartbeats 4000000
namespace K57
open PySem PySem.Spec PyProof.Rows L2 Kw
/-- bases, own fields, own methods, as they were given -/
abbrev Ent := List Nat × Nat × List Nat
def sortN (l : List Nat) : List Nat := (List.range 6).filter fun m => l.contains m
/-- a right entry of class c -/
def EntryOk (H : Hp) (e : V) (c : Nat) (d : Ent) : Prop := ∃ a ab am, e = .ref a ∧ SeqAt H a [.ref ab, natV d.2.1, .ref am] ∧ SeqAt H ab (d.1.map natV) ∧ SeqAt H am (d.2.2.map natV) ∧
  (d.1.Nodup ∧ d.1.length ≤ 12 ∧ ∀ b ∈ d.1, b < c) ∧ d.2.1 ≤ 3 ∧ d.2.2.Nodup ∧ d.2.2.length ≤ 3 ∧ ∀ m ∈ d.2.2, m < 6
theorem EntryOk.same {H H' : Hp} {e : V} {c : Nat} {d : Ent} (h : EntryOk H e c d) (s : Same H H') : EntryOk H' e c d := by
  obtain ⟨a, ab, am, h1, h2, h3, h4, h5⟩ := h
  exact ⟨a, ab, am, h1, h2.same s, h3.same s, h4.same s, h5⟩
theorem EntryIs.same {H H' : Hp} {e : V} {c : Int} {o : Option Str} (h : EntryIs H e c o) (s : Same H H') : EntryIs H' e c o := by
  rcases h with ⟨t, h1, h2⟩ | ⟨a, xs, h1, h2, h3⟩ | ⟨a, b, g, m, rb, nb, tg, rm, nm, h1, h2, h3, h4, h5, h6⟩
  · exact .inl ⟨t, h1.same s, h2⟩
  · exact .inr (.inl ⟨a, xs, h1, h2.same s, h3⟩)
  · exact .inr (.inr ⟨a, b, g, m, rb, nb, tg, rm, nm, h1, h2.same s, h3.same s, h4.same s, h5.same s, h6⟩)
theorem intOf_nats (l : List Nat) : (l.map natV).map intOf = l.map fun (n : Nat) => (n : Int) := by
  rw [List.map_map]
  rfl
theorem nodup_cast {l : List Nat} (h : l.Nodup) : (l.map fun (n : Nat) => (n : Int)).Nodup := by
  refine List.pairwise_map.mpr (h.imp fun z => ?_)
  intro e
  exact z (by omega)
theorem unlike_nats {l : List Nat} {m : Nat} (hn : l.Nodup) (hb : ∀ b ∈ l, b < m) : unlikeB (m : Int) (l.map natV) = true := by
  unfold unlikeB
  rw [intOf_nats, decide_eq_true (nodup_cast hn), Bool.and_true, List.all_eq_true]
  intro x hx
  obtain ⟨b, h1, rfl⟩ := List.mem_map.mp hx
  have := hb b h1
  show wholeB (.int 0) (.int ((m : Int) - 1)) (.int (b : Int)) = true
  unfold wholeB inLo inHi
  simp only [Bool.and_eq_true, decide_eq_true_eq]
  omega
theorem nats_ty {H : Hp} (l : List Nat) : ∀ y ∈ l.map natV, ∃ t, Ty0 H y t := fun y hy => by
  obtain ⟨b, h1, rfl⟩ := List.mem_map.mp hy
  exact ⟨_, .int _⟩
theorem EntryOk.is {H : Hp} {e : V} {c : Nat} {d : Ent} (h : EntryOk H e c d) : EntryIs H e (c : Int) none := by
  obtain ⟨a, ab, am, rfl, h2, h3, h4, ⟨h5, h6, h7⟩, h8, h9, h10, h11⟩ := h
  refine .inr (.inr ⟨a, .ref ab, natV d.2.1, .ref am, true, d.1.length, _, true, d.2.2.length, rfl, h2, .inr ⟨ab, _, rfl, h3, by rw [List.length_map]; omega, nats_ty _, (unlike_nats h5 h7).symm, by rw [List.length_map]⟩, .int _, .inr ⟨am, _, rfl, h4, by rw [List.length_map]; omega, nats_ty _, (unlike_nats (m := 6) h9 h11).symm, by rw [List.length_map]⟩, ?_⟩)
  have hw : wholeB (.int 0) (.int 3) (natV d.2.1) = true := by
    show wholeB (.int 0) (.int 3) (.int (d.2.1 : Int)) = true
    unfold wholeB inLo inHi
    simp only [Bool.and_eq_true, decide_eq_true_eq]
    omega
  unfold entryWord
  rw [if_neg (by decide), hw, if_neg (by decide), if_neg (by decide), if_neg (by omega)]
theorem sortN_one {l : List Nat} (hn : l.Nodup) (hb : ∀ m ∈ l, m < 6) {ys : List Int} (p : ys.Perm (l.map fun (n : Nat) => (n : Int))) (hs : ys.Pairwise (· ≤ ·)) : ys.map V.int = (sortN l).map natV := by
  have up : (sortN l).Pairwise (· < ·) := List.Pairwise.filter _ List.pairwise_lt_range
  refine sorted_one p hs hn (up_nodup up) (fun x => ?_) up
  unfold sortN
  rw [List.mem_filter, List.mem_range]
  constructor
  · intro h
    exact ⟨hb x h, by simpa using h⟩
  · rintro ⟨_, h⟩
    simpa using h
/-- an entry as a world keeps it -/
def EntAt (H : Hp) (t : Addr) (d : Ent) : Prop := ∃ tb tm, H t = some (.tup [.ref tb, natV d.2.1, .ref tm]) ∧ H tb = some (.tup (d.1.map natV)) ∧ H tm = some (.tup ((sortN d.2.2).map natV))
def EntsAt (H : Hp) : List V → List Ent → Prop := Paired fun v d => ∃ t, v = .ref t ∧ EntAt H t d
def TupK (H H' : Hp) : Prop := ∀ b xs, H b = some (.tup xs) → H' b = some (.tup xs)
theorem EntAt.mono {H H' : Hp} {t : Addr} {d : Ent} (h : EntAt H t d) (k : TupK H H') : EntAt H' t d := by
  obtain ⟨tb, tm, h1, h2, h3⟩ := h
  exact ⟨tb, tm, k _ _ h1, k _ _ h2, k _ _ h3⟩
theorem EntsAt.mono {H H' : Hp} (k : TupK H H') : ∀ {vs : List V} {ds : List Ent}, EntsAt H vs ds → EntsAt H' vs ds
  | [], [], _ => .nil
  | _ :: _, _ :: _, .cons ⟨t, e, h⟩ r => .cons ⟨t, e, h.mono k⟩ (EntsAt.mono k r)
theorem EntsAt.len {H : Hp} {vs : List V} {ds : List Ent} (h : EntsAt H vs ds) : vs.length = ds.length := Paired.length h
theorem EntsAt.get {H : Hp} : ∀ {vs : List V} {ds : List Ent} {i : Nat} {d : Ent}, EntsAt H vs ds → ds[i]? = some d → ∃ t, vs[i]? = some (.ref t) ∧ EntAt H t d
  | [], [], _, _, _, h => by simp at h
  | _ :: _, _ :: _, 0, _, .cons ⟨t, e1, h⟩ _, e => by
    obtain rfl := Option.some.inj e
    exact ⟨t, by rw [e1]; rfl, h⟩
  | _ :: _, _ :: _, i + 1, _, .cons _ r, e => EntsAt.get (i := i) r e
theorem EntsAt.app {H : Hp} : ∀ {vs us : List V} {ls ms : List Ent}, EntsAt H vs ls → EntsAt H us ms → EntsAt H (vs ++ us) (ls ++ ms)
  | [], _, [], _, _, h => h
  | _ :: _, _, _ :: _, _, .cons h r, s => .cons h (EntsAt.app r s)
theorem Same.tupK {H H' : Hp} (s : Same H H') : TupK H H' := fun b xs e => s b _ e
/-- all but the object at p stays -/
def Oth (p : Addr) (H H' : Hp) : Prop := ∀ b o, b ≠ p → H b = some o → H' b = some o
theorem Oth.trans {p : Addr} {H H1 H2 : Hp} (a : Oth p H H1) (b : Oth p H1 H2) : Oth p H H2 := fun c o n e => b c o n (a c o n e)
theorem Oth.of {p : Addr} {H H1 : Hp} (s : Same H H1) : Oth p H H1 := fun c o _ e => s c o e
theorem Oth.upd {p : Addr} {H H1 : Hp} {o : HO} (s : Oth p H H1) : Oth p H (upd H1 p o) := fun c u n e => upB n (s c u n e)
theorem Oth.tupK {p : Addr} {H H' : Hp} {C dx : Addr} {fs : List (Str × V)} (s : Oth p H H') (h : H p = some (.ins C dx fs)) : TupK H H' := fun b xs e => s b _ (fun z => by
  rw [z, h] at e
  cases e) e
/-- a world as an object -/
def WorldFs (ac ab ao am ae ah : Addr) : List (Str × V) := [("classes", .ref ac), ("bases", .ref ab), ("owns", .ref ao), ("methods", .ref am), ("elders", .ref ae), ("heirs", .ref ah)]
def WorldAt (H : Hp) (p C : Addr) (ds : List Ent) : Prop := ∃ dx ac ab ao am ae ah cs bs ms es hs, H p = some (.ins C dx (WorldFs ac ab ao am ae ah)) ∧ H ac = some (.tup cs) ∧ EntsAt H cs ds ∧
  H ab = some (.tup bs) ∧ TupsAt H bs (ds.map (·.1)) ∧ H ao = some (.tup ((ds.map (·.2.1)).map natV)) ∧ H am = some (.tup ms) ∧ TupsAt H ms (ds.map fun d => sortN d.2.2) ∧
  H ae = some (.tup es) ∧ TupsAt H es (elders (ds.map (·.1))) ∧ H ah = some (.tup hs) ∧ TupsAt H hs (heirs (elders (ds.map (·.1))))
end K57

set_option maxRecDepth 100000
set_option maxHeartbeats 8000000
namespace K57
open PySem PySem.Spec PyProof.Rows L2 Kw
structure ClsWorld (K : PySem.W.Frag) (mg : Str → Option Value) (C : Addr) : Prop where
  cl : Cls K C
  no : ∀ f ∈ (["classes", "bases", "owns", "methods", "elders", "heirs"] : List Str), NoAttr K C f
section
variable {P : Program} {w : World} {K : PySem.W.Frag} {mg : Str → Option Value} {base : Heap} {f fS fW fU fE fL fH fB Cb C : Addr} {fd fdS fdW fdU fdE fdL fdH fdB : FuncData}
def spWorld (C Cb : Addr) : Sp := fun vs H Q E => ∃ (p dx : Addr) (x : V), vs = [.ref p, x] ∧ H p = some (.ins C dx []) ∧
  ((((∃ t, Ty0 H x t ∧ seqT t = false) ∨ ∃ a es, x = .ref a ∧ SeqAt H a es ∧ (es.length = 0 ∨ 12 < es.length)) ∧ ∀ d H', Same H H' → H' d = some (.xd (errF ["index", "what"] [.int 0, .str "many"])) → E (.ref Cb) (some d) H') ∨
   ∃ a es ds, x = .ref a ∧ SeqAt H a es ∧ es.length ≠ 0 ∧ es.length ≤ 12 ∧ ds.length ≤ es.length ∧ (∀ (i : Nat) (d : Ent), ds[i]? = some d → ∃ e, es[i]? = some e ∧ EntryOk H e i d) ∧
     ((∃ e word, es[ds.length]? = some e ∧ EntryIs H e (ds.length : Int) (some word) ∧ ∀ d H', Same H H' → H' d = some (.xd (errF ["index", "what"] [.int (ds.length : Int), .str word])) → E (.ref Cb) (some d) H') ∨
      (ds.length = es.length ∧ ∀ H', Oth p H H' → WorldAt H' p C ds → Q .non H')))
/-- enumerate over a list or a tuple that stands -/
theorem for_enumS {a : Addr} {xs : List V} {g : TG} {tb : TS} {D : Ends} {σ : L2.St} {H H0 : Hp} {j : Nat} (hj : σ[j]? = some (some (.ref a))) (hA : SeqAt H0 a xs) (s0 : Same H0 H) (Pv : Nat → L2.St → Hp → Prop) (h0 : Pv 0 σ H) (keep : ∀ i σ' H', Pv i σ' H' → Same H0 H')
    (hs : ∀ i x σ H T, xs[i]? = some x → Pv i σ H → H T = none → g (.ref T) σ (upd H T (.tup [.int (i : Nat), x])) fun σ2 H2 => tb { D with nx := Pv (i + 1), ct := Pv (i + 1), bk := D.nx } σ2 H2) (hd : ∀ σ H, Pv xs.length σ H → D.nx σ H) :
    tFor (fun σ H R => iEnum K (tCons (tVar j) tNil) σ H R ∨ iEnumT K (tCons (tVar j) tNil) σ H R) g tb D σ H := by
  rcases hA with hA | hA
  · exact .inl ⟨_, hj, a, xs, rfl, SqL.of (s0 _ _ hA), for_enumL Pv h0 (fun i σ H' _ h => SqL.of (keep i σ H' h _ _ hA)) hs hd⟩
  · exact .inr ⟨_, hj, a, xs, rfl, SqT.of (s0 _ _ hA), for_enumT Pv h0 (fun i σ H' _ h => SqT.of (keep i σ H' h _ _ hA)) hs hd⟩
theorem tup_q {H : Hp} {a : Addr} {xs : List V} {Q : VK} (hA : SeqAt H a xs) (q : ∀ p H', Same H H' → H' p = some (.tup xs) → Q (.ref p) H') :
    rTupOf K [V.ref a] H Q := by
  refine ⟨a, xs, rfl, ?_⟩
  rcases hA with hA | hA
  · exact .inl ⟨SqL.of hA, fun l hl => q l _ (same_new hl) upd_same⟩
  · exact .inr ⟨SqT.of hA, q a H (Same.refl H) hA⟩
/-- a column of the entries, as a new list -/
theorem col_q {x0 x1 x3 x4 x5 x6 x7 x8 : Option V} {R : Addr} {us : List V} {ds : List Ent} {H : Hp} {k : Int} {Q : VK} (ColP : Hp → V → Ent → Prop) (hmono : ∀ H H' v d, TupK H H' → ColP H v d → ColP H' v d)
    (hcol : ∀ H t d, EntAt H t d → ∃ xs v, H t = some (.tup xs) ∧ atI xs k = some v ∧ ColP H v d) (hR : H R = some (.lst us)) (hE : EntsAt H us ds) (h12 : ds.length ≤ 12)
    (q : ∀ D H' vs, Same H H' → H' D = some (.lst vs) → Paired (ColP H') vs ds → Q (.ref D) H') :
    tLc (iList K (tVar 2)) (gName 4) tYes (tOp (rIxT K) (tVar 4) (tC (.int k))) [4] [x0, x1, some (.ref R), x3, x4, x5, x6, x7, x8] H Q := by
  have hmonoP : ∀ {H H' : Hp}, TupK H H' → ∀ {vs : List V} {ds : List Ent}, Paired (ColP H) vs ds → Paired (ColP H') vs ds := fun kk => by
    intro vs ds h
    induction h with
    | nil => exact .nil
    | cons z _ ih => exact .cons (hmono _ _ _ _ kk z) ih
  have app1 : ∀ {H : Hp} {vs : List V} {ds : List Ent} {v : V} {d : Ent}, Paired (ColP H) vs ds → ColP H v d → Paired (ColP H) (vs ++ [v]) (ds ++ [d]) := fun h z => by
    induction h with
    | nil => exact .cons z .nil
    | cons y _ ih => exact .cons y ih
  refine ⟨_, rfl, R, rfl, ⟨_, SqL.of hR⟩, fun D hD => lc_list (K := K) (a := R) (xs := us) (fun i H2 => Same H H2 ∧ ∃ vs, H2 D = some (.lst vs) ∧ Paired (ColP H2) vs (ds.take i)) ⟨same_new hD, [], upd_same, .nil⟩ (fun i H2 _ h => SqL.of (h.1 _ _ hR)) ?_ ?_⟩
  · rintro i y H2 hi ⟨s2, vs, hDv, hP⟩
    have hil : i < ds.length := by
      rw [← hE.len]
      exact (List.getElem?_eq_some_iff.mp hi).1
    obtain ⟨d, hd⟩ : ∃ d, ds[i]? = some d := ⟨_, List.getElem?_eq_getElem hil⟩
    obtain ⟨t, et, ht⟩ := hE.get hd
    obtain rfl : V.ref t = y := Option.some.inj (et.symm.trans hi)
    obtain ⟨xs, v, h1, h2, h3⟩ := hcol H2 t d (ht.mono (Same.tupK s2))
    have hvl : vs.length = i := by
      rw [Paired.length hP, List.length_take]
      omega
    have kk : TupK H2 (upd H2 D (.lst (vs ++ [v]))) := tups_upd hDv fun xs z => by cases z
    refine ⟨rfl, _, rfl, t, xs, k, v, rfl, rfl, SqT.of h1, h2, vs, hDv, by (rw [hvl]; show i < 2 ^ 24; omega), same_upd s2 hD, vs ++ [v], upd_same, ?_⟩
    rw [List.take_add_one, hd, Option.toList_some]
    exact app1 (hmonoP kk hP) (hmono _ _ _ _ kk h3)
  · rintro H2 ⟨s2, vs, hDv, hP⟩
    rw [hE.len, List.take_length] at hP
    exact q D H2 vs s2 hDv hP
def ColB (H : Hp) (v : V) (d : Ent) : Prop := ∃ t, v = .ref t ∧ H t = some (.tup (d.1.map natV))
def ColO (_ : Hp) (v : V) (d : Ent) : Prop := v = natV d.2.1
def ColM (H : Hp) (v : V) (d : Ent) : Prop := ∃ t, v = .ref t ∧ H t = some (.tup ((sortN d.2.2).map natV))
theorem colB_tups {H : Hp} {vs : List V} {ds : List Ent} (h : Paired (ColB H) vs ds) : TupsAt H vs (ds.map (·.1)) := by
  induction h with
  | nil => exact .nil
  | cons z _ ih => exact .cons z ih
theorem colM_tups {H : Hp} {vs : List V} {ds : List Ent} (h : Paired (ColM H) vs ds) : TupsAt H vs (ds.map fun d => sortN d.2.2) := by
  induction h with
  | nil => exact .nil
  | cons z _ ih => exact .cons z ih
theorem colO_nats {H : Hp} {vs : List V} {ds : List Ent} (h : Paired (ColO H) vs ds) : vs = (ds.map (·.2.1)).map natV := by
  induction h with
  | nil => rfl
  | cons z _ ih => rw [z, ih]; rfl
/-- a reading kept as it is said -/
structure Box (p : Prop) : Prop where
  h : p
def tBox (t : TE) : TE := fun σ H Q => Box (t σ H Q)
theorem pe_box {X : Cx} {e : Expr} {t : TE} (h : PE X e t) : PE X e (tBox t) := ⟨fun pins s σ H Q I k => h.run pins s σ H Q I k.h⟩
theorem sc_world : FnScope ["self", "classes", "entries", "c", "entry", "what", "bases", "fields", "methods"] ["self", "classes"] (defScope (inClass (top 24) 0)) := ⟨rfl, rfl, rfl, by decide +kernel, rfl, by decide +kernel, by decide +kernel⟩
theorem ok_world (F : FnM K "__init__" "World.__init__" (inClass (top 24) 0) f fd) (B : Fr mg) (Z : Cst mg) (TC : ClsWorld K mg C) (FS : FnP K "is_sequence" 12 fS fdS) (mS : mg "is_sequence" = some (.ref fS)) (FW : FnDf K "is_whole" 13 [.non, .non] fW fdW) (mW : mg "is_whole" = some (.ref fW))
    (FU : FnP K "is_unlike_row" 14 fU fdU) (mU : mg "is_unlike_row" = some (.ref fU)) (FE : FnP K "entry_fault" 25 fE fdE) (mE : mg "entry_fault" = some (.ref fE)) (FL : FnP K "elder_rows" 26 fL fdL) (mL : mg "elder_rows" = some (.ref fL))
    (FH : FnP K "heir_rows" 27 fH fdH) (mH : mg "heir_rows" = some (.ref fH)) (FB : FnM K "__init__" "BadWorld.__init__" (inClass (top 3) 0) fB fdB) (TB : ErrX K mg "BadWorld" ["index", "what"] Cb fB) :
    FnOk P w K mg base (L2.CX P w) 4 f fd ["self", "classes"] (spWorld C Cb) := by
  have GS : FnOk P w K mg base CX0 1 fS fdS ["thing"] spIsSeq := ok_isSeq FS B
  have GE : FnOk P w K mg base CX0 3 fE fdE ["entry", "c"] spEntry := ok_entry FE B Z FS mS FW mW FU mU
  have GL : FnOk P w K mg base CX0 1 fL fdL ["bases"] spElders := ok_elders FL B
  have GH : FnOk P w K mg base CX0 1 fH fdH ["elders"] spHeirs := ok_heirs FH B
  obtain ⟨GB, bB⟩ : FnOk P w K mg base CX0 1 fB fdB ["self", "index", "what"] (spR Cb ["index", "what"]) ∧ Binds K fdB ["self", "index", "what"] [] := ok_badWorld FB TB
  have bS : L2.Binds K fdS ["thing"] [] := FS.bindsN fun _ _ _ _ _ _ us hl => match us, hl with | [_], _ => rfl
  have bE : L2.Binds K fdE ["entry", "c"] [] := FE.bindsN fun _ _ _ _ _ _ us hl => match us, hl with | [_, _], _ => rfl
  have bL : L2.Binds K fdL ["bases"] [] := FL.bindsN fun _ _ _ _ _ _ us hl => match us, hl with | [_], _ => rfl
  have bH : L2.Binds K fdH ["elders"] [] := FH.bindsN fun _ _ _ _ _ _ us hl => match us, hl with | [_], _ => rfl
  obtain ⟨tc, zc⟩ := Z.mc
  refine F.ok sc_world (fun vs H Q E h => ?_) (fun cdv A outer s H vs Q E hr h => ?_)
  · obtain ⟨p, dx, x, rfl, _⟩ := h
    rfl
  · obtain ⟨p, dx, x, rfl, hp, h⟩ := h
    refine ⟨_, (pss_cons (ps_if (PW.pt (pw_or (pt_not (pt_val (pe_call GS (hr.mono (by decide)) (by rfl) mS FS.kp bS .nil pass0 (pa_cons (pv 1) pa_nil)))) (pw_or (pt_cmpR op_eq (pe_callB call_len_seq (by rfl) B.len PySem.boot_len (pa_cons (pv 1) pa_nil)) pe_int (nomark _)) (pw_or1 (pt_cmpR op_gt (pe_callB call_len_seq (by rfl) B.len PySem.boot_len (pa_cons (pv 1) pa_nil)) (pe_glob (v := .int 12) (by rfl) zc ⟨_, rfl⟩) (nomark _))))))
        (pss_one (ps_raise rfl (takes_of rfl rfl rfl rfl) (pmk_oex TB.oex TB.ini TB.inT GB (hr.mono (by decide)) bB .nil pass0 (by rfl) TB.mg (pa_cons pe_int (pa_cons pe_str pa_nil))))) pss_nil)
      (pss_cons (ps_set (i := 2) sc_world.nd rfl (Or.inl rfl) (pe_lst pa_nil))
      (pss_cons (ps_for (passes_of rfl) rfl (pi_or (pi_enum (by rfl) B.enumerate (pa_cons (pv 1) pa_nil)) (pi_enumT (by rfl) B.enumerate (pa_cons (pv 1) pa_nil))) (pg_tup (by rfl) (pgs_cons (pg_name (i := 3) sc_world.nd rfl (Or.inl rfl)) (pgs_cons (pg_name (i := 4) sc_world.nd rfl (Or.inl rfl)) pgs_nil)))
        (pss_cons (ps_set (i := 5) sc_world.nd rfl (Or.inl rfl) (pe_call GE hr (by rfl) mE FE.kp bE .nil pass0 (pa_cons (pv 4) (pa_cons (pv 3) pa_nil))))
        (pss_cons (ps_if (pt_cmpR op_notN (pv 5) pe_non (nomark _)) (pss_one (ps_raise rfl (takes_of rfl rfl rfl rfl) (pmk_oex TB.oex TB.ini TB.inT GB (hr.mono (by decide)) bB .nil pass0 (by rfl) TB.mg (pa_cons (pv 3) (pa_cons (pv 5) pa_nil))))) pss_nil)
        (pss_cons (ps_asg (pv 4) (pg_or (pg_unl (by rfl) (pgs_cons (pg_name (i := 6) sc_world.nd rfl (Or.inl rfl)) (pgs_cons (pg_name (i := 7) sc_world.nd rfl (Or.inl rfl)) (pgs_cons (pg_name (i := 8) sc_world.nd rfl (Or.inl rfl)) pgs_nil)))) (pg_tup (by rfl) (pgs_cons (pg_name (i := 6) sc_world.nd rfl (Or.inl rfl)) (pgs_cons (pg_name (i := 7) sc_world.nd rfl (Or.inl rfl)) (pgs_cons (pg_name (i := 8) sc_world.nd rfl (Or.inl rfl)) pgs_nil))))))
        (pss_one (ps_expr (pe_bm PySem.F.plainAttrs_list PySem.F.slot_list_append PySem.F.type_list_append mt_append (pv 2) (pa_cons (pe_tup (pa_cons (pe_callTy (T := "tuple") (r := rTupOf K) (call_tup (X := _)) (by rfl) B.tuple (by decide +kernel) (pa_cons (pv 6) pa_nil)) (pa_cons (pv 7) (pa_cons (pe_callTy (T := "tuple") (r := rTupOf K) (call_tup (X := _)) (by rfl) B.tuple (by decide +kernel) (pa_cons (pe_callB call_sortedSI (by rfl) B.sorted (by decide +kernel) (pa_cons (pv 8) pa_nil)) pa_nil)) pa_nil)))) pa_nil))))))))
      (pss_cons (ps_fld (pv 0) (pe_callTy (T := "tuple") (r := rTupOf K) (call_tup (X := _)) (by rfl) B.tuple (by decide +kernel) (pa_cons (pv 2) pa_nil)) rfl)
      (pss_cons (ps_fld (pv 0) (pe_callTy (T := "tuple") (r := rTupOf K) (call_tup (X := _)) (by rfl) B.tuple (by decide +kernel) (pa_cons (pe_box <| pe_lc (own := [("entry", 4)]) (g := gName 4) (tt := tYes) rfl sc_world.nd (pi_list (pv 2)) (blkOk_by (by rfl)) (fun _ _ _ _ _ => pg_name (i := 4) sc_world.nd rfl (Or.inl rfl)) (fun _ _ _ _ _ => pts_nil) (fun _ _ _ _ _ => pe_ix (r := rIxT K) ix_tup (pv 4) pe_int (fun _ _ => rfl))) pa_nil)) rfl)
      (pss_cons (ps_fld (pv 0) (pe_callTy (T := "tuple") (r := rTupOf K) (call_tup (X := _)) (by rfl) B.tuple (by decide +kernel) (pa_cons (pe_box <| pe_lc (own := [("entry", 4)]) (g := gName 4) (tt := tYes) rfl sc_world.nd (pi_list (pv 2)) (blkOk_by (by rfl)) (fun _ _ _ _ _ => pg_name (i := 4) sc_world.nd rfl (Or.inl rfl)) (fun _ _ _ _ _ => pts_nil) (fun _ _ _ _ _ => pe_ix (r := rIxT K) ix_tup (pv 4) pe_int (fun _ _ => rfl))) pa_nil)) rfl)
      (pss_cons (ps_fld (pv 0) (pe_callTy (T := "tuple") (r := rTupOf K) (call_tup (X := _)) (by rfl) B.tuple (by decide +kernel) (pa_cons (pe_box <| pe_lc (own := [("entry", 4)]) (g := gName 4) (tt := tYes) rfl sc_world.nd (pi_list (pv 2)) (blkOk_by (by rfl)) (fun _ _ _ _ _ => pg_name (i := 4) sc_world.nd rfl (Or.inl rfl)) (fun _ _ _ _ _ => pts_nil) (fun _ _ _ _ _ => pe_ix (r := rIxT K) ix_tup (pv 4) pe_int (fun _ _ => rfl))) pa_nil)) rfl)
      (pss_cons (ps_fld (pv 0) (pe_call GL (hr.mono (by decide)) (by rfl) mL FL.kp bL .nil pass0 (pa_cons (pe_fld (pv 0) rfl) pa_nil)) rfl)
      (pss_one (ps_fld (pv 0) (pe_call GH (hr.mono (by decide)) (by rfl) mH FH.kp bH .nil pass0 (pa_cons (pe_fld (pv 0) rfl) pa_nil)) rfl)))))))))), ?_⟩
    rcases h with ⟨h, k⟩ | ⟨a, es, ds, rfl, hA, hn0, hn12, hdl, hok, h⟩
    · rcases h with ⟨t, ty, hs⟩ | ⟨a, es, rfl, hA, hlen⟩
      · refine ⟨_, rfl, x, t, rfl, ty, fun H1 s1 => ⟨_, rfl, ?_⟩⟩
        rw [hs]
        exact iteT (raise_q rfl (by decide) fun d H' s2 _ e => k d H' (s1.trans s2) e)
      · obtain ⟨t, ty, hseq⟩ := hA.ty
        refine ⟨_, rfl, _, t, rfl, ty, fun H1 s1 => ⟨_, rfl, ?_⟩⟩
        rw [hseq]
        refine iteF ⟨_, rfl, a, es, rfl, (hA.same s1).sq, rfl, _, rfl, ?_⟩
        by_cases q : es.length = 0
        · have z : decide (V.int (es.length : Int) = V.int 0) = true := decide_eq_true (by rw [q]; rfl)
          rw [z]
          exact iteT (raise_q rfl (by decide) fun d H' s2 _ e => k d H' (s1.trans s2) e)
        · have z : decide (V.int (es.length : Int) = V.int 0) = false := decide_eq_false fun e => q (by have := V.int.inj e; omega)
          rw [z]
          refine iteF ⟨_, rfl, a, es, rfl, (hA.same s1).sq, _, _, rfl, rfl, _, rfl, ?_⟩
          rw [decide_eq_true (show (12 : Int) < (es.length : Int) by omega)]
          exact iteT (raise_q rfl (by decide) fun d H' s2 _ e => k d H' (s1.trans s2) e)
    · obtain ⟨t, ty, hseq⟩ := hA.ty
      refine ⟨_, rfl, _, t, rfl, ty, fun H1 s1 => ⟨_, rfl, ?_⟩⟩
      rw [hseq]
      refine iteF ⟨_, rfl, a, es, rfl, (hA.same s1).sq, rfl, _, rfl, ?_⟩
      rw [decide_eq_false (show ¬ V.int (es.length : Int) = V.int 0 from fun e => hn0 (by have := V.int.inj e; omega))]
      refine iteF ⟨_, rfl, a, es, rfl, (hA.same s1).sq, _, _, rfl, rfl, _, rfl, ?_⟩
      rw [decide_eq_false (show ¬ (12 : Int) < (es.length : Int) by omega)]
      refine iteF ⟨by decide, fun R hR => ?_⟩
      have hRH : H R = none := s1.free hR
      have sR : Same H (upd H1 R (.lst [])) := s1.trans (same_new hR)
      refine for_enumS (K := K) (a := a) (xs := es) rfl hA sR (fun i σ H' => Same H H' ∧ i ≤ ds.length ∧ ∃ us x3 x4 x5 x6 x7 x8, σ = [some (.ref p), some (.ref a), some (.ref R), x3, x4, x5, x6, x7, x8] ∧ H' R = some (.lst us) ∧ EntsAt H' us (ds.take i))
        ⟨sR, Nat.zero_le _, [], none, none, none, none, none, none, rfl, upd_same, .nil⟩ (fun i σ H' h => h.1) ?_ ?_
      · rintro i e σ H' T hi ⟨sH, hid, us, x3, x4, x5, x6, x7, x8, rfl, hRu, hE⟩ hT
        have hil : i < es.length := (List.getElem?_eq_some_iff.mp hi).1
        have sT : Same H' (upd H' T (.tup [.int (i : Nat), e])) := same_new hT
        refine ⟨T, _, rfl, SqT.of upd_same, rfl, _, _, rfl, _, _, rfl, rfl, ?_⟩
        generalize hG : upd H' T (.tup [.int (i : Nat), e]) = G at sT ⊢
        by_cases hd : i < ds.length
        · obtain ⟨d, hdi⟩ : ∃ d, ds[i]? = some d := ⟨_, List.getElem?_eq_getElem hd⟩
          obtain ⟨e', he', hok1⟩ := hok i d hdi
          obtain rfl : e = e' := Option.some.inj (hi.symm.trans he')
          have hokG := hok1.same (sH.trans sT)
          refine ⟨_, rfl, _, rfl, e, (i : Int), none, rfl, hokG.is, fun H2 s2 => ?_⟩
          have hok2 := hokG.same s2
          obtain ⟨ae, ab, am, rfl, hs, hb, hm, ⟨hb1, hb2, hb3⟩, hf, hm1, hm2, hm3⟩ := hok2
          have hRu2 : H2 R = some (.lst us) := s2 _ _ (sT _ _ hRu)
          have hE2 : EntsAt H2 us (ds.take i) := hE.mono (Same.tupK (Same.trans sT s2))
          have sH2 : Same H H2 := (sH.trans sT).trans s2
          refine ⟨_, rfl, rfl, _, rfl, iteF ?_⟩
          refine ⟨_, rfl, ?_⟩
          rcases hs with hs | hs
          case' inl => refine .inl ⟨ae, _, rfl, SqL.of hs, rfl, _, _, rfl, _, _, rfl, _, _, rfl, rfl, ?_⟩
          case' inr => refine .inr ⟨ae, _, rfl, SqT.of hs, rfl, _, _, rfl, _, _, rfl, _, _, rfl, rfl, ?_⟩
          all_goals
            refine ⟨_, rfl, .inl ⟨rfl, _, SqL.of hRu2⟩, _, rfl, ?_⟩
            refine tup_q hb fun tb H3 s3 hb' => ⟨_, rfl, _, rfl, am, d.2.2.map (fun (n : Nat) => (n : Int)), rfl, ?_, fun ys L perm srt hL => ?_⟩
            · have z := (hm.same s3).sq (K := K)
              rw [List.map_map]
              exact z
            · refine tup_q (.inl upd_same) fun tm H4 s4 hm' => ⟨by (show 3 ≤ sizeLine); decide, fun tt htt => ?_⟩
              have eys := sortN_one hm1 hm3 perm srt
              rw [eys] at hm'
              have sL := same_new (o := .lst (ys.map V.int)) hL
              have s34 : Same H3 H4 := sL.trans s4
              have s24 : Same H2 H4 := s3.trans s34
              have st := same_new (o := .tup [.ref tb, natV d.2.1, .ref tm]) htt
              have sA := s24.trans st
              refine ⟨R, us, _, rfl, rfl, sA _ _ hRu2, ?_, same_upd (sH2.trans sA) hRH, by omega, us ++ [.ref tt], _, _, _, _, _, _, rfl, upd_same, ?_⟩
              · rw [hE2.len, List.length_take]
                show _ < 2 ^ 24
                omega
              · have keep : TupK (upd H4 tt (.tup [.ref tb, natV d.2.1, .ref tm])) (upd (upd H4 tt (.tup [.ref tb, natV d.2.1, .ref tm])) R (.lst (us ++ [.ref tt]))) := tups_upd (sA _ _ hRu2) fun xs z => by cases z
                rw [List.take_add_one, hdi, Option.toList_some]
                exact (((hE2.mono (Same.tupK sA)).mono keep).app (.cons ⟨tt, rfl, tb, tm, keep _ _ upd_same, keep _ _ (st _ _ (s34 _ _ hb')), keep _ _ (st _ _ hm')⟩ .nil))
        · have hid' : i = ds.length := by omega
          subst hid'
          rcases h with ⟨e', word, he', his, k⟩ | ⟨hl, _⟩
          · obtain rfl : e = e' := Option.some.inj (hi.symm.trans he')
            refine ⟨_, rfl, _, rfl, e, (ds.length : Int), some word, rfl, his.same (sH.trans sT), fun H2 s2 => ?_⟩
            refine ⟨_, rfl, rfl, _, rfl, iteT ?_⟩
            exact ⟨_, rfl, _, rfl, raise_q rfl (by decide) fun d H' s3 _ e => k d H' (((sH.trans sT).trans s2).trans s3) e⟩
          · omega
      · rintro σ H0 ⟨sH, hid, us, x3, x4, x5, x6, x7, x8, rfl, hRu, hE⟩
        have hln : ds.length = es.length := by omega
        rcases h with ⟨e', word, he', _⟩ | ⟨_, k⟩
        · rw [hln, List.getElem?_eq_none (Nat.le_refl _)] at he'
          cases he'
        rw [List.take_of_length_le (by omega)] at hE
        have h12 : ds.length ≤ 12 := by omega
        have hp0 : H0 p = some (.ins C dx []) := sH _ _ hp
        have hRp : R ≠ p := fun z => by
          rw [z, hp0] at hRu
          cases hRu
        have O0 : Oth p H H0 := Oth.of sH
        -- classes
        refine ⟨_, rfl, ?_⟩
        refine tup_q (.inl hRu) fun pc G t1 hc => ⟨_, rfl, p, C, dx, [], rfl, t1 _ _ hp0, TC.cl, TC.no _ (List.mem_of_getElem? (i := 0) rfl), by simp, ?_⟩
        have O1 : Oth p H0 (upd G p (.ins C dx (putF "classes" (.ref pc) []))) := Oth.upd (Oth.of t1)
        have P1 : upd G p (.ins C dx (putF "classes" (.ref pc) [])) p = some (.ins C dx [("classes", .ref pc)]) := upd_same
        have C1 : upd G p (.ins C dx (putF "classes" (.ref pc) [])) pc = some (.tup us) := tups_upd (t1 _ _ hp0) (fun xs z => by cases z) _ _ hc
        generalize hN : upd G p (.ins C dx (putF "classes" (.ref pc) [])) = N1 at O1 P1 C1 ⊢
        have E1 : EntsAt N1 us ds := hE.mono (O1.tupK hp0)
        have R1 : N1 R = some (.lst us) := O1 _ _ hRp hRu
        clear hN t1 hc G
        -- bases
        refine Box.mk <| col_q (k := 0) ColB (fun H H' v d kk z => ?_) (fun H t d z => ?_) R1 E1 h12 fun D G0 bs t0 hD hB => ?_
        · obtain ⟨t, e1, e2⟩ := z
          exact ⟨t, e1, kk _ _ e2⟩
        · obtain ⟨tb, tm, z1, z2, z3⟩ := z
          exact ⟨_, _, z1, rfl, tb, rfl, z2⟩
        refine tup_q (.inl hD) fun pb G t1 hx => ⟨_, rfl, p, C, dx, _, rfl, t1 _ _ (t0 _ _ P1), TC.cl, TC.no _ (List.mem_of_getElem? (i := 1) rfl), by simp, ?_⟩
        have tt : Same N1 G := Same.trans t0 t1
        have O2 : Oth p N1 (upd G p (.ins C dx (putF "bases" (.ref pb) [("classes", .ref pc)]))) := Oth.upd (Oth.of tt)
        have P2 : upd G p (.ins C dx (putF "bases" (.ref pb) [("classes", .ref pc)])) p = some (.ins C dx [("classes", .ref pc), ("bases", .ref pb)]) := upd_same
        have X2 : upd G p (.ins C dx (putF "bases" (.ref pb) [("classes", .ref pc)])) pb = some (.tup bs) := tups_upd (tt _ _ P1) (fun xs z => by cases z) _ _ hx
        have kk2 : TupK G (upd G p (.ins C dx (putF "bases" (.ref pb) [("classes", .ref pc)]))) := tups_upd (tt _ _ P1) fun xs z => by cases z
        have T1 : TupsAt (upd G p (.ins C dx (putF "bases" (.ref pb) [("classes", .ref pc)]))) bs (ds.map (·.1)) := ((colB_tups hB).mono (Same.tupK t1)).mono kk2
        generalize hN : upd G p (.ins C dx (putF "bases" (.ref pb) [("classes", .ref pc)])) = N2 at O2 P2 X2 kk2 T1 ⊢
        have E2 : EntsAt N2 us ds := E1.mono (O2.tupK P1)
        have R2 : N2 R = some (.lst us) := O2 _ _ hRp R1
        clear hN kk2 tt t1 t0 hx hD hB G G0
        -- owns
        refine Box.mk <| col_q (k := 1) ColO (fun H H' v d kk z => z) (fun H t d z => ?_) R2 E2 h12 fun D G0 os t0 hD hB => ?_
        · obtain ⟨tb, tm, z1, z2, z3⟩ := z
          exact ⟨_, _, z1, rfl, rfl⟩
        refine tup_q (.inl hD) fun po G t1 hx => ⟨_, rfl, p, C, dx, _, rfl, t1 _ _ (t0 _ _ P2), TC.cl, TC.no _ (List.mem_of_getElem? (i := 2) rfl), by simp, ?_⟩
        have tt : Same N2 G := Same.trans t0 t1
        have O3 : Oth p N2 (upd G p (.ins C dx (putF "owns" (.ref po) [("classes", .ref pc), ("bases", .ref pb)]))) := Oth.upd (Oth.of tt)
        have P3 : upd G p (.ins C dx (putF "owns" (.ref po) [("classes", .ref pc), ("bases", .ref pb)])) p = some (.ins C dx [("classes", .ref pc), ("bases", .ref pb), ("owns", .ref po)]) := upd_same
        have X3 : upd G p (.ins C dx (putF "owns" (.ref po) [("classes", .ref pc), ("bases", .ref pb)])) po = some (.tup os) := tups_upd (tt _ _ P2) (fun xs z => by cases z) _ _ hx
        have kk3 : TupK G (upd G p (.ins C dx (putF "owns" (.ref po) [("classes", .ref pc), ("bases", .ref pb)]))) := tups_upd (tt _ _ P2) fun xs z => by cases z
        have T2 : os = (ds.map (·.2.1)).map natV := colO_nats hB
        generalize hN : upd G p (.ins C dx (putF "owns" (.ref po) [("classes", .ref pc), ("bases", .ref pb)])) = N3 at O3 P3 X3 kk3 ⊢
        have E3 : EntsAt N3 us ds := E2.mono (O3.tupK P2)
        have R3 : N3 R = some (.lst us) := O3 _ _ hRp R2
        clear hN kk3 tt t1 t0 hx hD hB G G0
        -- methods
        refine Box.mk <| col_q (k := 2) ColM (fun H H' v d kk z => ?_) (fun H t d z => ?_) R3 E3 h12 fun D G0 ms t0 hD hB => ?_
        · obtain ⟨t, e1, e2⟩ := z
          exact ⟨t, e1, kk _ _ e2⟩
        · obtain ⟨tb, tm, z1, z2, z3⟩ := z
          exact ⟨_, _, z1, rfl, tm, rfl, z3⟩
        refine tup_q (.inl hD) fun pm G t1 hx => ⟨_, rfl, p, C, dx, _, rfl, t1 _ _ (t0 _ _ P3), TC.cl, TC.no _ (List.mem_of_getElem? (i := 3) rfl), by simp, ?_⟩
        have tt : Same N3 G := Same.trans t0 t1
        have O4 : Oth p N3 (upd G p (.ins C dx (putF "methods" (.ref pm) [("classes", .ref pc), ("bases", .ref pb), ("owns", .ref po)]))) := Oth.upd (Oth.of tt)
        have P4 : upd G p (.ins C dx (putF "methods" (.ref pm) [("classes", .ref pc), ("bases", .ref pb), ("owns", .ref po)])) p = some (.ins C dx [("classes", .ref pc), ("bases", .ref pb), ("owns", .ref po), ("methods", .ref pm)]) := upd_same
        have X4 : upd G p (.ins C dx (putF "methods" (.ref pm) [("classes", .ref pc), ("bases", .ref pb), ("owns", .ref po)])) pm = some (.tup ms) := tups_upd (tt _ _ P3) (fun xs z => by cases z) _ _ hx
        have kk4 : TupK G (upd G p (.ins C dx (putF "methods" (.ref pm) [("classes", .ref pc), ("bases", .ref pb), ("owns", .ref po)]))) := tups_upd (tt _ _ P3) fun xs z => by cases z
        have T3 : TupsAt (upd G p (.ins C dx (putF "methods" (.ref pm) [("classes", .ref pc), ("bases", .ref pb), ("owns", .ref po)]))) ms (ds.map fun d => sortN d.2.2) := ((colM_tups hB).mono (Same.tupK t1)).mono kk4
        generalize hN : upd G p (.ins C dx (putF "methods" (.ref pm) [("classes", .ref pc), ("bases", .ref pb), ("owns", .ref po)])) = N4 at O4 P4 X4 kk4 T3 ⊢
        have E4 : EntsAt N4 us ds := E3.mono (O4.tupK P3)
        have R4 : N4 R = some (.lst us) := O4 _ _ hRp R3
        clear hN kk4 tt t1 t0 hx hD hB G G0
        -- elders
        have hv : validB (ds.map (·.1)) := fun c row hc b hb => by
          rw [List.getElem?_map] at hc
          obtain ⟨d, hd, rfl⟩ := Option.map_eq_some_iff.mp hc
          obtain ⟨e, _, _, _, _, _, _, _, _, ⟨_, _, z⟩, _⟩ := hok c d hd
          exact z b hb
        have hr12 : ∀ row ∈ ds.map (·.1), row.length ≤ 12 := fun row hrow => by
          obtain ⟨d, hd, rfl⟩ := List.mem_map.mp hrow
          obtain ⟨c, hc⟩ := List.mem_iff_getElem?.mp hd
          obtain ⟨e, _, _, _, _, _, _, _, _, ⟨_, z, _⟩, _⟩ := hok c d hc
          exact z
        have B4 : N4 pb = some (.tup bs) := O4.tupK P3 _ _ (O3.tupK P2 _ _ X2)
        have TB4 : TupsAt N4 bs (ds.map (·.1)) := (T1.mono (O3.tupK P2)).mono (O4.tupK P3)
        refine ⟨_, rfl, p, C, dx, _, _, rfl, P4, TC.cl, TC.no _ (List.mem_of_getElem? (i := 1) rfl), rfl, pb, bs, ds.map (·.1), rfl, B4, TB4, hv, by rw [List.length_map]; exact h12, hr12, fun G pe es' tt hx hU => ⟨_, rfl, p, C, dx, _, rfl, tt _ _ P4, TC.cl, TC.no _ (List.mem_of_getElem? (i := 4) rfl), by simp, ?_⟩⟩
        have O5 : Oth p N4 (upd G p (.ins C dx (putF "elders" (.ref pe) [("classes", .ref pc), ("bases", .ref pb), ("owns", .ref po), ("methods", .ref pm)]))) := Oth.upd (Oth.of tt)
        have P5 : upd G p (.ins C dx (putF "elders" (.ref pe) [("classes", .ref pc), ("bases", .ref pb), ("owns", .ref po), ("methods", .ref pm)])) p = some (.ins C dx [("classes", .ref pc), ("bases", .ref pb), ("owns", .ref po), ("methods", .ref pm), ("elders", .ref pe)]) := upd_same
        have X5 : upd G p (.ins C dx (putF "elders" (.ref pe) [("classes", .ref pc), ("bases", .ref pb), ("owns", .ref po), ("methods", .ref pm)])) pe = some (.tup es') := tups_upd (tt _ _ P4) (fun xs z => by cases z) _ _ hx
        have kk5 : TupK G (upd G p (.ins C dx (putF "elders" (.ref pe) [("classes", .ref pc), ("bases", .ref pb), ("owns", .ref po), ("methods", .ref pm)]))) := tups_upd (tt _ _ P4) fun xs z => by cases z
        have T4 : TupsAt (upd G p (.ins C dx (putF "elders" (.ref pe) [("classes", .ref pc), ("bases", .ref pb), ("owns", .ref po), ("methods", .ref pm)]))) es' (elders (ds.map (·.1))) := hU.mono kk5
        generalize hN : upd G p (.ins C dx (putF "elders" (.ref pe) [("classes", .ref pc), ("bases", .ref pb), ("owns", .ref po), ("methods", .ref pm)])) = N5 at O5 P5 X5 kk5 T4 ⊢
        clear hN kk5 tt hx hU G
        -- heirs
        refine ⟨_, rfl, p, C, dx, _, _, rfl, P5, TC.cl, TC.no _ (List.mem_of_getElem? (i := 4) rfl), rfl, pe, es', elders (ds.map (·.1)), rfl, X5, T4, by rw [elders_len, List.length_map]; exact h12, fun G ph hs tt hx hU => ⟨_, rfl, p, C, dx, _, rfl, tt _ _ P5, TC.cl, TC.no _ (List.mem_of_getElem? (i := 5) rfl), by simp, ?_⟩⟩
        have O6 : Oth p N5 (upd G p (.ins C dx (putF "heirs" (.ref ph) [("classes", .ref pc), ("bases", .ref pb), ("owns", .ref po), ("methods", .ref pm), ("elders", .ref pe)]))) := Oth.upd (Oth.of tt)
        have P6 : upd G p (.ins C dx (putF "heirs" (.ref ph) [("classes", .ref pc), ("bases", .ref pb), ("owns", .ref po), ("methods", .ref pm), ("elders", .ref pe)])) p = some (.ins C dx [("classes", .ref pc), ("bases", .ref pb), ("owns", .ref po), ("methods", .ref pm), ("elders", .ref pe), ("heirs", .ref ph)]) := upd_same
        have X6 : upd G p (.ins C dx (putF "heirs" (.ref ph) [("classes", .ref pc), ("bases", .ref pb), ("owns", .ref po), ("methods", .ref pm), ("elders", .ref pe)])) ph = some (.tup hs) := tups_upd (tt _ _ P5) (fun xs z => by cases z) _ _ hx
        have kk6 : TupK G (upd G p (.ins C dx (putF "heirs" (.ref ph) [("classes", .ref pc), ("bases", .ref pb), ("owns", .ref po), ("methods", .ref pm), ("elders", .ref pe)]))) := tups_upd (tt _ _ P5) fun xs z => by cases z
        have T5 : TupsAt (upd G p (.ins C dx (putF "heirs" (.ref ph) [("classes", .ref pc), ("bases", .ref pb), ("owns", .ref po), ("methods", .ref pm), ("elders", .ref pe)]))) hs (heirs (elders (ds.map (·.1)))) := hU.mono kk6
        generalize hN : upd G p (.ins C dx (putF "heirs" (.ref ph) [("classes", .ref pc), ("bases", .ref pb), ("owns", .ref po), ("methods", .ref pm), ("elders", .ref pe)])) = N6 at O6 P6 X6 kk6 T5 ⊢
        have k23 := O3.tupK P2
        have k34 := O4.tupK P3
        have k45 := O5.tupK P4
        have k56 := O6.tupK P5
        have k12 := O2.tupK P1
        have k16 : TupK N1 N6 := fun b xs e => k56 _ _ (k45 _ _ (k34 _ _ (k23 _ _ (k12 _ _ e))))
        have k26 : TupK N2 N6 := fun b xs e => k56 _ _ (k45 _ _ (k34 _ _ (k23 _ _ e)))
        have k36 : TupK N3 N6 := fun b xs e => k56 _ _ (k45 _ _ (k34 _ _ e))
        have k46 : TupK N4 N6 := fun b xs e => k56 _ _ (k45 _ _ e)
        exact k N6 ((((((O0.trans O1).trans O2).trans O3).trans O4).trans O5).trans O6) ⟨dx, pc, pb, po, pm, pe, ph, us, bs, ms, es', hs, P6, k16 _ _ C1, E1.mono k16, k26 _ _ X2, T1.mono k26, by rw [← T2]; exact k36 _ _ X3, k46 _ _ X4, T3.mono k46, k56 _ _ X5, T4.mono k56, X6, T5⟩
end
end K57

set_option maxRecDepth 100000
set_option maxHeartbeats 4000000
namespace K57
open PySem PySem.Spec PyProof.Rows L2 Kw
/-- the hand at p: its cells' list at q, the place, what is left of a great cell, the total -/
def HandAt (H : Hp) (p q : Addr) : Prop := ∃ (cs : List Int) (i r t : Int), H p = some (.lst [.ref q, .int i, .int r, .int t]) ∧ H q = some (.lst (cs.map V.int)) ∧ p ≠ q ∧
  (∀ c ∈ cs, 0 ≤ c) ∧ 0 ≤ i ∧ i ≤ (cs.length : Int) ∧ cs.length ≤ 63 ∧ 0 ≤ r ∧ 0 ≤ t ∧ t < 2147483549
def spHand (K : PySem.W.Frag) : Sp := fun vs H Q _ => ∃ (a : Addr) (ns : List Int), vs = [.ref a] ∧ SqL K H a (ns.map V.int) ∧ ns.length ≤ 63 ∧ ∀ p q H', Same H H' → H p = none → H q = none → HandAt H' p q → Q (.ref p) H'
def spMixed : Sp := fun vs H Q _ => ∃ n t : Int, vs = [.int n, .int t] ∧ 0 ≤ n ∧ n < 2147483600 ∧ 0 ≤ t ∧ t < 100 ∧ ∀ r : Int, 0 ≤ r → Q (.int r) H
def spTake : Sp := fun vs H Q _ => ∃ (p q : Addr) (m : Int), vs = [.ref p, .int m] ∧ 1 ≤ m ∧ m < 1073741824 ∧ HandAt H p q ∧ ∀ (r : Int) (H' : Hp), 0 ≤ r → r < m → HandAt H' p q → (∀ b, b ≠ p → H' b = H b) → Q (.int r) H'

theorem emod_in {a m : Int} (h : 0 < m) : 0 ≤ a % m ∧ a % m < m := ⟨Int.emod_nonneg _ (by omega), Int.emod_lt_of_pos _ h⟩
section
variable {P : Program} {w : World} {K : PySem.W.Frag} {mg : Str → Option Value} {base : Heap} {f : Addr} {fd : FuncData}
theorem scM : FnScope ["_law_number", "_law_turn", "_law_once", "_law_twice"] ["_law_number", "_law_turn"] (defScope (top 49)) := ⟨rfl, rfl, rfl, by decide +kernel, rfl, by decide +kernel, by decide +kernel⟩
theorem ok_mixed (F : FnP K "_law_mixed" 49 f fd) (gI : mg "int" = none) : FnOk P w K mg base CX0 1 f fd ["_law_number", "_law_turn"] spMixed := by
  refine F.ok scM (fun vs H Q E h => ?_) (fun cdv A outer s H vs Q E hr h => ?_)
  · obtain ⟨n, t, rfl, _⟩ := h
    rfl
  · obtain ⟨n, t, rfl, n0, n1, t0, t1, k⟩ := h
    refine ⟨_, PSs.nox (pss_cons (ps_set (i := 2) scM.nd rfl (Or.inl rfl) (pe_op op_mod (pe_callTy call_int1 (by rfl) gI PyProof.Rows.boot_int (pa_cons (pe_op op_add (pe_op op_add (pe_op op_mul (pv 0) pe_int) (pe_op op_mul (pv 1) pe_int)) pe_int) pa_nil)) pe_int))
      (pss_cons (ps_set (i := 3) scM.nd rfl (Or.inl rfl) (pe_op op_mod (pe_callTy call_int1 (by rfl) gI PyProof.Rows.boot_int (pa_cons (pe_op op_add (pe_op op_add (pe_op op_mul (pv 2) (pv 2)) (pe_op op_mul (pv 1) pe_int)) (pe_op op_fdiv (pv 2) pe_int)) pa_nil)) pe_int))
      (pss_one (ps_ret (pe_op op_fdiv (pe_callTy call_int1 (by rfl) gI PyProof.Rows.boot_int (pa_cons (pe_op op_mod (pe_callTy call_int1 (by rfl) gI PyProof.Rows.boot_int (pa_cons (pe_op op_add (pe_op op_mul (pv 3) pe_int) (pe_op op_fdiv (pv 2) pe_int)) pa_nil)) pe_int) pa_nil)) pe_int))))), ?_⟩
    refine ⟨_, rfl, _, _, rfl, rfl, .inr ⟨by decide, by decide⟩, _, rfl, _, _, rfl, rfl, .inr ⟨by decide, by decide⟩, _, _, rfl, rfl, _, _, rfl, rfl, .inl ⟨_, rfl, _, _, rfl, rfl, (by show (0 : Int) < 2147483399; decide), ?_⟩⟩
    have bo := emod_in (a := n * 48271 + t * 7919 + 30011) (m := 2147483399) (by decide)
    refine ⟨_, rfl, _, rfl, _, _, rfl, rfl, .inl ⟨by show (-(2 ^ 64) : Int) < (n * 48271 + t * 7919 + 30011) % 2147483399; omega, by show (n * 48271 + t * 7919 + 30011) % 2147483399 < (2 ^ 64 : Int); omega⟩, _, rfl, _, _, rfl, rfl, .inr ⟨by decide, by decide⟩, _, _, rfl, rfl, _, rfl, _, _, rfl, rfl, ⟨by decide, by decide⟩, _, _, rfl, rfl, .inl ⟨_, rfl, _, _, rfl, rfl, (by show (0 : Int) < 2147483629; decide), ?_⟩⟩
    refine ⟨_, rfl, _, _, rfl, rfl, .inr ⟨by decide, by decide⟩, _, rfl, _, _, rfl, rfl, ⟨by decide, by decide⟩, _, _, rfl, rfl, .inl ⟨_, rfl, _, _, rfl, rfl, (by show (0 : Int) < 2147483587; decide), .inl ⟨_, rfl, _, _, rfl, rfl, ⟨by decide, by decide⟩, ?_⟩⟩⟩
    exact k _ (Int.ediv_nonneg (emod_in (by decide)).1 (by decide))

theorem scH : FnScope ["_law_script", "_law_total", "_law_cells", "_law_cell"] ["_law_script"] (defScope (top 48)) := ⟨rfl, rfl, rfl, by decide +kernel, rfl, by decide +kernel, by decide +kernel⟩
theorem ok_hand (F : FnP K "_law_hand" 48 f fd) (gI : mg "int" = none) (gL : mg "len" = none) (gA : mg "abs" = none) : FnOk P w K mg base CX0 1 f fd ["_law_script"] (spHand K) := by
  refine F.ok scH (fun vs H Q E h => ?_) (fun cdv A outer s H vs Q E hr h => ?_)
  · obtain ⟨a, ns, rfl, _⟩ := h
    rfl
  · obtain ⟨a, ns, rfl, hS, hl, k⟩ := h
    refine ⟨_, PSs.nox (pss_cons (ps_set (i := 1) scH.nd rfl (Or.inl rfl) (pe_op op_add (pe_callB call_len_seq (by rfl) gL PySem.boot_len (pa_cons (pv 0) pa_nil)) pe_int))
      (pss_cons (ps_set (i := 2) scH.nd rfl (Or.inl rfl) (pe_lst pa_nil))
      (pss_cons (ps_for PassesOwn.never rfl (pi_list (pv 0)) (pg_name (i := 3) scH.nd rfl (Or.inl rfl))
        (pss_cons (ps_set (i := 1) scH.nd rfl (Or.inl rfl) (pe_op op_mod (pe_callTy call_int1 (by rfl) gI PyProof.Rows.boot_int (pa_cons (pe_op op_add (pe_op op_mul (pv 1) pe_int) (pe_callTy call_int1 (by rfl) gI PyProof.Rows.boot_int (pa_cons (pv 3) pa_nil))) pa_nil)) pe_int))
        (pss_one (ps_expr (pe_bm PySem.F.plainAttrs_list PySem.F.slot_list_append PySem.F.type_list_append mt_append (pv 2) (pa_cons (pe_callB call_abs (by rfl) gA PyProof.Rows.boot_abs (pa_cons (pe_callTy call_int1 (by rfl) gI PyProof.Rows.boot_int (pa_cons (pv 3) pa_nil)) pa_nil)) pa_nil))))))
      (pss_one (ps_ret (pe_lst (pa_cons (pv 2) (pa_cons pe_int (pa_cons pe_int (pa_cons (pv 1) pa_nil)))))))))), ?_⟩
    refine ⟨_, rfl, a, _, rfl, .inl hS, _, _, rfl, rfl, Nat.zero_le _, fun q hq => ?_⟩
    have sq : Same H (upd H q (.lst [])) := fun b o e => by
      rw [upd_ne (ne_of_none e hq)]
      exact e
    refine ⟨_, rfl, a, rfl, ⟨_, sq.seq hS⟩, for_list (K := K) (a := a) (xs := ns.map V.int) (fun i σ H' => ∃ (t : Int) (cs : List Int) (v : Option V), σ = [some (.ref a), some (.int t), some (.ref q), v] ∧ Same H H' ∧ H q = none ∧ H' q = some (.lst (cs.map V.int)) ∧ cs.length = i ∧ (∀ c ∈ cs, 0 ≤ c) ∧ 0 ≤ t ∧ t < 2147483549)
      ⟨_, [], none, rfl, sq, hq, upd_same, rfl, (fun c hc => by cases hc), ?_, ?_⟩ (fun i σ H' _ ⟨_, _, _, _, s, _⟩ => s.seq hS) ?_ ?_⟩
    · show (0 : Int) ≤ ((ns.map V.int).length : Int) + 37
      omega
    · show ((ns.map V.int).length : Int) + 37 < 2147483549
      rw [List.length_map]
      omega
    · rintro i y σ H' hi ⟨t, cs, v, rfl, s, hq0, hc, hln, h0, t0, t1⟩
      obtain ⟨u, rfl⟩ : ∃ u, y = V.int u := by
        rw [List.getElem?_map] at hi
        cases e : ns[i]? with
        | none =>
          rw [e] at hi
          cases hi
        | some u =>
          rw [e] at hi
          exact ⟨u, (Option.some.inj hi).symm⟩
      have hi63 : i < ns.length := by
        have z := (List.getElem?_eq_some_iff.mp hi).1
        rw [List.length_map] at z
        exact z
      refine ⟨_, rfl, _, _, rfl, rfl, .inr ⟨by decide, by decide⟩, _, rfl, .inl ⟨_, rfl, _, _, rfl, rfl, .inl ⟨_, rfl, _, _, rfl, rfl, (by show (0 : Int) < 2147483549; decide), ?_⟩⟩⟩
      have bt := emod_in (a := t * 1709 + u) (m := 2147483549) (by decide)
      refine ⟨_, rfl, .inl ⟨rfl, _, SqL.of hc⟩, _, rfl, .inl ⟨_, rfl, _, rfl, q, _, _, rfl, rfl, hc, ?_, ?_⟩⟩
      · rw [List.length_map]
        exact small1000 (by omega)
      · refine ⟨_, cs ++ [if u < 0 then -u else u], _, rfl, fun b o e => ?_, hq0, ?_, ?_, ?_, bt.1, bt.2⟩
        · rw [upd_ne (ne_of_none e hq0)]
          exact s b o e
        · rw [upd_same, List.map_append]
          rfl
        · rw [List.length_append, hln]
          rfl
        · intro c hc'
          rcases List.mem_append.mp hc' with z | z
          · exact h0 c z
          · rw [List.mem_singleton.mp z]
            split <;> omega
    · rintro σ H' ⟨t, cs, v, rfl, s, hq0, hc, hln, h0, t0, t1⟩
      refine ⟨_, rfl, _, rfl, (by show 4 ≤ sizeLine; decide), fun p hp => ?_⟩
      have npq : p ≠ q := fun z => by
        rw [z, hc] at hp
        cases hp
      have hln' : cs.length = ns.length := by
        rw [hln, List.length_map]
      refine k p q _ (fun b o e => ?_) (s.free hp) hq0 ⟨cs, 0, 0, t, upd_same, by rw [upd_ne npq.symm]; exact hc, npq, h0, Int.le_refl _, by omega, by omega, Int.le_refl _, t0, t1⟩
      rw [upd_ne (ne_of_none (s b o e) hp)]
      exact s b o e
end
theorem at4 {a b c d : V} : atI [a, b, c, d] 0 = some a ∧ atI [a, b, c, d] 1 = some b ∧ atI [a, b, c, d] 2 = some c ∧ atI [a, b, c, d] 3 = some d := ⟨rfl, rfl, rfl, rfl⟩
theorem vint {a b : Int} (h : decide (V.int a = V.int b) = true) : a = b := V.int.inj (of_decide_eq_true h)
theorem dec_t {c : Prop} [Decidable c] (h : decide c = true) : c := of_decide_eq_true h
theorem dec_f {c : Prop} [Decidable c] (h : ¬ decide c = true) : ¬ c := fun z => h (decide_eq_true z)
section
variable {P : Program} {w : World} {K : PySem.W.Frag} {mg : Str → Option Value} {base : Heap} {f fM : Addr} {fd fdM : FuncData}
theorem scT : FnScope ["_law_hand_here", "_law_many", "_law_cell", "_law_rest"] ["_law_hand_here", "_law_many"] (defScope (top 50)) := ⟨rfl, rfl, rfl, by decide +kernel, rfl, by decide +kernel, by decide +kernel⟩
theorem ok_take (F : FnP K "_law_take" 50 f fd) (FM : FnP K "_law_mixed" 49 fM fdM) (mM : mg "_law_mixed" = some (.ref fM)) (gI : mg "int" = none) (gL : mg "len" = none) : FnOk P w K mg base CX0 2 f fd ["_law_hand_here", "_law_many"] spTake := by
  have GM : FnOk P w K mg base CX0 1 fM fdM ["_law_number", "_law_turn"] spMixed := ok_mixed FM gI
  have bM : Binds K fdM ["_law_number", "_law_turn"] [] := FM.bindsN fun _ _ _ _ _ _ us hl => match us, hl with | [_, _], _ => rfl
  refine F.ok scT (fun vs H Q E h => ?_) (fun cdv A outer s H vs Q E hr h => ?_)
  · obtain ⟨n, q, t, rfl, _⟩ := h
    rfl
  · obtain ⟨p, q, m, rfl, m1, m2, hh, k⟩ := h
    refine ⟨_, PSs.nox (C8.pss_cut (ps_if (PW.pt (pw_and (pt_cmpR op_eq (pe_ix ix_list (pv 0) pe_int (fun _ _ => rfl)) pe_int (nomark _)) (pw_and1 (pt_cmpR op_lt (pe_ix ix_list (pv 0) pe_int (fun _ _ => rfl)) (pe_callB call_len_seq (by rfl) gL PySem.boot_len (pa_cons (pe_ix ix_list (pv 0) pe_int (fun _ _ => rfl)) pa_nil)) (nomark _)))))
        (pss_cons (ps_set (i := 2) scT.nd rfl (Or.inl rfl) (pe_ix ix_list (pe_ix ix_list (pv 0) pe_int (fun _ _ => rfl)) (pe_ix ix_list (pv 0) pe_int (fun _ _ => rfl)) (fun _ _ => rfl)))
        (pss_cons (ps_asg (pe_op op_add (pe_ix ix_list (pv 0) pe_int (fun _ _ => rfl)) pe_int) (pg_sub (pv 0) pe_int set_list (fun _ => rfl)))
        (pss_cons (ps_if (pt_cmpR op_lt (pv 2) (pe_op op_pow pe_int pe_int) (nomark _))
            (pss_one (ps_ret (pe_op op_mod (pe_callTy call_int1 (by rfl) gI PyProof.Rows.boot_int (pa_cons (pe_call GM hr rfl mM FM.kp bM .nil pass0 (pa_cons (pe_op op_mod (pe_callTy call_int1 (by rfl) gI PyProof.Rows.boot_int (pa_cons (pv 2) pa_nil)) pe_int) (pa_cons (pe_ix ix_list (pv 0) pe_int (fun _ _ => rfl)) pa_nil))) pa_nil)) (pv 1)))) pss_nil)
        (pss_one (ps_asg (pv 2) (pg_sub (pv 0) pe_int set_list (fun _ => rfl))))))) pss_nil)
      (C8.pss_cut (ps_if (pt_cmpR op_gt (pe_ix ix_list (pv 0) pe_int (fun _ _ => rfl)) pe_int (nomark _))
        (pss_cons (ps_set (i := 3) scT.nd rfl (Or.inl rfl) (pe_ix ix_list (pv 0) pe_int (fun _ _ => rfl)))
        (pss_cons (ps_asg (pe_op op_fdiv (pe_callTy call_int1 (by rfl) gI PyProof.Rows.boot_int (pa_cons (pv 3) pa_nil)) (pv 1)) (pg_sub (pv 0) pe_int set_list (fun _ => rfl)))
        (pss_one (ps_ret (pe_op op_mod (pe_callTy call_int1 (by rfl) gI PyProof.Rows.boot_int (pa_cons (pv 3) pa_nil)) (pv 1)))))) pss_nil)
      (pss_cons (ps_asg (pe_op op_mod (pe_callTy call_int1 (by rfl) gI PyProof.Rows.boot_int (pa_cons (pe_op op_add (pe_ix ix_list (pv 0) pe_int (fun _ _ => rfl)) pe_int) pa_nil)) pe_int) (pg_sub (pv 0) pe_int set_list (fun _ => rfl)))
      (pss_one (ps_ret (pe_op op_mod (pe_callTy call_int1 (by rfl) gI PyProof.Rows.boot_int (pa_cons (pe_call GM hr rfl mM FM.kp bM .nil pass0 (pa_cons (pe_ix ix_list (pv 0) pe_int (fun _ _ => rfl)) (pa_cons (pe_ix ix_list (pv 0) pe_int (fun _ _ => rfl)) pa_nil))) pa_nil)) (pv 1))))))), ?_⟩
    -- between the statements: some hand stands at p, nothing else has changed
    let Mid : L2.St → Hp → Prop := fun σ H' => ∃ c d, σ = [some (.ref p), some (.int m), c, d] ∧ HandAt H' p q ∧ ∀ b, b ≠ p → H' b = H b
    have setH : ∀ {H' : Hp} {cs : List Int} {i r t : Int}, H' q = some (.lst (cs.map V.int)) → p ≠ q → (∀ c ∈ cs, 0 ≤ c) → 0 ≤ i → i ≤ (cs.length : Int) → cs.length ≤ 63 → 0 ≤ r → 0 ≤ t → t < 2147483549 →
        HandAt (upd H' p (.lst [.ref q, .int i, .int r, .int t])) p q := fun hq npq h0 i0 i1 l r0 t0 t1 => ⟨_, _, _, _, upd_same, by rw [upd_ne npq.symm]; exact hq, npq, h0, i0, i1, l, r0, t0, t1⟩
    have setB : ∀ {H' : Hp} {o : HO}, (∀ b, b ≠ p → H' b = H b) → ∀ b, b ≠ p → upd H' p o b = H b := fun h b hb => by rw [upd_ne hb]; exact h b hb
    refine ⟨Mid, ?_, ?_⟩
    · obtain ⟨cs, i, r, t, hp, hq, npq, h0, i0, i1, hl, r0, t0, t1⟩ := id hh
      refine ⟨_, rfl, p, _, _, _, rfl, rfl, SqL.of hp, at4.2.2.1, rfl, _, rfl, ?_⟩
      refine ite2 (fun e => ?_) (fun _ => iteF ⟨_, _, rfl, hh, fun b _ => rfl⟩)
      refine ⟨_, rfl, p, _, _, _, rfl, rfl, SqL.of hp, at4.2.1, _, rfl, p, _, _, _, rfl, rfl, SqL.of hp, at4.1, q, _, rfl, .inl (SqL.of hq), _, _, rfl, rfl, _, rfl, ?_⟩
      refine ite2 (fun e2 => ?_) (fun _ => ⟨_, _, rfl, hh, fun b _ => rfl⟩)
      have il : i < ((cs.map V.int).length : Int) := dec_t e2
      rw [List.length_map] at il
      obtain ⟨j, rfl⟩ : ∃ j : Nat, i = (j : Int) := ⟨i.toNat, by omega⟩
      have jl : j < cs.length := by omega
      have hc : (cs.map V.int)[j]? = some (V.int cs[j]) := by
        rw [List.getElem?_map, List.getElem?_eq_getElem jl]
        rfl
      have c0 := h0 _ (List.getElem_mem jl)
      generalize cs[j] = c at hc c0
      refine ⟨_, rfl, p, _, _, _, rfl, rfl, SqL.of hp, at4.1, _, rfl, p, _, _, _, rfl, rfl, SqL.of hp, at4.2.1, q, _, _, _, rfl, rfl, SqL.of hq, atI_nat hc, ?_⟩
      refine ⟨_, rfl, p, _, _, _, rfl, rfl, SqL.of hp, at4.2.1, _, _, rfl, rfl, _, rfl, p, _, _, 1, rfl, rfl, hp, rfl, ?_⟩
      have hh1 : HandAt (upd H p (.lst [.ref q, .int ((j : Int) + 1), .int r, .int t])) p q := setH hq npq h0 (by omega) (by omega) hl r0 t0 t1
      refine ⟨_, rfl, _, _, rfl, rfl, ⟨by decide, by decide, by decide⟩, _, _, rfl, rfl, _, rfl, ?_⟩
      refine ite2 (fun _ => ?_) (fun _ => ?_)
      · refine ⟨_, rfl, .inl ⟨_, rfl, _, _, rfl, rfl, (by show (0 : Int) < 2147483399; decide), _, rfl, p, _, _, _, rfl, rfl, SqL.of upd_same, at4.2.1, ?_⟩⟩
        have b := emod_in (a := c) (m := 2147483399) (by decide)
        refine ⟨_, _, rfl, b.1, by omega, by omega, by omega, fun x x0 => .inl ⟨_, rfl, _, rfl, _, _, rfl, rfl, (by show (0 : Int) < m; omega), ?_⟩⟩
        have bm := emod_in (a := x) (m := m) (by omega)
        exact k _ _ bm.1 bm.2 hh1 (setB fun b _ => rfl)
      · refine ⟨_, rfl, _, rfl, p, _, _, 2, rfl, rfl, upd_same, rfl, ?_⟩
        rw [upd_upd]
        exact ⟨_, _, rfl, setH hq npq h0 (by omega) (by omega) hl c0 t0 t1, setB fun b _ => rfl⟩
    · rintro σ H1 ⟨c, d, rfl, hh1, hb1⟩
      refine ⟨Mid, ?_, ?_⟩
      · obtain ⟨cs, i, r, t, hp, hq, npq, h0, i0, i1, hl, r0, t0, t1⟩ := id hh1
        refine ⟨_, rfl, p, _, _, _, rfl, rfl, SqL.of hp, at4.2.2.1, _, _, rfl, rfl, _, rfl, ?_⟩
        refine ite2 (fun e => ?_) (fun _ => ⟨_, _, rfl, hh1, hb1⟩)
        refine ⟨_, rfl, p, _, _, _, rfl, rfl, SqL.of hp, at4.2.2.1, _, rfl, .inl ⟨_, rfl, _, rfl, _, _, rfl, rfl, ⟨by show (0 : Int) < m; omega, m2⟩, _, rfl, p, _, _, 2, rfl, rfl, hp, rfl, _, rfl, .inl ⟨_, rfl, _, rfl, _, _, rfl, rfl, (by show (0 : Int) < m; omega), ?_⟩⟩⟩
        have bm := emod_in (a := r) (m := m) (by omega)
        exact k _ _ bm.1 bm.2 (setH hq npq h0 i0 i1 hl (Int.ediv_nonneg r0 (by omega)) t0 t1) (setB hb1)
      · rintro σ H2 ⟨c, d, rfl, hh2, hb2⟩
        obtain ⟨cs, i, r, t, hp, hq, npq, h0, i0, i1, hl, r0, t0, t1⟩ := id hh2
        refine ⟨_, rfl, p, _, _, _, rfl, rfl, SqL.of hp, at4.2.2.2, _, _, rfl, rfl, .inl ⟨_, rfl, _, _, rfl, rfl, (by show (0 : Int) < 2147483549; decide), _, rfl, p, _, _, 3, rfl, rfl, hp, rfl, ?_⟩⟩
        have bt := emod_in (a := t + 1) (m := 2147483549) (by decide)
        refine ⟨_, rfl, p, _, _, _, rfl, rfl, SqL.of upd_same, at4.2.2.2, _, rfl, p, _, _, _, rfl, rfl, SqL.of upd_same, at4.2.1, _, _, rfl, bt.1, by omega, i0, by omega, fun x x0 => .inl ⟨_, rfl, _, rfl, _, _, rfl, rfl, (by show (0 : Int) < m; omega), ?_⟩⟩
        have bm := emod_in (a := x) (m := m) (by omega)
        exact k _ _ bm.1 bm.2 (setH hq npq h0 i0 i1 hl r0 bt.1 bt.2) (setB hb2)
end
end K57

set_option maxRecDepth 100000
set_option maxHeartbeats 4000000
namespace K57
open PySem PySem.Spec PyProof.Rows L2 Kw
theorem HandAt.keep {H H' : Hp} {p q : Addr} (h : HandAt H p q) (s : ∀ b, b = p ∨ b = q → ∀ o, H b = some o → H' b = some o) : HandAt H' p q := by
  obtain ⟨cs, i, r, t, h1, h2, h3⟩ := h
  exact ⟨cs, i, r, t, s p (.inl rfl) _ h1, s q (.inr rfl) _ h2, h3⟩
theorem HandAt.same {H H' : Hp} {p q : Addr} (h : HandAt H p q) (s : Same H H') : HandAt H' p q := h.keep fun b _ o e => s b o e
theorem HandAt.ne {H : Hp} {p q l : Addr} (h : HandAt H p q) (hl : H l = none) : l ≠ p ∧ l ≠ q := by
  obtain ⟨cs, i, r, t, h1, h2, h3⟩ := h
  exact ⟨fun z => (by rw [z, h1] at hl; cases hl), fun z => (by rw [z, h2] at hl; cases hl)⟩
theorem HandAt.upd {H : Hp} {p q l : Addr} {o : HO} (h : HandAt H p q) (hp : l ≠ p) (hq : l ≠ q) : HandAt (upd H l o) p q := h.keep fun b hb u e => by
  refine upB (fun z => ?_) e
  rcases hb with hb | hb
  · exact hp (z ▸ hb)
  · exact hq (z ▸ hb)
theorem tab_at {tab : List Int} {r : Int} (h0 : 0 ≤ r) (h1 : r < (tab.length : Int)) : ∃ v, atI (tab.map V.int) r = some (V.int v) ∧ v ∈ tab := by
  obtain ⟨j, rfl⟩ : ∃ j : Nat, r = (j : Int) := ⟨r.toNat, by omega⟩
  have hj : j < tab.length := by omega
  exact ⟨tab[j], atI_nat (by rw [List.getElem?_map, List.getElem?_eq_getElem hj]; rfl), List.getElem_mem hj⟩
section
variable {P : Program} {w : World} {K : PySem.W.Frag} {mg : Str → Option Value} {base : Heap} {f fT fM : Addr} {fd fdT fdM : FuncData}
def spBases : Sp := fun vs H Q _ => ∃ (p q : Addr) (c : Nat), vs = [.ref p, .int (c : Int)] ∧ c ≤ 12 ∧ HandAt H p q ∧
  ∀ l H' (bs : List Nat), Oth p H H' → HandAt H' p q → H l = none → H' l = some (.lst (bs.map natV)) → bs.Nodup → (∀ b ∈ bs, b < c) → bs.length ≤ 3 → Q (.ref l) H'
theorem sc_bases : FnScope ["_law_hand_here", "_law_c", "_law_bases_here", "_law_step", "_law_base"] ["_law_hand_here", "_law_c"] (defScope (top 51)) := ⟨rfl, rfl, rfl, by decide +kernel, rfl, by decide +kernel, by decide +kernel⟩
theorem ok_bases (F : FnP K "_law_bases" 51 f fd) (B : Fr mg) (FT : FnP K "_law_take" 50 fT fdT) (mT : mg "_law_take" = some (.ref fT)) (FM : FnP K "_law_mixed" 49 fM fdM) (mM : mg "_law_mixed" = some (.ref fM)) :
    FnOk P w K mg base CX0 3 f fd ["_law_hand_here", "_law_c"] spBases := by
  have GT : FnOk P w K mg base CX0 2 fT fdT ["_law_hand_here", "_law_many"] spTake := ok_take FT FM mM B.int B.len
  have bT : L2.Binds K fdT ["_law_hand_here", "_law_many"] [] := FT.bindsN fun _ _ _ _ _ _ us hl => match us, hl with | [_, _], _ => rfl
  refine F.ok sc_bases (fun vs H Q E h => ?_) (fun cdv A outer s H vs Q E hr h => ?_)
  · obtain ⟨p, q, c, rfl, _⟩ := h
    rfl
  · obtain ⟨p, q, c, rfl, hc, hh, k⟩ := h
    refine ⟨_, PSs.nox (pss_cons (ps_set (i := 2) sc_bases.nd rfl (Or.inl rfl) (pe_lst pa_nil))
      (pss_cons (ps_for PassesOwn.never rfl (pi_range1 (by rfl) B.range (pa_cons (pe_ix ix_tup (pe_tup (pa_cons pe_int (pa_cons pe_int (pa_cons pe_int (pa_cons pe_int (pa_cons pe_int (pa_cons pe_int (pa_cons pe_int (pa_cons pe_int pa_nil))))))))) (pe_call GT hr (by rfl) mT FT.kp bT .nil pass0 (pa_cons (pv 0) (pa_cons pe_int pa_nil))) (fun _ _ => rfl)) pa_nil)) (pg_name (i := 3) sc_bases.nd rfl (Or.inl rfl))
        (pss_one (ps_if (pt_cmpR op_gt (pv 1) pe_int (nomark _))
          (pss_cons (ps_set (i := 4) sc_bases.nd rfl (Or.inl rfl) (pe_call GT hr (by rfl) mT FT.kp bT .nil pass0 (pa_cons (pv 0) (pa_cons (pv 1) pa_nil))))
          (pss_one (ps_if (pt_cmpR (r := rIn K true) op_notIn_seq (pv 4) (pv 2) (by rfl)) (pss_one (ps_expr (pe_bm PySem.F.plainAttrs_list PySem.F.slot_list_append PySem.F.type_list_append mt_append (pv 2) (pa_cons (pv 4) pa_nil)))) pss_nil))) pss_nil)))
      (pss_one (ps_ret (pv 2))))), ?_⟩
    refine ⟨by decide, fun l hl => ?_⟩
    obtain ⟨lp, lq⟩ := hh.ne hl
    have h1 : HandAt (upd H l (.lst [])) p q := hh.upd lp lq
    refine ⟨by (show 8 ≤ sizeLine); decide, fun t ht => ?_⟩
    obtain ⟨tp, tq⟩ := h1.ne ht
    have tl : t ≠ l := fun z => by
      rw [z, upd_same] at ht
      cases ht
    refine ⟨_, rfl, p, q, 8, rfl, by decide, by decide, h1.upd tp tq, fun r H2 r0 r1 h2 e2 => ?_⟩
    obtain ⟨v, hv, hm⟩ := tab_at (tab := [0, 1, 1, 2, 2, 2, 3, 1]) r0 r1
    have hv3 : 0 ≤ v ∧ v ≤ 3 := (by decide : ∀ v ∈ ([0, 1, 1, 2, 2, 2, 3, 1] : List Int), 0 ≤ v ∧ v ≤ 3) v hm
    have T2 : H2 t = some (.tup (([0, 1, 1, 2, 2, 2, 3, 1] : List Int).map V.int)) := by
      rw [e2 t tp]
      exact upd_same
    have O2 : Oth p H H2 := fun b o nb e => by
      rw [e2 b nb]
      exact upB (ne_of_none (upB (ne_of_none e hl) e) ht) (upB (ne_of_none e hl) e)
    have L2' : H2 l = some (.lst []) := by
      rw [e2 l lp]
      exact upB tl.symm upd_same
    refine ⟨t, _, r, _, rfl, rfl, SqT.of T2, hv, v, rfl, by omega, by omega, for_range (n := v.toNat) (fun i σ H' => ∃ (bs : List Nat) (x3 x4 : Option V), σ = [some (.ref p), some (.int (c : Int)), some (.ref l), x3, x4] ∧ HandAt H' p q ∧ Oth p H H' ∧ H' l = some (.lst (bs.map natV)) ∧ bs.Nodup ∧ (∀ b ∈ bs, b < c) ∧ bs.length ≤ i)
      ⟨[], none, none, rfl, h2, O2, L2', List.nodup_nil, fun b hb => (by cases hb), Nat.le_refl _⟩ ?_ ?_⟩
    · rintro i σ H3 hi ⟨bs, x3, x4, rfl, h3, O3, L3, nd, hb, hl3⟩
      refine ⟨_, rfl, _, _, rfl, rfl, _, rfl, ?_⟩
      refine ite2 (fun e => ?_) (fun _ => ⟨bs, _, _, rfl, h3, O3, L3, nd, hb, by omega⟩)
      have c0 : (0 : Int) < (c : Int) := of_decide_eq_true e
      refine ⟨_, rfl, _, rfl, p, q, (c : Int), rfl, by omega, by omega, h3, fun r H4 r0 r1 h4 e4 => ?_⟩
      obtain ⟨b, rfl⟩ : ∃ b : Nat, r = (b : Int) := ⟨r.toNat, by omega⟩
      have L4 : H4 l = some (.lst (bs.map natV)) := by
        rw [e4 l lp]
        exact L3
      have O4 : Oth p H H4 := fun a o na e => by
        rw [e4 a na]
        exact O3 a o na e
      refine ⟨_, rfl, _, rfl, l, _, rfl, .inl (SqL.of L4), rfl, flat_nats bs, _, rfl, ?_⟩
      have ein : inV (.int (b : Int)) (bs.map natV) = bs.contains b := inV_nat b bs
      show (if (!inV (.int (b : Int)) (bs.map natV)) = true then _ else _)
      rw [ein]
      cases hbc : bs.contains b with
      | true => exact iteF ⟨bs, _, _, rfl, h4, O4, L4, nd, hb, by omega⟩
      | false =>
        have nb : b ∉ bs := fun z => by
          rw [List.contains_iff_mem.mpr z] at hbc
          cases hbc
        refine iteT ⟨_, rfl, .inl ⟨rfl, _, SqL.of L4⟩, _, rfl, l, _, _, rfl, rfl, L4, ?_, bs ++ [b], _, _, rfl, h4.upd lp lq, fun a o na e => upB (ne_of_none e hl) (O4 a o na e), ?_, ?_, ?_, ?_⟩
        · rw [List.length_map]
          show _ < 2 ^ 24
          omega
        · rw [upd_same, List.map_append]
          rfl
        · refine List.nodup_append.mpr ⟨nd, by simp, fun a ha b' hb' z => nb ?_⟩
          rw [List.mem_singleton.mp hb'] at z
          exact z ▸ ha
        · intro a ha
          rcases List.mem_append.mp ha with ha | ha
          · exact hb a ha
          · rw [List.mem_singleton.mp ha]
            omega
        · rw [List.length_append]
          simp only [List.length_cons, List.length_nil]
          omega
    · rintro σ H3 ⟨bs, x3, x4, rfl, h3, O3, L3, nd, hb, hl3⟩
      exact ⟨_, rfl, k l H3 bs O3 h3 hl L3 nd hb (by omega)⟩
end
end K57

set_option maxRecDepth 100000
set_option maxHeartbeats 4000000
namespace K57
open PySem PySem.Spec PyProof.Rows L2 Kw
/-- list(xs) -/
def rListOf (K : PySem.W.Frag) : List V → Hp → VK → Prop := fun xs H Q => ∃ p ys, xs = [.ref p] ∧ (SqL K H p ys ∨ SqT K H p ys) ∧ ∀ l, H l = none → Q (.ref l) (upd H l (.lst ys))
theorem call_lst {X : Cx} : CallR X (.type "list") (rListOf X.K) := call_list_of
end K57

set_option maxRecDepth 100000
set_option maxHeartbeats 4000000
namespace Kw
open PySem PySem.Spec PyProof.Rows L2
/-- an empty set, as it is laid -/
abbrev mtS (w : World) : Obj := { cls := .type "set", dict := none, data := .set #[] 0 (.fresh 0 0 (!w.params.followText "set-order")) }
section
variable {P : Program} {w : World} {A : Around} {E : Value → Shared → Prop}
set_option maxHeartbeats 8000000 in
/-- set(l), l a list of whole numbers, doubles among them -/
theorem set_of_list {s : Shared} {l : Addr} {items : Array Value} (ns : List Int) {Q : Value → Shared → Prop} (hh : A.handled = none) (hl : s.heap.IsList l items) (hit : IntsAre items.toList ns) (room : ns.length + 1 < scanBound)
    (fin : ∀ (G : Heap) (tk c : Nat), SetR w G s.heap.objs.size (fun j => decide (j ∈ ns)) c → c ≤ ns.length → (∀ b o, s.heap.get? b = some o → G.get? b = some o) → Q (.ref s.heap.objs.size) { s with heap := G, toks := tk }) :
    wpAny (model P w) A (call (.type "set") [.ref l]) Q E s := by
  have size_eq : items.size = ns.length := Array.length_toList.symm.trans (IntsAre.length hit)
  have each : ∀ (i : Nat) (v : Value), items[i]? = some v → ∃ k t, ns[i]? = some k ∧ v = .int k t := by
    intro i v hv
    have lt : i < ns.length := by
      rw [← size_eq]
      exact (Array.getElem?_eq_some_iff.mp hv).1
    obtain ⟨t, e⟩ := IntsAre.int_at hit i v (by rw [Array.getElem?_toList]; exact hv)
    rw [List.getD_eq_getElem?_getD, List.getElem?_eq_getElem lt] at e
    exact ⟨ns[i], t, List.getElem?_eq_getElem lt, e⟩
  have made := F.called_set.made
  have sub := F.called_set.sub
  obtain ⟨_, _, mro⟩ := F.called_set.mro
  refine wpAny_call (codeAny_of_tree (wpAny_pure ⟨Code.quiet_builtin _ (by decide +kernel), codeAny_builtin F.entry_type_call ?_⟩))
  rw [Around.under_plain (weight_type_call_type "set" [.ref l] []) rfl]
  have nt := F.called_set.notType
  have cc := F.called_set.canCreate
  have tc := F.typeCall_set_1 (.ref l)
  repeat (any_goals (first | assumption | wp_step))
  refine codeAny_mono (code_set_led1 (.ref l) (E := E) (Q₁ := fun obj t => obj = .ref s.heap.objs.size ∧ t = { s with heap := s.heap.push (mtS w) }) ⟨rfl, rfl⟩) fun r t hr => ?_
  match r, hr with
  | .error e, hr => exact hr
  | .ok .next, hr => exact hr.elim
  | .ok .brk, hr => exact hr.elim
  | .ok .cont, hr => exact hr.elim
  | .ok (.ret obj), hr =>
    obtain ⟨rfl, rfl⟩ := hr
    have at0 : (s.heap.push (mtS w)).get? s.heap.objs.size = some (mtS w) := Heap.get?_push_size _ rfl
    have ty0 : Shared.TypeIs { s with heap := s.heap.push (mtS w) } (.ref s.heap.objs.size) "set" := ⟨_, at0, rfl⟩
    have look := F.called_set.init.lookup
    have bind := F.called_set.init.bind (.ref s.heap.objs.size)
    repeat (any_goals (first | assumption | wp_step))
    refine codeAny_mono (codeAny_call_builtin (R := wants (fun r t => r = .none ∧ ∃ G tk c, t = { s with heap := G, toks := tk } ∧ SetR w G s.heap.objs.size (fun j => decide (j ∈ ns)) c ∧ c ≤ ns.length ∧ ∀ b o, s.heap.get? b = some o → G.get? b = some o) E)
      F.called_set.init.plain F.entry_set_init (check_set_init_1 ty0 ?_)) fun r t hr => ?_
    · have lt0 : l < s.heap.objs.size := by
        obtain ⟨_, e, _⟩ := hl
        exact Heap.lt_size e
      have hl1 : (s.heap.push (mtS w)).IsList l items := hl.push _
      obtain ⟨⟨ocls, odict, odata, oslots⟩, hol, hcl, nl, hdl⟩ := hl
      simp only at hcl hdl
      subst hcl hdl
      have hol1 := Heap.get?_push_of_some (mtS w) hol
      have sub1 := F.sub_list_set
      have sub2 := F.sub_list_frozenset
      have nd : (Value.type "list" == Value.type "dict") = false := by decide
      unfold Builtin.«set.__init__» noKeywords Builtin.Frozenset.updateFrom
      generalize hPI : pyIter = PI
      wp_walk
      subst hPI
      refine wpAny_pyIter_list hl1 (wpAny_bind (wpAny_runValue ?_))
      have h3 : A.in1.in1.in1.handled = none := by simp [hh]
      have sz1 : (s.heap.push (mtS w)).objs.size = s.heap.objs.size + 1 := Heap.size_push ..
      have nIt : l ≠ (s.heap.push (mtS w)).objs.size := by
        rw [sz1]
        exact Nat.ne_of_lt (Nat.lt_succ_of_lt lt0)
      have nSet : s.heap.objs.size ∉ [(s.heap.push (mtS w)).objs.size, l] := by
        rw [sz1]
        intro z
        rcases List.mem_cons.mp z with z | z
        · exact absurd z (Nat.ne_of_lt (Nat.lt_succ_self _))
        · exact absurd (List.mem_singleton.mp z) (Nat.ne_of_gt lt0)
      have W := (Walks.list (prog := P) (w := w) h3 (s.heap.push (mtS w)).objs.size l nIt items).toS
      refine set_update_ints W s.heap.objs.size nSet ns size_eq room each (items.size - 0) 0 _ (by omega) (Nat.zero_le _) ⟨⟨_, Heap.get?_push_size _ rfl, rfl, rfl⟩, hl1.push _⟩ ⟨0, Nat.le_refl 0, setR_new_at (Heap.get?_push_of_some _ at0)⟩ ?_
      rintro ⟨G, g, d, tk, os⟩ c moved hc hS
      obtain rfl : g = s.gens := moved.gens
      obtain rfl : d = s.drawn := moved.drawn
      obtain rfl : os = s.os := moved.os
      refine wpAny_pure (wpAny_pure ⟨rfl, G, tk, c, rfl, hS, size_eq ▸ hc, fun b o e => ?_⟩)
      have ltb : b < s.heap.objs.size := Heap.lt_size e
      refine moved.heap b o (fun z => ?_) (Heap.get?_push_of_some _ (Heap.get?_push_of_some _ e))
      rcases List.mem_cons.mp z with z | z
      · exact absurd z (Nat.ne_of_lt ltb)
      · have z' := List.mem_singleton.mp z
        rw [sz1] at z'
        exact absurd z' (Nat.ne_of_lt (Nat.lt_succ_of_lt ltb))
    · match r, hr with
      | .error e, hr => exact hr
      | .ok .next, hr => exact hr.elim
      | .ok .brk, hr => exact hr.elim
      | .ok .cont, hr => exact hr.elim
      | .ok (.ret r), hr =>
        obtain ⟨rfl, G, tk, c, rfl, hS, hc, kept⟩ := hr
        repeat (any_goals (first | assumption | wp_step))
        exact fin _ _ _ hS hc kept
end
/-- set(xs), xs a list or a tuple of whole numbers -/
def rSetSI (K : PySem.W.Frag) (w : World) : List V → Hp → VK → Prop := fun vs H Q => ∃ (l : Addr) (ns : List Int), vs = [.ref l] ∧ (SqL K H l (ns.map V.int) ∨ SqT K H l (ns.map V.int)) ∧ ns.length ≤ 4000 ∧
  ∀ (p : Addr) (c : Nat), H p = none → c ≤ ns.length → Q (.ref p) (upd H p (SetO w p (fun j => decide (j ∈ ns)) c))
theorem ints_of_vals : ∀ {ns : List Int} {us : List Value}, Vals (ns.map V.int) us → IntsAre us ns
  | [], _, .nil => .nil
  | n :: r, _, .cons h t => by
    obtain ⟨k, e⟩ := h
    rw [e]
    exact .cons n k (ints_of_vals t)
theorem call_setSI {X : Cx} (hc : X.calm = true) : CallR X (.type "set") (rSetSI X.K X.w) := by
  intro pins s σ H vs us Q I r h
  obtain ⟨l, ns, rfl, hq, h4, q⟩ := h
  rw [Vals.ref1 r]
  have room : ns.length + 1 < scanBound := by
    unfold scanBound
    omega
  have fin : ∀ (G : Heap) (tk c : Nat), SetR X.w G s.heap.objs.size (fun j => decide (j ∈ ns)) c → c ≤ ns.length → (∀ b o, s.heap.get? b = some o → G.get? b = some o) → EP X pins σ Q (.ref s.heap.objs.size) { s with heap := G, toks := tk } := fun G tk c hS hcl k =>
    ⟨.ref s.heap.objs.size, _, I.laid (t' := tk) k (Nat.le_refl _) (setO_new hS), rfl, q _ c (I.hok.fresh (Nat.le_refl _)) hcl⟩
  rcases hq with hq | hq
  · obtain ⟨its, rv, pl, hz⟩ := I.list hq
    exact set_of_list ns (I.ok.hd hc) pl.isList (by simpa using ints_of_vals rv) room fin
  · obtain ⟨its, rv, pl, hz⟩ := I.tuple hq
    exact call_set_tupI ns (I.ok.hd hc) pl (by simpa using ints_of_vals rv) room fin
end Kw

set_option maxRecDepth 100000
set_option maxHeartbeats 4000000
namespace K57
open PySem PySem.Spec PyProof.Rows L2 Kw
/-- rows (bases, fields, methods) of a law's own -/
def RowsAt (H : Hp) : List V → List (List Nat) → Prop := Paired fun v bs => ∃ t b g m, v = .ref t ∧ H t = some (.tup [.ref b, g, m]) ∧ SeqAt H b (bs.map natV)
theorem RowsAt.same {H H' : Hp} (s : Same H H') : ∀ {vs : List V} {ls : List (List Nat)}, RowsAt H vs ls → RowsAt H' vs ls
  | [], [], _ => .nil
  | _ :: _, _ :: _, .cons ⟨t, b, g, m, e, h1, h2⟩ r => .cons ⟨t, b, g, m, e, s _ _ h1, h2.same s⟩ (RowsAt.same s r)
theorem RowsAt.get {H : Hp} : ∀ {vs : List V} {ls : List (List Nat)} {i : Nat} {l : List Nat}, RowsAt H vs ls → ls[i]? = some l → ∃ t b g m, vs[i]? = some (.ref t) ∧ H t = some (.tup [.ref b, g, m]) ∧ SeqAt H b (l.map natV)
  | [], [], _, _, _, h => by simp at h
  | _ :: _, _ :: _, 0, _, .cons ⟨t, b, g, m, e1, h⟩ _, e => by
    obtain rfl := Option.some.inj e
    exact ⟨t, b, g, m, by rw [e1]; rfl, h⟩
  | _ :: _, _ :: _, i + 1, _, .cons _ r, e => RowsAt.get (i := i) r e
def ListsAt (H : Hp) : List V → List (List Nat) → Prop := Paired fun v l => ∃ t, v = .ref t ∧ H t = some (.lst (l.map natV))
theorem ListsAt.mono {H H' : Hp} {R : Addr} (k : ∀ b o, b ≠ R → H b = some o → H' b = some o) : ∀ {vs : List V} {ls : List (List Nat)}, (∀ v ∈ vs, v ≠ .ref R) → ListsAt H vs ls → ListsAt H' vs ls
  | [], [], _, _ => .nil
  | v :: _, _ :: _, n, .cons ⟨t, e, h⟩ r => .cons ⟨t, e, k _ _ (fun z => n v List.mem_cons_self (by rw [e, z])) h⟩ (ListsAt.mono k (fun v hv => n v (List.mem_cons_of_mem _ hv)) r)
theorem ListsAt.get {H : Hp} : ∀ {vs : List V} {ls : List (List Nat)} {i : Nat} {l : List Nat}, ListsAt H vs ls → ls[i]? = some l → ∃ t, vs[i]? = some (.ref t) ∧ H t = some (.lst (l.map natV))
  | [], [], _, _, _, h => by simp at h
  | _ :: _, _ :: _, 0, _, .cons ⟨t, e1, h⟩ _, e => by
    obtain rfl := Option.some.inj e
    exact ⟨t, by rw [e1]; rfl, h⟩
  | _ :: _, _ :: _, i + 1, _, .cons _ r, e => ListsAt.get (i := i) r e
theorem ListsAt.app {H : Hp} : ∀ {vs us : List V} {ls ms : List (List Nat)}, ListsAt H vs ls → ListsAt H us ms → ListsAt H (vs ++ us) (ls ++ ms)
  | [], _, [], _, _, h => h
  | _ :: _, _, _ :: _, _, .cons h r, s => .cons h (ListsAt.app r s)
theorem ListsAt.len {H : Hp} {vs : List V} {ls : List (List Nat)} (h : ListsAt H vs ls) : vs.length = ls.length := Paired.length h
/-- ascending lists with the same things in them -/
theorem asc_one {a : List Int} {b : List Nat} (ha : a.Pairwise (· < ·)) (hb : b.Pairwise (· < ·)) (hm : ∀ k : Int, k ∈ a ↔ ∃ n : Nat, n ∈ b ∧ k = (n : Int)) : a.map V.int = b.map natV := by
  have hb2 : (b.map fun (n : Nat) => (n : Int)).Pairwise (· < ·) := List.pairwise_map.mpr (hb.imp fun h => by omega)
  have p : a.Perm (b.map fun (n : Nat) => (n : Int)) := (List.perm_ext_iff_of_nodup (ha.imp fun h => Int.ne_of_lt h) (hb2.imp fun h => Int.ne_of_lt h)).mpr fun k => by
    rw [hm k, List.mem_map]
    exact ⟨fun ⟨n, h, e⟩ => ⟨n, h, e.symm⟩, fun ⟨n, h, e⟩ => ⟨n, h, e.symm⟩⟩
  have e : a = b.map fun (n : Nat) => (n : Int) := p.eq_of_pairwise (fun x y _ _ h1 h2 => by omega) ha hb2
  rw [e, List.map_map]
  rfl
section
variable {P : Program} {w : World} {K : PySem.W.Frag} {mg : Str → Option Value} {base : Heap} {f : Addr} {fd : FuncData}
/-- over a list or a tuple that stands -/
theorem for_seqS {a : Addr} {xs : List V} {g : TG} {tb : TS} {D : Ends} {σ : L2.St} {H H0 : Hp} {j : Nat} (hj : σ[j]? = some (some (.ref a))) (hA : SeqAt H0 a xs) (s0 : Same H0 H) (Pv : Nat → L2.St → Hp → Prop) (h0 : Pv 0 σ H) (keep : ∀ i σ' H', Pv i σ' H' → Same H0 H')
    (hs : ∀ i x σ H, xs[i]? = some x → Pv i σ H → g x σ H fun σ2 H2 => tb { D with nx := Pv (i + 1), ct := Pv (i + 1), bk := D.nx } σ2 H2) (hd : ∀ σ H, Pv xs.length σ H → D.nx σ H) :
    tFor (fun σ H R => iList K (tVar j) σ H R ∨ iTup K (tVar j) σ H R) g tb D σ H := by
  rcases hA with hA | hA
  · exact .inl ⟨_, hj, a, rfl, ⟨_, SqL.of (s0 _ _ hA)⟩, for_list (K := K) (a := a) (xs := xs) Pv h0 (fun i σ H' _ h => SqL.of (keep i σ H' h _ _ hA)) hs hd⟩
  · exact .inr ⟨_, hj, a, rfl, ⟨_, SqT.of (s0 _ _ hA)⟩, for_tup (K := K) (a := a) (xs := xs) Pv h0 (fun i σ H' _ h => SqT.of (keep i σ H' h _ _ hA)) hs hd⟩
def spLElders : Sp := fun vs H Q _ => ∃ (a : Addr) (ws : List V) (bs : List (List Nat)), vs = [.ref a] ∧ H a = some (.lst ws) ∧ RowsAt H ws bs ∧ validB bs ∧ bs.length ≤ 64 ∧ (∀ row ∈ bs, row.length * bs.length < 64) ∧
  ∀ H' l us, Same H H' → H l = none → H' l = some (.lst us) → (∀ v ∈ us, v ≠ .ref l) → ListsAt H' us (elders bs) → Q (.ref l) H'
theorem sc_lelders : FnScope ["_law_rows", "_law_found_here", "_law_bases_here", "_law_fields", "_law_methods_here", "_law_mine", "_law_base"] ["_law_rows"] (defScope (top 55)) := ⟨rfl, rfl, rfl, by decide +kernel, rfl, by decide +kernel, by decide +kernel⟩
theorem ok_lelders (F : FnP K "_law_elders" 55 f fd) (B : Fr mg) : FnOk P w K mg base CX0 1 f fd ["_law_rows"] spLElders := by
  refine F.ok sc_lelders (fun vs H Q E h => ?_) (fun cdv A outer s H vs Q E hr h => ?_)
  · obtain ⟨a, ws, bs, rfl, _⟩ := h
    rfl
  · obtain ⟨a, ws, bs, rfl, hA, hT, hv, h64, hr64, k⟩ := h
    refine ⟨_, PSs.nox (pss_cons (ps_set (i := 1) sc_lelders.nd rfl (Or.inl rfl) (pe_lst pa_nil))
      (pss_cons (ps_for PassesOwn.never rfl (pi_list (pv 0)) (pg_tup (by rfl) (pgs_cons (pg_name (i := 2) sc_lelders.nd rfl (Or.inl rfl)) (pgs_cons (pg_name (i := 3) sc_lelders.nd rfl (Or.inl rfl)) (pgs_cons (pg_name (i := 4) sc_lelders.nd rfl (Or.inl rfl)) pgs_nil))))
        (pss_cons (ps_set (i := 5) sc_lelders.nd rfl (Or.inl rfl) (pe_lst pa_nil))
        (pss_cons (ps_for PassesOwn.never rfl (pi_or (pi_list (pv 2)) (pi_tup (pv 2))) (pg_name (i := 6) sc_lelders.nd rfl (Or.inl rfl))
          (pss_one (ps_set (i := 5) sc_lelders.nd rfl (Or.inl rfl) (pe_op op_cat (pe_op op_cat (pv 5) (pe_lst (pa_cons (pv 6) pa_nil))) (pe_ix ix_list (pv 1) (pv 6) (fun _ _ => rfl))))))
        (pss_one (ps_expr (pe_bm PySem.F.plainAttrs_list PySem.F.slot_list_append PySem.F.type_list_append mt_append (pv 1) (pa_cons (pe_callB (cr_sortedSet rfl) (by rfl) B.sorted (by decide +kernel) (pa_cons (pe_callTy (T := "set") (r := rSetSI K w) (call_setSI (X := _) rfl) (by rfl) B.set (by decide +kernel) (pa_cons (pv 5) pa_nil)) pa_nil)) pa_nil)))))))
      (pss_one (ps_ret (pv 1))))), ?_⟩
    refine ⟨by decide, fun R hR => ?_⟩
    refine ⟨_, rfl, a, rfl, ⟨_, SqL.of (same_new hR _ _ hA)⟩, for_list (K := K) (a := a) (xs := ws) (fun i σ H' => Same H H' ∧ ∃ us x2 x3 x4 x5 x6, σ = [some (.ref a), some (.ref R), x2, x3, x4, x5, x6] ∧ H' R = some (.lst us) ∧ (∀ v ∈ us, v ≠ .ref R) ∧ ListsAt H' us (elders (bs.take i)))
      ⟨same_new hR, [], none, none, none, none, none, rfl, upd_same, (fun v hv => by cases hv), .nil⟩ (fun i σ H' _ h => SqL.of (h.1 _ _ hA)) ?_ ?_⟩
    · rintro i y σ H' hi ⟨sH, us, x2, x3, x4, x5, x6, rfl, hRu, hne, hU⟩
      have hbl : ws.length = bs.length := Paired.length hT
      have hil : i < bs.length := by
        rw [← hbl]
        exact (List.getElem?_eq_some_iff.mp hi).1
      obtain ⟨row, hrow⟩ : ∃ row, bs[i]? = some row := ⟨_, List.getElem?_eq_getElem hil⟩
      obtain ⟨t, b, g, m, et, ht, hb⟩ := hT.get hrow
      obtain rfl : V.ref t = y := Option.some.inj (et.symm.trans hi)
      have hE : (elders (bs.take i)).length = i := by rw [elders_len, List.length_take, Nat.min_eq_left (Nat.le_of_lt hil)]
      have hlt : ∀ c ∈ row, c < i := hv i row hrow
      have hr6 : row.length * bs.length < 64 := hr64 row (List.mem_of_getElem? hrow)
      have hus : us.length = i := hU.len.trans hE
      refine ⟨t, _, rfl, SqT.of (sH _ _ ht), rfl, _, _, rfl, _, _, rfl, _, _, rfl, rfl, ?_⟩
      refine ⟨by decide, fun M hM => ?_⟩
      have sM : Same H' (upd H' M (.lst [])) := same_new hM
      refine for_seqS (K := K) (a := b) (xs := row.map natV) rfl hb (sH.trans sM) (fun j σ H3 => Same H' H3 ∧ ∃ M x6 mi, σ = [some (.ref a), some (.ref R), some (.ref b), some g, some m, some (.ref M), x6] ∧ H3 M = some (.lst (mi.map natV)) ∧ mi.length ≤ j * bs.length ∧ ∀ x, x ∈ mi ↔ ∃ c ∈ row.take j, x = c ∨ x ∈ (elders (bs.take i)).getD c [])
        ⟨sM, M, x6, [], rfl, upd_same, Nat.zero_le _, fun x => by simp⟩ (fun j σ H3 h => sH.trans h.1) ?_ ?_
      · rintro j y σ H3 hj ⟨s3, M, x6, mi, rfl, hMi, hml, hmem⟩
        rw [List.getElem?_map] at hj
        obtain ⟨c, hc, rfl⟩ := Option.map_eq_some_iff.mp hj
        have hjl : j < row.length := (List.getElem?_eq_some_iff.mp hc).1
        have hci : c < i := hlt c (List.mem_of_getElem? hc)
        obtain ⟨l, hl⟩ : ∃ l, (elders (bs.take i))[c]? = some l := ⟨_, List.getElem?_eq_getElem (by rw [hE]; exact hci)⟩
        have hgd : (elders (bs.take i)).getD c [] = l := by
          rw [List.getD_eq_getElem?_getD, hl]
          rfl
        have hll : l.length + 1 ≤ bs.length := by
          have := elders_len_row _ _ _ hl
          rw [List.length_take] at this
          omega
        have hmle : mi.length + (1 + l.length) ≤ (j + 1) * bs.length := by
          rw [Nat.succ_mul]
          omega
        have hbig : (j + 1) * bs.length < 64 := Nat.lt_of_le_of_lt (Nat.mul_le_mul_right _ hjl) hr6
        obtain ⟨q, eq, hq⟩ := hU.get hl
        refine ⟨_, rfl, _, rfl, (by show 1 ≤ 2 ^ 24; decide), fun L hL => ?_⟩
        have sL := same_new (o := .lst [natV c]) hL
        refine ⟨M, L, _, _, rfl, rfl, sL _ _ hMi, upd_same, ?_, fun N1 hN1 => ?_⟩
        · rw [List.length_map]
          show mi.length + 1 ≤ 2 ^ 24
          omega
        have s1 := same_new (o := .lst (mi.map natV ++ [natV c])) hN1
        have sA : Same H' (upd (upd H3 L (.lst [natV c])) N1 (.lst (mi.map natV ++ [natV c]))) := (s3.trans sL).trans s1
        refine ⟨_, rfl, _, rfl, R, us, _, _, rfl, rfl, SqL.of (sA _ _ hRu), atI_nat eq, ?_⟩
        refine ⟨N1, q, _, _, rfl, rfl, upd_same, sA _ _ hq, ?_, fun N2 hN2 => ?_⟩
        · rw [List.length_append, List.length_map, List.length_map]
          show mi.length + 1 + l.length ≤ 2 ^ 24
          omega
        · refine ⟨Same.trans sA (same_new hN2), N2, _, mi ++ [c] ++ l, rfl, ?_, ?_, fun x => ?_⟩
          · rw [upd_same, List.map_append, List.map_append]
            rfl
          · rw [List.length_append, List.length_append]
            show mi.length + 1 + l.length ≤ _
            omega
          · rw [List.take_add_one, hc, Option.toList_some, List.mem_append, List.mem_append, hmem, List.mem_singleton]
            constructor
            · rintro ((⟨d, hd, h⟩ | h) | h)
              · exact ⟨d, List.mem_append_left _ hd, h⟩
              · exact ⟨c, List.mem_append_right _ (List.mem_singleton.mpr rfl), .inl h⟩
              · exact ⟨c, List.mem_append_right _ (List.mem_singleton.mpr rfl), .inr (by rw [hgd]; exact h)⟩
            · rintro ⟨d, hd, h⟩
              rcases List.mem_append.mp hd with hd | hd
              · exact .inl (.inl ⟨d, hd, h⟩)
              · obtain rfl := List.mem_singleton.mp hd
                rcases h with h | h
                · exact .inl (.inr h)
                · rw [hgd] at h
                  exact .inr h
      · rintro σ H3 ⟨s3, M, x6, mi, rfl, hMi, hml, hmem⟩
        rw [List.length_map] at hml
        rw [List.length_map, List.take_length] at hmem
        refine ⟨_, rfl, .inl ⟨rfl, _, SqL.of (s3 _ _ hRu)⟩, _, rfl, M, mi.map (fun (n : Nat) => (n : Int)), rfl, .inl ?_, ?_, fun S c hS hc => ?_⟩
        · rw [List.map_map]
          exact SqL.of hMi
        · rw [List.length_map]
          omega
        · rw [List.length_map] at hc
          have sS := same_new (o := SetO w S (fun j => decide (j ∈ mi.map (fun (n : Nat) => (n : Int)))) c) hS
          refine ⟨S, _, c, rfl, upd_same, by omega, fun ns L asc hns hlen hL => ?_⟩
          have sL := same_new (o := .lst (ns.map V.int)) hL
          have sA : Same H' (upd (upd H3 S (SetO w S (fun j => decide (j ∈ mi.map (fun (n : Nat) => (n : Int)))) c)) L (.lst (ns.map V.int))) := (s3.trans sS).trans sL
          have ens : ns.map V.int = (elStep (elders (bs.take i)) row).map natV := asc_one asc (elStep_up _ _) fun k => by
            rw [hns k, decide_eq_true_iff, List.mem_map]
            constructor
            · rintro ⟨n, hn, e⟩
              exact ⟨n, (elStep_mem (fun b hb => by rw [hE]; exact hlt b hb) (elders_lt _) n).mpr ((hmem n).mp hn), e.symm⟩
            · rintro ⟨n, hn, e⟩
              exact ⟨n, (hmem n).mpr ((elStep_mem (fun b hb => by rw [hE]; exact hlt b hb) (elders_lt _) n).mp hn), e.symm⟩
          have neL : L ≠ R := fun z => by
            have y := (Same.trans s3 sS) _ _ hRu
            rw [← z, hL] at y
            cases y
          refine ⟨R, us, _, rfl, rfl, sA _ _ hRu, by rw [hus]; show i < 2 ^ 24; omega, same_upd (sH.trans sA) hR, us ++ [.ref L], _, _, _, _, _, rfl, upd_same, ?_, ?_⟩
          · intro v hv
            rcases List.mem_append.mp hv with hv | hv
            · exact hne v hv
            · rw [List.mem_singleton.mp hv]
              exact fun z => neL (V.ref.inj z)
          · rw [elders_more hrow]
            refine (ListsAt.mono (R := R) (fun b o hb e => upB hb (sA _ _ e)) hne hU).app (.cons ⟨L, rfl, ?_⟩ .nil)
            rw [← ens]
            exact upB neL upd_same
    · rintro σ H' ⟨sH, us, x2, x3, x4, x5, x6, rfl, hRu, hne, hU⟩
      have hbl : ws.length = bs.length := Paired.length hT
      rw [hbl, List.take_length] at hU
      exact ⟨_, rfl, k H' R us sH hR hRu hne hU⟩
end
end K57

set_option maxRecDepth 100000
set_option maxHeartbeats 4000000
namespace K57
open PySem PySem.Spec PyProof.Rows L2 Kw
section
variable {P : Program} {w : World} {K : PySem.W.Frag} {mg : Str → Option Value} {base : Heap} {f fT fM : Addr} {fd fdT fdM : FuncData}
def spMethods : Sp := fun vs H Q _ => ∃ (p q : Addr), vs = [.ref p] ∧ HandAt H p q ∧
  ∀ l H' (ms : List Nat), Oth p H H' → HandAt H' p q → H l = none → H' l = some (.lst (ms.map natV)) → ms.Pairwise (· < ·) → (∀ m ∈ ms, m < 6) → ms.length ≤ 3 → Q (.ref l) H'
theorem sc_methods : FnScope ["_law_hand_here", "_law_found_here", "_law_step"] ["_law_hand_here"] (defScope (top 52)) := ⟨rfl, rfl, rfl, by decide +kernel, rfl, by decide +kernel, by decide +kernel⟩
theorem ok_methods (F : FnP K "_law_methods" 52 f fd) (B : Fr mg) (FT : FnP K "_law_take" 50 fT fdT) (mT : mg "_law_take" = some (.ref fT)) (FM : FnP K "_law_mixed" 49 fM fdM) (mM : mg "_law_mixed" = some (.ref fM)) :
    FnOk P w K mg base CX0 3 f fd ["_law_hand_here"] spMethods := by
  have GT : FnOk P w K mg base CX0 2 fT fdT ["_law_hand_here", "_law_many"] spTake := ok_take FT FM mM B.int B.len
  have bT : L2.Binds K fdT ["_law_hand_here", "_law_many"] [] := FT.bindsN fun _ _ _ _ _ _ us hl => match us, hl with | [_, _], _ => rfl
  refine F.ok sc_methods (fun vs H Q E h => ?_) (fun cdv A outer s H vs Q E hr h => ?_)
  · obtain ⟨p, q, rfl, _⟩ := h
    rfl
  · obtain ⟨p, q, rfl, hh, k⟩ := h
    refine ⟨_, PSs.nox (pss_cons (ps_set (i := 1) sc_methods.nd rfl (Or.inl rfl) (pe_lst pa_nil))
      (pss_cons (ps_for PassesOwn.never rfl (pi_range1 (by rfl) B.range (pa_cons (pe_ix ix_tup (pe_tup (pa_cons pe_int (pa_cons pe_int (pa_cons pe_int (pa_cons pe_int (pa_cons pe_int (pa_cons pe_int pa_nil))))))) (pe_call GT hr (by rfl) mT FT.kp bT .nil pass0 (pa_cons (pv 0) (pa_cons pe_int pa_nil))) (fun _ _ => rfl)) pa_nil)) (pg_name (i := 2) sc_methods.nd rfl (Or.inl rfl))
        (pss_one (ps_expr (pe_bm PySem.F.plainAttrs_list PySem.F.slot_list_append PySem.F.type_list_append mt_append (pv 1) (pa_cons (pe_call GT hr (by rfl) mT FT.kp bT .nil pass0 (pa_cons (pv 0) (pa_cons pe_int pa_nil))) pa_nil)))))
      (pss_one (ps_ret (pe_callB (cr_sortedSet rfl) (by rfl) B.sorted (by decide +kernel) (pa_cons (pe_callTy (T := "set") (r := rSetSI K w) (call_setSI (X := _) rfl) (by rfl) B.set (by decide +kernel) (pa_cons (pv 1) pa_nil)) pa_nil)))))), ?_⟩
    refine ⟨by decide, fun l hl => ?_⟩
    obtain ⟨lp, lq⟩ := hh.ne hl
    have h1 : HandAt (upd H l (.lst [])) p q := hh.upd lp lq
    refine ⟨by (show 6 ≤ sizeLine); decide, fun t ht => ?_⟩
    obtain ⟨tp, tq⟩ := h1.ne ht
    have tl : t ≠ l := fun z => by
      rw [z, upd_same] at ht
      cases ht
    refine ⟨_, rfl, p, q, 6, rfl, by decide, by decide, h1.upd tp tq, fun r H2 r0 r1 h2 e2 => ?_⟩
    obtain ⟨v, hv, hm⟩ := tab_at (tab := [0, 1, 0, 2, 1, 3]) r0 r1
    have hv3 : 0 ≤ v ∧ v ≤ 3 := (by decide : ∀ v ∈ ([0, 1, 0, 2, 1, 3] : List Int), 0 ≤ v ∧ v ≤ 3) v hm
    have T2 : H2 t = some (.tup (([0, 1, 0, 2, 1, 3] : List Int).map V.int)) := by
      rw [e2 t tp]
      exact upd_same
    have O2 : Oth p H H2 := fun b o nb e => by
      rw [e2 b nb]
      exact upB (ne_of_none (upB (ne_of_none e hl) e) ht) (upB (ne_of_none e hl) e)
    have L2' : H2 l = some (.lst []) := by
      rw [e2 l lp]
      exact upB tl.symm upd_same
    refine ⟨t, _, r, _, rfl, rfl, SqT.of T2, hv, v, rfl, by omega, by omega, for_range (n := v.toNat) (fun i σ H' => ∃ (ms : List Nat) (x2 : Option V), σ = [some (.ref p), some (.ref l), x2] ∧ HandAt H' p q ∧ Oth p H H' ∧ H' l = some (.lst (ms.map natV)) ∧ (∀ m ∈ ms, m < 6) ∧ ms.length = i)
      ⟨[], none, rfl, h2, O2, L2', fun b hb => (by cases hb), rfl⟩ ?_ ?_⟩
    · rintro i σ H3 hi ⟨ms, x2, rfl, h3, O3, L3, hb, hl3⟩
      refine ⟨_, rfl, .inl ⟨rfl, _, SqL.of L3⟩, _, rfl, p, q, 6, rfl, by decide, by decide, h3, fun r H4 r0 r1 h4 e4 => ?_⟩
      obtain ⟨b, rfl⟩ : ∃ b : Nat, r = (b : Int) := ⟨r.toNat, by omega⟩
      have L4 : H4 l = some (.lst (ms.map natV)) := by
        rw [e4 l lp]
        exact L3
      refine ⟨l, _, _, rfl, rfl, L4, ?_, ms ++ [b], _, rfl, h4.upd lp lq, fun a o na e => upB (ne_of_none e hl) (by rw [e4 a na]; exact O3 a o na e), ?_, ?_, ?_⟩
      · rw [List.length_map]
        show _ < 2 ^ 24
        omega
      · rw [upd_same, List.map_append]
        rfl
      · intro a ha
        rcases List.mem_append.mp ha with ha | ha
        · exact hb a ha
        · rw [List.mem_singleton.mp ha]
          omega
      · rw [List.length_append, hl3]
        rfl
    · rintro σ H3 ⟨ms, x2, rfl, h3, O3, L3, hb, hl3⟩
      refine ⟨_, rfl, l, ms.map (fun (n : Nat) => (n : Int)), rfl, .inl ?_, ?_, fun S c hS hc => ?_⟩
      · rw [List.map_map]
        exact SqL.of L3
      · rw [List.length_map]
        omega
      · rw [List.length_map] at hc
        have sS := same_new (o := SetO w S (fun j => decide (j ∈ ms.map (fun (n : Nat) => (n : Int)))) c) hS
        refine ⟨S, _, c, rfl, upd_same, by omega, fun ns L asc hns hlen hL => ?_⟩
        have sL := same_new (o := .lst (ns.map V.int)) hL
        have ens : ns.map V.int = (sortN ms).map natV := asc_one asc (List.Pairwise.filter _ List.pairwise_lt_range) fun k => by
          rw [hns k, decide_eq_true_iff, List.mem_map]
          constructor
          · rintro ⟨n, hn, e⟩
            exact ⟨n, List.mem_filter.mpr ⟨List.mem_range.mpr (hb n hn), by simpa using hn⟩, e.symm⟩
          · rintro ⟨n, hn, e⟩
            exact ⟨n, by simpa using (List.mem_filter.mp hn).2, e.symm⟩
        have nl : (sortN ms).length = c := by
          have z := congrArg List.length ens
          rw [List.length_map, List.length_map] at z
          omega
        have hLn : H L = none := by
          cases e : H L with
          | none => rfl
          | some o =>
            by_cases z : L = p
            · obtain ⟨cs, i, r, t, h1, _⟩ := h3
              have y := sS _ _ h1
              rw [← z, hL] at y
              cases y
            · have y := sS _ _ (O3 L o z e)
              rw [hL] at y
              cases y
        refine k L _ (sortN ms) ((O3.trans (Oth.of sS)).trans (Oth.of sL)) ((h3.same sS).same sL) hLn (by rw [upd_same, ens]) (List.Pairwise.filter _ List.pairwise_lt_range) (fun m hm => List.mem_range.mp (List.mem_filter.mp hm).1) (by omega)
end
end K57

set_option maxRecDepth 100000
set_option maxHeartbeats 4000000
namespace Kw
open PySem PySem.Spec PyProof.Rows L2
theorem PE.weak {X : Cx} {e : Expr} {t t' : TE} (h : PE X e t) (w : ∀ σ H Q, t' σ H Q → t σ H Q) : PE X e t' := ⟨fun pins s σ H Q I k => h.run pins s σ H Q I (w σ H Q k)⟩
theorem PA.weak {X : Cx} {e : List Expr} {t t' : TA} (h : PA X e t) (w : ∀ σ H Q, t' σ H Q → t σ H Q) : PA X e t' := ⟨fun pos pins s σ H Q I k => h.run pos pins s σ H Q I (w σ H Q k)⟩
theorem same_nw {H : Hp} {p : Addr} {o : HO} (hp : H p = none) : Same H (upd H p o) := fun b u e => by
  rw [upd_ne (ne_of_none e hp)]
  exact e
/-- lists of ints -/
def ListsI (H : Hp) : List V → List (List Int) → Prop := Paired fun v l => ∃ t, v = .ref t ∧ H t = some (.lst (l.map V.int))
theorem ListsI.same {H H' : Hp} (s : Same H H') : ∀ {vs : List V} {ls : List (List Int)}, ListsI H vs ls → ListsI H' vs ls
  | [], [], _ => .nil
  | _ :: _, _ :: _, .cons ⟨t, e, h⟩ r => .cons ⟨t, e, s _ _ h⟩ (ListsI.same s r)
theorem ListsI.get {H : Hp} : ∀ {vs : List V} {ls : List (List Int)} {i : Nat} {l : List Int}, ListsI H vs ls → ls[i]? = some l → ∃ t, vs[i]? = some (.ref t) ∧ H t = some (.lst (l.map V.int))
  | [], [], _, _, _, h => by simp at h
  | _ :: _, _ :: _, 0, _, .cons ⟨t, e1, h⟩ _, e => by
    obtain rfl := Option.some.inj e
    exact ⟨t, by rw [e1]; rfl, h⟩
  | _ :: _, _ :: _, i + 1, _, .cons _ r, e => ListsI.get (i := i) r e
def TabsI (H : Hp) : List V → List (List (List Int)) → Prop := Paired fun v lss => ∃ t us, v = .ref t ∧ H t = some (.lst us) ∧ ListsI H us lss
theorem TabsI.get {H : Hp} : ∀ {vs : List V} {ls : List (List (List Int))} {i : Nat} {l : List (List Int)}, TabsI H vs ls → ls[i]? = some l → ∃ t us, vs[i]? = some (.ref t) ∧ H t = some (.lst us) ∧ ListsI H us l
  | [], [], _, _, _, h => by simp at h
  | _ :: _, _ :: _, 0, _, .cons ⟨t, us, e1, h⟩ _, e => by
    obtain rfl := Option.some.inj e
    exact ⟨t, us, by rw [e1]; rfl, h⟩
  | _ :: _, _ :: _, i + 1, _, .cons _ r, e => TabsI.get (i := i) r e
/-- a written list of ints -/
def tIntL (ns : List Int) : TE := fun σ H Q => ∀ p, H p = none → Q (.ref p) (upd H p (.lst (ns.map V.int)))
section
variable {X : Cx} {p p1 p2 : Pos}
theorem pe_il0 : PE X (.List [] p) (tIntL []) := PE.weak (pe_lst pa_nil) fun σ H Q k => ⟨by decide, k⟩
theorem pe_il1 {a : Int} {x1} {y1 : Pos} : PE X (.List [.Constant (.int a) x1 y1] p) (tIntL [a]) := PE.weak (pe_lst (pa_cons pe_int pa_nil)) fun σ H Q k => ⟨by show 1 ≤ sizeLine; decide, k⟩
theorem pe_il2 {a b : Int} {x1 x2} {y1 y2 : Pos} : PE X (.List [.Constant (.int a) x1 y1, .Constant (.int b) x2 y2] p) (tIntL [a, b]) := PE.weak (pe_lst (pa_cons pe_int (pa_cons pe_int pa_nil))) fun σ H Q k => ⟨by show 2 ≤ sizeLine; decide, k⟩
def tLits (lss : List (List Int)) : TA := fun σ H Q => ∀ vs H', Same H H' → ListsI H' vs lss → Q vs H'
theorem pa_lits_nil : PA X [] (tLits []) := PA.weak pa_nil fun σ H Q k => k [] H (Same.refl H) .nil
theorem pa_lits {e : Expr} {es : List Expr} {ns : List Int} {lss : List (List Int)} (he : PE X e (tIntL ns)) (hr : PA X es (tLits lss)) (hs : starEach (e :: es) X.env = (false, eval e X.env) :: starEach es X.env := by rfl) : PA X (e :: es) (tLits (ns :: lss)) :=
  PA.weak (pa_cons he hr hs) fun σ H Q k q hq vs H' s h => k _ H' (Same.trans (same_nw hq) s) (.cons ⟨q, rfl, s _ _ upd_same⟩ h)
def tLit2 (lss : List (List Int)) : TE := fun σ H Q => ∀ q us H', Same H H' → H' q = some (.lst us) → ListsI H' us lss → Q (.ref q) H'
theorem pe_lit2 {es : List Expr} {lss : List (List Int)} (h : PA X es (tLits lss)) (hl : lss.length ≤ sizeLine := by decide) : PE X (.List es p) (tLit2 lss) :=
  PE.weak (pe_lst h) fun σ H Q k vs H' s hv => ⟨by rw [Paired.length hv]; exact hl, fun q hq => k q vs _ (Same.trans s (same_nw hq)) upd_same (hv.same (same_nw hq))⟩
def tLits2 (lsss : List (List (List Int))) : TA := fun σ H Q => ∀ vs H', Same H H' → TabsI H' vs lsss → Q vs H'
theorem pa_lits2_nil : PA X [] (tLits2 []) := PA.weak pa_nil fun σ H Q k => k [] H (Same.refl H) .nil
theorem pa_lits2 {e : Expr} {es : List Expr} {ns : List (List Int)} {lss : List (List (List Int))} (he : PE X e (tLit2 ns)) (hr : PA X es (tLits2 lss)) (hs : starEach (e :: es) X.env = (false, eval e X.env) :: starEach es X.env := by rfl) : PA X (e :: es) (tLits2 (ns :: lss)) :=
  PA.weak (pa_cons he hr hs) fun σ H Q k q us H1 s1 h1 h2 vs H' s h => k _ H' (Same.trans s1 s) (.cons ⟨q, us, rfl, s _ _ h1, h2.same s⟩ h)
/-- a written list of lists of lists of ints -/
def tLit3 (lsss : List (List (List Int))) : TE := fun σ H Q => ∀ q us H', Same H H' → H' q = some (.lst us) → TabsI H' us lsss → Q (.ref q) H'
theorem TabsI.same {H H' : Hp} (s : Same H H') : ∀ {vs : List V} {ls : List (List (List Int))}, TabsI H vs ls → TabsI H' vs ls
  | [], [], _ => .nil
  | _ :: _, _ :: _, .cons ⟨t, us, e, h, h2⟩ r => .cons ⟨t, us, e, s _ _ h, h2.same s⟩ (TabsI.same s r)
theorem pe_lit3 {es : List Expr} {lsss : List (List (List Int))} (h : PA X es (tLits2 lsss)) (hl : lsss.length ≤ sizeLine := by decide) : PE X (.List es p) (tLit3 lsss) :=
  PE.weak (pe_lst h) fun σ H Q k vs H' s hv => ⟨by rw [Paired.length hv]; exact hl, fun q hq => k q vs _ (Same.trans s (same_nw hq)) upd_same (hv.same (same_nw hq))⟩
end
end Kw

set_option maxRecDepth 100000
set_option maxHeartbeats 4000000
namespace K57
open PySem PySem.Spec PyProof.Rows L2 Kw
/-- tuples and lists of ints stay, but for the object at R -/
def IntsO (o : HO) : Prop := (∃ xs, o = .tup xs) ∨ ∃ ns : List Int, o = .lst (ns.map V.int)
def KeepX (R : Addr) (H H' : Hp) : Prop := ∀ b o, b ≠ R → H b = some o → IntsO o → H' b = some o
theorem KeepX.trans {R : Addr} {H H1 H2 : Hp} (a : KeepX R H H1) (b : KeepX R H1 H2) : KeepX R H H2 := fun c o n e i => b c o n (a c o n e i) i
theorem KeepX.of {R : Addr} {H H1 : Hp} (s : Same H H1) : KeepX R H H1 := fun c o _ e _ => s c o e
theorem KeepX.upd {R : Addr} {H : Hp} {o : HO} : KeepX R H (upd H R o) := fun c u n e _ => by
  rw [upd_ne n]
  exact e
theorem KeepX.oth {R p q : Addr} {H H1 : Hp} (s : Oth p H H1) (h : HandAt H p q) : KeepX R H H1 := fun c o _ e i => by
  refine s c o (fun z => ?_) e
  obtain ⟨cs, i1, r, t, h1, _⟩ := h
  rw [z, h1] at e
  have e := Option.some.inj e
  rcases i with ⟨xs, rfl⟩ | ⟨ns, rfl⟩
  · cases e
  · cases ns with
    | nil => cases e
    | cons n r =>
      injection e with e
      injection e with e _
      cases e
theorem natsI (l : List Nat) : l.map natV = (l.map fun (n : Nat) => (n : Int)).map V.int := by
  rw [List.map_map]
  rfl
theorem ints_o (l : List Nat) : IntsO (.lst (l.map natV)) := .inr ⟨l.map fun (n : Nat) => (n : Int), by rw [natsI]⟩
/-- lists of numbers, none of them at R -/
def LsN (R : Addr) (H : Hp) : List V → List (List Nat) → Prop := Paired fun v l => ∃ t, v = .ref t ∧ t ≠ R ∧ H t = some (.lst (l.map natV))
theorem LsN.keep {R : Addr} {H H' : Hp} (k : KeepX R H H') : ∀ {vs : List V} {ls : List (List Nat)}, LsN R H vs ls → LsN R H' vs ls
  | [], [], _ => .nil
  | _ :: _, _ :: _, .cons ⟨t, e, n, h⟩ r => .cons ⟨t, e, n, k _ _ n h (ints_o _)⟩ (LsN.keep k r)
theorem LsN.get {R : Addr} {H : Hp} : ∀ {vs : List V} {ls : List (List Nat)} {i : Nat} {l : List Nat}, LsN R H vs ls → ls[i]? = some l → ∃ t, vs[i]? = some (.ref t) ∧ t ≠ R ∧ H t = some (.lst (l.map natV))
  | [], [], _, _, _, h => by simp at h
  | _ :: _, _ :: _, 0, _, .cons ⟨t, e1, h⟩ _, e => by
    obtain rfl := Option.some.inj e
    exact ⟨t, by rw [e1]; rfl, h⟩
  | _ :: _, _ :: _, i + 1, _, .cons _ r, e => LsN.get (i := i) r e
theorem LsN.app {R : Addr} {H : Hp} : ∀ {vs us : List V} {ls ms : List (List Nat)}, LsN R H vs ls → LsN R H us ms → LsN R H (vs ++ us) (ls ++ ms)
  | [], _, [], _, _, h => h
  | _ :: _, _, _ :: _, _, .cons h r, s => .cons h (LsN.app r s)
theorem LsN.len {R : Addr} {H : Hp} {vs : List V} {ls : List (List Nat)} (h : LsN R H vs ls) : vs.length = ls.length := Paired.length h
theorem LsN.set {R : Addr} {H : Hp} {t : Addr} {l : List Nat} (n : t ≠ R) (h : H t = some (.lst (l.map natV))) : ∀ {vs : List V} {ls : List (List Nat)} (i : Nat), LsN R H vs ls → LsN R H (vs.set i (.ref t)) (ls.set i l)
  | [], [], _, _ => .nil
  | _ :: _, _ :: _, 0, .cons _ r => .cons ⟨t, rfl, n, h⟩ r
  | _ :: _, _ :: _, i + 1, .cons z r => .cons z (LsN.set n h i r)
theorem LsN.lists {R : Addr} {H : Hp} : ∀ {vs : List V} {ls : List (List Nat)}, LsN R H vs ls → ListsAt H vs ls
  | [], [], _ => .nil
  | _ :: _, _ :: _, .cons ⟨t, e, n, h⟩ r => .cons ⟨t, e, h⟩ (LsN.lists r)
/-- rows of bases as a law draws them -/
def BOk (bs : List (List Nat)) : Prop := ∀ (i : Nat) (row : List Nat), bs[i]? = some row → row.Nodup ∧ (∀ b ∈ row, b < i) ∧ row.length ≤ 3
theorem BOk.app {bs : List (List Nat)} {row : List Nat} (h : BOk bs) (nd : row.Nodup) (hb : ∀ b ∈ row, b < bs.length) (hl : row.length ≤ 3) : BOk (bs ++ [row]) := fun i r e => by
  by_cases q : i < bs.length
  · rw [List.getElem?_append_left q] at e
    exact h i r e
  · rw [List.getElem?_append_right (by omega)] at e
    by_cases q2 : i - bs.length = 0
    · rw [q2] at e
      obtain rfl : row = r := Option.some.inj e
      have : i = bs.length := by omega
      rw [this]
      exact ⟨nd, hb, hl⟩
    · rw [List.getElem?_eq_none (by rw [List.length_singleton]; omega)] at e
      cases e
theorem BOk.set {bs : List (List Nat)} {row : List Nat} {j : Nat} (h : BOk bs) (nd : row.Nodup) (hb : ∀ b ∈ row, b < j) (hl : row.length ≤ 3) : BOk (bs.set j row) := fun i r e => by
  rw [List.getElem?_set] at e
  by_cases q : j = i
  · rw [if_pos q] at e
    split at e
    · obtain rfl : row = r := Option.some.inj e
      rw [← q]
      exact ⟨nd, hb, hl⟩
    · cases e
  · rw [if_neg q] at e
    exact h i r e
theorem BOk.take {bs : List (List Nat)} (h : BOk bs) (n : Nat) : BOk (bs.take n) := fun i r e => by
  rw [List.getElem?_take] at e
  split at e
  · exact h i r e
  · cases e
theorem oth_free {p D : Addr} {H H1 : Hp} (s : Oth p H H1) (n : D ≠ p) (h : H1 D = none) : H D = none := by
  cases e : H D with
  | none => rfl
  | some o =>
    rw [s D o n e] at h
    cases h
theorem Oth.take {p : Addr} {H H1 : Hp} (e2 : ∀ b, b ≠ p → H1 b = H b) : Oth p H H1 := fun b o nb e => (e2 b nb).trans e
/-- written again at a place that was free -/
theorem Oth.updN {p D : Addr} {H H1 : Hp} {o : HO} (s : Oth p H H1) (hD : H D = none) : Oth p H (L2.upd H1 D o) := fun b u nb e => upB (ne_of_none e hD) (s b u nb e)
end K57

set_option maxRecDepth 100000
set_option maxHeartbeats 8000000
namespace K57
open PySem PySem.Spec PyProof.Rows L2 Kw
def shapeTab : List (List (List Nat)) := [[[], [], [0, 1], [], [1, 3], [3, 0], [2, 4]], [[], [], [], [0, 1], [1, 2], [2, 0], [3, 4], [5]], [[], [0], [0], [2, 1], [0], [4, 2], [1, 4], [3, 4]], [[], [0], [0], [0], [1, 2], [2, 3], [3, 1], [4, 3]], [[], [0], [0], [1, 2], [0], [3, 4], [4], [5, 6]], [[], [], [0, 1], [], [2, 3], [0], [5, 3], [4]]]
def bokB (bs : List (List Nat)) : Bool := (List.range bs.length).all fun i => decide (bs.getD i []).Nodup && ((bs.getD i []).all (fun b => decide (b < i)) && decide ((bs.getD i []).length ≤ 3))
theorem bokB_ok {bs : List (List Nat)} (h : bokB bs = true) : BOk bs := fun i r e => by
  have hi : i < bs.length := (List.getElem?_eq_some_iff.mp e).1
  have z := List.all_eq_true.mp h i (List.mem_range.mpr hi)
  rw [List.getD_eq_getElem?_getD, e, Option.getD_some] at z
  simp only [Bool.and_eq_true, decide_eq_true_eq, List.all_eq_true] at z
  exact ⟨z.1, z.2.1, z.2.2⟩
theorem shapeTab_ok : ∀ bs ∈ shapeTab, BOk bs := fun bs h => bokB_ok ((by decide : ∀ bs ∈ shapeTab, bokB bs = true) bs h)
theorem ixN_at {n j : Nat} (hj : j < n) : ixN n (j : Int) = some j := by
  unfold ixN
  rw [if_pos (by omega), if_pos (by omega), Int.toNat_natCast]
def cz (l : List (List Nat)) : List (List Int) := l.map fun r => r.map fun (n : Nat) => (n : Int)
theorem cutV_take (xs : List V) (n : Nat) : cutV xs none (some (n : Int)) = xs.take n := by
  unfold cutV
  rw [HT.sIx_nat, HT.sIx_none, Nat.sub_zero, List.drop_zero]
  by_cases h : n ≤ xs.length
  · rw [Nat.min_eq_left h]
  · rw [Nat.min_eq_right (by omega), List.take_of_length_le (Nat.le_refl _), List.take_of_length_le (by omega)]
section
variable {P : Program} {w : World} {K : PySem.W.Frag} {mg : Str → Option Value} {base : Heap} {f fT fM fB : Addr} {fd fdT fdM fdB : FuncData}
def spShape : Sp := fun vs H Q _ => ∃ (p q : Addr) (n : Nat), vs = [.ref p, .int (n : Int)] ∧ 1 ≤ n ∧ n ≤ 12 ∧ HandAt H p q ∧
  ∀ l H' us (bs : List (List Nat)), Oth p H H' → HandAt H' p q → H l = none → H' l = some (.lst us) → LsN l H' us bs → bs.length = n → BOk bs → Q (.ref l) H'
theorem sc_shape : FnScope ["_law_hand_here", "_law_many", "_law_kind", "_law_c", "_law_rows", "_law_bases_here", "_law_row", "_law_at"] ["_law_hand_here", "_law_many"] (defScope (top 53)) := ⟨rfl, rfl, rfl, by decide +kernel, rfl, by decide +kernel, by decide +kernel⟩
theorem ok_shape (F : FnP K "_law_shape" 53 f fd) (B : Fr mg) (FT : FnP K "_law_take" 50 fT fdT) (mT : mg "_law_take" = some (.ref fT)) (FM : FnP K "_law_mixed" 49 fM fdM) (mM : mg "_law_mixed" = some (.ref fM)) (FB : FnP K "_law_bases" 51 fB fdB) (mB : mg "_law_bases" = some (.ref fB)) :
    FnOk P w K mg base CX0 4 f fd ["_law_hand_here", "_law_many"] spShape := by
  have GT : FnOk P w K mg base CX0 2 fT fdT ["_law_hand_here", "_law_many"] spTake := ok_take FT FM mM B.int B.len
  have bT : L2.Binds K fdT ["_law_hand_here", "_law_many"] [] := FT.bindsN fun _ _ _ _ _ _ us hl => match us, hl with | [_, _], _ => rfl
  have GB : FnOk P w K mg base CX0 3 fB fdB ["_law_hand_here", "_law_c"] spBases := ok_bases FB B FT mT FM mM
  have bB : L2.Binds K fdB ["_law_hand_here", "_law_c"] [] := FB.bindsN fun _ _ _ _ _ _ us hl => match us, hl with | [_, _], _ => rfl
  refine F.ok sc_shape (fun vs H Q E h => ?_) (fun cdv A outer s H vs Q E hr h => ?_)
  · obtain ⟨p, q, n, rfl, _⟩ := h
    rfl
  · obtain ⟨p, q, n, rfl, n1, n12, hh, k⟩ := h
    refine ⟨_, PSs.nox (pss_cons (ps_set (i := 2) sc_shape.nd rfl (Or.inl rfl) (pe_call GT (hr.mono (by decide)) (by rfl) mT FT.kp bT .nil pass0 (pa_cons (pv 0) (pa_cons pe_int pa_nil))))
      (pss_cons (ps_if (pt_cmpR op_lt (pv 2) pe_int (nomark _)) (pss_one (ps_ret
        (pe_lc (own := [("_law_c", 3)]) (g := gName 3) (tt := tYes) rfl sc_shape.nd (pi_range1 (by rfl) B.range (pa_cons (pv 1) pa_nil)) (blkOk_by (N := ["_law_hand_here", "_law_many", "_law_kind", "_law_c", "_law_rows", "_law_bases_here", "_law_row", "_law_at"]) (sc := defScope (top 53)) (by decide +kernel))
          (fun _ _ _ _ _ => pg_name (i := 3) sc_shape.nd rfl (Or.inl rfl)) (fun _ _ _ _ _ => pts_nil)
          (fun _ _ _ _ _ => pe_call GB hr (by rfl) mB FB.kp bB .nil pass0 (pa_cons (pv 0) (pa_cons (pv 3) pa_nil)))))) pss_nil)
      (pss_cons (ps_set (i := 4) sc_shape.nd rfl (Or.inl rfl) (pe_ix ix_list (pe_lit3 (pa_lits2 (pe_lit2 (pa_lits pe_il0 (pa_lits pe_il0 (pa_lits pe_il2 (pa_lits pe_il0 (pa_lits pe_il2 (pa_lits pe_il2 (pa_lits pe_il2 pa_lits_nil))))))))
          (pa_lits2 (pe_lit2 (pa_lits pe_il0 (pa_lits pe_il0 (pa_lits pe_il0 (pa_lits pe_il2 (pa_lits pe_il2 (pa_lits pe_il2 (pa_lits pe_il2 (pa_lits pe_il1 pa_lits_nil)))))))))
          (pa_lits2 (pe_lit2 (pa_lits pe_il0 (pa_lits pe_il1 (pa_lits pe_il1 (pa_lits pe_il2 (pa_lits pe_il1 (pa_lits pe_il2 (pa_lits pe_il2 (pa_lits pe_il2 pa_lits_nil)))))))))
          (pa_lits2 (pe_lit2 (pa_lits pe_il0 (pa_lits pe_il1 (pa_lits pe_il1 (pa_lits pe_il1 (pa_lits pe_il2 (pa_lits pe_il2 (pa_lits pe_il2 (pa_lits pe_il2 pa_lits_nil)))))))))
          (pa_lits2 (pe_lit2 (pa_lits pe_il0 (pa_lits pe_il1 (pa_lits pe_il1 (pa_lits pe_il2 (pa_lits pe_il1 (pa_lits pe_il2 (pa_lits pe_il1 (pa_lits pe_il2 pa_lits_nil)))))))))
          (pa_lits2 (pe_lit2 (pa_lits pe_il0 (pa_lits pe_il0 (pa_lits pe_il2 (pa_lits pe_il0 (pa_lits pe_il2 (pa_lits pe_il1 (pa_lits pe_il2 (pa_lits pe_il1 pa_lits_nil)))))))))
          pa_lits2_nil))))))) (pe_op op_sub (pv 2) pe_int) (fun _ _ => rfl)))
      (pss_cons (ps_setLc (i := 5) (own := [("_law_row", 6)]) (g := gName 6) (tt := tYes) rfl sc_shape.nd rfl rfl (sw_true rfl rfl rfl (by decide +kernel)) (pi_list (pe_slice sl_list (pv 4) po_none (po_some (pv 1)))) (blkOk_by (N := ["_law_hand_here", "_law_many", "_law_kind", "_law_c", "_law_rows", "_law_bases_here", "_law_row", "_law_at"]) (sc := defScope (top 53)) (by decide +kernel))
          (fun _ _ _ _ _ => pg_name (i := 6) sc_shape.nd rfl (Or.inl rfl)) (fun _ _ _ _ _ => pts_nil)
          (fun _ _ _ _ _ => pe_callTy (T := "list") (r := rListOf K) (call_lst (X := _)) (by rfl) B.list (by decide +kernel) (pa_cons (pv 6) pa_nil)))
      (pss_cons (ps_while PassesOwn.never (pt_cmpR op_lt (pe_callB call_len_seq (by rfl) B.len PySem.boot_len (pa_cons (pv 5) pa_nil)) (pv 1) (nomark _))
        (pss_one (ps_expr (pe_bm PySem.F.plainAttrs_list PySem.F.slot_list_append PySem.F.type_list_append mt_append (pv 5) (pa_cons (pe_call GB hr (by rfl) mB FB.kp bB .nil pass0 (pa_cons (pv 0) (pa_cons (pe_callB call_len_seq (by rfl) B.len PySem.boot_len (pa_cons (pv 5) pa_nil)) pa_nil))) pa_nil)))))
      (pss_cons (ps_set (i := 7) sc_shape.nd rfl (Or.inl rfl) (pe_call GT (hr.mono (by decide)) (by rfl) mT FT.kp bT .nil pass0 (pa_cons (pv 0) (pa_cons (pv 1) pa_nil))))
      (pss_cons (ps_if (pt_cmpR op_eq (pe_call GT (hr.mono (by decide)) (by rfl) mT FT.kp bT .nil pass0 (pa_cons (pv 0) (pa_cons pe_int pa_nil))) pe_int (nomark _))
        (pss_one (ps_asg (pe_call GB hr (by rfl) mB FB.kp bB .nil pass0 (pa_cons (pv 0) (pa_cons (pv 7) pa_nil))) (pg_sub (pv 5) (pv 7) set_list (fun _ => rfl)))) pss_nil)
      (pss_one (ps_ret (pv 5)))))))))), ?_⟩
    refine ⟨_, rfl, p, q, 8, rfl, by decide, by decide, hh, fun r H1 r0 r1 h1 e1 => ?_⟩
    have O1 : Oth p H H1 := Oth.take e1
    refine ⟨_, rfl, _, _, rfl, rfl, _, rfl, ?_⟩
    refine ite2 (fun _ => ?_) (fun hr2 => ?_)
    · refine ⟨_, rfl, _, rfl, by omega, by omega, fun D hD => ?_⟩
      obtain ⟨Dp, Dq⟩ := h1.ne hD
      have HD : H D = none := oth_free O1 Dp hD
      refine lc_range (n := n) (fun i H2 => Oth p H H2 ∧ HandAt H2 p q ∧ ∃ us bs, H2 D = some (.lst us) ∧ LsN D H2 us bs ∧ bs.length = i ∧ BOk bs) ⟨O1.updN HD, h1.upd Dp Dq, [], [], upd_same, .nil, rfl, fun i r e => by simp at e⟩ ?_ ?_
      · rintro i H2 hi ⟨O2, h2, us, bs, hDu, hU, hl, hb⟩
        refine ⟨rfl, _, rfl, _, rfl, p, q, i, by (show [V.ref p, V.int (0 + (i : Int))] = _; rw [Int.zero_add]), by omega, h2, fun l H3 row O3 h3 hl3 e3 nd hlt hl3' => ?_⟩
        have lD : l ≠ D := fun z => by
          rw [z, hDu] at hl3
          cases hl3
        have D3 : H3 D = some (.lst us) := O3 _ _ Dp hDu
        refine ⟨us, D3, ?_, (O2.trans O3).updN HD, h3.upd Dp Dq, us ++ [.ref l], bs ++ [row], upd_same, ?_, by rw [List.length_append, hl]; rfl, hb.app nd (by rw [hl]; exact hlt) hl3'⟩
        · rw [hU.len, hl]
          show i < 2 ^ 24
          omega
        · exact ((hU.keep (KeepX.oth O3 h2)).app (.cons ⟨l, rfl, lD, e3⟩ .nil)).keep KeepX.upd
      · rintro H2 ⟨O2, h2, us, bs, hDu, hU, hl, hb⟩
        exact k D H2 us bs O2 h2 HD hDu hU hl hb
    · have r2 : ¬ r < 2 := fun z => hr2 (decide_eq_true z)
      intro T uT H2 s2 hT hTab
      have hTab' : TabsI H2 uT (shapeTab.map cz) := hTab
      refine ⟨_, rfl, _, _, rfl, rfl, ?_⟩
      obtain ⟨j, rfl⟩ : ∃ j : Nat, r = ((j + 2 : Nat) : Int) := ⟨(r - 2).toNat, by omega⟩
      have jl : j < shapeTab.length := by
        show j < 6
        omega
      obtain ⟨tab, htab⟩ : ∃ tab, shapeTab[j]? = some tab := ⟨_, List.getElem?_eq_getElem jl⟩
      have tok := shapeTab_ok tab (List.mem_of_getElem? htab)
      obtain ⟨t, ut, et, h1t, h2t⟩ := hTab'.get (i := j) (l := cz tab) (by rw [List.getElem?_map, htab]; rfl)
      refine ⟨T, uT, _, _, rfl, rfl, SqL.of hT, by rw [show ((j + 2 : Nat) : Int) - 2 = (j : Int) by omega]; exact atI_nat et, ?_⟩
      have O2 : Oth p H H2 := O1.trans (Oth.of s2)
      have hh2 := h1.same s2
      refine ⟨_, rfl, _, rfl, _, rfl, t, ut, rfl, SqL.of h1t, fun S hS => ?_⟩
      rw [cutV_take]
      have sS : Same H2 (upd H2 S (.lst (ut.take n))) := same_new hS
      refine ⟨S, rfl, ⟨_, SqL.of upd_same⟩, fun D hD => ?_⟩
      have hD2 : H2 D = none := by
        cases e : H2 D with
        | none => rfl
        | some o =>
          rw [sS _ _ e] at hD
          cases hD
      obtain ⟨Dp, Dq⟩ := hh2.ne hD2
      have HD : H D = none := oth_free O2 Dp hD2
      have sD := same_new (o := .lst []) hD
      refine lc_list (K := K) (a := S) (xs := ut.take n) (fun i H3 => Same (upd H2 S (.lst (ut.take n))) H3 ∧ ∃ us, H3 D = some (.lst us) ∧ LsN D H3 us ((tab.take n).take i)) ⟨sD, [], upd_same, .nil⟩ (fun i H3 _ h => SqL.of (h.1 _ _ upd_same)) ?_ ?_
      · rintro i y H3 hi ⟨s3, us, hDu, hU⟩
        have lut : ut.length = tab.length := by
          have := Paired.length h2t
          unfold cz at this
          rw [List.length_map] at this
          exact this
        have hi1 : i < (tab.take n).length := by
          have := (List.getElem?_eq_some_iff.mp hi).1
          rw [List.length_take] at this ⊢
          omega
        have hin : i < n := by
          rw [List.length_take] at hi1
          omega
        obtain ⟨row, hrow⟩ : ∃ row, (tab.take n)[i]? = some row := ⟨_, List.getElem?_eq_getElem hi1⟩
        have hrow0 : tab[i]? = some row := by
          rw [List.getElem?_take, if_pos hin] at hrow
          exact hrow
        obtain ⟨a, ea, ha⟩ := h2t.get (i := i) (l := row.map fun (n : Nat) => (n : Int)) (by unfold cz; rw [List.getElem?_map, hrow0]; rfl)
        obtain rfl : V.ref a = y := by
          rw [List.getElem?_take, if_pos hin, ea] at hi
          exact Option.some.inj hi
        refine ⟨rfl, _, rfl, a, _, rfl, .inl (SqL.of (s3 _ _ (sS _ _ ha))), fun L hL => ?_⟩
        have sL := same_new (o := .lst ((row.map fun (n : Nat) => (n : Int)).map V.int)) hL
        have LD : L ≠ D := fun z => by
          rw [z, hDu] at hL
          cases hL
        refine ⟨us, sL _ _ hDu, ?_, same_upd (s3.trans sL) hD, us ++ [.ref L], upd_same, ?_⟩
        · rw [hU.len, List.length_take]
          show _ < 2 ^ 24
          omega
        · rw [List.take_add_one, hrow, Option.toList_some]
          refine ((hU.keep (KeepX.of sL)).app (.cons ⟨L, rfl, LD, ?_⟩ .nil)).keep KeepX.upd
          rw [natsI]
          exact upd_same
      · rintro H3 ⟨s3, us, hDu, hU⟩
        have lut : ut.length = tab.length := by
          have := Paired.length h2t
          unfold cz at this
          rw [List.length_map] at this
          exact this
        have O3 : Oth p H H3 := (O2.trans (Oth.of sS)).trans (Oth.of s3)
        have hh3 := (hh2.same sS).same s3
        rw [List.length_take, lut, ← List.length_take, List.take_length] at hU
        have ltab : (tab.take n).length ≤ n := by
          rw [List.length_take]
          omega
        -- from here on the list stands at D
        let Mid : L2.St → Hp → Prop := fun σ H' => ∃ (x6 x7 : Option V), σ = [some (.ref p), some (.int (n : Int)), some (.int ((j + 2 : Nat) : Int)), none, some (.ref t), some (.ref D), x6, x7] ∧ Oth p H H' ∧ HandAt H' p q ∧ ∃ us bs, H' D = some (.lst us) ∧ LsN D H' us bs ∧ bs.length ≤ n ∧ BOk bs
        refine while_by (fun σ H' => Mid σ H') (fun σ H' => match H' D with | some (.lst us) => n - us.length | _ => 0) ⟨_, _, rfl, O3, hh3, us, tab.take n, hDu, hU, ltab, tok.take n⟩ ?_ ?_
        · rintro σ H' ⟨x6, x7, rfl, O4, h4, us, bs, hDu, hU, hl, hb⟩
          refine ⟨_, rfl, D, us, rfl, .inl (SqL.of hDu), _, rfl, _, _, rfl, rfl, _, rfl, ?_⟩
          refine ite2 (fun hlt => ?_) (fun hge => ?_)
          · have hlt' : (us.length : Int) < (n : Int) := of_decide_eq_true hlt
            refine ⟨_, rfl, .inl ⟨rfl, _, SqL.of hDu⟩, _, rfl, _, rfl, D, us, rfl, .inl (SqL.of hDu), p, q, us.length, rfl, by omega, h4, fun l H5 row O5 h5 hl5 e5 nd hlt5 hl5' => ?_⟩
            have lD : l ≠ D := fun z => by
              rw [z, hDu] at hl5
              cases hl5
            have D5 : H5 D = some (.lst us) := O5 _ _ Dp hDu
            refine ⟨D, us, _, rfl, rfl, D5, by (show us.length < 2 ^ 24); omega, ⟨_, _, rfl, (O4.trans O5).updN HD, h5.upd Dp Dq, us ++ [.ref l], bs ++ [row], upd_same, ?_, ?_, hb.app nd (by rw [← hU.len]; exact hlt5) hl5'⟩, ?_⟩
            · exact ((hU.keep (KeepX.oth O5 h4)).app (.cons ⟨l, rfl, lD, e5⟩ .nil)).keep KeepX.upd
            · rw [List.length_append, ← hU.len]
              show us.length + 1 ≤ n
              omega
            · show (match upd H5 D (.lst (us ++ [.ref l])) D with | some (.lst us) => n - us.length | _ => 0) < (match H' D with | some (.lst us) => n - us.length | _ => 0)
              rw [upd_same, hDu]
              show n - (us ++ [V.ref l]).length < n - us.length
              rw [List.length_append, List.length_singleton]
              omega
          · have hge' : ¬ (us.length : Int) < (n : Int) := fun z => hge (decide_eq_true z)
            have hbn : bs.length = n := by
              have := hU.len
              omega
            refine ⟨_, rfl, _, rfl, p, q, (n : Int), rfl, by omega, by omega, h4, fun r5 H5 r50 r51 h5 e5 => ?_⟩
            obtain ⟨m, rfl⟩ : ∃ m : Nat, r5 = (m : Int) := ⟨r5.toNat, by omega⟩
            refine ⟨_, rfl, p, q, 3, rfl, by decide, by decide, h5, fun r6 H6 r60 r61 h6 e6 => ?_⟩
            have O5 : Oth p H' H5 := Oth.take e5
            have O6 : Oth p H5 H6 := Oth.take e6
            have D6 : H6 D = some (.lst us) := O6 _ _ Dp (O5 _ _ Dp hDu)
            have hU6 : LsN D H6 us bs := (hU.keep (KeepX.oth O5 h4)).keep (KeepX.oth O6 h5)
            have O46 := (O4.trans O5).trans O6
            refine ⟨rfl, _, rfl, ?_⟩
            refine ite2 (fun _ => ?_) (fun _ => ⟨_, rfl, k D H6 us bs O46 h6 HD D6 hU6 hbn hb⟩)
            refine ⟨_, rfl, _, rfl, p, q, m, rfl, by omega, h6, fun l H7 row O7 h7 hl7 e7 nd hlt7 hl7' => ?_⟩
            have lD : l ≠ D := fun z => by
              rw [z, D6] at hl7
              cases hl7
            have D7 : H7 D = some (.lst us) := O7 _ _ Dp D6
            have mus : m < us.length := by
              have := hU.len
              omega
            refine ⟨_, rfl, _, rfl, D, us, _, m, rfl, rfl, D7, ?_, ?_⟩
            · exact ixN_at mus
            · refine ⟨_, rfl, k D _ (us.set m (.ref l)) (bs.set m row) ((O46.trans O7).updN HD) (h7.upd Dp Dq) HD upd_same ?_ (by rw [List.length_set]; exact hbn) (hb.set nd hlt7 hl7')⟩
              exact ((hU6.keep (KeepX.oth O7 h6)).keep KeepX.upd).set lD (upB lD e7) m
        · intro σ H' Q Q' hq hc
          obtain ⟨v, e1, a, us, e2, sq, v2, e3, i, j, e4, e5, b, e6, q⟩ := hc
          exact ⟨v, e1, a, us, e2, sq, v2, e3, i, j, e4, e5, b, e6, hq _ _ q⟩
end
end K57

set_option maxRecDepth 100000
set_option maxHeartbeats 8000000
namespace K57
open PySem PySem.Spec PyProof.Rows L2 Kw
/-- a law's own rows (bases, fields, methods), nothing of them at R -/
def RwN (R : Addr) (H : Hp) : List V → List Ent → Prop := Paired fun v d => ∃ t b m, v = .ref t ∧ t ≠ R ∧ H t = some (.tup [.ref b, natV d.2.1, .ref m]) ∧ b ≠ R ∧ H b = some (.lst (d.1.map natV)) ∧ m ≠ R ∧ H m = some (.lst (d.2.2.map natV))
theorem RwN.keep {R : Addr} {H H' : Hp} (k : KeepX R H H') : ∀ {vs : List V} {ls : List Ent}, RwN R H vs ls → RwN R H' vs ls
  | [], [], _ => .nil
  | _ :: _, _ :: _, .cons ⟨t, b, m, e, n1, h1, n2, h2, n3, h3⟩ r => .cons ⟨t, b, m, e, n1, k _ _ n1 h1 (.inl ⟨_, rfl⟩), n2, k _ _ n2 h2 (ints_o _), n3, k _ _ n3 h3 (ints_o _)⟩ (RwN.keep k r)
theorem RwN.get {R : Addr} {H : Hp} : ∀ {vs : List V} {ls : List Ent} {i : Nat} {d : Ent}, RwN R H vs ls → ls[i]? = some d → ∃ t b m, vs[i]? = some (.ref t) ∧ H t = some (.tup [.ref b, natV d.2.1, .ref m]) ∧ H b = some (.lst (d.1.map natV)) ∧ H m = some (.lst (d.2.2.map natV))
  | [], [], _, _, _, h => by simp at h
  | _ :: _, _ :: _, 0, _, .cons ⟨t, b, m, e1, n1, h1, n2, h2, n3, h3⟩ _, e => by
    obtain rfl := Option.some.inj e
    exact ⟨t, b, m, by rw [e1]; rfl, h1, h2, h3⟩
  | _ :: _, _ :: _, i + 1, _, .cons _ r, e => RwN.get (i := i) r e
theorem RwN.app {R : Addr} {H : Hp} : ∀ {vs us : List V} {ls ms : List Ent}, RwN R H vs ls → RwN R H us ms → RwN R H (vs ++ us) (ls ++ ms)
  | [], _, [], _, _, h => h
  | _ :: _, _, _ :: _, _, .cons h r, s => .cons h (RwN.app r s)
theorem RwN.len {R : Addr} {H : Hp} {vs : List V} {ls : List Ent} (h : RwN R H vs ls) : vs.length = ls.length := Paired.length h
theorem RwN.rows {R : Addr} {H : Hp} : ∀ {vs : List V} {ls : List Ent}, RwN R H vs ls → RowsAt H vs (ls.map (·.1))
  | [], [], _ => .nil
  | _ :: _, _ :: _, .cons ⟨t, b, m, e, n1, h1, n2, h2, n3, h3⟩ r => .cons ⟨t, b, _, _, e, h1, .inl h2⟩ (RwN.rows r)
/-- right rows -/
def EOk (i : Nat) (d : Ent) : Prop := d.1.Nodup ∧ (∀ b ∈ d.1, b < i) ∧ d.1.length ≤ 3 ∧ d.2.1 ≤ 3 ∧ d.2.2.Pairwise (· < ·) ∧ (∀ m ∈ d.2.2, m < 6) ∧ d.2.2.length ≤ 3
def DsOk (ds : List Ent) : Prop := ∀ (i : Nat) (d : Ent), ds[i]? = some d → EOk i d
theorem DsOk.app {ds : List Ent} {d : Ent} (h : DsOk ds) (z : EOk ds.length d) : DsOk (ds ++ [d]) := fun i r e => by
  by_cases q : i < ds.length
  · rw [List.getElem?_append_left q] at e
    exact h i r e
  · rw [List.getElem?_append_right (by omega)] at e
    by_cases q2 : i - ds.length = 0
    · rw [q2] at e
      obtain rfl : d = r := Option.some.inj e
      have : i = ds.length := by omega
      rw [this]
      exact z
    · rw [List.getElem?_eq_none (by rw [List.length_singleton]; omega)] at e
      cases e
theorem DsOk.valid {ds : List Ent} (h : DsOk ds) : validB (ds.map (·.1)) := fun c row e b hb => by
  rw [List.getElem?_map] at e
  obtain ⟨d, hd, rfl⟩ := Option.map_eq_some_iff.mp e
  exact (h c d hd).2.1 b hb
theorem DsOk.short {ds : List Ent} (h : DsOk ds) : ∀ row ∈ ds.map (·.1), row.length ≤ 3 := fun row hr => by
  obtain ⟨d, hd, rfl⟩ := List.mem_map.mp hr
  obtain ⟨i, hi⟩ := List.mem_iff_getElem?.mp hd
  exact (h i d hi).2.2.1
/-- as World takes them -/
theorem RwN.entries {R : Addr} {H : Hp} {vs : List V} {ds : List Ent} (h : RwN R H vs ds) (ok : DsOk ds) : ∀ (i : Nat) (d : Ent), ds[i]? = some d → ∃ e, vs[i]? = some e ∧ EntryOk H e i d := fun i d hd => by
  obtain ⟨t, b, m, e, h1, h2, h3⟩ := h.get hd
  obtain ⟨o1, o2, o3, o4, o5, o6, o7⟩ := ok i d hd
  exact ⟨_, e, t, b, m, rfl, .inr h1, .inl h2, .inl h3, ⟨o1, by omega, o2⟩, o4, up_nodup o5, o7, o6⟩
section
variable {P : Program} {w : World} {K : PySem.W.Frag} {mg : Str → Option Value} {base : Heap} {f fT fM fB fS fMe : Addr} {fd fdT fdM fdB fdS fdMe : FuncData}
def spClassesM : Sp := fun vs H Q _ => ∃ (p q : Addr) (lo hi most : Nat) (wanted : Bool), vs = [.ref p, .int (lo : Int), .int (hi : Int), .int (most : Int), .bl wanted] ∧ 1 ≤ lo ∧ lo ≤ hi ∧ hi ≤ 12 ∧ HandAt H p q ∧
  ∀ l H' us (ds : List Ent), Oth p H H' → HandAt H' p q → H l = none → H' l = some (.lst us) → RwN l H' us ds → lo ≤ ds.length → ds.length ≤ hi → DsOk ds → (ds.map (·.2.1)).sum ≤ most → Q (.ref l) H'
theorem sc_classes : FnScope ["_law_hand_here", "_law_low", "_law_high", "_law_most", "_law_wanted", "_law_many", "_law_bases_here", "_law_rest", "_law_rows", "_law_own", "_law_fields"] ["_law_hand_here", "_law_low", "_law_high", "_law_most", "_law_wanted"] (defScope (top 54)) := ⟨rfl, rfl, rfl, by decide +kernel, rfl, by decide +kernel, by decide +kernel⟩
theorem ok_classesM (F : FnP K "_law_classes" 54 f fd) (B : Fr mg) (FT : FnP K "_law_take" 50 fT fdT) (mT : mg "_law_take" = some (.ref fT)) (FM : FnP K "_law_mixed" 49 fM fdM) (mM : mg "_law_mixed" = some (.ref fM)) (FB : FnP K "_law_bases" 51 fB fdB) (mB : mg "_law_bases" = some (.ref fB))
    (FS : FnP K "_law_shape" 53 fS fdS) (mS : mg "_law_shape" = some (.ref fS)) (FMe : FnP K "_law_methods" 52 fMe fdMe) (mMe : mg "_law_methods" = some (.ref fMe)) (gMax : mg "max" = none) (gMin : mg "min" = none) :
    FnOk P w K mg base CX0 5 f fd ["_law_hand_here", "_law_low", "_law_high", "_law_most", "_law_wanted"] spClassesM := by
  have GT : FnOk P w K mg base CX0 2 fT fdT ["_law_hand_here", "_law_many"] spTake := ok_take FT FM mM B.int B.len
  have bT : L2.Binds K fdT ["_law_hand_here", "_law_many"] [] := FT.bindsN fun _ _ _ _ _ _ us hl => match us, hl with | [_, _], _ => rfl
  have GS : FnOk P w K mg base CX0 4 fS fdS ["_law_hand_here", "_law_many"] spShape := ok_shape FS B FT mT FM mM FB mB
  have bS : L2.Binds K fdS ["_law_hand_here", "_law_many"] [] := FS.bindsN fun _ _ _ _ _ _ us hl => match us, hl with | [_, _], _ => rfl
  have GMe : FnOk P w K mg base CX0 3 fMe fdMe ["_law_hand_here"] spMethods := ok_methods FMe B FT mT FM mM
  have bMe : L2.Binds K fdMe ["_law_hand_here"] [] := FMe.bindsN fun _ _ _ _ _ _ us hl => match us, hl with | [_], _ => rfl
  refine F.ok sc_classes (fun vs H Q E h => ?_) (fun cdv A outer s H vs Q E hr h => ?_)
  · obtain ⟨p, q, lo, hi, most, wanted, rfl, _⟩ := h
    rfl
  · obtain ⟨p, q, lo, hi, most, wanted, rfl, l1, l2, l3, hh, k⟩ := h
    refine ⟨_, PSs.nox (pss_cons (ps_set (i := 5) sc_classes.nd rfl (Or.inl rfl) (pe_op op_add (pv 1) (pe_callB (call_max2 rfl) (by rfl) gMax (by decide +kernel)
        (pa_cons (pe_call GT (hr.mono (by decide)) (by rfl) mT FT.kp bT .nil pass0 (pa_cons (pv 0) (pa_cons (pe_op op_add (pe_op op_sub (pv 2) (pv 1)) pe_int) pa_nil)))
        (pa_cons (pe_call GT (hr.mono (by decide)) (by rfl) mT FT.kp bT .nil pass0 (pa_cons (pv 0) (pa_cons (pe_op op_add (pe_op op_sub (pv 2) (pv 1)) pe_int) pa_nil))) pa_nil)))))
      (pss_cons (ps_set (i := 6) sc_classes.nd rfl (Or.inl rfl) (pe_call GS hr (by rfl) mS FS.kp bS .nil pass0 (pa_cons (pv 0) (pa_cons (pv 5) pa_nil))))
      (pss_cons (ps_set (i := 7) sc_classes.nd rfl (Or.inl rfl) (pv 3))
      (pss_cons (ps_set (i := 8) sc_classes.nd rfl (Or.inl rfl) (pe_lst pa_nil))
      (pss_cons (ps_for PassesOwn.never rfl (pi_list (pv 6)) (pg_name (i := 9) sc_classes.nd rfl (Or.inl rfl))
        (pss_cons (ps_set (i := 10) sc_classes.nd rfl (Or.inl rfl) (pe_callB (call_min2 rfl) (by rfl) gMin (by decide +kernel) (pa_cons (pv 7)
          (pa_cons (pe_ix ix_tup (pe_tup (pa_cons pe_int (pa_cons pe_int (pa_cons pe_int (pa_cons pe_int (pa_cons pe_int (pa_cons pe_int (pa_cons pe_int (pa_cons pe_int (pa_cons pe_int (pa_cons pe_int pa_nil))))))))))) (pe_call GT (hr.mono (by decide)) (by rfl) mT FT.kp bT .nil pass0 (pa_cons (pv 0) (pa_cons pe_int pa_nil))) (fun _ _ => rfl)) pa_nil))))
        (pss_cons (ps_set (i := 7) sc_classes.nd rfl (Or.inl rfl) (pe_op op_sub (pv 7) (pv 10)))
        (pss_one (ps_expr (pe_bm PySem.F.plainAttrs_list PySem.F.slot_list_append PySem.F.type_list_append mt_append (pv 8) (pa_cons (pe_tup (pa_cons (pv 9) (pa_cons (pv 10)
          (pa_cons (pe_ifExp (pt_val (pv 4)) (pe_call GMe (hr.mono (by decide)) (by rfl) mMe FMe.kp bMe .nil pass0 (pa_cons (pv 0) pa_nil)) (pe_lst pa_nil)) pa_nil)))) pa_nil)))))))
      (pss_one (ps_ret (pv 8)))))))), ?_⟩
    have m0 : (1 : Int) ≤ (hi : Int) - (lo : Int) + 1 := by omega
    have m1 : (hi : Int) - (lo : Int) + 1 < 1073741824 := by omega
    refine ⟨_, rfl, _, rfl, _, rfl, _, rfl, _, _, rfl, rfl, _, _, rfl, rfl, p, q, _, rfl, m0, m1, hh, fun r1 H1 r10 r11 h1 e1 => ?_⟩
    refine ⟨_, rfl, _, rfl, _, rfl, _, _, rfl, rfl, _, _, rfl, rfl, p, q, _, rfl, m0, m1, h1, fun r2 H2 r20 r21 h2 e2 => ?_⟩
    have O2 : Oth p H H2 := (Oth.take e1).trans (Oth.take e2)
    refine ⟨_, _, rfl, _, _, rfl, rfl, ?_⟩
    obtain ⟨n, en, n1, n2⟩ : ∃ n : Nat, (lo : Int) + (if r2 > r1 then r2 else r1) = (n : Int) ∧ lo ≤ n ∧ n ≤ hi := by
      refine ⟨((lo : Int) + (if r2 > r1 then r2 else r1)).toNat, ?_, ?_, ?_⟩ <;> split <;> omega
    have en' : V.int ((lo : Int) + (if r2 > r1 then r2 else r1)) = natV n := by rw [en]; rfl
    show gName 5 (V.int ((lo : Int) + (if r2 > r1 then r2 else r1))) _ _ _
    rw [en']
    refine ⟨_, rfl, _, rfl, p, q, n, rfl, by omega, by omega, h2, fun l H3 ul bs O3 h3 hl3 L3 hU3 hbn hb3 => ?_⟩
    have O3' := O2.trans O3
    obtain ⟨lp, lq⟩ := h2.ne hl3
    refine ⟨_, rfl, by decide, fun D hD => ?_⟩
    obtain ⟨Dp, Dq⟩ := h3.ne hD
    have HD : H D = none := oth_free O3' Dp hD
    have sD := same_new (o := .lst []) hD
    have lD : l ≠ D := fun z => by
      rw [z, hD] at L3
      cases L3
    refine ⟨_, rfl, l, rfl, ⟨_, SqL.of (sD _ _ L3)⟩, for_list (K := K) (a := l) (xs := ul) (fun i σ H' => ∃ (rest : Nat) (x9 x10 : Option V), σ = [some (.ref p), some (.int (lo : Int)), some (.int (hi : Int)), some (.int (most : Int)), some (.bl wanted), some (natV n), some (.ref l), some (.int (rest : Int)), some (.ref D), x9, x10] ∧
        Oth p H H' ∧ HandAt H' p q ∧ H' l = some (.lst ul) ∧ LsN D H' ul bs ∧ ∃ us ds, H' D = some (.lst us) ∧ RwN D H' us ds ∧ ds.length = i ∧ DsOk ds ∧ (ds.map (·.2.1)).sum + rest = most)
      ⟨most, none, none, rfl, O3'.updN HD, h3.upd Dp Dq, sD _ _ L3, ?_, [], [], upd_same, .nil, rfl, (fun i d e => by simp at e), by simp⟩ (fun i σ H' _ ⟨_, _, _, _, _, _, h, _⟩ => SqL.of h) ?_ ?_⟩
    · have key : ∀ {vs : List V} {ls : List (List Nat)}, LsN l H3 vs ls → LsN D (upd H3 D (.lst [])) vs ls := fun h => by
        induction h with
        | nil => exact .nil
        | cons z _ ih =>
          obtain ⟨t, e, n, ht⟩ := z
          exact .cons ⟨t, e, fun z => (by rw [z, hD] at ht; cases ht), sD _ _ ht⟩ ih
      exact key hU3
    · rintro i y σ H4 hi4 ⟨rest, x9, x10, rfl, O4, h4, L4, hB4, us, ds, D4, hR4, hl4, ok4, sum4⟩
      have hin : i < n := by
        have := (List.getElem?_eq_some_iff.mp hi4).1
        rw [hU3.len, hbn] at this
        exact this
      obtain ⟨row, hrow⟩ : ∃ row, bs[i]? = some row := ⟨_, List.getElem?_eq_getElem (by omega)⟩
      obtain ⟨b, eb, bD, hb⟩ := hB4.get hrow
      obtain rfl : V.ref b = y := Option.some.inj (eb.symm.trans hi4)
      obtain ⟨bo1, bo2, bo3⟩ := hb3 i row hrow
      refine ⟨_, rfl, by (show 10 ≤ sizeLine); decide, fun t ht => ?_⟩
      obtain ⟨tp, tq⟩ := h4.ne ht
      have st := same_new (o := .tup (([1, 1, 0, 1, 2, 1, 2, 1, 1, 3] : List Int).map V.int)) ht
      refine ⟨_, rfl, p, q, 10, rfl, by decide, by decide, h4.upd tp tq, fun r H5 r0 r1 h5 e5 => ?_⟩
      obtain ⟨v, hv, hm⟩ := tab_at (tab := [1, 1, 0, 1, 2, 1, 2, 1, 1, 3]) r0 r1
      have hv3 : 0 ≤ v ∧ v ≤ 3 := (by decide : ∀ v ∈ ([1, 1, 0, 1, 2, 1, 2, 1, 1, 3] : List Int), 0 ≤ v ∧ v ≤ 3) v hm
      have T5 : H5 t = some (.tup (([1, 1, 0, 1, 2, 1, 2, 1, 1, 3] : List Int).map V.int)) := by
        rw [e5 t tp]
        exact upd_same
      have O5 : Oth p H4 H5 := (Oth.of st).trans (Oth.take e5)
      refine ⟨t, _, r, _, rfl, rfl, SqT.of T5, hv, _, _, rfl, ?_⟩
      obtain ⟨g, eg, g3, gr⟩ : ∃ g : Nat, (if v < (rest : Int) then v else (rest : Int)) = (g : Int) ∧ g ≤ 3 ∧ g ≤ rest := by
        refine ⟨(if v < (rest : Int) then v else (rest : Int)).toNat, ?_, ?_, ?_⟩ <;> split <;> omega
      have eg' : V.int (if v < (rest : Int) then v else (rest : Int)) = natV g := by rw [eg]; rfl
      show gName 10 (V.int (if v < (rest : Int) then v else (rest : Int))) _ _ _
      rw [eg']
      refine ⟨_, rfl, _, rfl, _, _, rfl, rfl, ?_⟩
      have er : V.int ((rest : Int) - (g : Int)) = V.int ((rest - g : Nat) : Int) := by congr 1; omega
      show gName 7 (V.int ((rest : Int) - (g : Int))) _ _ _
      rw [er]
      have D5 : H5 D = some (.lst us) := O5 _ _ Dp D4
      -- the end of a turn, the methods' list at m
      have O45 := O4.trans O5
      have hh5 := h5
      have fin : ∀ (m : Addr) (ms : List Nat) (H6 : Hp), Oth p H5 H6 → HandAt H6 p q → H5 m = none → H6 m = some (.lst (ms.map natV)) → ms.Pairwise (· < ·) → (∀ m ∈ ms, m < 6) → ms.length ≤ 3 → ∀ (u : Addr), H6 u = none →
          ∃ (us1 : List V) (ds1 : List Ent), upd (upd H6 u (.tup [.ref b, natV g, .ref m])) D (.lst (us ++ [.ref u])) D = some (.lst us1) ∧ RwN D (upd (upd H6 u (.tup [.ref b, natV g, .ref m])) D (.lst (us ++ [.ref u]))) us1 ds1 ∧ ds1.length = i + 1 ∧ DsOk ds1 ∧ (ds1.map (·.2.1)).sum + (rest - g) = most := by
        intro m ms H6 O6 h6 hm5 hm6 p1 p2 p3 u hu
        have su := same_new (o := .tup [.ref b, natV g, .ref m]) hu
        have D6 : H6 D = some (.lst us) := O6 _ _ Dp D5
        have uD : u ≠ D := fun z => by
          rw [z, D6] at hu
          cases hu
        have mD : m ≠ D := fun z => by
          rw [z, D5] at hm5
          cases hm5
        have kb : KeepX D H4 H6 := (KeepX.oth O5 h4).trans (KeepX.oth O6 h5)
        refine ⟨us ++ [.ref u], ds ++ [(row, g, ms)], upd_same, ?_, by rw [List.length_append, hl4]; rfl, ok4.app ⟨bo1, by rw [hl4]; exact bo2, bo3, g3, p1, p2, p3⟩, by rw [List.map_append, List.sum_append]; show _ + (g + 0) + _ = _; omega⟩
        refine (((hR4.keep kb).keep (KeepX.of su)).app (.cons ⟨u, b, m, rfl, uD, upd_same, bD, ?_, mD, su _ _ hm6⟩ .nil)).keep KeepX.upd
        exact su _ _ (kb _ _ bD hb (ints_o _))
      have inv : ∀ (m : Addr) (ms : List Nat) (H6 : Hp), Oth p H5 H6 → HandAt H6 p q → H5 m = none → H6 m = some (.lst (ms.map natV)) → ms.Pairwise (· < ·) → (∀ m ∈ ms, m < 6) → ms.length ≤ 3 → ∀ (u : Addr), H6 u = none →
          H6 D = some (.lst us) ∧ Oth p H (upd (upd H6 u (.tup [.ref b, natV g, .ref m])) D (.lst (us ++ [.ref u]))) ∧ HandAt (upd (upd H6 u (.tup [.ref b, natV g, .ref m])) D (.lst (us ++ [.ref u]))) p q ∧
          upd (upd H6 u (.tup [.ref b, natV g, .ref m])) D (.lst (us ++ [.ref u])) l = some (.lst ul) ∧ LsN D (upd (upd H6 u (.tup [.ref b, natV g, .ref m])) D (.lst (us ++ [.ref u]))) ul bs := by
        intro m ms H6 O6 h6 hm5 hm6 p1 p2 p3 u hu
        have su := same_new (o := .tup [.ref b, natV g, .ref m]) hu
        have D6 : H6 D = some (.lst us) := O6 _ _ Dp D5
        refine ⟨D6, Oth.updN ((O45.trans O6).trans (Oth.of su)) HD, (h6.same su).upd Dp Dq, upB lD (su _ _ (O6 _ _ lp (O5 _ _ lp L4))), ?_⟩
        exact (((hB4.keep (KeepX.oth O5 h4)).keep (KeepX.oth O6 h5)).keep (KeepX.of su)).keep KeepX.upd
      have dl : us.length < 2 ^ 24 := by
        have := hR4.len
        omega
      refine ⟨_, rfl, .inl ⟨rfl, _, SqL.of D5⟩, _, rfl, _, rfl, _, rfl, wanted, rfl, ?_⟩
      cases wanted with
      | true =>
        refine iteT ⟨_, rfl, p, q, rfl, h5, fun m H6 ms O6 h6 hm5 hm6 p1 p2 p3 => ⟨by (show 3 ≤ sizeLine); decide, fun u hu => ?_⟩⟩
        obtain ⟨us1, ds1, f1, f2, f3, f4, f5⟩ := fin m ms H6 O6 h6 hm5 hm6 p1 p2 p3 u hu
        obtain ⟨v1, v2, v3, v4, v5⟩ := inv m ms H6 O6 h6 hm5 hm6 p1 p2 p3 u hu
        exact ⟨D, us, _, rfl, rfl, same_new hu _ _ v1, dl, rest - g, _, _, rfl, v2, v3, v4, v5, us1, ds1, f1, f2, f3, f4, f5⟩
      | false =>
        refine iteF ⟨by decide, fun m hm => ⟨by (show 3 ≤ sizeLine); decide, fun u hu => ?_⟩⟩
        have sm := same_new (o := .lst []) hm
        obtain ⟨mp, mq⟩ := h5.ne hm
        obtain ⟨us1, ds1, f1, f2, f3, f4, f5⟩ := fin m [] _ (Oth.of sm) (h5.same sm) hm upd_same .nil (fun _ z => by cases z) (by decide) u hu
        obtain ⟨v1, v2, v3, v4, v5⟩ := inv m [] _ (Oth.of sm) (h5.same sm) hm upd_same .nil (fun _ z => by cases z) (by decide) u hu
        exact ⟨D, us, _, rfl, rfl, same_new hu _ _ v1, dl, rest - g, _, _, rfl, v2, v3, v4, v5, us1, ds1, f1, f2, f3, f4, f5⟩
    · rintro σ H4 ⟨rest, x9, x10, rfl, O4, h4, L4, hB4, us, ds, D4, hR4, hl4, ok4, sum4⟩
      have : ul.length = n := by rw [hU3.len, hbn]
      exact ⟨_, rfl, k D H4 us ds O4 h4 HD D4 hR4 (by omega) (by omega) ok4 (by omega)⟩
def spClasses : Sp := fun vs H Q _ => ∃ (p q : Addr) (lo hi most : Nat) (wanted : Bool), vs = [.ref p, .int (lo : Int), .int (hi : Int), .int (most : Int), .bl wanted] ∧ 1 ≤ lo ∧ lo ≤ hi ∧ hi ≤ 12 ∧ HandAt H p q ∧
  ∀ l H' us (ds : List Ent), Oth p H H' → HandAt H' p q → H l = none → H' l = some (.lst us) → RwN l H' us ds → lo ≤ ds.length → ds.length ≤ hi → DsOk ds → Q (.ref l) H'
theorem ok_classes (F : FnP K "_law_classes" 54 f fd) (B : Fr mg) (FT : FnP K "_law_take" 50 fT fdT) (mT : mg "_law_take" = some (.ref fT)) (FM : FnP K "_law_mixed" 49 fM fdM) (mM : mg "_law_mixed" = some (.ref fM)) (FB : FnP K "_law_bases" 51 fB fdB) (mB : mg "_law_bases" = some (.ref fB))
    (FS : FnP K "_law_shape" 53 fS fdS) (mS : mg "_law_shape" = some (.ref fS)) (FMe : FnP K "_law_methods" 52 fMe fdMe) (mMe : mg "_law_methods" = some (.ref fMe)) (gMax : mg "max" = none) (gMin : mg "min" = none) :
    FnOk P w K mg base CX0 5 f fd ["_law_hand_here", "_law_low", "_law_high", "_law_most", "_law_wanted"] spClasses :=
  (ok_classesM F B FT mT FM mM FB mB FS mS FMe mMe gMax gMin).imp fun vs H Q E ⟨p, q, lo, hi, most, wanted, e, a, b, c, h, k⟩ => ⟨p, q, lo, hi, most, wanted, e, a, b, c, h, fun l H' us ds x1 x2 x3 x4 x5 x6 x7 x8 _ => k l H' us ds x1 x2 x3 x4 x5 x6 x7 x8⟩
end
end K57

set_option maxRecDepth 100000
set_option maxHeartbeats 8000000
namespace K57
open PySem PySem.Spec PyProof.Rows L2 Kw
/-! ### a law's own kin, hues and clashes -/
def kinOf (els : List (List Nat)) (c : Nat) : List Nat := els.getD c [] ++ [c]
def kins (els : List (List Nat)) : List (List Nat) := (List.range els.length).map (kinOf els)
theorem kins_len (els : List (List Nat)) : (kins els).length = els.length := by
  unfold kins
  rw [List.length_map, List.length_range]
theorem kins_at {els : List (List Nat)} {c : Nat} (h : c < els.length) : (kins els)[c]? = some (kinOf els c) := by
  unfold kins
  rw [List.getElem?_map, List.getElem?_range h]
  rfl
theorem kins_getD {els : List (List Nat)} {c : Nat} (h : c < els.length) : (kins els).getD c [] = kinOf els c := by
  rw [List.getD_eq_getElem?_getD, kins_at h]
  rfl
def hV : Option Nat → V
  | none => .non
  | some n => natV n
def hueOf (hs : List (Option Nat)) (x : Nat) : Option Nat := hs.getD x none
theorem hue_at {hs : List (Option Nat)} {x : Nat} (h : x < hs.length) : (hs.map hV)[x]? = some (hV (hueOf hs x)) := by
  unfold hueOf
  rw [List.getElem?_map, List.getElem?_eq_getElem h, List.getD_eq_getElem?_getD, List.getElem?_eq_getElem h]
  rfl
theorem hV_inj {a b : Option Nat} (h : hV a = hV b) : a = b := by
  cases a <;> cases b
  · rfl
  · cases h
  · cases h
  · exact congrArg some (by have := V.int.inj h; omega)
theorem hV_eq (a b : Option Nat) : decide (hV a = hV b) = (a == b) := by
  rw [Bool.eq_iff_iff, decide_eq_true_iff, beq_iff_eq]
  exact ⟨hV_inj, fun h => by rw [h]⟩
theorem hV_scal (a b : Option Nat) : scal (hV a) (hV b) = true := by cases a <;> cases b <;> rfl
theorem hV_non (a : Option Nat) : decide (hV a = V.non) = a.isNone := by cases a <;> rfl
def OptTup (H : Hp) (v : V) (o : Option (List Nat)) : Prop := (o = none ∧ v = .non) ∨ ∃ l t, o = some l ∧ v = .ref t ∧ H t = some (.tup (l.map natV))
theorem OptTup.same {H H' : Hp} {v : V} {o : Option (List Nat)} (h : OptTup H v o) (s : Same H H') : OptTup H' v o := by
  rcases h with h | ⟨l, t, e1, e2, h⟩
  · exact .inl h
  · exact .inr ⟨l, t, e1, e2, s _ _ h⟩
def Least (c : Nat → Nat → Bool) (xs : List Nat) (o : Option (List Nat)) : Prop :=
  (o = none ∧ ∀ a ∈ xs, ∀ b ∈ xs, c a b = false) ∨ ∃ a b, o = some [a, b] ∧ a ∈ xs ∧ b ∈ xs ∧ c a b = true ∧ ∀ a' ∈ xs, ∀ b' ∈ xs, c a' b' = true → a < a' ∨ (a = a' ∧ b ≤ b')
theorem Least.one {c : Nat → Nat → Bool} {xs : List Nat} {o o' : Option (List Nat)} (h : Least c xs o) (h' : Least c xs o') : o = o' := by
  rcases h with ⟨rfl, h⟩ | ⟨a, b, rfl, ha, hb, hc, hm⟩
  · rcases h' with ⟨rfl, _⟩ | ⟨a, b, rfl, ha, hb, hc, hm⟩
    · rfl
    · rw [h a ha b hb] at hc
      cases hc
  · rcases h' with ⟨rfl, h'⟩ | ⟨a', b', rfl, ha', hb', hc', hm'⟩
    · rw [h' a ha b hb] at hc
      cases hc
    · have z1 := hm a' ha' b' hb' hc'
      have z2 := hm' a ha b hb hc
      have : a = a' ∧ b = b' := by omega
      rw [this.1, this.2]
def condL (ks : List (List Nat)) (hs : List (Option Nat)) (a b : Nat) : Bool := decide (a < b) && ((hueOf hs a).isSome && ((hueOf hs a == hueOf hs b) && !((ks.getD b []).contains a)))
section
variable {P : Program} {w : World} {K : PySem.W.Frag} {mg : Str → Option Value} {base : Heap} {f fE fP : Addr} {fd fdE fdP : FuncData}
def spKin : Sp := fun vs H Q _ => ∃ (a : Addr) (ws : List V) (bs : List (List Nat)), vs = [.ref a] ∧ H a = some (.lst ws) ∧ RowsAt H ws bs ∧ validB bs ∧ bs.length ≤ 12 ∧ (∀ row ∈ bs, row.length ≤ 4) ∧
  ∀ H' l us, Same H H' → H l = none → H' l = some (.lst us) → (∀ v ∈ us, v ≠ .ref l) → ListsAt H' us (kins (elders bs)) → Q (.ref l) H'
theorem elders_row_up (bs : List (List Nat)) (c : Nat) (l : List Nat) (h : (elders bs)[c]? = some l) : l.Pairwise (· < ·) := by
  have key : ∀ (bs : List (List Nat)) (acc : List (List Nat)), (∀ l ∈ acc, l.Pairwise (· < ·)) → ∀ l ∈ bs.foldl (fun rows row => rows ++ [elStep rows row]) acc, l.Pairwise (· < ·) := by
    intro bs
    induction bs with
    | nil => intro acc h; exact h
    | cons b r ih =>
      intro acc h l hl
      rw [List.foldl_cons] at hl
      refine ih _ (fun l hl => ?_) l hl
      rcases List.mem_append.mp hl with hl | hl
      · exact h l hl
      · rw [List.mem_singleton.mp hl]
        exact elStep_up _ _
  exact key bs [] (fun l hl => by cases hl) l (List.mem_of_getElem? h)
theorem kin_up (bs : List (List Nat)) (c : Nat) (h : c < bs.length) : (kinOf (elders bs) c).Pairwise (· < ·) ∧ ∀ x ∈ kinOf (elders bs) c, x ≤ c := by
  obtain ⟨l, hl⟩ : ∃ l, (elders bs)[c]? = some l := ⟨_, List.getElem?_eq_getElem (by rw [elders_len]; exact h)⟩
  have e : (elders bs).getD c [] = l := by
    rw [List.getD_eq_getElem?_getD, hl]
    rfl
  unfold kinOf
  rw [e]
  have lt := elders_lt bs c l hl
  refine ⟨List.pairwise_append.mpr ⟨elders_row_up bs c l hl, List.pairwise_singleton _ _, fun a ha b hb => ?_⟩, fun x hx => ?_⟩
  · rw [List.mem_singleton.mp hb]
    exact lt a ha
  · rcases List.mem_append.mp hx with hx | hx
    · exact Nat.le_of_lt (lt x hx)
    · rw [List.mem_singleton.mp hx]
      exact Nat.le_refl _
end
end K57

set_option maxRecDepth 100000
set_option maxHeartbeats 8000000
namespace K57
open PySem PySem.Spec PyProof.Rows L2 Kw
/-! ### hues and depths: the mathematics -/
theorem elders_pre (bs : List (List Nat)) (i : Nat) : ∀ j, i ≤ j → (elders (bs.take j)).take i = elders (bs.take i) := by
  intro j
  induction j with
  | zero =>
    intro h
    obtain rfl : i = 0 := by omega
    rw [List.take_of_length_le (by rw [elders_len, List.length_take]; omega)]
  | succ j ih =>
    intro h
    by_cases e : i = j + 1
    · rw [← e, List.take_of_length_le (by rw [elders_len, List.length_take]; omega)]
    · by_cases q : j < bs.length
      · obtain ⟨row, hrow⟩ : ∃ row, bs[j]? = some row := ⟨_, List.getElem?_eq_getElem q⟩
        rw [elders_more hrow, List.take_append_of_le_length (by rw [elders_len, List.length_take]; omega)]
        exact ih (by omega)
      · rw [show bs.take (j + 1) = bs.take j by rw [List.take_of_length_le (by omega), List.take_of_length_le (by omega)]]
        exact ih (by omega)
theorem elders_pre_all (bs : List (List Nat)) (i : Nat) : (elders bs).take i = elders (bs.take i) := by
  by_cases h : i ≤ bs.length
  · have z := elders_pre bs i bs.length h
    rw [List.take_of_length_le (Nat.le_refl _)] at z
    exact z
  · rw [List.take_of_length_le (by rw [elders_len]; omega), List.take_of_length_le (by omega)]
theorem elders_row {bs : List (List Nat)} {c : Nat} {row : List Nat} (h : bs[c]? = some row) : (elders bs).getD c [] = elStep (elders (bs.take c)) row := by
  have hc := (List.getElem?_eq_some_iff.mp h).1
  have z : ((elders bs).take (c + 1))[c]? = (elders bs)[c]? := by
    rw [List.getElem?_take, if_pos (by omega)]
  rw [elders_pre_all, elders_more h, List.getElem?_append_right (by rw [elders_len, List.length_take]; omega), elders_len, List.length_take, show c - min c bs.length = 0 by omega] at z
  rw [List.getD_eq_getElem?_getD, ← z]
  rfl
theorem elders_getD_take {bs : List (List Nat)} {b c : Nat} (h : b < c) : (elders (bs.take c)).getD b [] = (elders bs).getD b [] := by
  rw [← elders_pre_all, List.getD_eq_getElem?_getD, List.getElem?_take, if_pos h, ← List.getD_eq_getElem?_getD]
theorem elders_mem {bs : List (List Nat)} (hv : validB bs) {c : Nat} {row : List Nat} (h : bs[c]? = some row) (x : Nat) : x ∈ (elders bs).getD c [] ↔ ∃ b ∈ row, x = b ∨ x ∈ (elders bs).getD b [] := by
  have hc := (List.getElem?_eq_some_iff.mp h).1
  rw [elders_row h, elStep_mem (fun b hb => by rw [elders_len, List.length_take]; have := hv c row h b hb; omega) (elders_lt _)]
  constructor
  · rintro ⟨b, hb, e⟩
    exact ⟨b, hb, e.imp id fun e => by rw [elders_getD_take (hv c row h b hb)] at e; exact e⟩
  · rintro ⟨b, hb, e⟩
    exact ⟨b, hb, e.imp id fun e => by rw [elders_getD_take (hv c row h b hb)]; exact e⟩
theorem elders_below {bs : List (List Nat)} {c x : Nat} (h : x ∈ (elders bs).getD c []) : x < c := by
  rw [List.getD_eq_getElem?_getD] at h
  cases e : (elders bs)[c]? with
  | none =>
    rw [e] at h
    cases h
  | some l =>
    rw [e] at h
    exact elders_lt bs c l e x h
theorem elders_trans {bs : List (List Nat)} (hv : validB bs) : ∀ (c : Nat) {x y : Nat}, y ∈ (elders bs).getD c [] → x ∈ (elders bs).getD y [] → x ∈ (elders bs).getD c [] := by
  intro c
  induction c using Nat.strongRecOn with
  | _ c ih =>
    intro x y hy hx
    have hc : c < bs.length := by
      apply Classical.byContradiction
      intro q
      rw [List.getD_eq_getElem?_getD, List.getElem?_eq_none (by rw [elders_len]; omega)] at hy
      cases hy
    obtain ⟨row, hrow⟩ : ∃ row, bs[c]? = some row := ⟨_, List.getElem?_eq_getElem hc⟩
    obtain ⟨b, hb, e⟩ := (elders_mem hv hrow y).mp hy
    refine (elders_mem hv hrow x).mpr ⟨b, hb, .inr ?_⟩
    rcases e with e | e
    · rw [← e]
      exact hx
    · exact ih b (hv c row hrow b hb) e hx
theorem nodup_sub_len' {ks ns : List Nat} (hn : ks.Nodup) (hs : ∀ k ∈ ks, k ∈ ns) : ks.length ≤ ns.length := by
  induction ks generalizing ns with
  | nil => exact Nat.zero_le _
  | cons k r ih =>
    have hk : k ∈ ns := hs k List.mem_cons_self
    obtain ⟨h1, h2⟩ := List.nodup_cons.mp hn
    have z := ih (ns := ns.erase k) h2 fun y hy => by
      have ne : y ≠ k := fun e => h1 (by rw [← e]; exact hy)
      exact (List.mem_erase_of_ne ne).mpr (hs y (List.mem_cons_of_mem _ hy))
    rw [List.length_erase_of_mem hk] at z
    have := List.length_pos_of_mem hk
    show r.length + 1 ≤ ns.length
    omega
/-- each row holds its own class last, the others below it, and the rows of all of them -/
structure KinsOk (ks : List (List Nat)) : Prop where
  up : ∀ c, c < ks.length → (ks.getD c []).Pairwise (· < ·)
  self : ∀ c, c < ks.length → c ∈ ks.getD c []
  le : ∀ c, c < ks.length → ∀ x ∈ ks.getD c [], x ≤ c
  tr : ∀ c, c < ks.length → ∀ y ∈ ks.getD c [], ∀ x ∈ ks.getD y [], x ∈ ks.getD c []
theorem kins_ok {bs : List (List Nat)} (hv : validB bs) : KinsOk (kins (elders bs)) := by
  have hl : ∀ {c}, c < (kins (elders bs)).length → c < bs.length := fun h => by
    rw [kins_len, elders_len] at h
    exact h
  have g : ∀ {c}, c < bs.length → (kins (elders bs)).getD c [] = (elders bs).getD c [] ++ [c] := fun h => kins_getD (by rw [elders_len]; exact h)
  refine ⟨fun c h => ?_, fun c h => ?_, fun c h x hx => ?_, fun c h y hy x hx => ?_⟩
  · rw [g (hl h)]
    exact (kin_up bs c (hl h)).1
  · rw [g (hl h)]
    exact List.mem_append_right _ (List.mem_singleton.mpr rfl)
  · rw [g (hl h)] at hx
    exact (kin_up bs c (hl h)).2 x hx
  · rw [g (hl h)] at hy ⊢
    have yc := (kin_up bs c (hl h)).2 y hy
    rw [g (by have := hl h; omega)] at hx
    rcases List.mem_append.mp hy with hy | hy
    · rcases List.mem_append.mp hx with hx | hx
      · exact List.mem_append_left _ (elders_trans hv c hy hx)
      · rw [List.mem_singleton.mp hx]
        exact List.mem_append_left _ hy
    · obtain rfl := List.mem_singleton.mp hy
      exact hx
/-- those of a row that have the hue of x -/
def likeH (hs : List (Option Nat)) (row : List Nat) (x : Nat) : List Nat := row.filter fun k => hueOf hs k == hueOf hs x
def depthI (ks : List (List Nat)) (hs : List (Option Nat)) (x : Nat) : Int := ((likeH hs (ks.getD x []) x).length : Int) - 1
def huedR (hs : List (Option Nat)) (row : List Nat) : List Nat := row.filter fun k => (hueOf hs k).isSome
def metOf (ks : List (List Nat)) (hs : List (Option Nat)) (k : Nat) : List Int := [(((hueOf hs k).getD 0 : Nat) : Int), depthI ks hs k]
def metR (ks : List (List Nat)) (hs : List (Option Nat)) (row : List Nat) : List (List Int) := (huedR hs row).map (metOf ks hs)
theorem mem_like {hs : List (Option Nat)} {row : List Nat} {x k : Nat} : k ∈ likeH hs row x ↔ k ∈ row ∧ hueOf hs k = hueOf hs x := by
  unfold likeH
  rw [List.mem_filter, beq_iff_eq]
theorem mem_hued {hs : List (Option Nat)} {row : List Nat} {k : Nat} : k ∈ huedR hs row ↔ k ∈ row ∧ (hueOf hs k).isSome = true := by
  unfold huedR
  rw [List.mem_filter]
theorem like_nodup {hs : List (Option Nat)} {row : List Nat} {x : Nat} (h : row.Pairwise (· < ·)) : (likeH hs row x).Nodup := up_nodup (List.Pairwise.filter _ h)
theorem met_inj {ks : List (List Nat)} {hs : List (Option Nat)} {a b : Nat} (ha : (hueOf hs a).isSome = true) (hb : (hueOf hs b).isSome = true) (h : metOf ks hs a = metOf ks hs b) : hueOf hs a = hueOf hs b ∧ depthI ks hs a = depthI ks hs b := by
  unfold metOf at h
  injection h with h1 h2
  injection h2 with h2 _
  refine ⟨?_, h2⟩
  cases ea : hueOf hs a with
  | none =>
    rw [ea] at ha
    cases ha
  | some x =>
    cases eb : hueOf hs b with
    | none =>
      rw [eb] at hb
      cases hb
    | some y =>
      rw [ea, eb] at h1
      have : x = y := by
        have h1 : (x : Int) = (y : Int) := h1
        omega
      rw [this]
/-- below in the same row and of the same hue: less deep -/
theorem depth_lt {ks : List (List Nat)} (ok : KinsOk ks) {hs : List (Option Nat)} {a b : Nat} (hb : b < ks.length) (hab : a ∈ ks.getD b []) (ne : a ≠ b) (he : hueOf hs a = hueOf hs b) : depthI ks hs a < depthI ks hs b := by
  have alt : a < b := by
    have := ok.le b hb a hab
    omega
  have z := nodup_sub_len' (ks := b :: likeH hs (ks.getD a []) a) (ns := likeH hs (ks.getD b []) b) (List.nodup_cons.mpr ⟨fun h => ?_, like_nodup (ok.up a (by omega))⟩) (fun k hk => ?_)
  · unfold depthI
    rw [List.length_cons] at z
    omega
  · have := ok.le a (by omega) b (mem_like.mp h).1
    omega
  · rcases List.mem_cons.mp hk with rfl | hk
    · exact mem_like.mpr ⟨ok.self _ hb, rfl⟩
    · obtain ⟨h1, h2⟩ := mem_like.mp hk
      exact mem_like.mpr ⟨ok.tr b hb a hab k h1, h2.trans he⟩
theorem nodup_map {α β : Type} {f : α → β} : ∀ {l : List α}, l.Nodup → (∀ a ∈ l, ∀ b ∈ l, f a = f b → a = b) → (l.map f).Nodup
  | [], _, _ => List.nodup_nil
  | x :: r, hn, hi => by
    obtain ⟨h1, h2⟩ := List.nodup_cons.mp hn
    refine List.nodup_cons.mpr ⟨fun h => ?_, nodup_map h2 fun a ha b hb => hi a (List.mem_cons_of_mem _ ha) b (List.mem_cons_of_mem _ hb)⟩
    obtain ⟨y, hy, e⟩ := List.mem_map.mp h
    have := hi y (List.mem_cons_of_mem _ hy) x List.mem_cons_self e
    rw [this] at hy
    exact h1 hy
theorem inj_of_nodup_map {α β : Type} {f : α → β} : ∀ {l : List α}, (l.map f).Nodup → ∀ a ∈ l, ∀ b ∈ l, f a = f b → a = b
  | [], _, a, ha, _, _, _ => by cases ha
  | x :: r, hn, a, ha, b, hb, e => by
    obtain ⟨h1, h2⟩ := List.nodup_cons.mp hn
    rcases List.mem_cons.mp ha with ea | ha'
    · rcases List.mem_cons.mp hb with eb | hb'
      · rw [ea, eb]
      · rw [ea] at e
        exact absurd (e ▸ List.mem_map_of_mem hb') h1
    · rcases List.mem_cons.mp hb with eb | hb'
      · rw [eb] at e
        exact absurd (e ▸ List.mem_map_of_mem ha') h1
      · exact inj_of_nodup_map h2 a ha' b hb' e
theorem condL_iff {ks : List (List Nat)} {hs : List (Option Nat)} {a b : Nat} : condL ks hs a b = true ↔ a < b ∧ (hueOf hs a).isSome = true ∧ hueOf hs a = hueOf hs b ∧ a ∉ ks.getD b [] := by
  unfold condL
  rw [Bool.and_eq_true, Bool.and_eq_true, Bool.and_eq_true, decide_eq_true_eq, beq_iff_eq, Bool.not_eq_true', ← Bool.not_eq_true, List.contains_iff_mem]
/-- unlike depths: where u is not below v it is no less deep -/
theorem depth_ge {ks : List (List Nat)} (ok : KinsOk ks) {hs : List (Option Nat)} {c : Nat} (hc : c < ks.length) (hn : (metR ks hs (ks.getD c [])).Nodup) {u v : Nat} (hu : u ∈ ks.getD c []) (hv : v ∈ ks.getD c []) (hs1 : (hueOf hs u).isSome = true) (he : hueOf hs u = hueOf hs v) (hno : u ∉ ks.getD v []) : ¬ depthI ks hs u < depthI ks hs v := by
  intro hlt
  have vc := ok.le c hc v hv
  have inj : ∀ x ∈ likeH hs (ks.getD c []) v, ∀ y ∈ likeH hs (ks.getD c []) v, depthI ks hs x = depthI ks hs y → x = y := fun x hx y hy e => by
    obtain ⟨x1, x2⟩ := mem_like.mp hx
    obtain ⟨y1, y2⟩ := mem_like.mp hy
    have hxs : (hueOf hs x).isSome = true := by rw [x2, ← he]; exact hs1
    have hys : (hueOf hs y).isSome = true := by rw [y2, ← he]; exact hs1
    refine inj_of_nodup_map hn x (mem_hued.mpr ⟨x1, hxs⟩) y (mem_hued.mpr ⟨y1, hys⟩) ?_
    unfold metOf
    rw [x2, y2, e]
  -- the less deep ones of this row
  let T := (likeH hs (ks.getD c []) v).filter fun x => decide (depthI ks hs x < depthI ks hs v)
  have memT : ∀ x, x ∈ T ↔ (x ∈ ks.getD c [] ∧ hueOf hs x = hueOf hs v) ∧ depthI ks hs x < depthI ks hs v := fun x => by
    show x ∈ List.filter _ _ ↔ _
    rw [List.mem_filter, mem_like, decide_eq_true_eq]
  have d0 : ∀ x, x ∈ ks.getD c [] → 0 ≤ depthI ks hs x := fun x hx => by
    have xc := ok.le c hc x hx
    have : 0 < (likeH hs (ks.getD x []) x).length := List.length_pos_of_mem (mem_like.mpr ⟨ok.self x (by omega), rfl⟩)
    unfold depthI
    omega
  have nT : T.Nodup := List.Pairwise.filter _ (like_nodup (ok.up c hc))
  have small : T.length ≤ (depthI ks hs v).toNat := by
    have z := nodup_sub_len' (ks := T.map fun x => (depthI ks hs x).toNat) (ns := List.range (depthI ks hs v).toNat) (nodup_map nT fun x hx y hy e => ?_) (fun k hk => ?_)
    · rw [List.length_map, List.length_range] at z
      exact z
    · obtain ⟨⟨x1, x2⟩, _⟩ := (memT x).mp hx
      obtain ⟨⟨y1, y2⟩, _⟩ := (memT y).mp hy
      have q1 := d0 x x1
      have q2 := d0 y y1
      exact inj x (mem_like.mpr ⟨x1, x2⟩) y (mem_like.mpr ⟨y1, y2⟩) (by have e : (depthI ks hs x).toNat = (depthI ks hs y).toNat := e; omega)
    · obtain ⟨x, hx, rfl⟩ := List.mem_map.mp hk
      obtain ⟨⟨x1, _⟩, x3⟩ := (memT x).mp hx
      have q1 := d0 x x1
      rw [List.mem_range]
      omega
  have lv : (likeH hs (ks.getD v []) v).Nodup := like_nodup (ok.up v (by omega))
  have vin : v ∈ likeH hs (ks.getD v []) v := mem_like.mpr ⟨ok.self v (by omega), rfl⟩
  have big := nodup_sub_len' (ks := u :: (likeH hs (ks.getD v []) v).erase v) (ns := T) (List.nodup_cons.mpr ⟨fun h => hno (mem_like.mp (List.mem_of_mem_erase h)).1, lv.erase v⟩) (fun k hk => ?_)
  · rw [List.length_cons, List.length_erase_of_mem vin] at big
    have := List.length_pos_of_mem vin
    unfold depthI at small
    omega
  · rcases List.mem_cons.mp hk with rfl | hk
    · exact (memT _).mpr ⟨⟨hu, he⟩, hlt⟩
    · obtain ⟨ne, hk⟩ := (lv.mem_erase_iff).mp hk
      obtain ⟨k1, k2⟩ := mem_like.mp hk
      exact (memT k).mpr ⟨⟨ok.tr c hc v hv k k1, k2⟩, depth_lt ok (by omega) k1 ne k2⟩
/-- no clash exactly if no row has two of one hue at one depth -/
theorem clash_iff {ks : List (List Nat)} (ok : KinsOk ks) (hs : List (Option Nat)) (c : Nat) (hc : c < ks.length) : (∀ a ∈ ks.getD c [], ∀ b ∈ ks.getD c [], condL ks hs a b = false) ↔ (metR ks hs (ks.getD c [])).Nodup := by
  constructor
  · intro h
    have main : ∀ a b, a ∈ ks.getD c [] → b ∈ ks.getD c [] → (hueOf hs a).isSome = true → (hueOf hs b).isSome = true → metOf ks hs a = metOf ks hs b → ¬ a < b := fun a b ha hb sa sb e lt => by
      obtain ⟨e1, e2⟩ := met_inj sa sb e
      have bc := ok.le c hc b hb
      have inb : a ∈ ks.getD b [] := by
        apply Classical.byContradiction
        intro q
        have z := h a ha b hb
        rw [condL_iff.mpr ⟨lt, sa, e1, q⟩] at z
        cases z
      have := depth_lt ok (by omega) inb (by omega) e1
      omega
    refine nodup_map (up_nodup (List.Pairwise.filter _ (ok.up c hc))) fun a ha b hb e => ?_
    obtain ⟨a1, a2⟩ := mem_hued.mp ha
    obtain ⟨b1, b2⟩ := mem_hued.mp hb
    have z1 := main a b a1 b1 a2 b2 e
    have z2 := main b a b1 a1 b2 a2 e.symm
    omega
  · intro h a ha b hb
    apply Classical.byContradiction
    intro q
    have q : condL ks hs a b = true := by
      cases e : condL ks hs a b with
      | false => exact absurd e q
      | true => rfl
    obtain ⟨lt, sa, e, no⟩ := condL_iff.mp q
    have bc := ok.le c hc b hb
    have n1 := depth_ge ok hc h ha hb sa e no
    have n2 := depth_ge ok hc h hb ha (by rw [← e]; exact sa) e.symm (fun z => by have := ok.le a (by omega) b z; omega)
    have : metOf ks hs a = metOf ks hs b := by
      unfold metOf
      rw [e, show depthI ks hs a = depthI ks hs b by omega]
    have := inj_of_nodup_map h a (mem_hued.mpr ⟨ha, sa⟩) b (mem_hued.mpr ⟨hb, by rw [← e]; exact sa⟩) this
    omega
/-- the first clash of all rows -/
def FirstC (ks : List (List Nat)) (hs : List (Option Nat)) (o : Option (List Nat)) : Prop :=
  (o = none ∧ ∀ c < ks.length, Least (condL ks hs) (ks.getD c []) none) ∨ ∃ c a b, o = some [c, a, b] ∧ c < ks.length ∧ (∀ c' < c, Least (condL ks hs) (ks.getD c' []) none) ∧ Least (condL ks hs) (ks.getD c []) (some [a, b])
theorem FirstC.one {ks : List (List Nat)} {hs : List (Option Nat)} {o o' : Option (List Nat)} (h : FirstC ks hs o) (h' : FirstC ks hs o') : o = o' := by
  rcases h with ⟨rfl, h⟩ | ⟨c, a, b, rfl, h1, h2, h3⟩
  · rcases h' with ⟨rfl, _⟩ | ⟨c, a, b, rfl, h1, h2, h3⟩
    · rfl
    · cases (h c h1).one h3
  · rcases h' with ⟨rfl, h⟩ | ⟨c', a', b', rfl, h1', h2', h3'⟩
    · cases (h c h1).one h3
    · have e : c = c' := by
        apply Classical.byContradiction
        intro q
        by_cases l : c < c'
        · cases (h2' c l).one h3
        · cases (h2 c' (by omega)).one h3'
      subst e
      have z := h3.one h3'
      injection z with z
      rw [z]
theorem FirstC.none_iff {ks : List (List Nat)} (ok : KinsOk ks) {hs : List (Option Nat)} {o : Option (List Nat)} (h : FirstC ks hs o) : o = none ↔ ∀ row ∈ ks, (metR ks hs row).Nodup := by
  have none_of : ∀ c, Least (condL ks hs) (ks.getD c []) none ↔ ∀ a ∈ ks.getD c [], ∀ b ∈ ks.getD c [], condL ks hs a b = false := fun c => by
    constructor
    · rintro (⟨_, h⟩ | ⟨a, b, h, _⟩)
      · exact h
      · cases h
    · intro h
      exact .inl ⟨rfl, h⟩
  constructor
  · rintro rfl row hr
    obtain ⟨c, hc⟩ := List.mem_iff_getElem?.mp hr
    have hl := (List.getElem?_eq_some_iff.mp hc).1
    have e : ks.getD c [] = row := by
      rw [List.getD_eq_getElem?_getD, hc]
      rfl
    rcases h with ⟨_, h⟩ | ⟨_, _, _, z, _⟩
    · have z := (clash_iff ok hs c hl).mp ((none_of c).mp (h c hl))
      rw [e] at z
      exact z
    · cases z
  · intro hm
    rcases h with ⟨rfl, _⟩ | ⟨c, a, b, rfl, h1, h2, h3⟩
    · rfl
    · have e : ks.getD c [] ∈ ks := by
        rw [List.getD_eq_getElem?_getD, List.getElem?_eq_getElem h1]
        exact List.getElem_mem h1
      have z := (none_of c).mpr ((clash_iff ok hs c h1).mpr (hm _ e))
      cases z.one h3
end K57

set_option maxRecDepth 100000
set_option maxHeartbeats 4000000
namespace K57
open PySem PySem.Spec PyProof.Rows L2 Kw
/-- the facts of a world that others read: the object's fields -/
theorem WorldAt.mono {H H' : Hp} {p C : Addr} {ds : List Ent} (h : WorldAt H p C ds) (s : Same H H') : WorldAt H' p C ds := by
  obtain ⟨dx, ac, ab, ao, am, ae, ah, cs, bs, ms, es, hs, h1, h2, h3, h4, h5, h6, h7, h8, h9, h10, h11, h12⟩ := h
  exact ⟨dx, ac, ab, ao, am, ae, ah, cs, bs, ms, es, hs, s _ _ h1, s _ _ h2, h3.mono (Same.tupK s), s _ _ h4, h5.mono (Same.tupK s), s _ _ h6, s _ _ h7, h8.mono (Same.tupK s), s _ _ h9, h10.mono (Same.tupK s), s _ _ h11, h12.mono (Same.tupK s)⟩
section
variable {P : Program} {w : World} {K : PySem.W.Frag} {mg : Str → Option Value} {base : Heap} {f fW fN fC C Cn : Addr} {fd fdW fdN fdC : FuncData}
theorem sc_noClass : FnScope ["self", "cls"] ["self", "cls"] (defScope (inClass (top 4) 0)) := ⟨rfl, rfl, rfl, by decide +kernel, rfl, by decide +kernel, by decide +kernel⟩
theorem ok_noClass (F : FnM K "__init__" "NoClass.__init__" (inClass (top 4) 0) f fd) (T : ErrX K mg "NoClass" ["cls"] C f) : FnOk P w K mg base CX0 1 f fd ["self", "cls"] (spR C ["cls"]) ∧ Binds K fd ["self", "cls"] [] := by
  refine ⟨F.ok sc_noClass (fun vs H Q E h => ?_) (fun cdv A outer s H vs Q E hr h => ?_), F.bindsN fun _ _ _ _ _ _ us hl => match us, hl with | [_, _], _ => rfl⟩
  · obtain ⟨a, xs, rfl, hl, _⟩ := h
    exact congrArg Nat.succ hl
  · obtain ⟨a, xs, rfl, hl, ha, k⟩ := h
    match xs, hl with
    | [x1], _ =>
      refine ⟨_, PSs.nox (pss_one (ps_ost (pv 0) (pv 1))), ?_⟩
      refine ⟨_, rfl, _, rfl, a, C, rfl, T.oex, T.no _ (List.mem_of_getElem? (i := 0) rfl), .inl ⟨ha, fun dx hd ne => ?_⟩⟩
      exact k dx _ hd ne upd_same (upB ne upd_same) fun b o hb e => upB hb (upB (ne_of_none e hd) e)
/-- a class is told, or NoClass -/
def spCheck (C Cn : Addr) : Sp := fun vs H Q E => ∃ (p : Addr) (c : V) (t : String) (ds : List Ent), vs = [.ref p, c] ∧ WorldAt H p C ds ∧ Ty0 H c t ∧
  ((wholeB (.int 0) (.int ((ds.length : Int) - 1)) c = true ∧ ∀ H', Same H H' → Q c H') ∨
   (wholeB (.int 0) (.int ((ds.length : Int) - 1)) c = false ∧ ∀ d H', Same H H' → H' d = some (.xd (errF ["cls"] [c])) → E (.ref Cn) (some d) H'))
theorem sc_check : FnScope ["world", "c"] ["world", "c"] (defScope (top 17)) := ⟨rfl, rfl, rfl, by decide +kernel, rfl, by decide +kernel, by decide +kernel⟩
theorem ok_check (F : FnP K "check_class" 17 f fd) (B : Fr mg) (TC : ClsWorld K mg C) (FW : FnDf K "is_whole" 13 [.non, .non] fW fdW) (mW : mg "is_whole" = some (.ref fW)) (FN : FnM K "__init__" "NoClass.__init__" (inClass (top 4) 0) fN fdN) (TN : ErrX K mg "NoClass" ["cls"] Cn fN) :
    FnOk P w K mg base (L2.CX P w) 3 f fd ["world", "c"] (spCheck C Cn) := by
  have GW : FnOk P w K mg base CX0 1 fW fdW ["thing", "low", "high"] spWhole := ok_whole FW B
  obtain ⟨GN, bN⟩ : FnOk P w K mg base CX0 1 fN fdN ["self", "cls"] (spR Cn ["cls"]) ∧ Binds K fdN ["self", "cls"] [] := ok_noClass FN TN
  have bW := binds_whole3 FW
  refine F.ok sc_check (fun vs H Q E h => ?_) (fun cdv A outer s H vs Q E hr h => ?_)
  · obtain ⟨p, c, t, ds, rfl, _⟩ := h
    rfl
  · obtain ⟨p, c, t, ds, rfl, hw, ty, h⟩ := h
    have hw0 := hw
    obtain ⟨dx, ac, ab, ao, am, ae, ah, cs, bs, ms, es, hs, h1, h2, h3, _⟩ := hw
    refine ⟨_, (pss_cons (ps_if (pt_not (pt_val (pe_call GW (hr.mono (by decide)) (by rfl) mW FW.kp bW .nil pass0 (pa_cons (pv 1) (pa_cons pe_int (pa_cons (pe_op op_sub (pe_callB call_len_seq (by rfl) B.len PySem.boot_len (pa_cons (pe_fld (pv 0) rfl) pa_nil)) pe_int) pa_nil))))))
        (pss_one (ps_raise rfl (takes_of rfl rfl rfl rfl) (pmk_oex TN.oex TN.ini TN.inT GN (hr.mono (by decide)) bN .nil pass0 (by rfl) TN.mg (pa_cons (pv 1) pa_nil)))) pss_nil)
      (pss_one (ps_ret (pv 1)))), ?_⟩
    refine ⟨_, rfl, _, rfl, p, C, dx, _, _, rfl, h1, TC.cl, TC.no _ (List.mem_of_getElem? (i := 0) rfl), rfl, ac, cs, rfl, .inr (SqT.of h2), _, _, rfl, rfl, c, _, _, t, rfl, ty, .inr ⟨_, rfl⟩, .inr ⟨_, rfl⟩, _, rfl, ?_⟩
    rw [h3.len]
    rcases h with ⟨e, k⟩ | ⟨e, k⟩
    · rw [e]
      exact iteF ⟨_, rfl, k H (Same.refl H)⟩
    · rw [e]
      exact iteT ⟨_, rfl, raise_q rfl (by decide) fun d H' s1 _ e => k d H' s1 e⟩
end
end K57

set_option maxRecDepth 100000
set_option maxHeartbeats 4000000
namespace K57
open PySem PySem.Spec PyProof.Rows L2 Kw
section
variable {P : Program} {w : World} {K : PySem.W.Frag} {mg : Str → Option Value} {base : Heap} {f fT fM : Addr} {fd fdT fdM : FuncData}
def spRow : Sp := fun vs H Q _ => ∃ (p q a : Addr) (xs : List V), vs = [.ref p, .ref a] ∧ HandAt H p q ∧ a ≠ p ∧ SeqAt H a xs ∧
  ∀ l H', Oth p H H' → HandAt H' p q → ((H l = none ∧ H' l = some (.lst xs)) ∨ H' l = some (.tup xs)) → Q (.ref l) H'
end
end K57

set_option maxRecDepth 100000
set_option maxHeartbeats 4000000
namespace Kw
open PySem PySem.Spec PyProof.Rows L2
section
variable {X : Cx} {CX : CXT} {k : Nat} {fI C : Addr} {fd : FuncData} {ps : List Str} {sp : Sp} {x : Str} {p pos : Pos} {e : Expr} {es : List Expr} {ta : TA}
/-- C(e, ..), an own class whose __init__ may raise, where σ tells what the raising asks -/
theorem made_at {W : XK} {pins : List (Addr × Obj)} {σ : L2.St} {H : Hp} {s : Shared} {Q : VK} {us : List Value} {vs : List V} (M : Mk X.K C fI) (G : FnOk X.prog X.w X.K X.mg X.base CX k fI fd ps sp)
    (room : Room (k + 1) X.A) (bd : Binds X.K fd ps []) (out : PassesAt CX X σ W) (I : Inv X pins σ H s) (rel : Vals vs us)
    (q : ∀ o dx, H o = none → H dx = none → dx ≠ o → sp (.ref o :: vs) (upd (upd H dx (.own o)) o (.ins C dx [])) (fun v H2 => v = .non ∧ Q (.ref o) H2) W) :
    wpAny (model X.prog X.w) X.A (call (.ref C) us) (EP X pins σ Q) X.xe s := by
  generalize en : s.heap.objs.size = n at *
  have J := Inv.made (C := C) I
  rw [en] at J
  have f1 : H (n + 1) = none := I.hok.fresh (by rw [en]; exact Nat.le_succ _)
  have f2 : H n = none := I.hok.fresh (by rw [en]; exact Nat.le_refl _)
  have go := q (n + 1) n f1 f2 (Nat.ne_of_lt (Nat.lt_succ_self _))
  have rel2 : Vals (V.ref (n + 1) :: vs) (Value.ref (n + 1) :: us) := .cons rfl rel
  have len : (Value.ref (n + 1) :: us ++ []).length = ps.length := by
    rw [List.append_nil, ← rel2.length]
    exact G.len _ _ _ _ go
  have b2 := bd _ (Value.ref (n + 1) :: us) J.kIn len
  rw [List.append_nil] at b2
  have ran := G.run _ X.stack _ _ ⟨Value.ref (n + 1) :: us, []⟩ (Value.ref (n + 1) :: us) _ _ W (room.make C us []) (J.env0.make C us []) b2 rel2 go
  refine wpAny_call (make_map (f := fI) I.kIn M.makes M.init (beq_iff_eq.mp M.fn) ?_)
  rw [en]
  refine codeAny_mono ran fun r s' z => ?_
  cases r with
  | error er => exact out pins _ _ er s' J z
  | ok fl =>
    cases fl with
    | ret u =>
      obtain ⟨v, H3, I3, rv, ev, q3⟩ := J.after z
      subst ev
      exact ⟨rv, .ref (n + 1), H3, I3, rfl, q3⟩
    | next => exact False.elim z
    | brk => exact False.elim z
    | cont => exact False.elim z
def tMadeS (C : Addr) (sp : Sp) (W : L2.St → XK) (ta : TA) : TE := fun σ H Q => ta σ H fun vs H1 => ∀ o dx, H1 o = none → H1 dx = none → dx ≠ o → sp (.ref o :: vs) (upd (upd H1 dx (.own o)) o (.ins C dx [])) (fun v H2 => v = .non ∧ Q (.ref o) H2) (W σ)
theorem pe_madeS {W : L2.St → XK} (M : Mk X.K C fI) (G : FnOk X.prog X.w X.K X.mg X.base CX k fI fd ps sp) (room : Room (k + 1) X.A) (hg : Gl X x) (hm : X.mg x = some (.ref C)) (bd : Binds X.K fd ps []) (out : ∀ σ, PassesAt CX X σ (W σ))
    (ha : PA X (e :: es) ta) (hdb : (x == ("__debug__" : Str)) = false := by decide) (he : starEach (e :: es) X.env = (false, eval e X.env) :: starEach es X.env := by rfl) (hpl : (backTo pos (starEach es X.env)).any (·.1) = false := by rfl) :
    PE X (.Call (.Name x p) (e :: es) [] pos) (tMadeS C sp W ta) := by
  refine ⟨fun pins s σ H Q I h => wpAny_Call_Name_kw (ld_glob I hg hm ?_ hdb)⟩
  refine PySem.W.callWith_K (h₀ := X.base) I.ok.mod.kin M.kp (thn (ha.run pos pins s σ H _ I h) fun us s1 ⟨vs, H1, I1, r1, q1⟩ => ?_) he hpl
  exact ⟨I1.kIn, made_at M G room bd (out σ) I1 r1 q1⟩
variable {o : Expr} {to : TE} {m : Str} {apos : Pos}
/-- o.m(e, ..), a method that may raise, where σ tells what the raising asks -/
def tMethU (C : Addr) (m : Str) (sp : Sp) (W : L2.St → XK) (to : TE) (ta : TA) : TE := fun σ H Q => to σ H fun x H1 => ∃ a dx fs, x = .ref a ∧ H1 a = some (.ins C dx fs) ∧ fs.lookup m = none ∧ ta σ H1 fun vs H2 => sp (.ref a :: vs) H2 Q (W σ)
theorem pe_methU {W : L2.St → XK} {pl : Sem Bool} (ho : PE X o to) (cl : Cls X.K C) (mt : Meth X.K C m fI) (G : FnOk X.prog X.w X.K X.mg X.base CX k fI fd ps sp) (room : Room k X.A) (bd : Binds X.K fd ps []) (out : ∀ σ, PassesAt CX X σ (W σ)) (args : PA X (e :: es) ta)
    (h1 : starEach (e :: es) X.env = (false, eval e X.env) :: starEach es X.env := by rfl) (h2 : (backTo pos (starEach es X.env)).any (·.1) = false := by rfl)
    (way : eval (.Call (.Attribute o m apos) (e :: es) [] pos) X.env = (do let ov ← eval o X.env; standAt apos.atName; let (f, first) ← holding [ov] (getMethod ov m pl); callWith pos f first (backTo pos (starEach (e :: es) X.env)) (backToKw pos (keywordEach [] X.env))) := by rfl) :
    PE X (.Call (.Attribute o m apos) (e :: es) [] pos) (tMethU C m sp W to ta) := by
  refine ⟨fun pins s σ H Q I h => PySem.W.methodCall_KW (pl := pl) (thn (ho.run pins s σ H _ I h) fun u s1 z => ?_) way⟩
  obtain ⟨x, H1, I1, rx, a, dx, fs, rfl, ea, l, q⟩ := z
  obtain rfl : u = Value.ref a := rx
  refine getmeth_ok I1 ea cl mt l (PySem.W.callWith_K (first := [.ref a]) (h₀ := X.base) I.ok.mod.kin mt.kp (thn (args.run pos pins s1 σ H1 _ I1 q) fun us s2 z => ?_) h1 h2)
  obtain ⟨vs, H2, I2, r, q2⟩ := z
  exact ⟨I2.kIn, run_fnS (us := .ref a :: us) (vs := .ref a :: vs) G room bd (out σ) I2 (.cons rfl r) q2⟩
end
end Kw

set_option maxRecDepth 100000
set_option maxHeartbeats 4000000
namespace Kw
open PySem PySem.Spec PyProof.Rows L2
/-- len(set(xs)), xs a list of tuples of ints: as many as unlike ones -/
def tLenSetT (K : PySem.W.Frag) (ta : TE) : TE := fun σ H Q => ta σ H fun x H1 => ∃ (l : Addr) (ks : List (Addr × List Int)), x = V.ref l ∧ SqL K H1 l (ks.map fun p => V.ref p.1) ∧ (∀ p ∈ ks, SqT K H1 p.1 (p.2.map V.int)) ∧ ks.length < 64 ∧
  ∀ n : Nat, (n = ks.length ↔ (ks.map (·.2)).Nodup) → Q (.int n) H1
theorem nodup_sub_len {α : Type} [DecidableEq α] : ∀ {ks ns : List α}, ks.Nodup → (∀ k ∈ ks, k ∈ ns) → ks.length ≤ ns.length
  | [], _, _, _ => Nat.zero_le _
  | k :: r, ns, hn, hs => by
    have hk : k ∈ ns := hs k List.mem_cons_self
    obtain ⟨h1, h2⟩ := List.nodup_cons.mp hn
    have ih := nodup_sub_len (ks := r) (ns := ns.erase k) h2 fun y hy => by
      have ne : y ≠ k := fun e => h1 (by rw [← e]; exact hy)
      exact (List.mem_erase_of_ne ne).mpr (hs y (List.mem_cons_of_mem _ hy))
    rw [List.length_erase_of_mem hk] at ih
    have := List.length_pos_of_mem hk
    show r.length + 1 ≤ ns.length
    omega
theorem nodup_of_sub_len {α : Type} [DecidableEq α] : ∀ {ns ks : List α}, ks.Nodup → (∀ k ∈ ks, k ∈ ns) → ns.length ≤ ks.length → ns.Nodup
  | [], _, _, _, _ => List.nodup_nil
  | n :: r, ks, hn, hs, hl => by
    by_cases hr : n ∈ r
    · have z := nodup_sub_len (ks := ks) (ns := r) hn fun k hk => by
        rcases List.mem_cons.mp (hs k hk) with e | e
        · rw [e]; exact hr
        · exact e
      have : r.length + 1 ≤ ks.length := hl
      omega
    · refine List.nodup_cons.mpr ⟨hr, nodup_of_sub_len (ks := ks.erase n) (hn.erase n) (fun k hk => ?_) ?_⟩
      · have h1 := (hn.mem_erase_iff).mp hk
        rcases List.mem_cons.mp (hs k h1.2) with e | e
        · exact absurd e h1.1
        · exact e
      · have h2 : r.length + 1 ≤ ks.length := hl
        by_cases hm : n ∈ ks
        · rw [List.length_erase_of_mem hm]
          omega
        · rw [List.erase_of_not_mem hm]
          omega
theorem pe_lenSetT {X : Cx} {a : Expr} {ta : TE} {p p2 q pos : Pos} (hu : X.A.units + 64 < cLine) (hg : Gl X "len") (hm : X.mg "len" = none) (hg2 : Gl X "set") (hm2 : X.mg "set" = none) (ha : PE X a ta) (hc : X.calm = true := by rfl)
    (na : starEach [a] X.env = (false, eval a X.env) :: starEach [] X.env := by rfl) : PE X (.Call (.Name "len" p) [.Call (.Name "set" p2) [a] [] q] [] pos) (tLenSetT X.K ta) := by
  refine ⟨fun pins s σ H Q I h => Call_ (ld_blt I hg hm PySem.boot_len ?_)⟩
  refine callWith_builtin1 (args_cons (Call_ (ld_blt I hg2 hm2 PyProof.Rows.boot_set ?_)) rfl) rfl rfl
  refine callWith_type1 (args_cons (thn (ha.run pins s σ H _ I h) fun v s1 ⟨x, H1, I1, r1, q1⟩ => args_nil ?_) na) na rfl
  obtain ⟨l, ks, ex, hq, hk, hf, q2⟩ := q1
  subst ex
  obtain rfl : v = Value.ref l := r1
  obtain ⟨its, rv, pl, hz⟩ := I1.list hq
  refine call_set_tups (P := X.prog) (w := X.w) ks (I1.ok.hd hc) pl.isList (by simpa using refs_of_vals rv) (fun p hp => I1.isT (hk p hp)) hf (by omega) fun h' tk L es ep t R g k => args_nil ?_
  obtain ⟨o, ho, hex, hd⟩ := R.ob
  have sz := SetTR.size (s := { s1 with heap := h', toks := tk }) R
  have I2 : Inv X pins σ H1 { s1 with heap := h', toks := tk } := I1.kept fun b o e => k b o e
  have key : L.length = ks.length ↔ (ks.map (·.2)).Nodup := by
    have sub : ∀ x ∈ L.map (·.2), x ∈ ks.map (·.2) := fun x hx => by
      obtain ⟨p, hp, rfl⟩ := List.mem_map.mp hx
      exact List.mem_map_of_mem (List.mem_of_mem_take (g.sub p hp))
    have all : ∀ x ∈ ks.map (·.2), x ∈ L.map (·.2) := fun x hx => by
      obtain ⟨p, hp, rfl⟩ := List.mem_map.mp hx
      exact g.all p (by rw [List.take_length]; exact hp)
    have l1 := nodup_sub_len R.nd sub
    rw [List.length_map, List.length_map] at l1
    constructor
    · intro e
      refine nodup_of_sub_len R.nd sub ?_
      rw [List.length_map, List.length_map, e]
      exact Nat.le_refl _
    · intro hn
      have l2 := nodup_sub_len hn all
      rw [List.length_map, List.length_map] at l2
      omega
  exact call_len_set ho hex hd (SetTR.fits (s := { s1 with heap := h', toks := tk }) R) (by have := R.few; rw [sz]; omega) ⟨.int es.size, H1, I2.tok _, ⟨_, rfl⟩, q2 es.size (by rw [sz]; exact key)⟩
end Kw

set_option maxRecDepth 100000
set_option maxHeartbeats 8000000
namespace K57
open PySem PySem.Spec PyProof.Rows L2 Kw
/-! the general parts of e2, s4, s6, s8, s9, s10, t1, t3, v4, t5, u1, u2, u5, u7, v8, u11: for laws that have no hues (made by a script out of those) -/
def onLine (els : List (List Nat)) (x y : Nat) : Bool := decide (x = y) || ((els.getD y []).contains x || (els.getD x []).contains y)
def elsOf (ds : List Ent) : List (List Nat) := elders (ds.map (·.1))
theorem elsOf_len (ds : List Ent) : (elsOf ds).length = ds.length := by
  unfold elsOf
  rw [elders_len, List.length_map]
theorem WorldAt.elder {H : Hp} {p C : Addr} {ds : List Ent} (h : WorldAt H p C ds) {x : Nat} (hx : x < ds.length) : ∃ (dx : Addr) (fs : List (Str × V)) (ae : Addr) (es : List V) (t : Addr), H p = some (.ins C dx fs) ∧ List.lookup ("elders" : Str) fs = some (V.ref ae) ∧ H ae = some (.tup es) ∧ es[x]? = some (.ref t) ∧ H t = some (.tup (((elsOf ds).getD x []).map natV)) := by
  obtain ⟨dx, ac, ab, ao, am, ae, ah, cs, bs, ms, es, hs, h1, h2, h3, h4, h5, h6, h7, h8, h9, h10, h11, h12⟩ := h
  obtain ⟨l, hl⟩ : ∃ l, (elsOf ds)[x]? = some l := ⟨_, List.getElem?_eq_getElem (by rw [elsOf_len]; exact hx)⟩
  obtain ⟨t, e1, e2⟩ := h10.get hl
  refine ⟨dx, _, ae, es, t, h1, rfl, h9, e1, ?_⟩
  rw [List.getD_eq_getElem?_getD, hl]
  exact e2
theorem whole_nat {n : Nat} {c : V} (h : wholeB (.int 0) (.int ((n : Int) - 1)) c = true) : ∃ x : Nat, c = natV x ∧ x < n := by
  cases c with
  | int i =>
    unfold wholeB inLo inHi at h
    simp only [Bool.and_eq_true, decide_eq_true_eq] at h
    exact ⟨i.toNat, by (show V.int i = V.int _); congr 1; omega, by omega⟩
  | _ => cases h
theorem iteT' {c : Bool} {A B : Prop} (h : c = true) (a : A) : if c = true then A else B := by
  rw [if_pos h]
  exact a
theorem iteF' {c : Bool} {A B : Prop} (h : c = false) (b : B) : if c = true then A else B := by
  rw [if_neg (by rw [h]; decide)]
  exact b
theorem whole_of {n x : Nat} (h : x < n) : wholeB (.int 0) (.int ((n : Int) - 1)) (natV x) = true := by
  show wholeB (.int 0) (.int ((n : Int) - 1)) (.int (x : Int)) = true
  unfold wholeB inLo inHi
  simp only [Bool.and_eq_true, decide_eq_true_eq]
  omega
/-- a class of one's own, by the fields it keeps -/
structure ClsF (K : PySem.W.Frag) (C : Addr) (fs : List Str) : Prop where
  cl : Cls K C
  no : ∀ f ∈ fs, NoAttr K C f
theorem cut_tail (xs : List V) (i : Nat) (h : i < xs.length) : ¬ (HT.sIx xs.length 0 (some ((i : Int) + 1)) = 0 ∧ HT.sIx xs.length xs.length none = xs.length) ∧ cutV xs (some ((i : Int) + 1)) none = xs.drop (i + 1) := by
  have e : ((i : Int) + 1) = ((i + 1 : Nat) : Int) := by omega
  rw [e]
  constructor
  · rw [HT.sIx_nat]
    omega
  · unfold cutV
    rw [HT.sIx_nat, HT.sIx_none, Nat.min_eq_left (by omega), List.take_of_length_le (by rw [List.length_drop]; exact Nat.le_refl _)]
theorem kins_els {ds : List Ent} {x : Nat} (h : x < ds.length) : (kins (elsOf ds)).getD x [] = (elsOf ds).getD x [] ++ [x] := kins_getD (by rw [elsOf_len]; exact h)
theorem line_kin {ds : List Ent} {a b : Nat} (hab : a < b) (hb : b < ds.length) : onLine (elsOf ds) a b = ((kins (elsOf ds)).getD b []).contains a := by
  rw [kins_els hb]
  unfold onLine
  have e1 : decide (a = b) = false := decide_eq_false (by omega)
  have e2 : ((elsOf ds).getD a []).contains b = false := by
    cases e : ((elsOf ds).getD a []).contains b with
    | false => rfl
    | true =>
      have := elders_below (List.contains_iff_mem.mp e)
      omega
  rw [e1, e2, Bool.false_or, Bool.or_false, Bool.eq_iff_iff, List.contains_iff_mem, List.contains_iff_mem, List.mem_append, List.mem_singleton]
  exact ⟨.inl, fun h => h.resolve_right (by omega)⟩
def LayD (n : Nat) (d : PyData) : Prop := d.canLay0 = true ∧ d.depth ≤ n
theorem lay_all {n : Nat} : ∀ {ds : List PyData}, (∀ d ∈ ds, LayD n d) → PyData.canLayAll0 ds = true ∧ PyData.depthAll ds ≤ n
  | [], _ => ⟨by simp [PyData.canLayAll0], by simp [PyData.depthAll]⟩
  | d :: r, h => by
    obtain ⟨h1, h2⟩ := h d List.mem_cons_self
    obtain ⟨h3, h4⟩ := lay_all (ds := r) fun x hx => h x (List.mem_cons_of_mem _ hx)
    refine ⟨by simp [PyData.canLayAll0, h1, h3], ?_⟩
    simp only [PyData.depthAll]
    omega
theorem LayD.tup {n : Nat} {ds : List PyData} (h : ∀ d ∈ ds, LayD n d) : LayD (n + 1) (.tuple ds) := by
  obtain ⟨h1, h2⟩ := lay_all h
  refine ⟨by simp [PyData.canLay0, h1], ?_⟩
  simp only [PyData.depth]
  omega
theorem LayD.int {n : Nat} (i : Int) : LayD n (.int i) := ⟨by simp [PyData.canLay0], by simp [PyData.depth]⟩
theorem LayD.shaped {n : Nat} {d : PyData} (h : LayD n d) (hn : n ≤ 64) : SeqAt.shaped d = true := by
  show (d.canLay0 && decide (d.depth ≤ 64)) = true
  rw [Bool.and_eq_true]
  exact ⟨h.1, decide_eq_true (Nat.le_trans h.2 hn)⟩
theorem LayD.refl {n : Nat} {d : PyData} (h : LayD n d) : PyData.eqv d d = true := SeqAt.eqv_refl d h.1
def dN (n : Nat) : PyData := .int (n : Int)
def dNs (l : List Nat) : PyData := .tuple (l.map dN)
def dNss (ls : List (List Nat)) : PyData := .tuple (ls.map dNs)
def dEnt (d : Ent) : PyData := .tuple [dNs d.1, dN d.2.1, dNs (sortN d.2.2)]
def dEnts (ds : List Ent) : PyData := .tuple (ds.map dEnt)
theorem lay_ns (l : List Nat) : LayD 1 (dNs l) := LayD.tup fun d hd => by
  obtain ⟨n, _, rfl⟩ := List.mem_map.mp hd
  exact .int _
theorem LayD.le {n m : Nat} {d : PyData} (h : LayD n d) (k : n ≤ m) : LayD m d := ⟨h.1, Nat.le_trans h.2 k⟩
theorem lay_nss (ls : List (List Nat)) : LayD 2 (dNss ls) := LayD.tup fun d hd => by
  obtain ⟨n, _, rfl⟩ := List.mem_map.mp hd
  exact lay_ns n
theorem lay_ent (e : Ent) : LayD 2 (dEnt e) := LayD.tup fun d hd => by
  rcases List.mem_cons.mp hd with rfl | hd
  · exact lay_ns _
  · rcases List.mem_cons.mp hd with rfl | hd
    · exact .int _
    · rw [List.mem_singleton.mp hd]
      exact lay_ns _
theorem lay_ents (es : List Ent) : LayD 3 (dEnts es) := LayD.tup fun d hd => by
  obtain ⟨n, _, rfl⟩ := List.mem_map.mp hd
  exact lay_ent n
theorem dp_nats {K : PySem.W.Frag} {H : Hp} : ∀ (l : List Nat), DpAll K H (l.map natV) (l.map dN)
  | [] => .nil
  | n :: r => .cons (.int _) (dp_nats r)
theorem dp_ns {K : PySem.W.Frag} {H : Hp} {t : Addr} {l : List Nat} (h : H t = some (.tup (l.map natV))) : Dp K H (.ref t) (dNs l) := .tup (SqT.of h) (dp_nats l)
theorem dp_tups {K : PySem.W.Frag} {H : Hp} : ∀ {vs : List V} {ls : List (List Nat)}, TupsAt H vs ls → DpAll K H vs (ls.map dNs)
  | [], [], _ => .nil
  | _ :: _, _ :: _, .cons ⟨t, e, h⟩ r => by
    rw [e]
    exact .cons (dp_ns h) (dp_tups r)
theorem dp_ents {K : PySem.W.Frag} {H : Hp} : ∀ {vs : List V} {ds : List Ent}, EntsAt H vs ds → DpAll K H vs (ds.map dEnt)
  | [], [], _ => .nil
  | _ :: _, _ :: _, .cons ⟨t, e, tb, tm, h1, h2, h3⟩ r => by
    rw [e]
    exact .cons (.tup (SqT.of h1) (.cons (dp_ns h2) (.cons (.int _) (.cons (dp_ns h3) .nil)))) (dp_ents r)
/-- what isinstance asks of a class of one's own -/
structure IsiC (K : PySem.W.Frag) (C : Addr) : Prop where
  cla : PySem.W.findIn K (.ref C) "__class__" = some (some (.builtin "object.__class__"))
  get : PySem.W.specialIn K (.builtin "object.__class__") "__get__" = some (some (.builtin "getset_descriptor.__get__"))
  takes : PySem.W.takesIn K (.builtin "object.__class__") = some true
  obj : PySem.W.mroIn K C (.type "object") = some true
theorem kit_self {K : PySem.W.Frag} {C : Addr} : PySem.W.kitOne K (.ref C) (.ref C) = some true := by
  unfold PySem.W.kitOne
  rw [if_pos (beq_iff_eq.mpr rfl)]
/-- t + u of tuples, kept as it is said -/
structure rCatQ (K : PySem.W.Frag) (x y : V) (H : Hp) (Q : VK) : Prop where
  h : rCatA K x y H Q
theorem op_catQ {X : Cx} : OpR X (binaryOp .Add) (rCatQ X.K) := fun pins s σ H x y v u Q I rx ry h => op_catA pins s σ H x y v u Q I rx ry h.h
/-- t + u of tuples, whatever of them is empty -/
theorem cat_q {K : PySem.W.Frag} {H0 H : Hp} {a b : Addr} {xs ys : List V} {Q : VK} (ha : H0 a = some (.tup xs)) (hb : H b = some (.tup ys)) (hl : xs.length + ys.length ≤ sizeLine) (s : Same H0 H) (q : ∀ t H', Same H0 H' → H' t = some (.tup (xs ++ ys)) → Q (.ref t) H') : rCatQ K (.ref a) (.ref b) H Q := by
  refine ⟨a, b, xs, ys, rfl, rfl, SqT.of (s _ _ ha), SqT.of hb, hl, fun e => ?_, fun _ e => ?_, fun _ _ p hp => q p _ (s.trans (same_new hp)) upd_same⟩
  · exact q b H s (by rw [hb, e]; rfl)
  · exact q a H s (by rw [s _ _ ha, e, List.append_nil])
section
variable {P : Program} {w : World} {K : PySem.W.Frag} {mg : Str → Option Value} {base : Heap} {f fS fW fN fC fL fI fU fH fA fK C Cn Cc Cl Cnl : Addr} {fd fdS fdW fdN fdC fdL fdI fdU fdH fdA fdK : FuncData}
/-! ### World.__eq__ -/
def REq (C : Addr) : Addr → Addr → Hp → Prop := fun a b H => ∃ ds, WorldAt H a C ds ∧ WorldAt H b C ds
theorem sc_worldEq : FnScope ["self", "other"] ["self", "other"] (defScope (inClass (top 24) 8)) := ⟨rfl, rfl, rfl, by decide +kernel, rfl, by decide +kernel, by decide +kernel⟩
theorem ok_worldEq (F : FnM K "__eq__" "World.__eq__" (inClass (top 24) 8) f fd) (B : Fr mg) (TC : ClsWorld K mg C) (TI : IsiC K C) (mC : mg "World" = some (.ref C)) : FnOk P w K mg base CX0 1 f fd ["self", "other"] (spEq (REq C)) ∧ Binds K fd ["self", "other"] [] := by
  refine ⟨F.ok sc_worldEq (fun vs H Q E h => ?_) (fun cdv A outer s H vs Q E hr h => ?_), F.bindsN fun _ _ _ _ _ _ us hl => match us, hl with | [_, _], _ => rfl⟩
  · obtain ⟨a, b, rfl, _⟩ := h
    rfl
  · obtain ⟨a, b, rfl, ⟨ds, ha, hb⟩, k⟩ := h
    obtain ⟨dx, ac, _, _, _, _, _, cs, _, _, _, _, h1, h2, h3, _⟩ := ha
    obtain ⟨dy, bc, _, _, _, _, _, cs', _, _, _, _, g1, g2, g3, _⟩ := hb
    refine ⟨_, PSs.nox (pss_one (ps_ret (pe_and (pe_callB call_isi (by rfl) B.isinstance PyProof.Rows.boot_isinstance (pa_cons (pv 1) (pa_cons (pe_glob (v := .ref C) (by rfl) mC rfl) pa_nil)))
      (pe_one (pe_cmpR (op_eqD hr.units) (pe_fld (pv 0) rfl) (pe_fld (pv 1) rfl) (nomark _)))))), ?_⟩
    refine ⟨_, rfl, .ref b, .ref C, .ref C, .ref C, true, rfl, .own C, .base (.ins g1 TC.cl TI.cla TI.get TI.takes TI.obj), kit_self, _, rfl, iteT' rfl ?_⟩
    refine ⟨_, rfl, a, C, dx, _, _, rfl, h1, TC.cl, TC.no _ (List.mem_of_getElem? (i := 0) rfl), rfl, _, rfl, b, C, dy, _, _, rfl, g1, TC.cl, TC.no _ (List.mem_of_getElem? (i := 0) rfl), rfl, dEnts ds, dEnts ds, .tup (SqT.of h2) (dp_ents h3), .tup (SqT.of g2) (dp_ents g3), (lay_ents ds).shaped (by decide), (lay_ents ds).shaped (by decide), ?_⟩
    rw [(lay_ents ds).refl]
    exact k H Ext.rfl'
/-! ### hue_fault -/
theorem worldEld {H : Hp} {p C : Addr} {ds : List Ent} (h : WorldAt H p C ds) {x : Nat} (hx : x < ds.length) : ∃ (dx : Addr) (fs : List (Str × V)) (ae : Addr) (es : List V) (t : Addr), H p = some (.ins C dx fs) ∧ List.lookup ("elders" : Str) fs = some (V.ref ae) ∧ H ae = some (.tup es) ∧ es[x]? = some (.ref t) ∧ H t = some (.tup (((elsOf ds).getD x []).map natV)) := h.elder hx
end
theorem ListsAt.sameAll {H H' : Hp} (s : Same H H') : ∀ {vs : List V} {ls : List (List Nat)}, ListsAt H vs ls → ListsAt H' vs ls
  | [], [], _ => .nil
  | _ :: _, _ :: _, .cons ⟨t, e, h⟩ r => .cons ⟨t, e, s _ _ h⟩ (ListsAt.sameAll s r)
def rLenS (K : PySem.W.Frag) : List V → Hp → VK → Prop := fun xs H Q => ∃ p ys, xs = [.ref p] ∧ (SqL K H p ys ∨ SqT K H p ys) ∧ Q (.int ys.length) H
theorem call_lenS {X : Cx} : CallR X (.builtin "len") (rLenS X.K) := call_len_seq
theorem Ty0.isTup {K : PySem.W.Frag} {H : Hp} {x : V} {t : String} (h : Ty0 H x t) : PySem.W.kitOne K (.type t) (.type "tuple") = some (t == "tuple") := by
  cases h <;> exact kit_ty (by decide +kernel)
theorem Ty0.isStr {K : PySem.W.Frag} {H : Hp} {x : V} {t : String} (h : Ty0 H x t) : PySem.W.kitOne K (.type t) (.type "str") = some (t == "str") := by
  cases h <;> exact kit_ty (by decide +kernel)
/-- a plain thing: None, a bool, a number, a text -/
def Flat : V → Prop
  | .non => True
  | .bl _ => True
  | .int _ => True
  | .str _ => True
  | _ => False
/-- the thing is just what is due: plain, or tuples of such, n deep -/
def TupR (H : Hp) (a : Addr) (xs : List V) : Prop := Rd H a (.tup xs)
theorem TupR.of {H : Hp} {a : Addr} {xs : List V} (h : H a = some (.tup xs)) : TupR H a xs := .inl h
theorem TupR.same {H H' : Hp} {a : Addr} {xs : List V} (h : TupR H a xs) (s : Same H H') : TupR H' a xs := by
  rcases h with h | ⟨o, h⟩
  · exact .inl (s _ _ h)
  · exact .inr ⟨o, s _ _ h⟩
theorem TupR.sq {K : PySem.W.Frag} {H : Hp} {a : Addr} {xs : List V} (h : TupR H a xs) : SqT K H a xs := .inl h
theorem TupR.ty {K : PySem.W.Frag} {H : Hp} {a : Addr} {xs : List V} (h : TupR H a xs) : TyX K H (.ref a) (.type "tuple") := by
  rcases h with h | ⟨o, h⟩
  · exact .base (.tup h)
  · exact .fTuple h
theorem kit_tup {K : PySem.W.Frag} : PySem.W.kitOne K (.type "tuple") (.type "tuple") = some true := kit_ty (by decide +kernel)
def Exact (H : Hp) : Nat → V → V → Prop
  | 0, x, d => x = d ∧ Flat d
  | n + 1, x, d => (x = d ∧ Flat d) ∨ ∃ a b xs ys, x = .ref a ∧ d = .ref b ∧ TupR H a xs ∧ TupR H b ys ∧ xs.length = ys.length ∧ ys.length ≤ 1000 ∧ ∀ (i : Nat) (u v : V), xs[i]? = some u → ys[i]? = some v → Exact H n u v
theorem Exact.same {H H' : Hp} (s : Same H H') : ∀ {n : Nat} {x d : V}, Exact H n x d → Exact H' n x d
  | 0, _, _, h => h
  | n + 1, _, _, .inl h => .inl h
  | n + 1, _, _, .inr ⟨a, b, xs, ys, e1, e2, h1, h2, h3, h5, h4⟩ => .inr ⟨a, b, xs, ys, e1, e2, h1.same s, h2.same s, h3, h5, fun i u v hu hv => (h4 i u v hu hv).same s⟩
def spExact (n : Nat) : Sp := fun vs H Q _ => ∃ x d, vs = [x, d] ∧ Exact H n x d ∧ ∀ H', Same H H' → Q (.bl true) H'
section
variable {P : Program} {w : World} {K : PySem.W.Frag} {mg : Str → Option Value} {base : Heap} {f fI : Addr} {fd fdI : FuncData}
def spInt : Sp := fun vs H Q _ => ∃ i, vs = [.int i] ∧ Q (.bl true) H
end
theorem flat_hV (o : Option Nat) : Flat (hV o) := by cases o <;> exact True.intro
theorem Exact.flat {H : Hp} {x : V} (n : Nat) (h : Flat x) : Exact H n x x := by
  cases n with
  | zero => exact ⟨rfl, h⟩
  | succ n => exact .inl ⟨rfl, h⟩
theorem Exact.tup {H : Hp} {a b : Addr} {xs : List V} (n : Nat) (ha : H a = some (.tup xs)) (hb : H b = some (.tup xs)) (hf : ∀ x ∈ xs, Flat x) (hz : xs.length ≤ 1000) : Exact H (n + 1) (.ref a) (.ref b) :=
  .inr ⟨a, b, xs, xs, rfl, rfl, .inl ha, .inl hb, rfl, hz, fun i u v hu hv => by
    rw [hu] at hv
    rw [← Option.some.inj hv]
    exact Exact.flat n (hf u (List.mem_of_getElem? hu))⟩
theorem passOut {X : Cx} {E : XK} : Passes (L2.CX X.prog X.w) X (fun _ _ _ => False) := fun _ _ _ _ _ _ _ h => by
  obtain ⟨_, _, _, _, _, _, _, _, _, _, _, _, h⟩ := h
  exact h.elim
theorem kin_props {ds : List Ent} (ok : DsOk ds) {x : Nat} (h : x < ds.length) : ((kins (elsOf ds)).getD x []).Pairwise (· < ·) ∧ (∀ k ∈ (kins (elsOf ds)).getD x [], k ≤ x) := by
  have z := kin_up (ds.map (·.1)) x (by rw [List.length_map]; exact h)
  rw [← kins_getD (by rw [elders_len, List.length_map]; exact h)] at z
  exact z
theorem kin_len {ds : List Ent} (ok : DsOk ds) {x : Nat} (h : x < ds.length) (h12 : ds.length ≤ 12) : ((kins (elsOf ds)).getD x []).length ≤ 12 := by
  obtain ⟨u, l⟩ := kin_props ok h
  have h1 := nodup_sub_len' (ns := List.range 12) (up_nodup u) fun k hk => List.mem_range.mpr (by have := l k hk; omega)
  rw [List.length_range] at h1
  exact h1
theorem sortN_nat {l : List Nat} (up : l.Pairwise (· < ·)) (h6 : ∀ m ∈ l, m < 6) : (sortN l).map natV = l.map natV := by
  have e : ((sortN l).map fun (n : Nat) => (n : Int)).map V.int = (sortN l).map natV := by
    rw [List.map_map]
    rfl
  rw [← e]
  refine asc_one ?_ up fun k => ?_
  · have u : (sortN l).Pairwise (· < ·) := List.Pairwise.filter _ List.pairwise_lt_range
    exact List.pairwise_map.mpr (u.imp fun z => by omega)
  · rw [List.mem_map]
    constructor
    · rintro ⟨n, hn, rfl⟩
      unfold sortN at hn
      rw [List.mem_filter] at hn
      exact ⟨n, by simpa using hn.2, rfl⟩
    · rintro ⟨n, hn, rfl⟩
      refine ⟨n, ?_, rfl⟩
      unfold sortN
      rw [List.mem_filter, List.mem_range]
      exact ⟨h6 n hn, by simpa using hn⟩
section
variable {P : Program} {w : World} {K : PySem.W.Frag} {mg : Str → Option Value} {base : Heap} {f fS fW fN fC fL fI fU fH fA fWW fWI C Cn Cc Cl Cnl Ck Cb : Addr} {fd fdS fdW fdN fdC fdL fdI fdU fdH fdA fdWW fdWI : FuncData}
def spWithC (C : Addr) : Sp := fun vs H Q _ => ∃ (p ab am : Addr) (ds : List Ent) (d : Ent), vs = [.ref p, .ref ab, natV d.2.1, .ref am] ∧ WorldAt H p C ds ∧ DsOk ds ∧ ds.length + 1 ≤ 12 ∧ SeqAt H ab (d.1.map natV) ∧ SeqAt H am (d.2.2.map natV) ∧ EOk ds.length d ∧
  ∀ p' H', Same H H' → H p' = none → WorldAt H' p' C (ds ++ [d]) → Q (.ref p') H'
end
theorem els_app {ds : List Ent} {d : Ent} {c : Nat} (h : c < ds.length) : (elsOf (ds ++ [d])).getD c [] = (elsOf ds).getD c [] := by
  unfold elsOf
  have e : (List.map (·.1) (ds ++ [d])).take ds.length = ds.map (·.1) := by
    rw [List.map_append, List.take_append_of_le_length (by rw [List.length_map]; exact Nat.le_refl _), List.take_of_length_le (by rw [List.length_map]; exact Nat.le_refl _)]
  rw [← elders_getD_take (c := ds.length) h, e]
theorem els_fst {ds : List Ent} {d e : Ent} (h : d.1 = e.1) : elsOf (ds ++ [d]) = elsOf (ds ++ [e]) := by
  unfold elsOf
  rw [List.map_append, List.map_append, List.map_cons, List.map_cons, h]
theorem kins_app {ds : List Ent} {d : Ent} {c : Nat} (h : c < ds.length) : (kins (elsOf (ds ++ [d]))).getD c [] = (kins (elsOf ds)).getD c [] := by
  rw [kins_els (by rw [List.length_append]; omega), kins_els h, els_app h]
theorem kinsL {ds : List Ent} : (kins (elsOf ds)).length = ds.length := by rw [kins_len, elsOf_len]
theorem DsOk.kins {ds : List Ent} (ok : DsOk ds) : KinsOk (kins (elsOf ds)) := kins_ok ok.valid
def PairsAt (H : Hp) : List V → List (Nat × Nat) → Prop := Paired fun v p => ∃ t, v = .ref t ∧ H t = some (.tup [natV p.1, natV p.2])
theorem PairsAt.keep {H H' : Hp} {R : Addr} {us0 : List V} (hR : H R = some (.lst us0)) (s : Oth R H H') : ∀ {us : List V} {ps : List (Nat × Nat)}, PairsAt H us ps → PairsAt H' us ps
  | [], [], _ => .nil
  | _ :: _, _ :: _, .cons ⟨t, e, h⟩ r => .cons ⟨t, e, s _ _ (fun z => by rw [z, hR] at h; cases h) h⟩ (PairsAt.keep hR s r)
theorem PairsAt.same {H H' : Hp} (s : Same H H') : ∀ {us : List V} {ps : List (Nat × Nat)}, PairsAt H us ps → PairsAt H' us ps
  | [], [], _ => .nil
  | _ :: _, _ :: _, .cons ⟨t, e, h⟩ r => .cons ⟨t, e, s _ _ h⟩ (PairsAt.same s r)
theorem PairsAt.app {H : Hp} : ∀ {vs us : List V} {ls ms : List (Nat × Nat)}, PairsAt H vs ls → PairsAt H us ms → PairsAt H (vs ++ us) (ls ++ ms)
  | [], _, [], _, _, h => h
  | _ :: _, _, _ :: _, _, .cons h r, s => .cons h (PairsAt.app r s)
theorem PairsAt.len {H : Hp} {vs : List V} {ls : List (Nat × Nat)} (h : PairsAt H vs ls) : vs.length = ls.length := Paired.length h
def dPair (p : Nat × Nat) : PyData := .tuple [.int (p.1 : Int), .int (p.2 : Int)]
theorem dp_pairs {K : PySem.W.Frag} {H : Hp} : ∀ {us : List V} {ps : List (Nat × Nat)}, PairsAt H us ps → DpAll K H us (ps.map dPair)
  | [], [], _ => .nil
  | _ :: _, _ :: _, .cons ⟨t, e, h⟩ r => by
    rw [e]
    exact .cons (.tup (SqT.of h) (.cons (.int _) (.cons (.int _) .nil))) (dp_pairs r)
theorem lay_pair (p : Nat × Nat) : LayD 1 (dPair p) := LayD.tup fun d hd => by
  rcases List.mem_cons.mp hd with rfl | hd
  · exact .int _
  · rw [List.mem_singleton.mp hd]
    exact .int _
theorem LayD.lst {n : Nat} {ds : List PyData} (h : ∀ d ∈ ds, LayD n d) : LayD (n + 1) (.list ds) := by
  obtain ⟨h1, h2⟩ := lay_all h
  refine ⟨by simp [PyData.canLay0, h1], ?_⟩
  simp only [PyData.depth]
  omega
theorem lay_pairs (ps : List (Nat × Nat)) : LayD 2 (.list (ps.map dPair)) := LayD.lst fun d hd => by
  obtain ⟨p, _, rfl⟩ := List.mem_map.mp hd
  exact lay_pair p
theorem eqv_pair (p q : Nat × Nat) : PyData.eqv (dPair p) (dPair q) = decide (p = q) := by
  obtain ⟨a, b⟩ := p
  obtain ⟨c, d⟩ := q
  have e : PyData.eqv (dPair (a, b)) (dPair (c, d)) = (((a : Int) == (c : Int)) && (((b : Int) == (d : Int)) && true)) := by simp only [dPair, PyData.eqv, PyData.eqvAll]
  rw [e, Bool.eq_iff_iff, Bool.and_eq_true, Bool.and_true, beq_iff_eq, beq_iff_eq, decide_eq_true_eq]
  constructor
  · rintro ⟨h1, h2⟩
    rw [show a = c by omega, show b = d by omega]
  · intro h
    cases h
    exact ⟨rfl, rfl⟩
theorem any_pair (ps : List (Nat × Nat)) (q : Nat × Nat) : ((ps.map dPair).any fun z => PyData.eqv z (dPair q)) = decide (q ∈ ps) := by
  rw [Bool.eq_iff_iff, List.any_eq_true, decide_eq_true_eq]
  constructor
  · rintro ⟨z, hz, e⟩
    obtain ⟨p, hp, rfl⟩ := List.mem_map.mp hz
    rw [eqv_pair, decide_eq_true_eq] at e
    rw [← e]
    exact hp
  · intro h
    exact ⟨_, List.mem_map_of_mem h, by rw [eqv_pair, decide_eq_true_eq]⟩
def SortP (ps : List (Nat × Nat)) : Prop := ps.Pairwise fun p q => p.1 < q.1 ∨ (p.1 = q.1 ∧ p.2 < q.2)
theorem SortP.snoc {ps : List (Nat × Nat)} {a b : Nat} (h : SortP ps) (z : ∀ p ∈ ps, p.1 < a ∨ (p.1 = a ∧ p.2 < b)) : SortP (ps ++ [(a, b)]) := by
  unfold SortP
  rw [List.pairwise_append]
  refine ⟨h, List.pairwise_singleton _ _, fun p hp q hq => ?_⟩
  rw [List.mem_singleton.mp hq]
  exact z p hp
theorem sortP_one : ∀ {ps qs : List (Nat × Nat)}, SortP ps → SortP qs → (∀ p, p ∈ ps ↔ p ∈ qs) → ps = qs
  | [], [], _, _, _ => rfl
  | [], q :: _, _, _, h => by have := (h q).mpr List.mem_cons_self; cases this
  | p :: _, [], _, _, h => by have := (h p).mp List.mem_cons_self; cases this
  | p :: ps, q :: qs, hp, hq, h => by
    obtain ⟨p1, p2⟩ := List.pairwise_cons.mp hp
    obtain ⟨q1, q2⟩ := List.pairwise_cons.mp hq
    have e : p = q := by
      have a := (h p).mp List.mem_cons_self
      have b := (h q).mpr List.mem_cons_self
      rcases List.mem_cons.mp a with a | a
      · exact a
      · rcases List.mem_cons.mp b with b | b
        · exact b.symm
        · have x := q1 p a
          have y := p1 q b
          omega
    subst e
    have np : p ∉ ps := fun z => by have := p1 p z; omega
    have nq : p ∉ qs := fun z => by have := q1 p z; omega
    rw [sortP_one p2 q2 fun r => ⟨fun hr => ?_, fun hr => ?_⟩]
    · rcases List.mem_cons.mp ((h r).mp (List.mem_cons_of_mem _ hr)) with e | e
      · rw [e] at hr
        exact (np hr).elim
      · exact e
    · rcases List.mem_cons.mp ((h r).mpr (List.mem_cons_of_mem _ hr)) with e | e
      · rw [e] at hr
        exact (nq hr).elim
      · exact e
theorem room65 {k : Nat} {A : Around} (r : Room k A) : A.units + 65 < cLine := by
  have := r.un
  omega
theorem nodup_sub_len'' {α : Type} [DecidableEq α] {ks ns : List α} (hn : ks.Nodup) (hs : ∀ k ∈ ks, k ∈ ns) : ks.length ≤ ns.length := Kw.nodup_sub_len hn hs
def lx : List Nat → List Nat → Bool
  | [], [] => false
  | [], _ :: _ => true
  | _ :: _, [] => false
  | a :: as, b :: bs => decide (a < b) || (decide (a = b) && lx as bs)
theorem lx_cons {a b : Nat} {as bs : List Nat} : lx (a :: as) (b :: bs) = true ↔ a < b ∨ (a = b ∧ lx as bs = true) := by
  simp [lx]
theorem lx_refl : ∀ l, lx l l = false
  | [] => rfl
  | a :: as => by
    simp [lx, lx_refl as]
theorem lx_anti : ∀ {l m : List Nat}, lx l m = false → lx m l = false → l = m
  | [], [], _, _ => rfl
  | [], _ :: _, h, _ => by simp [lx] at h
  | _ :: _, [], _, h => by simp [lx] at h
  | a :: as, b :: bs, h1, h2 => by
    have e1 : (a < b ∨ (a = b ∧ lx as bs = true)) → False := fun z => by
      have := lx_cons.mpr z
      rw [h1] at this
      cases this
    have e2 : (b < a ∨ (b = a ∧ lx bs as = true)) → False := fun z => by
      have := lx_cons.mpr z
      rw [h2] at this
      cases this
    have : a = b := by
      apply Classical.byContradiction
      intro q
      rcases Nat.lt_or_gt_of_ne q with z | z
      · exact e1 (.inl z)
      · exact e2 (.inl z)
    subst this
    have t1 : lx as bs = false := by
      cases c : lx as bs with
      | false => rfl
      | true => exact (e1 (.inr ⟨rfl, c⟩)).elim
    have t2 : lx bs as = false := by
      cases c : lx bs as with
      | false => rfl
      | true => exact (e2 (.inr ⟨rfl, c⟩)).elim
    rw [lx_anti t1 t2]
theorem lx_trans : ∀ {l m k : List Nat}, lx l m = true → lx m k = true → lx l k = true
  | [], [], _, h, _ => by simp [lx] at h
  | [], _ :: _, [], _, h => by simp [lx] at h
  | [], _ :: _, _ :: _, _, _ => rfl
  | _ :: _, [], _, h, _ => by simp [lx] at h
  | _ :: _, _ :: _, [], _, h => by simp [lx] at h
  | a :: as, b :: bs, c :: cs, h1, h2 => by
    rw [lx_cons] at *
    rcases h1 with h1 | ⟨rfl, h1⟩
    · rcases h2 with h2 | ⟨rfl, h2⟩
      · exact .inl (by omega)
      · exact .inl h1
    · rcases h2 with h2 | ⟨rfl, h2⟩
      · exact .inl h2
      · exact .inr ⟨rfl, lx_trans h1 h2⟩
theorem lx_pre : ∀ (p : List Nat) {a b : Nat} (as bs : List Nat), a < b → lx (p ++ a :: as) (p ++ b :: bs) = true
  | [], _, _, _, _, h => lx_cons.mpr (.inl h)
  | _ :: p, _, _, as, bs, h => lx_cons.mpr (.inr ⟨rfl, lx_pre p as bs h⟩)
theorem lx_pre_same : ∀ (p l m : List Nat), lx (p ++ l) (p ++ m) = lx l m
  | [], _, _ => rfl
  | a :: p, l, m => by
    show lx (a :: (p ++ l)) (a :: (p ++ m)) = _
    rw [← lx_pre_same p l m]
    simp [lx]
theorem lx_app : ∀ {l m : List Nat} (p q : List Nat), l.length = m.length → lx l m = true → lx (l ++ p) (m ++ q) = true
  | [], [], _, _, _, h => by simp [lx] at h
  | [], _ :: _, _, _, e, _ => by simp at e
  | _ :: _, [], _, _, e, _ => by simp at e
  | a :: as, b :: bs, p, q, e, h => by
    rw [lx_cons] at h
    show lx (a :: (as ++ p)) (b :: (bs ++ q)) = true
    rw [lx_cons]
    rcases h with h | ⟨rfl, h⟩
    · exact .inl h
    · exact .inr ⟨rfl, lx_app p q (by simpa using e) h⟩
theorem getD_snoc (r : List Nat) (h i : Nat) : (r ++ [h]).getD i 0 = if i < r.length then r.getD i 0 else if i = r.length then h else 0 := by
  by_cases c : i < r.length
  · rw [if_pos c, List.getD_eq_getElem?_getD, List.getElem?_append_left c, ← List.getD_eq_getElem?_getD]
  · rw [if_neg c, List.getD_eq_getElem?_getD, List.getElem?_append_right (by omega)]
    by_cases q : i = r.length
    · rw [if_pos q, q, Nat.sub_self]
      rfl
    · rw [if_neg q, List.getElem?_eq_none (by rw [List.length_singleton]; omega)]
      rfl
def firstS {α : Type} (k : Nat) (f : Nat → Option α) : Option α := (List.range k).findSome? f
theorem firstS_succ {α : Type} {k : Nat} {f : Nat → Option α} : firstS (k + 1) f = (firstS k f).or (f k) := by
  unfold firstS
  rw [List.range_succ, List.findSome?_append]
  congr 1
  simp [List.findSome?]
  cases f k <;> rfl
theorem firstS_none {α : Type} {f : Nat → Option α} : ∀ {k : Nat}, firstS k f = none ↔ ∀ h, h < k → f h = none
  | 0 => ⟨fun _ _ h => absurd h (Nat.not_lt_zero _), fun _ => rfl⟩
  | k + 1 => by
    rw [firstS_succ, Option.or_eq_none_iff, firstS_none (k := k)]
    constructor
    · rintro ⟨h1, h2⟩ h hh
      by_cases q : h < k
      · exact h1 h q
      · rw [show h = k by omega]
        exact h2
    · intro h
      exact ⟨fun j hj => h j (by omega), h k (by omega)⟩
theorem firstS_some {α : Type} {f : Nat → Option α} {r : α} : ∀ {k : Nat}, firstS k f = some r ↔ ∃ h, h < k ∧ f h = some r ∧ ∀ j, j < h → f j = none
  | 0 => ⟨(fun h => by cases h), fun ⟨_, h, _⟩ => absurd h (Nat.not_lt_zero _)⟩
  | k + 1 => by
    rw [firstS_succ]
    constructor
    · intro h
      cases e : firstS k f with
      | some z =>
        rw [e] at h
        obtain rfl := Option.some.inj h
        obtain ⟨j, hj, h2, h3⟩ := firstS_some.mp e
        exact ⟨j, by omega, h2, h3⟩
      | none =>
        rw [e] at h
        exact ⟨k, by omega, h, fun j hj => firstS_none.mp e j hj⟩
    · rintro ⟨h, hh, h2, h3⟩
      by_cases q : h < k
      · rw [firstS_some.mpr ⟨h, q, h2, h3⟩]
        rfl
      · have : h = k := by omega
        subst this
        rw [firstS_none.mpr h3]
        exact h2
/-! ### min of a list of lists or tuples of numbers -/
def dR (tup : Bool) (r : List Nat) : PyData := if tup = true then .tuple (r.map fun (n : Nat) => .int (n : Int)) else .list (r.map fun (n : Nat) => .int (n : Int))
def toksN (r : List Nat) : List (Int ⊕ List Nat) := PySem.W.keyToksAll (r.map fun (n : Nat) => .int (n : Int))
theorem keyToks_dR (tup : Bool) (r : List Nat) : PySem.W.keyToks (dR tup r) = toksN r := by
  unfold dR toksN
  cases tup <;> simp [PySem.W.keyToks]
theorem alike_ints : ∀ (r s : List Nat), PySem.W.alikeAll (r.map fun (n : Nat) => PyData.int (n : Int)) (s.map fun (n : Nat) => PyData.int (n : Int)) = true
  | [], [] => by simp [PySem.W.alikeAll]
  | [], _ :: _ => by simp [PySem.W.alikeAll]
  | _ :: _, [] => by simp [PySem.W.alikeAll]
  | a :: r, b :: s => by
    rw [List.map_cons, List.map_cons, PySem.W.alikeAll, alike_ints r s]
    simp [PySem.W.alike]
theorem alike_dR (tup : Bool) (r s : List Nat) : PySem.W.alike (dR tup r) (dR tup s) = true := by
  unfold dR
  cases tup
  · show PySem.W.alike (.list _) (.list _) = true
    rw [PySem.W.alike]
    exact alike_ints r s
  · show PySem.W.alike (.tuple _) (.tuple _) = true
    rw [PySem.W.alike]
    exact alike_ints r s
theorem dR_inj {tup : Bool} : ∀ {r s : List Nat}, dR tup r = dR tup s → r = s := by
  intro r s h
  have e : (r.map fun (n : Nat) => PyData.int (n : Int)) = s.map fun (n : Nat) => PyData.int (n : Int) := by
    unfold dR at h
    cases tup
    · exact PyData.list.inj h
    · exact PyData.tuple.inj h
  refine List.map_inj_right (f := fun (n : Nat) => PyData.int (n : Int)) (fun a b h => ?_) |>.mp e
  have := PyData.int.inj h
  omega
theorem lt_toks : ∀ (r s : List Nat), PyProof.Rows.lexLt itemOrd (toksN r) (toksN s) = lx r s
  | [], [] => by
    unfold toksN
    simp only [List.map_nil]
    rw [PySem.W.keyToksAll]
    decide
  | [], b :: s => by
    unfold toksN
    rw [List.map_nil, List.map_cons, PySem.W.toks_all_cons, PySem.W.keyToksAll, PySem.W.lex_atom (by simp)]
    show _ = true
    decide
  | a :: r, [] => by
    unfold toksN
    rw [List.map_nil, List.map_cons, PySem.W.toks_all_cons, PySem.W.keyToksAll, PySem.W.lex_atom (by simp)]
    show _ = false
    decide
  | a :: r, b :: s => by
    have ha : PySem.W.alike (.int (a : Int)) (.int (b : Int)) = true := by simp [PySem.W.alike]
    unfold toksN
    rw [List.map_cons, List.map_cons]
    cases e : PyData.eqv (.int (a : Int)) (.int (b : Int)) with
    | true =>
      rw [PySem.W.dataLt_all_yes ha e]
      have z : a = b := by
        have : ((a : Int) == (b : Int)) = true := by simpa only [PyData.eqv] using e
        have := beq_iff_eq.mp this
        omega
      have ih := lt_toks r s
      unfold toksN at ih
      rw [ih, z]
      simp [lx]
    | false =>
      rw [PySem.W.dataLt_all_no ha e, PySem.W.dataLt_int]
      have z : a ≠ b := by
        intro z
        have : ((a : Int) == (b : Int)) = false := by simpa only [PyData.eqv] using e
        rw [z] at this
        simp at this
      rw [Bool.eq_iff_iff, lx_cons, decide_eq_true_eq]
      constructor
      · intro h
        exact .inl (by omega)
      · rintro (h | h)
        · omega
        · exact (z h.1).elim
theorem lt_dR (tup : Bool) (r s : List Nat) : PySem.W.dataLt (dR tup r) (dR tup s) = lx r s := by
  unfold PySem.W.dataLt
  rw [keyToks_dR, keyToks_dR, lt_toks]
def minL (r : List Nat) (rs : List (List Nat)) : List Nat := rs.foldl (fun a y => if lx y a = true then y else a) r
theorem minD_dR (tup : Bool) : ∀ (rs : List (List Nat)) (r : List Nat), PySem.W.minD (dR tup r) (rs.map (dR tup)) = dR tup (minL r rs)
  | [], r => rfl
  | s :: rs, r => by
    show PySem.W.minD (if PySem.W.dataLt (dR tup s) (dR tup r) = true then dR tup s else dR tup r) (rs.map (dR tup)) = dR tup (minL (if lx s r = true then s else r) rs)
    rw [lt_dR]
    cases c : lx s r with
    | true => exact minD_dR tup rs s
    | false => exact minD_dR tup rs r
theorem minL_spec : ∀ (rs : List (List Nat)) (r : List Nat), minL r rs ∈ r :: rs ∧ ∀ y ∈ r :: rs, lx y (minL r rs) = false
  | [], r => ⟨List.mem_cons_self, fun y hy => by rw [List.mem_singleton.mp hy]; exact lx_refl _⟩
  | s :: rs, r => by
    show minL (if lx s r = true then s else r) rs ∈ _ ∧ ∀ y ∈ _, lx y (minL (if lx s r = true then s else r) rs) = false
    cases c : lx s r with
    | true =>
      rw [if_pos rfl]
      obtain ⟨h1, h2⟩ := minL_spec rs s
      refine ⟨List.mem_cons_of_mem _ h1, fun y hy => ?_⟩
      rcases List.mem_cons.mp hy with rfl | hy
      · cases d : lx y (minL s rs) with
        | false => rfl
        | true =>
          have := lx_trans c d
          rw [h2 s List.mem_cons_self] at this
          cases this
      · exact h2 y hy
    | false =>
      rw [if_neg (by decide)]
      obtain ⟨h1, h2⟩ := minL_spec rs r
      refine ⟨?_, fun y hy => ?_⟩
      · rcases List.mem_cons.mp h1 with h1 | h1
        · rw [h1]
          exact List.mem_cons_self
        · exact List.mem_cons_of_mem _ (List.mem_cons_of_mem _ h1)
      · rcases List.mem_cons.mp hy with rfl | hy
        · exact h2 y List.mem_cons_self
        · rcases List.mem_cons.mp hy with rfl | hy
          · cases d : lx y (minL r rs) with
            | false => rfl
            | true =>
              -- y before the least, r not behind y
              have q : lx r (minL r rs) = false := h2 r List.mem_cons_self
              by_cases e : r = y
              · rw [← e, q] at d
                cases d
              · cases x : lx r y with
                | true =>
                  have := lx_trans x d
                  rw [q] at this
                  cases this
                | false => exact (e (lx_anti x c)).elim
          · exact h2 y (List.mem_cons_of_mem _ hy)
theorem depth_ints : ∀ r : List Nat, PyData.depthAll (r.map fun (n : Nat) => PyData.int (n : Int)) = 0
  | [] => by simp [PyData.depthAll]
  | a :: r => by
    rw [List.map_cons, PyData.depthAll, depth_ints r]
    simp [PyData.depth]
theorem depth_dR (tup : Bool) (r : List Nat) : (dR tup r).depth ≤ 1 := by
  unfold dR
  cases tup
  · show (PyData.list _).depth ≤ 1
    rw [PyData.depth, depth_ints]
    exact Nat.le_refl _
  · show (PyData.tuple _).depth ≤ 1
    rw [PyData.depth, depth_ints]
    exact Nat.le_refl _
theorem depthAll_dR (tup : Bool) : ∀ rs : List (List Nat), PyData.depthAll (rs.map (dR tup)) ≤ 1
  | [] => by simp [PyData.depthAll]
  | r :: rs => by
    rw [List.map_cons, PyData.depthAll]
    have := depth_dR tup r
    have := depthAll_dR tup rs
    omega
theorem vals_at {us : List V} {its : List Value} (h : Vals us its) (i : Nat) (v : Value) (hv : its[i]? = some v) : ∃ u, us[i]? = some u ∧ RelV u v := by
  have h : Paired RelV us its := h
  induction h generalizing i with
  | nil => cases hv
  | cons r _ ih =>
    cases i with
    | zero =>
      obtain rfl := Option.some.inj hv
      exact ⟨_, rfl, r⟩
    | succ i => exact ih (by assumption) i hv
/-- min(xs), xs a list of lists (or of tuples) of whole numbers: one that none stands before -/
def rMinN (K : PySem.W.Frag) (tup : Bool) : List V → Hp → VK → Prop := fun vs H Q => ∃ (a : Addr) (us : List V) (rows : List (List Nat)), vs = [.ref a] ∧ SqL K H a us ∧ DpAll K H us (rows.map (dR tup)) ∧ rows ≠ [] ∧
  ∀ (i : Nat) (u : V) (r : List Nat), us[i]? = some u → rows[i]? = some r → (∀ s ∈ rows, lx s r = false) → Q u H
theorem cr_minN {X : Cx} (tup : Bool) (hc : X.calm = true) (hu : X.A.units + 65 < cLine) : CallR X (.builtin "min") (rMinN X.K tup) := by
  intro pins s σ H vs us Q I r h
  obtain ⟨a, ws, rows, rfl, hs, hd, hne, q⟩ := h
  obtain ⟨its, rv, hl, _⟩ := I.list hs
  rw [Vals.ref1 r]
  obtain ⟨as, hr⟩ := Dp.readsAll I _ _ _ hd rv
  match rows, hne with
  | r0 :: rows, _ =>
    have ha : PySem.W.AlikeAll ((r0 :: rows).map (dR tup)) := by
      refine ⟨fun x hx y hy => ?_, fun x hx => ?_⟩
      · obtain ⟨p, _, rfl⟩ := List.mem_map.mp hx
        obtain ⟨p', _, rfl⟩ := List.mem_map.mp hy
        exact alike_dR tup _ _
      · obtain ⟨p, _, rfl⟩ := List.mem_map.mp hx
        unfold dR
        cases tup <;> simp
    have hdep := depthAll_dR tup (r0 :: rows)
    refine PySem.W.min_list_data (x := dR tup r0) (xs := rows.map (dR tup)) (I.ok.hd hc) hl.isList hr ha (by have : PyData.depthAll (dR tup r0 :: rows.map (dR tup)) ≤ 1 := hdep; omega) fun i v h' tk bs hv rd hk => ?_
    have hv' : its[i]? = some v := by
      rw [← hv]
      simp
    obtain ⟨u, hu1, hu2⟩ := vals_at rv i v hv'
    have hr' : ReadsAll s.heap its ((r0 :: rows).map (dR tup)) as := hr
    obtain ⟨bs2, rd2, hi, _, _⟩ := PySem.W.readsAll_at hr' i v hv'
    rw [List.length_map] at hi
    obtain ⟨ri, hri⟩ : ∃ ri, (r0 :: rows)[i]? = some ri := ⟨_, List.getElem?_eq_getElem hi⟩
    have e1 : ((r0 :: rows).map (dR tup)).getD i .none = dR tup ri := by
      rw [List.getD_eq_getElem?_getD, List.getElem?_map, hri]
      rfl
    rw [e1] at rd2
    rw [minD_dR] at rd
    have e2 := PySem.W.alike_unique _ _ _ _ _ (alike_dR tup ri (minL r0 rows)) (PySem.W.reads_keeps hk rd2) rd
    have e3 := dR_inj e2
    exact ⟨u, H, I.kept hk, hu2, q i u ri hu1 hri fun y hy => by rw [e3]; exact (minL_spec rows r0).2 y hy⟩
/-- the inner walk of a comprehension over two ranges -/
theorem lc2_in {m : Nat} {lo : Int} {g1 : TG} {tt1 : TT} {te : TE} {vs1 : List Nat} {σ2 : L2.St} {H4 : Hp} {D : Addr} {Nx : Hp → Prop} (Pw : Nat → Hp → Prop) (h0 : Pw 0 H4)
    (hs : ∀ j H, j < m → Pw j H → g1 (.int (lo + (j : Int))) (wipe σ2 vs1) H fun σ3 H5 => wipe σ3 vs1 = wipe σ2 vs1 ∧ tt1 σ3 H5 fun b H6 =>
        if b = true then te σ3 H6 fun y H7 => ∃ acc, H7 D = some (.lst acc) ∧ acc.length < sizeLine ∧ Pw (j + 1) (upd H7 D (.lst (acc ++ [y]))) else Pw (j + 1) H6)
    (hd : ∀ H, Pw m H → Nx H) :
    ∃ W1 : Nat → Nat → Hp → Prop, (∃ m, W1 0 m H4) ∧ ∀ j k H, W1 j k H →
        ((Itr lo m).stop j H ∧ Nx H) ∨ ((Itr lo m).go j H ∧ ∃ Nx1 : Hp → Prop, (∀ H', Nx1 H' → ∃ k', k' < k ∧ W1 (j + 1) k' H') ∧ ∀ x H', (Itr lo m).yld j H x H' → g1 x (wipe σ2 vs1) H' fun σ3 H5 => wipe σ3 vs1 = wipe σ2 vs1 ∧ tt1 σ3 H5 fun b H6 =>
          if b = true then te σ3 H6 fun y H7 => ∃ acc, H7 D = some (.lst acc) ∧ acc.length < sizeLine ∧ Nx1 (upd H7 D (.lst (acc ++ [y]))) else Nx1 H6) := by
  refine ⟨fun i k H => k = m - i ∧ i ≤ m ∧ Pw i H, ⟨m, by simp, Nat.zero_le _, h0⟩, ?_⟩
  rintro i k H ⟨rfl, hi, p⟩
  by_cases hlt : i < m
  · refine .inr ⟨hlt, Pw (i + 1), fun H' p' => ⟨m - (i + 1), by omega, rfl, hlt, p'⟩, fun x H' y => ?_⟩
    obtain ⟨e, y⟩ := y
    subst e y
    exact hs i _ hlt p
  · have e : i = m := by omega
    subst e
    exact .inl ⟨Nat.le_refl _, hd _ p⟩
/-- the outer walk, over a range -/
theorem lc2_out {n : Nat} {lo : Int} {wi1 : TI} {g g1 : TG} {tt tt1 : TT} {te : TE} {vs vs1 : List Nat} {σ : L2.St} {H1 : Hp} {D : Addr} {Qd : Hp → Prop} (Pv : Nat → Hp → Prop) (h0 : Pv 0 (upd H1 D (.lst [])))
    (hs : ∀ i H, i < n → Pv i H → ∀ Nx : Hp → Prop, (∀ H', Pv (i + 1) H' → Nx H') → g (.int (lo + (i : Int))) (wipe σ vs) H fun σ2 H2 => wipe σ2 vs = wipe σ vs ∧ tt σ2 H2 fun b H3 => if b = true then wi1 σ2 H3 fun J1 H4 => ∃ W1 : Nat → Nat → Hp → Prop, (∃ m, W1 0 m H4) ∧ ∀ j k H, W1 j k H →
        (J1.stop j H ∧ Nx H) ∨ (J1.go j H ∧ ∃ Nx1 : Hp → Prop, (∀ H', Nx1 H' → ∃ k', k' < k ∧ W1 (j + 1) k' H') ∧ ∀ x H', J1.yld j H x H' → g1 x (wipe σ2 vs1) H' fun σ3 H5 => wipe σ3 vs1 = wipe σ2 vs1 ∧ tt1 σ3 H5 fun b H6 =>
          if b = true then te σ3 H6 fun y H7 => ∃ acc, H7 D = some (.lst acc) ∧ acc.length < sizeLine ∧ Nx1 (upd H7 D (.lst (acc ++ [y]))) else Nx1 H6) else Nx H3)
    (hd : ∀ H, Pv n H → Qd H) :
    ∃ W : Nat → Nat → Hp → Prop, (∃ m, W 0 m (upd H1 D (.lst []))) ∧ ∀ i m H, W i m H →
  ((Itr lo n).stop i H ∧ Qd H) ∨ ((Itr lo n).go i H ∧ ∃ Nx : Hp → Prop, (∀ H', Nx H' → ∃ m', m' < m ∧ W (i + 1) m' H') ∧ ∀ x H', (Itr lo n).yld i H x H' → g x (wipe σ vs) H' fun σ2 H2 => wipe σ2 vs = wipe σ vs ∧ tt σ2 H2 fun b H3 =>
    if b = true then wi1 σ2 H3 fun J1 H4 => ∃ W1 : Nat → Nat → Hp → Prop, (∃ m, W1 0 m H4) ∧ ∀ j k H, W1 j k H →
        (J1.stop j H ∧ Nx H) ∨ (J1.go j H ∧ ∃ Nx1 : Hp → Prop, (∀ H', Nx1 H' → ∃ k', k' < k ∧ W1 (j + 1) k' H') ∧ ∀ x H', J1.yld j H x H' → g1 x (wipe σ2 vs1) H' fun σ3 H5 => wipe σ3 vs1 = wipe σ2 vs1 ∧ tt1 σ3 H5 fun b H6 =>
          if b = true then te σ3 H6 fun y H7 => ∃ acc, H7 D = some (.lst acc) ∧ acc.length < sizeLine ∧ Nx1 (upd H7 D (.lst (acc ++ [y]))) else Nx1 H6) else Nx H3) := by
  refine ⟨fun i k H => k = n - i ∧ i ≤ n ∧ Pv i H, ⟨n, by simp, Nat.zero_le _, h0⟩, ?_⟩
  rintro i k H ⟨rfl, hi, p⟩
  by_cases hlt : i < n
  · refine .inr ⟨hlt, Pv (i + 1), fun H' p' => ⟨n - (i + 1), by omega, rfl, hlt, p'⟩, fun x H' y => ?_⟩
    obtain ⟨e, y⟩ := y
    subst e y
    exact hs i _ hlt p _ fun _ z => z
  · have e : i = n := by omega
    subst e
    exact .inl ⟨Nat.le_refl _, hd _ p⟩
/-- the outer walk, over a list that stands still -/
theorem lc2_outL {K : PySem.W.Frag} {a : Addr} {xs : List V} {wi1 : TI} {g g1 : TG} {tt tt1 : TT} {te : TE} {vs vs1 : List Nat} {σ : L2.St} {H1 : Hp} {D : Addr} {Qd : Hp → Prop} (Pv : Nat → Hp → Prop) (h0 : Pv 0 (upd H1 D (.lst []))) (hl : ∀ i H, i ≤ xs.length → Pv i H → SqL K H a xs)
    (hs : ∀ i x H, xs[i]? = some x → Pv i H → ∀ Nx : Hp → Prop, (∀ H', Pv (i + 1) H' → Nx H') → g x (wipe σ vs) H fun σ2 H2 => wipe σ2 vs = wipe σ vs ∧ tt σ2 H2 fun b H3 => if b = true then wi1 σ2 H3 fun J1 H4 => ∃ W1 : Nat → Nat → Hp → Prop, (∃ m, W1 0 m H4) ∧ ∀ j k H, W1 j k H →
        (J1.stop j H ∧ Nx H) ∨ (J1.go j H ∧ ∃ Nx1 : Hp → Prop, (∀ H', Nx1 H' → ∃ k', k' < k ∧ W1 (j + 1) k' H') ∧ ∀ x H', J1.yld j H x H' → g1 x (wipe σ2 vs1) H' fun σ3 H5 => wipe σ3 vs1 = wipe σ2 vs1 ∧ tt1 σ3 H5 fun b H6 =>
          if b = true then te σ3 H6 fun y H7 => ∃ acc, H7 D = some (.lst acc) ∧ acc.length < sizeLine ∧ Nx1 (upd H7 D (.lst (acc ++ [y]))) else Nx1 H6) else Nx H3)
    (hd : ∀ H, Pv xs.length H → Qd H) :
    ∃ W : Nat → Nat → Hp → Prop, (∃ m, W 0 m (upd H1 D (.lst []))) ∧ ∀ i m H, W i m H →
  ((Itl K a).stop i H ∧ Qd H) ∨ ((Itl K a).go i H ∧ ∃ Nx : Hp → Prop, (∀ H', Nx H' → ∃ m', m' < m ∧ W (i + 1) m' H') ∧ ∀ x H', (Itl K a).yld i H x H' → g x (wipe σ vs) H' fun σ2 H2 => wipe σ2 vs = wipe σ vs ∧ tt σ2 H2 fun b H3 =>
    if b = true then wi1 σ2 H3 fun J1 H4 => ∃ W1 : Nat → Nat → Hp → Prop, (∃ m, W1 0 m H4) ∧ ∀ j k H, W1 j k H →
        (J1.stop j H ∧ Nx H) ∨ (J1.go j H ∧ ∃ Nx1 : Hp → Prop, (∀ H', Nx1 H' → ∃ k', k' < k ∧ W1 (j + 1) k' H') ∧ ∀ x H', J1.yld j H x H' → g1 x (wipe σ2 vs1) H' fun σ3 H5 => wipe σ3 vs1 = wipe σ2 vs1 ∧ tt1 σ3 H5 fun b H6 =>
          if b = true then te σ3 H6 fun y H7 => ∃ acc, H7 D = some (.lst acc) ∧ acc.length < sizeLine ∧ Nx1 (upd H7 D (.lst (acc ++ [y]))) else Nx1 H6) else Nx H3) := by
  refine ⟨fun i m H => m = xs.length - i ∧ i ≤ xs.length ∧ Pv i H, ⟨xs.length, by simp, Nat.zero_le _, h0⟩, ?_⟩
  rintro i m H ⟨rfl, hi, p⟩
  have q := hl i H hi p
  by_cases hlt : i < xs.length
  · refine .inr ⟨⟨xs, xs[i], q, by simp [hlt]⟩, Pv (i + 1), fun H' p' => ⟨xs.length - (i + 1), by omega, rfl, hlt, p'⟩, fun x H' y => ?_⟩
    obtain ⟨e, y⟩ := y
    subst e
    exact hs i x _ (y xs q) p _ fun _ z => z
  · have e : i = xs.length := by omega
    subst e
    exact .inl ⟨⟨xs, q, Nat.le_refl _⟩, hd H p⟩
theorem PairsAt.at {H : Hp} {us : List V} {ps : List (Nat × Nat)} (h : PairsAt H us ps) : ∀ {j : Nat} {v : V}, us[j]? = some v → ∃ p t, ps[j]? = some p ∧ v = .ref t ∧ H t = some (.tup [natV p.1, natV p.2]) := by
  have h : Paired (fun v (p : Nat × Nat) => ∃ t, v = .ref t ∧ H t = some (.tup [natV p.1, natV p.2])) us ps := h
  induction h with
  | nil => intro j v hv; cases hv
  | cons r _ ih =>
    intro j v hv
    cases j with
    | zero =>
      obtain rfl := Option.some.inj hv
      obtain ⟨t, e, ht⟩ := r
      exact ⟨_, t, rfl, e, ht⟩
    | succ j => exact ih (by assumption) hv
/-- x in t, t a tuple of data -/
def rInDT (K : PySem.W.Frag) : R2 := fun x y H Q => ∃ d ds, Dp K H x d ∧ Dp K H y (.tuple ds) ∧ SeqAt.shaped d = true ∧ SeqAt.shaped (.tuple ds) = true ∧ Q (.bl (ds.any fun z => PyData.eqv z d)) H
theorem op_inDT {X : Cx} (hu : X.A.units + 65 < cLine) : OpR X (compareOp .In) (rInDT X.K) := by
  intro pins s σ H x y v u Q I rx ry h
  obtain ⟨d, ds, hd, he, sd, se, q⟩ := h
  obtain ⟨as, r1⟩ := Dp.reads I d x v hd rx
  obtain ⟨bs, r2⟩ := Dp.reads I (.tuple ds) y u he ry
  exact SeqAt.in_tuple_reads r2 r1 (SeqAt.canLay_of_shaped se) (SeqAt.canLay_of_shaped sd) (room_in_shaped sd hu) ⟨.bl _, H, I, rfl, q⟩
theorem lay_pairsT (ps : List (Nat × Nat)) : LayD 2 (.tuple (ps.map dPair)) := LayD.tup fun d hd => by
  obtain ⟨p, _, rfl⟩ := List.mem_map.mp hd
  exact lay_pair p
theorem TupsAt.keep {H H' : Hp} {R : Addr} {us0 : List V} (hR : H R = some (.lst us0)) (s : Oth R H H') {us : List V} {ls : List (List Nat)} (h : TupsAt H us ls) : TupsAt H' us ls :=
  h.mono fun b xs e => s b _ (fun z => by rw [z, hR] at e; cases e) e
theorem TupsAt.at {H : Hp} {us : List V} {ls : List (List Nat)} (h : TupsAt H us ls) {j : Nat} {v : V} (hv : us[j]? = some v) : ∃ l t, ls[j]? = some l ∧ v = .ref t ∧ H t = some (.tup (l.map natV)) := by
  have hj : j < ls.length := by
    rw [← h.len]
    exact (List.getElem?_eq_some_iff.mp hv).1
  obtain ⟨t, e, ht⟩ := h.get (List.getElem?_eq_getElem hj)
  rw [hv] at e
  exact ⟨_, t, List.getElem?_eq_getElem hj, Option.some.inj e, ht⟩
theorem LsN.of_lists {R : Addr} {H : Hp} (hn : ∀ t o, H t = some o → t ≠ R) : ∀ {vs : List V} {ls : List (List Nat)}, ListsAt H vs ls → LsN R H vs ls
  | [], [], _ => .nil
  | _ :: _, _ :: _, .cons ⟨t, e, h⟩ r => .cons ⟨t, e, hn _ _ h, h⟩ (LsN.of_lists hn r)
theorem dp_lists {K : PySem.W.Frag} {H : Hp} : ∀ {vs : List V} {ls : List (List Nat)}, ListsAt H vs ls → DpAll K H vs (ls.map (dR false))
  | [], [], _ => .nil
  | _ :: _, _ :: _, .cons ⟨t, e, h⟩ r => by
    rw [e]
    exact .cons (.lst (SqL.of h) (dp_nats _)) (dp_lists r)
theorem dp_tupR {K : PySem.W.Frag} {H : Hp} : ∀ {vs : List V} {ls : List (List Nat)}, TupsAt H vs ls → DpAll K H vs (ls.map (dR true))
  | [], [], _ => .nil
  | _ :: _, _ :: _, .cons ⟨t, e, h⟩ r => by
    rw [e]
    exact .cons (.tup (SqT.of h) (dp_nats _)) (dp_tupR r)
theorem row_ints (row : List Nat) (z : Int) : row.map natV ++ [V.int z] = (row.map (fun (n : Nat) => (n : Int)) ++ [z]).map V.int := by
  rw [List.map_append, List.map_map]
  rfl
def HandLike (o : HO) : Prop := ∃ q i r t, o = .lst [.ref q, .int i, .int r, .int t]
def KI (H H' : Hp) : Prop := ∀ b o, H b = some o → ¬ HandLike o → H' b = some o
theorem KI.of {H H' : Hp} (s : Same H H') : KI H H' := fun b o e _ => s b o e
theorem KI.trans {H H1 H2 : Hp} (a : KI H H1) (b : KI H1 H2) : KI H H2 := fun c o e n => b c o (a c o e n) n
theorem KI.oth {p q : Addr} {H H' : Hp} (O : Oth p H H') (h : HandAt H p q) : KI H H' := fun b o e n => O b o (fun z => by
  obtain ⟨cs, i, r, t, h1, _⟩ := h
  rw [z, h1] at e
  exact n ⟨_, _, _, _, (Option.some.inj e).symm⟩) e
theorem nh_tup {xs : List V} : ¬ HandLike (.tup xs) := fun ⟨_, _, _, _, e⟩ => by cases e
theorem nh_ins {C dx : Addr} {fs : List (Str × V)} : ¬ HandLike (.ins C dx fs) := fun ⟨_, _, _, _, e⟩ => by cases e
theorem nh_hues {hs : List (Option Nat)} : ¬ HandLike (.lst (hs.map hV)) := fun ⟨_, _, _, _, e⟩ => by
  cases hs with
  | nil => cases e
  | cons o r =>
    injection e with e
    injection e with e _
    cases o <;> cases e
theorem nh_nats {l : List Nat} : ¬ HandLike (.lst (l.map natV)) := fun ⟨_, _, _, _, e⟩ => by
  cases l with
  | nil => cases e
  | cons n r =>
    injection e with e
    injection e with e _
    cases e
theorem nh_refs {us : List V} (h : ∀ v ∈ us, ∃ a, v = .ref a) : ¬ HandLike (.lst us) := fun ⟨_, i, _, _, e⟩ => by
  injection e with e
  obtain ⟨a, z⟩ := h (.int i) (by rw [e]; exact List.mem_cons_of_mem _ List.mem_cons_self)
  cases z
theorem RwN.refs {R : Addr} {H : Hp} : ∀ {vs : List V} {ls : List Ent}, RwN R H vs ls → ∀ v ∈ vs, ∃ a, v = .ref a
  | [], [], _, v, hv => by cases hv
  | _ :: _, _ :: _, .cons ⟨t, b, m, e, _⟩ r, v, hv => by
    rcases List.mem_cons.mp hv with z | hv
    · exact ⟨t, z.trans e⟩
    · exact RwN.refs r v hv
theorem ListsAt.refs {H : Hp} : ∀ {vs : List V} {ls : List (List Nat)}, ListsAt H vs ls → ∀ v ∈ vs, ∃ a, v = .ref a
  | [], [], _, v, hv => by cases hv
  | _ :: _, _ :: _, .cons ⟨t, e, _⟩ r, v, hv => by
    rcases List.mem_cons.mp hv with z | hv
    · exact ⟨t, z.trans e⟩
    · exact ListsAt.refs r v hv
theorem RwN.ki {R : Addr} {H H' : Hp} (k : KI H H') : ∀ {vs : List V} {ls : List Ent}, RwN R H vs ls → RwN R H' vs ls
  | [], [], _ => .nil
  | _ :: _, _ :: _, .cons ⟨t, b, m, e, n1, h1, n2, h2, n3, h3⟩ r => .cons ⟨t, b, m, e, n1, k _ _ h1 nh_tup, n2, k _ _ h2 nh_nats, n3, k _ _ h3 nh_nats⟩ (RwN.ki k r)
theorem RwN.new {R R' : Addr} {H : Hp} (hn : H R' = none) : ∀ {vs : List V} {ls : List Ent}, RwN R H vs ls → RwN R' H vs ls
  | [], [], _ => .nil
  | _ :: _, _ :: _, .cons ⟨t, b, m, e, n1, h1, n2, h2, n3, h3⟩ r => .cons ⟨t, b, m, e, ne_of_none h1 hn, h1, ne_of_none h2 hn, h2, ne_of_none h3 hn, h3⟩ (RwN.new hn r)
theorem ListsAt.ki {H H' : Hp} (k : KI H H') : ∀ {vs : List V} {ls : List (List Nat)}, ListsAt H vs ls → ListsAt H' vs ls
  | [], [], _ => .nil
  | _ :: _, _ :: _, .cons ⟨t, e, h⟩ r => .cons ⟨t, e, k _ _ h nh_nats⟩ (ListsAt.ki k r)
theorem WorldAt.ki {H H' : Hp} {p C : Addr} {ds : List Ent} (h : WorldAt H p C ds) (k : KI H H') : WorldAt H' p C ds := by
  have kt : TupK H H' := fun b xs e => k b _ e nh_tup
  obtain ⟨dx, ac, ab, ao, am, ae, ah, cs, bs, ms, es, hs, h1, h2, h3, h4, h5, h6, h7, h8, h9, h10, h11, h12⟩ := h
  exact ⟨dx, ac, ab, ao, am, ae, ah, cs, bs, ms, es, hs, k _ _ h1 nh_ins, kt _ _ h2, h3.mono kt, kt _ _ h4, h5.mono kt, kt _ _ h6, kt _ _ h7, h8.mono kt, kt _ _ h9, h10.mono kt, kt _ _ h11, h12.mono kt⟩
theorem HandAt.ne_of {H : Hp} {p q b : Addr} {o : HO} (h : HandAt H p q) (e : H b = some o) (n : ¬ HandLike o) : b ≠ p := fun z => by
  obtain ⟨cs, i, r, t, h1, _⟩ := h
  rw [z, h1] at e
  exact n ⟨_, _, _, _, (Option.some.inj e).symm⟩
section
variable {P : Program} {w : World} {K : PySem.W.Frag} {C Cb : Addr}
theorem world_q {H : Hp} {wp wdx l : Addr} {us : List V} {ds : List Ent} {Q : VK} {E : XK} (hl : H l = some (.lst us)) (hR : RwN l H us ds) (ok : DsOk ds) (h0 : 1 ≤ ds.length) (h12 : ds.length ≤ 12) (hwp : H wp = none) (hwdx : H wdx = none) (wne : wdx ≠ wp) (q : ∀ H', Same H H' → WorldAt H' wp C ds → Q .non H') :
    spWorld C Cb (.ref wp :: ([.ref l] ++ [])) (upd (upd H wdx (.own wp)) wp (.ins C wdx [])) Q E := by
  have s7 := (same_new (o := .own wp) hwdx).trans (same_new (o := .ins C wdx []) (by rw [upd_ne (Ne.symm wne)]; exact hwp))
  have W7 : upd (upd H wdx (.own wp)) wp (.ins C wdx []) wp = some (.ins C wdx []) := upd_same
  generalize upd (upd H wdx (.own wp)) wp (.ins C wdx []) = G7 at s7 W7 ⊢
  have usl := hR.len
  exact ⟨wp, wdx, .ref l, rfl, W7, .inr ⟨l, us, ds, rfl, .inl (s7 _ _ hl), by omega, by omega, by omega, (hR.keep (KeepX.of s7)).entries ok, .inr ⟨usl.symm, fun H8 O8 hW => q H8 (fun b u e => O8 b u (ne_of_none e hwp) (s7 _ _ e)) hW⟩⟩⟩
end
/-- max(t), t a tuple of whole numbers -/
def rMaxT (K : PySem.W.Frag) : List V → Hp → VK → Prop := fun vs H Q => ∃ (a : Addr) (ns : List Int), vs = [V.ref a] ∧ SqT K H a (ns.map V.int) ∧ 0 < ns.length ∧ ∀ m, m ∈ ns → (∀ y, y ∈ ns → y ≤ m) → Q (.int m) H
theorem foldl_max : ∀ (ns : List Int) (n : Int), n ≤ ns.foldl max n ∧ ∀ y ∈ ns, y ≤ ns.foldl max n
  | [], n => ⟨by show n ≤ n; omega, fun y hy => by cases hy⟩
  | a :: r, n => by
    obtain ⟨h1, h2⟩ := foldl_max r (max n a)
    show n ≤ r.foldl max (max n a) ∧ ∀ y ∈ a :: r, y ≤ r.foldl max (max n a)
    refine ⟨by omega, fun y hy => ?_⟩
    rcases List.mem_cons.mp hy with rfl | hy
    · omega
    · exact h2 y hy
theorem dp_ints {K : PySem.W.Frag} {H : Hp} : ∀ ns : List Int, DpAll K H (ns.map V.int) (ns.map .int)
  | [] => .nil
  | n :: r => .cons (.int _) (dp_ints r)
theorem depth_intsI : ∀ ns : List Int, PyData.depthAll (ns.map .int) = 0
  | [] => by simp [PyData.depthAll]
  | a :: r => by
    rw [List.map_cons, PyData.depthAll, depth_intsI r]
    simp [PyData.depth]
theorem call_maxT {X : Cx} (hc : X.calm = true) (hu : X.A.units + 65 < cLine) : CallR X (.builtin "max") (rMaxT X.K) := by
  intro pins s σ H vs us Q I r h
  obtain ⟨a, ns, rfl, hs, hne, q⟩ := h
  obtain ⟨its, rv, hl, _⟩ := I.tuple hs
  rw [Vals.ref1 r]
  obtain ⟨as, hr⟩ := Dp.readsAll I _ _ _ (dp_ints (K := X.K) (H := H) ns) rv
  match ns, hne with
  | n :: ns, _ =>
    have ha : PySem.W.AlikeAll ((n :: ns).map PyData.int) := by
      refine ⟨fun x hx y hy => ?_, fun x hx => ?_⟩
      · obtain ⟨p, _, rfl⟩ := List.mem_map.mp hx
        obtain ⟨p', _, rfl⟩ := List.mem_map.mp hy
        simp [PySem.W.alike]
      · obtain ⟨p, _, rfl⟩ := List.mem_map.mp hx
        simp
    have hdep := depth_intsI (n :: ns)
    refine PySem.W.max_tuple_data (x := .int n) (xs := ns.map .int) (I.ok.hd hc) hl hr ha (by have : PyData.depthAll (.int n :: ns.map .int) = 0 := hdep; omega) fun i v h' tk bs hv rd hk => ?_
    have hv' : its[i]? = some v := by
      rw [← hv]
      simp
    obtain ⟨u, hu1, hu2⟩ := vals_at rv i v hv'
    have hr' : ReadsAll s.heap its ((n :: ns).map PyData.int) as := hr
    obtain ⟨bs2, rd2, hi, _, _⟩ := PySem.W.readsAll_at hr' i v hv'
    rw [List.length_map] at hi
    obtain ⟨ri, hri⟩ : ∃ ri, (n :: ns)[i]? = some ri := ⟨_, List.getElem?_eq_getElem hi⟩
    have e1 : ((n :: ns).map PyData.int).getD i .none = .int ri := by
      rw [List.getD_eq_getElem?_getD, List.getElem?_map, hri]
      rfl
    rw [e1] at rd2
    rw [PySem.W.maxD_ints] at rd
    have e2 := PySem.W.alike_unique (.int ri) (.int (ns.foldl max n)) _ _ _ (by simp [PySem.W.alike]) (PySem.W.reads_keeps hk rd2) rd
    have e3 : ri = ns.foldl max n := PyData.int.inj e2
    rw [List.getElem?_map, hri] at hu1
    obtain rfl := Option.some.inj hu1
    refine ⟨.int ri, H, I.kept hk, hu2, q ri (List.mem_of_getElem? hri) fun y hy => ?_⟩
    obtain ⟨h1, h2⟩ := foldl_max ns n
    rw [e3]
    rcases List.mem_cons.mp hy with rfl | hy
    · exact h1
    · exact h2 y hy
theorem tIfS_join {c : TT} {tb te : TS} {nx bk ct : L2.St → Hp → Prop} {rt : VK} {σ : L2.St} {H : Hp} (Inv : L2.St → Hp → Prop) (k : ∀ σ H, Inv σ H → nx σ H) (h : ∀ N : L2.St → Hp → Prop, (∀ σ H, Inv σ H → N σ H) → tIfS c tb te ⟨N, rt, bk, ct⟩ σ H) : tIfS c tb te ⟨nx, rt, bk, ct⟩ σ H := h nx k
theorem RwN.set {R : Addr} {H : Hp} {t b m : Addr} {d : Ent} (n1 : t ≠ R) (h1 : H t = some (.tup [.ref b, natV d.2.1, .ref m])) (n2 : b ≠ R) (h2 : H b = some (.lst (d.1.map natV))) (n3 : m ≠ R) (h3 : H m = some (.lst (d.2.2.map natV))) : ∀ {vs : List V} {ls : List Ent} (i : Nat), RwN R H vs ls → RwN R H (vs.set i (.ref t)) (ls.set i d)
  | [], [], _, _ => .nil
  | _ :: _, _ :: _, 0, .cons _ r => .cons ⟨t, b, m, rfl, n1, h1, n2, h2, n3, h3⟩ r
  | _ :: _, _ :: _, i + 1, .cons z r => .cons z (RwN.set n1 h1 n2 h2 n3 h3 i r)
theorem exact_pairs {H : Hp} {t1 t2 : Addr} {us1 us2 : List V} {ps : List (Nat × Nat)} (h1 : H t1 = some (.tup us1)) (h2 : H t2 = some (.tup us2)) (hP1 : PairsAt H us1 ps) (hP2 : PairsAt H us2 ps) (hl : ps.length ≤ 1000) : Exact H 2 (.ref t1) (.ref t2) := by
  refine .inr ⟨t1, t2, us1, us2, rfl, rfl, .inl h1, .inl h2, by rw [hP1.len, hP2.len], by rw [hP2.len]; exact hl, fun i u v hu hv => ?_⟩
  obtain ⟨p1, a1, e1, rfl, g1⟩ := hP1.at hu
  obtain ⟨p2, a2, e2, rfl, g2⟩ := hP2.at hv
  rw [e1] at e2
  obtain rfl := Option.some.inj e2
  exact Exact.tup 0 g1 g2 (fun v hv => by
    rcases List.mem_cons.mp hv with rfl | hv
    · exact True.intro
    · rw [List.mem_singleton.mp hv]
      exact True.intro) (by show 2 ≤ 1000; decide)
theorem tIf_join {c : TT} {a b : TE} {σ : L2.St} {H : Hp} {Q : VK} (Inv : V → Hp → Prop) (k : ∀ v H, Inv v H → Q v H) (h : ∀ Q' : VK, (∀ v H, Inv v H → Q' v H) → tIf c a b σ H Q') : tIf c a b σ H Q := h Q k
end K57

set_option maxRecDepth 100000
set_option maxHeartbeats 8000000
namespace K57
open PySem PySem.Spec PyProof.Rows L2 Kw
section
variable {P : Program} {w : World} {K : PySem.W.Frag} {mg : Str → Option Value} {base : Heap} {f fW fN fC C Cn : Addr} {fd fdW fdN fdC : FuncData}
def spOnLine (C Cn : Addr) : Sp := fun vs H Q E => ∃ (p : Addr) (a b : V) (ta tb : String) (ds : List Ent), vs = [.ref p, a, b] ∧ WorldAt H p C ds ∧ Ty0 H a ta ∧ Ty0 H b tb ∧
  ((wholeB (.int 0) (.int ((ds.length : Int) - 1)) a = false ∧ ∀ d H', Same H H' → H' d = some (.xd (errF ["cls"] [a])) → E (.ref Cn) (some d) H') ∨
   (wholeB (.int 0) (.int ((ds.length : Int) - 1)) a = true ∧ wholeB (.int 0) (.int ((ds.length : Int) - 1)) b = false ∧ ∀ d H', Same H H' → H' d = some (.xd (errF ["cls"] [b])) → E (.ref Cn) (some d) H') ∨
   ∃ x y : Nat, a = natV x ∧ b = natV y ∧ x < ds.length ∧ y < ds.length ∧ ∀ H', Same H H' → Q (.bl (onLine (elsOf ds) x y)) H')
end
end K57

set_option maxRecDepth 100000
set_option maxHeartbeats 8000000
namespace K57
open PySem PySem.Spec PyProof.Rows L2 Kw
/-! ### definers -/
def methsOf (ds : List Ent) (k : Nat) : List Nat := (ds.getD k ([], 0, [])).2.2
theorem WorldAt.meth {H : Hp} {p C : Addr} {ds : List Ent} (h : WorldAt H p C ds) (ok : DsOk ds) {x : Nat} (hx : x < ds.length) : ∃ (dx : Addr) (fs : List (Str × V)) (am : Addr) (ms : List V) (t : Addr), H p = some (.ins C dx fs) ∧ List.lookup ("methods" : Str) fs = some (V.ref am) ∧ H am = some (.tup ms) ∧ ms[x]? = some (.ref t) ∧ H t = some (.tup ((methsOf ds x).map natV)) := by
  obtain ⟨dx, ac, ab, ao, am, ae, ah, cs, bs, ms, es, hs, h1, h2, h3, h4, h5, h6, h7, h8, h9, h10, h11, h12⟩ := h
  obtain ⟨d, hd⟩ : ∃ d, ds[x]? = some d := ⟨_, List.getElem?_eq_getElem hx⟩
  obtain ⟨t, e1, e2⟩ := h8.get (i := x) (l := sortN d.2.2) (by rw [List.getElem?_map, hd]; rfl)
  obtain ⟨o1, o2, o3, o4, o5, o6, o7⟩ := ok x d hd
  refine ⟨dx, _, am, ms, t, h1, rfl, h7, e1, ?_⟩
  rw [sortN_nat o5 o6] at e2
  unfold methsOf
  rw [List.getD_eq_getElem?_getD, hd]
  exact e2
theorem meths_len {ds : List Ent} (ok : DsOk ds) (x : Nat) : (methsOf ds x).length ≤ 3 := by
  unfold methsOf
  rw [List.getD_eq_getElem?_getD]
  cases e : ds[x]? with
  | none => exact Nat.zero_le _
  | some d => exact (ok x d e).2.2.2.2.2.2
/-- the classes among one and its elders that define a name -/
def defL (ds : List Ent) (c m : Nat) : List Nat := ((kins (elsOf ds)).getD c []).filter fun k => (methsOf ds k).contains m
/-- those that no other one has as an elder -/
def topsL (els : List (List Nat)) (xs : List Nat) : List Nat := xs.filter fun k => !(xs.any fun h => (els.getD h []).contains k)
theorem take_filterN {p : Nat → Bool} {bs : List Nat} {j x : Nat} (h : bs[j]? = some x) : (bs.take (j + 1)).filter p = (bs.take j).filter p ++ (if p x = true then [x] else []) := by
  rw [List.take_add_one, h, Option.toList_some, List.filter_append]
  congr 1
  cases c : p x with
  | true => rw [List.filter_cons_of_pos (by exact c)]; rfl
  | false => rw [List.filter_cons_of_neg (by rw [c]; decide)]; rfl
theorem kins_mem_lt {ds : List Ent} (ok : DsOk ds) {c k : Nat} (hc : c < ds.length) (hk : k ∈ (kins (elsOf ds)).getD c []) : k < ds.length := by
  have := ok.kins.le c (by rw [kinsL]; exact hc) k hk
  omega
section
variable {P : Program} {w : World} {K : PySem.W.Frag} {mg : Str → Option Value} {base : Heap} {f fC fW fN fN2 fD fA fL C Cn Cx : Addr} {fd fdC fdW fdN fdN2 fdD fdA fdL : FuncData}
def spName : Sp := fun vs H Q _ => ∃ m : Nat, vs = [natV m] ∧ m < 6 ∧ Q (natV m) H
theorem sc_name : FnScope ["name"] ["name"] (defScope (top 29)) := ⟨rfl, rfl, rfl, by decide +kernel, rfl, by decide +kernel, by decide +kernel⟩
theorem ok_name (F : FnP K "check_name" 29 f fd) (B : Fr mg) (Z : Cst mg) (FW : FnDf K "is_whole" 13 [.non, .non] fW fdW) (mW : mg "is_whole" = some (.ref fW)) : FnOk P w K mg base CX0 2 f fd ["name"] spName := by
  have GW : FnOk P w K mg base CX0 1 fW fdW ["thing", "low", "high"] spWhole := ok_whole FW B
  have bW := binds_whole3 FW
  obtain ⟨t6, z6⟩ := Z.mn
  refine F.ok sc_name (fun vs H Q E h => ?_) (fun cdv A outer s H vs Q E hr h => ?_)
  · obtain ⟨m, rfl, _⟩ := h
    rfl
  · obtain ⟨m, rfl, hm, k⟩ := h
    refine ⟨_, PSs.nox (pss_cons (ps_if (pt_not (pt_val (pe_call GW hr (by rfl) mW FW.kp bW .nil pass0 (pa_cons (pv 0) (pa_cons pe_int (pa_cons (pe_op op_sub (pe_glob (v := .int 6) (by rfl) z6 ⟨_, rfl⟩) pe_int) pa_nil)))))) (pss_one ps_never) pss_nil) (pss_one (ps_ret (pv 0)))), ?_⟩
    refine ⟨_, rfl, _, _, rfl, rfl, natV m, _, _, "int", rfl, .int _, .inr ⟨_, rfl⟩, .inr ⟨_, rfl⟩, _, rfl, ?_⟩
    have e : wholeB (.int 0) (.int (6 - 1)) (natV m) = true := whole_of (n := 6) hm
    rw [e]
    exact iteF' rfl ⟨_, rfl, k⟩
def spDefining (C : Addr) : Sp := fun vs H Q _ => ∃ (p : Addr) (ds : List Ent) (c m : Nat), vs = [.ref p, natV c, natV m] ∧ WorldAt H p C ds ∧ DsOk ds ∧ c < ds.length ∧ ds.length ≤ 12 ∧ m < 6 ∧
  ∀ t H', Same H H' → H' t = some (.tup ((defL ds c m).map natV)) → Q (.ref t) H'
theorem sc_defining : FnScope ["world", "c", "name", "k"] ["world", "c", "name"] (defScope (top 30)) := ⟨rfl, rfl, rfl, by decide +kernel, rfl, by decide +kernel, by decide +kernel⟩
theorem ok_defining (F : FnP K "defining_of" 30 f fd) (B : Fr mg) (TC : ClsWorld K mg C) (FC : FnP K "check_class" 17 fC fdC) (mC : mg "check_class" = some (.ref fC)) (FW : FnDf K "is_whole" 13 [.non, .non] fW fdW) (mW : mg "is_whole" = some (.ref fW)) (FN : FnM K "__init__" "NoClass.__init__" (inClass (top 4) 0) fN fdN) (TN : ErrX K mg "NoClass" ["cls"] Cn fN)
    (FN2 : FnP K "check_name" 29 fN2 fdN2) (mN2 : mg "check_name" = some (.ref fN2)) (Z : Cst mg) : FnOk P w K mg base CX0 4 f fd ["world", "c", "name"] (spDefining C) := by
  have GC : FnOk P w K mg base (L2.CX P w) 3 fC fdC ["world", "c"] (spCheck C Cn) := ok_check FC B TC FW mW FN TN
  have bC : L2.Binds K fdC ["world", "c"] [] := FC.bindsN fun _ _ _ _ _ _ us hl => match us, hl with | [_, _], _ => rfl
  have GN2 : FnOk P w K mg base CX0 2 fN2 fdN2 ["name"] spName := ok_name FN2 B Z FW mW
  have bN2 : L2.Binds K fdN2 ["name"] [] := FN2.bindsN fun _ _ _ _ _ _ us hl => match us, hl with | [_], _ => rfl
  refine F.ok sc_defining (fun vs H Q E h => ?_) (fun cdv A outer s H vs Q E hr h => ?_)
  · obtain ⟨p, ds, c, m, rfl, _⟩ := h
    rfl
  · obtain ⟨p, ds, c, m, rfl, hw, ok, hc, h12, hm, k⟩ := h
    refine ⟨_, PSs.nox (pss_cons (ps_expr (pe_call GC hr (by rfl) mC FC.kp bC .nil (passOut (E := fun _ _ _ => False)) (pa_cons (pv 0) (pa_cons (pv 1) pa_nil))))
      (pss_cons (ps_expr (pe_call GN2 (hr.mono (by decide)) (by rfl) mN2 FN2.kp bN2 .nil pass0 (pa_cons (pv 2) pa_nil)))
      (pss_one (ps_ret (pe_callTy (T := "tuple") (r := rTupOf K) (call_tup (X := _)) (by rfl) B.tuple (by decide +kernel) (pa_cons
        (pe_lc (own := [("k", 3)]) (g := gName 3) (tt := tTest (tOp (rIn K false) (tVar 2) (tOp (rIxT K) (tFld K (tVar 0) "methods") (tVar 3)))) (te := tVar 3) rfl sc_defining.nd (pi_tup (pe_op (r := rCatQ K) op_catQ (pe_ix (r := rIxT K) ix_tup (pe_fld (pv 0) rfl) (pv 1) (fun _ _ => rfl)) (pe_tup (pa_cons (pv 1) pa_nil)))) (blkOk_by (N := ["world", "c", "name", "k"]) (sc := defScope (top 30)) (by decide +kernel))
          (fun _ _ _ _ _ => pg_name (i := 3) sc_defining.nd rfl (Or.inl rfl)) (fun _ _ _ _ _ => ?tt) (fun _ _ _ _ _ => pv 3)) pa_nil)))))), ?_⟩
    case tt => exact pts_one (pt_cmpR (r := rIn K false) op_in_seq (pv 2) (pe_ix (r := rIxT K) ix_tup (pe_fld (pv 0) rfl) (pv 3) (fun _ _ => rfl)) (by rfl))
    refine ⟨_, rfl, _, rfl, p, natV c, "int", ds, rfl, hw, .int _, .inl ⟨whole_of hc, fun H1 s1 => ?_⟩⟩
    refine ⟨_, rfl, m, rfl, hm, ?_⟩
    have hw1 := hw.mono s1
    obtain ⟨dx, fs, ae, es, t1, p1, p2, p3, p4, p5⟩ := hw1.elder hc
    refine ⟨_, rfl, p, C, dx, _, _, rfl, p1, TC.cl, TC.no _ (List.mem_of_getElem? (i := 4) rfl), p2, _, rfl, ae, es, (c : Int), _, rfl, rfl, SqT.of p3, atI_nat p4, _, rfl, (by show 1 ≤ sizeLine; decide), fun T hT => ?_⟩
    have sT := same_new (o := .tup [natV c]) hT
    have elen : ((elsOf ds).getD c []).length ≤ 12 := by
      have := kin_len ok hc h12
      rw [kins_els hc, List.length_append] at this
      omega
    refine cat_q (xs := ((elsOf ds).getD c []).map natV) (ys := [natV c]) p5 upd_same (by rw [List.length_map]; show _ + 1 ≤ 2 ^ 24; omega) sT fun t2 H2 s2 ht2 => ?_
    have ek : ((elsOf ds).getD c []).map natV ++ [natV c] = ((kins (elsOf ds)).getD c []).map natV := by
      rw [kins_els hc, List.map_append]
      rfl
    rw [ek] at ht2
    have s12 := s1.trans s2
    refine ⟨t2, rfl, ⟨_, SqT.of ht2⟩, fun D hD => lc_tup (K := K) (a := t2) (xs := ((kins (elsOf ds)).getD c []).map natV) (fun j H' => Same H2 H' ∧ H' D = some (.lst (((((kins (elsOf ds)).getD c []).take j).filter fun k => (methsOf ds k).contains m).map natV))) ⟨same_new hD, upd_same⟩ (fun j H' _ z => SqT.of (z.1 _ _ ht2)) ?_ ?_⟩
    · rintro j v H3 hj ⟨s3, hD3⟩
      rw [List.getElem?_map] at hj
      obtain ⟨x, hx, rfl⟩ := Option.map_eq_some_iff.mp hj
      have xl := kins_mem_lt ok hc (List.mem_of_getElem? hx)
      obtain ⟨dx', fs', am, ms, t4, q1, q2, q3, q4, q5⟩ := (hw.mono (s12.trans s3)).meth ok xl
      refine ⟨rfl, _, rfl, _, rfl, p, C, dx', _, _, rfl, q1, TC.cl, TC.no _ (List.mem_of_getElem? (i := 3) rfl), q2, _, rfl, am, ms, (x : Int), _, rfl, rfl, SqT.of q3, atI_nat q4, t4, _, rfl, .inr (SqT.of q5), rfl, flat_nats _, _, rfl, ?_⟩
      have ein : inV (natV m) ((methsOf ds x).map natV) = (methsOf ds x).contains m := inV_nat _ _
      show (if inV (natV m) ((methsOf ds x).map natV) = true then _ else _)
      rw [ein]
      have st := take_filterN (p := fun k => (methsOf ds k).contains m) hx
      cases hb : (methsOf ds x).contains m with
      | true =>
        rw [hb, if_pos rfl] at st
        refine iteT' rfl ⟨_, rfl, _, hD3, ?_, same_upd s3 hD, by rw [st, List.map_append, upd_same]; rfl⟩
        rw [List.length_map]
        refine Nat.lt_of_le_of_lt (List.length_filter_le _ _) ?_
        rw [List.length_take]
        have := kin_len ok hc h12
        show _ < 2 ^ 24
        omega
      | false =>
        rw [hb, if_neg (by decide), List.append_nil] at st
        exact iteF' rfl ⟨s3, by rw [st]; exact hD3⟩
    · rintro H3 ⟨s3, hD3⟩
      rw [List.length_map, List.take_length] at hD3
      exact tup_q (.inl hD3) fun t H4 s4 ht => k t H4 ((s12.trans s3).trans s4) ht
end
end K57

set_option maxRecDepth 100000
set_option maxHeartbeats 8000000
namespace K57
open PySem PySem.Spec PyProof.Rows L2 Kw
def ansL (ds : List Ent) (c m : Nat) : List Nat := topsL (elsOf ds) (defL ds c m)
theorem defL_lt {ds : List Ent} (ok : DsOk ds) {c m : Nat} (hc : c < ds.length) : ∀ k ∈ defL ds c m, k < ds.length := fun k hk => kins_mem_lt ok hc (List.mem_filter.mp hk).1
theorem defL_len {ds : List Ent} (ok : DsOk ds) {c m : Nat} (hc : c < ds.length) (h12 : ds.length ≤ 12) : (defL ds c m).length ≤ 12 := Nat.le_trans (List.length_filter_le _ _) (kin_len ok hc h12)
theorem topsL_len {els : List (List Nat)} {xs : List Nat} : (topsL els xs).length ≤ xs.length := List.length_filter_le _ _
section
variable {P : Program} {w : World} {K : PySem.W.Frag} {mg : Str → Option Value} {base : Heap} {f fD fL fA fX fY C Cn Ct : Addr} {fd fdD fdL fdA fdX fdY : FuncData}
def spLast (C : Addr) : Sp := fun vs H Q _ => ∃ (p r : Addr) (ds : List Ent) (xs : List Nat), vs = [.ref p, .ref r] ∧ WorldAt H p C ds ∧ DsOk ds ∧ H r = some (.tup (xs.map natV)) ∧ (∀ x ∈ xs, x < ds.length) ∧ ds.length ≤ 12 ∧ xs.length ≤ 12 ∧
  ∀ t H', Same H H' → H' t = some (.tup ((topsL (elsOf ds) xs).map natV)) → Q (.ref t) H'
theorem sc_last : FnScope ["world", "classes", "k", "heir"] ["world", "classes"] (defScope (top 32)) := ⟨rfl, rfl, rfl, by decide +kernel, rfl, by decide +kernel, by decide +kernel⟩
theorem ok_last (F : FnP K "last_heirs" 32 f fd) (B : Fr mg) (gAny : mg "any" = none) (TC : ClsWorld K mg C) : FnOk P w K mg base CX0 1 f fd ["world", "classes"] (spLast C) := by
  refine F.ok sc_last (fun vs H Q E h => ?_) (fun cdv A outer s H vs Q E hr h => ?_)
  · obtain ⟨p, r, ds, xs, rfl, _⟩ := h
    rfl
  · obtain ⟨p, r, ds, xs, rfl, hw, ok, hR, hx, h12, x12, k⟩ := h
    refine ⟨_, PSs.nox (pss_one (ps_ret (pe_callTy (T := "tuple") (r := rTupOf K) (call_tup (X := _)) (by rfl) B.tuple (by decide +kernel) (pa_cons
        (pe_lc (own := [("k", 2)]) (g := gName 2) (tt := tNot (tB (tCB (rAny K) (tCons (tLc (iTup K (tVar 1)) (gName 3) tYes (tOp (rIn K false) (tVar 2) (tOp (rIxT K) (tFld K (tVar 0) "elders") (tVar 3))) (List.map (fun x => x.snd) [("heir", 3)])) tNil)))) (te := tVar 2) rfl sc_last.nd (pi_tup (pv 1)) (blkOk_by (N := ["world", "classes", "k", "heir"]) (sc := defScope (top 32)) (by decide +kernel))
          (fun _ _ _ _ _ => pg_name (i := 2) sc_last.nd rfl (Or.inr rfl)) (fun _ _ _ _ _ => ?tt) (fun _ _ _ _ _ => pv 2)) pa_nil)))), ?_⟩
    case tt =>
      refine pts_one (pt_not (pt_val (pe_callB (id := "any") (r := rAny K) (cr_any rfl) (by rfl) gAny (by decide +kernel) (pa_cons (pe_lc (own := [("heir", 3)]) (g := gName 3) (tt := tYes) (te := tOp (rIn K false) (tVar 2) (tOp (rIxT K) (tFld K (tVar 0) "elders") (tVar 3))) rfl sc_last.nd (pi_tup (pv 1)) (blkOk_by (by rfl))
          (fun _ _ _ _ _ => pg_name (i := 3) sc_last.nd rfl (Or.inl rfl)) (fun _ _ _ _ _ => pts_nil) (fun _ _ _ _ _ => ?te)) pa_nil))))
      exact pe_cmpR (r := rIn K false) op_in_seq (pv 2) (pe_ix (r := rIxT K) ix_tup (pe_fld (pv 0) rfl) (pv 3) (fun _ _ => rfl)) (by rfl)
    refine ⟨_, rfl, r, rfl, ⟨_, SqT.of hR⟩, fun D hD => lc_tup (K := K) (a := r) (xs := xs.map natV) (fun j H' => Same H H' ∧ H' D = some (.lst (((xs.take j).filter fun k => !(xs.any fun h => ((elsOf ds).getD h []).contains k)).map natV))) ⟨same_new hD, upd_same⟩ (fun j H' _ z => SqT.of (z.1 _ _ hR)) ?_ ?_⟩
    · rintro j v H2 hj ⟨s2, hD2⟩
      rw [List.getElem?_map] at hj
      obtain ⟨x, hxx, rfl⟩ := Option.map_eq_some_iff.mp hj
      refine ⟨rfl, _, rfl, r, rfl, ⟨_, SqT.of (s2 _ _ hR)⟩, fun D2 hD2' => lc_tup (K := K) (a := r) (xs := xs.map natV) (fun j H' => Same H2 H' ∧ H' D2 = some (.lst (((xs.take j).map fun h => ((elsOf ds).getD h []).contains x).map V.bl))) ⟨same_new hD2', upd_same⟩ (fun j H' _ z => SqT.of (z.1 _ _ (s2 _ _ hR))) ?_ ?_⟩
      · rintro m v H3 hm ⟨s3, hD3⟩
        rw [List.getElem?_map] at hm
        obtain ⟨y, hy, rfl⟩ := Option.map_eq_some_iff.mp hm
        have yl := hx y (List.mem_of_getElem? hy)
        obtain ⟨dx, fs, ae, es, t1, p1, p2, p3, p4, p5⟩ := ((hw.mono s2).mono s3).elder yl
        refine ⟨rfl, _, rfl, _, rfl, p, C, dx, _, _, rfl, p1, TC.cl, TC.no _ (List.mem_of_getElem? (i := 4) rfl), p2, _, rfl, ae, es, (y : Int), _, rfl, rfl, SqT.of p3, atI_nat p4, t1, _, rfl, .inr (SqT.of p5), rfl, flat_nats _, ?_⟩
        have ein : inV (natV x) (((elsOf ds).getD y []).map natV) = ((elsOf ds).getD y []).contains x := inV_nat _ _
        refine ⟨_, hD3, ?_, same_upd s3 hD2', ?_⟩
        · rw [List.length_map, List.length_map, List.length_take]
          show _ < 2 ^ 24
          omega
        · rw [upd_same, List.take_add_one, hy, Option.toList_some, List.map_append, List.map_append]
          show some (HO.lst (_ ++ [V.bl (inV (natV x) (((elsOf ds).getD y []).map natV))])) = _
          rw [ein]
          rfl
      · rintro H3 ⟨s3, hD3⟩
        rw [List.length_map, List.take_length] at hD3
        refine ⟨D2, _, rfl, SqL.of hD3, _, rfl, ?_⟩
        have e : (!((xs.map fun h => ((elsOf ds).getD h []).contains x).any id)) = !(xs.any fun h => ((elsOf ds).getD h []).contains x) := by
          rw [List.any_map]
          rfl
        show (if (!((xs.map fun h => ((elsOf ds).getD h []).contains x).any id)) = true then _ else _)
        rw [e]
        have st := take_filterN (p := fun k => !(xs.any fun h => ((elsOf ds).getD h []).contains k)) hxx
        have hDD := s3 _ _ hD2
        cases hb : xs.any fun h => ((elsOf ds).getD h []).contains x with
        | false =>
          rw [hb, if_pos (show (!false) = true from rfl)] at st
          refine iteT' rfl ⟨_, rfl, _, hDD, ?_, same_upd (s2.trans s3) hD, by rw [st, List.map_append, upd_same]; rfl⟩
          rw [List.length_map]
          refine Nat.lt_of_le_of_lt (List.length_filter_le _ _) ?_
          rw [List.length_take]
          show _ < 2 ^ 24
          omega
        | true =>
          rw [hb, if_neg (show ¬ (!true) = true from fun z => by cases z), List.append_nil] at st
          exact iteF' rfl ⟨s2.trans s3, by rw [st]; exact hDD⟩
    · rintro H2 ⟨s2, hD2⟩
      rw [List.length_map, List.take_length] at hD2
      exact tup_q (.inl hD2) fun t H4 s4 ht => k t H4 (s2.trans s4) ht
def spAnswers (C : Addr) : Sp := fun vs H Q _ => ∃ (p : Addr) (ds : List Ent) (c m : Nat), vs = [.ref p, natV c, natV m] ∧ WorldAt H p C ds ∧ DsOk ds ∧ c < ds.length ∧ ds.length ≤ 12 ∧ m < 6 ∧
  ∀ t H', Same H H' → H' t = some (.tup ((ansL ds c m).map natV)) → Q (.ref t) H'
theorem sc_answers : FnScope ["world", "c", "name"] ["world", "c", "name"] (defScope (top 31)) := ⟨rfl, rfl, rfl, by decide +kernel, rfl, by decide +kernel, by decide +kernel⟩
theorem ok_answers (F : FnP K "answers_of" 31 f fd) (FD : FnP K "defining_of" 30 fD fdD) (mD : mg "defining_of" = some (.ref fD)) (GD : FnOk P w K mg base CX0 4 fD fdD ["world", "c", "name"] (spDefining C))
    (FL : FnP K "last_heirs" 32 fL fdL) (mL : mg "last_heirs" = some (.ref fL)) (GL : FnOk P w K mg base CX0 1 fL fdL ["world", "classes"] (spLast C)) : FnOk P w K mg base CX0 5 f fd ["world", "c", "name"] (spAnswers C) := by
  have bD : L2.Binds K fdD ["world", "c", "name"] [] := FD.bindsN fun _ _ _ _ _ _ us hl => match us, hl with | [_, _, _], _ => rfl
  have bL : L2.Binds K fdL ["world", "classes"] [] := FL.bindsN fun _ _ _ _ _ _ us hl => match us, hl with | [_, _], _ => rfl
  refine F.ok sc_answers (fun vs H Q E h => ?_) (fun cdv A outer s H vs Q E hr h => ?_)
  · obtain ⟨p, ds, c, m, rfl, _⟩ := h
    rfl
  · obtain ⟨p, ds, c, m, rfl, hw, ok, hc, h12, hm, k⟩ := h
    refine ⟨_, PSs.nox (pss_one (ps_ret (pe_call GL (hr.mono (by decide)) (by rfl) mL FL.kp bL .nil pass0 (pa_cons (pv 0) (pa_cons (pe_call GD hr (by rfl) mD FD.kp bD .nil pass0 (pa_cons (pv 0) (pa_cons (pv 1) (pa_cons (pv 2) pa_nil)))) pa_nil))))), ?_⟩
    refine ⟨_, rfl, _, rfl, _, rfl, _, rfl, p, ds, c, m, rfl, hw, ok, hc, h12, hm, fun t H1 s1 ht => ?_⟩
    exact ⟨p, t, ds, _, rfl, hw.mono s1, ok, ht, defL_lt ok hc, h12, defL_len ok hc h12, fun t2 H2 s2 ht2 => k t2 H2 (s1.trans s2) ht2⟩
theorem sc_noMeth : FnScope ["self", "cls", "name"] ["self", "cls", "name"] (defScope (inClass (top 8) 0)) := ⟨rfl, rfl, rfl, by decide +kernel, rfl, by decide +kernel, by decide +kernel⟩
theorem ok_noMeth (F : FnM K "__init__" "NoMethod.__init__" (inClass (top 8) 0) f fd) (T : ErrX K mg "NoMethod" ["cls", "name"] Cn f) : FnOk P w K mg base CX0 1 f fd ["self", "cls", "name"] (spR Cn ["cls", "name"]) ∧ Binds K fd ["self", "cls", "name"] [] := by
  refine ⟨F.ok sc_noMeth (fun vs H Q E h => ?_) (fun cdv A outer s H vs Q E hr h => ?_), F.bindsN fun _ _ _ _ _ _ us hl => match us, hl with | [_, _, _], _ => rfl⟩
  · obtain ⟨a, xs, rfl, hl, _⟩ := h
    exact congrArg Nat.succ hl
  · obtain ⟨a, xs, rfl, hl, ha, k⟩ := h
    match xs, hl with
    | [x1, x2], _ =>
      refine ⟨_, PSs.nox (pss_cons (ps_ost (pv 0) (pv 1)) (pss_one (ps_ost (pv 0) (pv 2)))), ?_⟩
      refine ⟨_, rfl, _, rfl, a, Cn, rfl, T.oex, T.no _ (List.mem_of_getElem? (i := 0) rfl), .inl ⟨ha, fun dx hd ne => ?_⟩⟩
      have A1 := @upd_same (upd H dx (exd dx [("cls", x1)])) a (exo a Cn (some dx))
      have D1 : upd (upd H dx (exd dx [("cls", x1)])) a (exo a Cn (some dx)) dx = some (exd dx [("cls", x1)]) := upB ne upd_same
      have B1 : ∀ b o, b ≠ a → H b = some o → upd (upd H dx (exd dx [("cls", x1)])) a (exo a Cn (some dx)) b = some o := fun b o hb e => upB hb (upB (ne_of_none e hd) e)
      generalize hG1 : upd (upd H dx (exd dx [("cls", x1)])) a (exo a Cn (some dx)) = G1 at A1 D1 B1 ⊢
      refine ⟨_, rfl, _, rfl, a, Cn, rfl, T.oex, T.no _ (List.mem_of_getElem? (i := 1) rfl), .inr ⟨dx, [("cls", x1)], A1, D1, (by show 1 ≤ 900; decide), ?_⟩⟩
      exact k dx _ hd ne (upB ne.symm A1) upd_same fun b o hb e => upB (ne_of_none e hd) (B1 b o hb e)
theorem sc_twoAns : FnScope ["self", "cls", "name", "a", "b"] ["self", "cls", "name", "a", "b"] (defScope (inClass (top 9) 0)) := ⟨rfl, rfl, rfl, by decide +kernel, rfl, by decide +kernel, by decide +kernel⟩
theorem ok_twoAns (F : FnM K "__init__" "TwoAnswers.__init__" (inClass (top 9) 0) f fd) (T : ErrX K mg "TwoAnswers" ["cls", "name", "a", "b"] Cn f) : FnOk P w K mg base CX0 1 f fd ["self", "cls", "name", "a", "b"] (spR Cn ["cls", "name", "a", "b"]) ∧ Binds K fd ["self", "cls", "name", "a", "b"] [] := by
  refine ⟨F.ok sc_twoAns (fun vs H Q E h => ?_) (fun cdv A outer s H vs Q E hr h => ?_), F.bindsN fun _ _ _ _ _ _ us hl => match us, hl with | [_, _, _, _, _], _ => rfl⟩
  · obtain ⟨a, xs, rfl, hl, _⟩ := h
    exact congrArg Nat.succ hl
  · obtain ⟨a, xs, rfl, hl, ha, k⟩ := h
    match xs, hl with
    | [x1, x2, x3, x4], _ =>
      refine ⟨_, PSs.nox (pss_cons (ps_ost (pv 0) (pv 1)) (pss_cons (ps_ost (pv 0) (pv 2)) (pss_cons (ps_ost (pv 0) (pv 3)) (pss_one (ps_ost (pv 0) (pv 4)))))), ?_⟩
      refine ⟨_, rfl, _, rfl, a, Cn, rfl, T.oex, T.no _ (List.mem_of_getElem? (i := 0) rfl), .inl ⟨ha, fun dx hd ne => ?_⟩⟩
      have A1 := @upd_same (upd H dx (exd dx [("cls", x1)])) a (exo a Cn (some dx))
      have D1 : upd (upd H dx (exd dx [("cls", x1)])) a (exo a Cn (some dx)) dx = some (exd dx [("cls", x1)]) := upB ne upd_same
      have B1 : ∀ b o, b ≠ a → H b = some o → upd (upd H dx (exd dx [("cls", x1)])) a (exo a Cn (some dx)) b = some o := fun b o hb e => upB hb (upB (ne_of_none e hd) e)
      generalize hG1 : upd (upd H dx (exd dx [("cls", x1)])) a (exo a Cn (some dx)) = G1 at A1 D1 B1 ⊢
      refine ⟨_, rfl, _, rfl, a, Cn, rfl, T.oex, T.no _ (List.mem_of_getElem? (i := 1) rfl), .inr ⟨dx, [("cls", x1)], A1, D1, (by show 1 ≤ 900; decide), ?_⟩⟩
      have A2 : upd G1 dx (exd dx [("name", x2), ("cls", x1)]) a = some (exo a Cn (some dx)) := upB ne.symm A1
      have D2 : upd G1 dx (exd dx [("name", x2), ("cls", x1)]) dx = some (exd dx [("name", x2), ("cls", x1)]) := upd_same
      have B2 : ∀ b o, b ≠ a → H b = some o → upd G1 dx (exd dx [("name", x2), ("cls", x1)]) b = some o := fun b o hb e => upB (ne_of_none e hd) (B1 b o hb e)
      generalize hG2 : upd G1 dx (exd dx [("name", x2), ("cls", x1)]) = G2 at A2 D2 B2 ⊢
      refine ⟨_, rfl, _, rfl, a, Cn, rfl, T.oex, T.no _ (List.mem_of_getElem? (i := 2) rfl), .inr ⟨dx, _, A2, D2, (by show 2 ≤ 900; decide), ?_⟩⟩
      have A3 : upd G2 dx (exd dx [("a", x3), ("name", x2), ("cls", x1)]) a = some (exo a Cn (some dx)) := upB ne.symm A2
      have D3 : upd G2 dx (exd dx [("a", x3), ("name", x2), ("cls", x1)]) dx = some (exd dx [("a", x3), ("name", x2), ("cls", x1)]) := upd_same
      have B3 : ∀ b o, b ≠ a → H b = some o → upd G2 dx (exd dx [("a", x3), ("name", x2), ("cls", x1)]) b = some o := fun b o hb e => upB (ne_of_none e hd) (B2 b o hb e)
      generalize hG3 : upd G2 dx (exd dx [("a", x3), ("name", x2), ("cls", x1)]) = G3 at A3 D3 B3 ⊢
      refine ⟨_, rfl, _, rfl, a, Cn, rfl, T.oex, T.no _ (List.mem_of_getElem? (i := 3) rfl), .inr ⟨dx, _, A3, D3, (by show 3 ≤ 900; decide), ?_⟩⟩
      exact k dx _ hd ne (upB ne.symm A3) upd_same fun b o hb e => upB (ne_of_none e hd) (B3 b o hb e)
end
end K57

set_option maxRecDepth 100000
set_option maxHeartbeats 8000000
namespace K57
open PySem PySem.Spec PyProof.Rows L2 Kw
def twoIn (ds : List Ent) (c j : Nat) : List (Nat × Nat) := ((List.range j).filter fun m => decide (1 < (ansL ds c m).length)).map fun m => (c, m)
def twoUp (ds : List Ent) (i : Nat) : List (Nat × Nat) := (List.range i).flatMap fun c => twoIn ds c 6
theorem filter_takeN (p : Nat → Bool) (i : Nat) : (List.range (i + 1)).filter p = (List.range i).filter p ++ (if p i = true then [i] else []) := by
  rw [List.range_succ, List.filter_append]
  congr 1
  cases c : p i with
  | true => rw [List.filter_cons_of_pos (by exact c)]; rfl
  | false => rw [List.filter_cons_of_neg (by rw [c]; decide)]; rfl
theorem twoIn_succ {ds : List Ent} {c j : Nat} : twoIn ds c (j + 1) = twoIn ds c j ++ (if decide (1 < (ansL ds c j).length) = true then [(c, j)] else []) := by
  unfold twoIn
  rw [filter_takeN (fun m => decide (1 < (ansL ds c m).length)) j, List.map_append]
  congr 1
  split <;> rfl
theorem twoUp_succ {ds : List Ent} {i : Nat} : twoUp ds (i + 1) = twoUp ds i ++ twoIn ds i 6 := by
  unfold twoUp
  rw [List.range_succ, List.flatMap_append, List.flatMap_cons, List.flatMap_nil, List.append_nil]
theorem twoIn_len {ds : List Ent} {c j : Nat} : (twoIn ds c j).length ≤ j := by
  unfold twoIn
  rw [List.length_map]
  refine Nat.le_trans (List.length_filter_le _ _) ?_
  rw [List.length_range]
  exact Nat.le_refl _
theorem twoUp_len {ds : List Ent} : ∀ {i : Nat}, (twoUp ds i).length ≤ 6 * i
  | 0 => Nat.le_refl _
  | i + 1 => by
    rw [twoUp_succ, List.length_append]
    have h1 := twoUp_len (ds := ds) (i := i)
    have h2 := twoIn_len (ds := ds) (c := i) (j := 6)
    omega
section
variable {P : Program} {w : World} {K : PySem.W.Frag} {mg : Str → Option Value} {base : Heap} {f fA fX fY C Cn Ct : Addr} {fd fdA fdX fdY : FuncData}
def spDefiner (C Cn Ct : Addr) : Sp := fun vs H Q E => ∃ (p : Addr) (ds : List Ent) (c m : Nat), vs = [.ref p, natV c, natV m] ∧ WorldAt H p C ds ∧ DsOk ds ∧ c < ds.length ∧ ds.length ≤ 12 ∧ m < 6 ∧
  (∀ a, ansL ds c m = [a] → ∀ H', Same H H' → Q (natV a) H') ∧
  (ansL ds c m = [] → ∀ d H', Same H H' → H' d = some (.xd (errF ["cls", "name"] [natV c, natV m])) → E (.ref Cn) (some d) H') ∧
  (∀ a b r, ansL ds c m = a :: b :: r → ∀ d H', Same H H' → H' d = some (.xd (errF ["cls", "name", "a", "b"] [natV c, natV m, natV a, natV b])) → E (.ref Ct) (some d) H')
theorem sc_definer : FnScope ["world", "c", "name", "answers"] ["world", "c", "name"] (defScope (top 33)) := ⟨rfl, rfl, rfl, by decide +kernel, rfl, by decide +kernel, by decide +kernel⟩
theorem ok_definer (F : FnP K "definer_of" 33 f fd) (B : Fr mg) (FA : FnP K "answers_of" 31 fA fdA) (mA : mg "answers_of" = some (.ref fA)) (GA : FnOk P w K mg base CX0 5 fA fdA ["world", "c", "name"] (spAnswers C))
    (FX : FnM K "__init__" "NoMethod.__init__" (inClass (top 8) 0) fX fdX) (TX : ErrX K mg "NoMethod" ["cls", "name"] Cn fX) (FY : FnM K "__init__" "TwoAnswers.__init__" (inClass (top 9) 0) fY fdY) (TY : ErrX K mg "TwoAnswers" ["cls", "name", "a", "b"] Ct fY) :
    FnOk P w K mg base (L2.CX P w) 6 f fd ["world", "c", "name"] (spDefiner C Cn Ct) := by
  have bA : L2.Binds K fdA ["world", "c", "name"] [] := FA.bindsN fun _ _ _ _ _ _ us hl => match us, hl with | [_, _, _], _ => rfl
  obtain ⟨GX, bX⟩ : FnOk P w K mg base CX0 1 fX fdX ["self", "cls", "name"] (spR Cn ["cls", "name"]) ∧ Binds K fdX ["self", "cls", "name"] [] := ok_noMeth FX TX
  obtain ⟨GY, bY⟩ : FnOk P w K mg base CX0 1 fY fdY ["self", "cls", "name", "a", "b"] (spR Ct ["cls", "name", "a", "b"]) ∧ Binds K fdY ["self", "cls", "name", "a", "b"] [] := ok_twoAns FY TY
  refine F.ok sc_definer (fun vs H Q E h => ?_) (fun cdv A outer s H vs Q E hr h => ?_)
  · obtain ⟨p, ds, c, m, rfl, _⟩ := h
    rfl
  · obtain ⟨p, ds, c, m, rfl, hw, ok, hc, h12, hm, k1, k2, k3⟩ := h
    refine ⟨_, (pss_cons (ps_set (i := 3) sc_definer.nd rfl (Or.inl rfl) (pe_call GA hr (by rfl) mA FA.kp bA .nil pass0 (pa_cons (pv 0) (pa_cons (pv 1) (pa_cons (pv 2) pa_nil)))))
      (pss_cons (ps_if (pt_cmpR op_eq (pe_callB call_len_seq (by rfl) B.len PySem.boot_len (pa_cons (pv 3) pa_nil)) pe_int (nomark _)) (pss_one (ps_raise rfl (takes_of rfl rfl rfl rfl) (pmk_oex TX.oex TX.ini TX.inT GX (hr.mono (by decide)) bX .nil pass0 (by rfl) TX.mg (pa_cons (pv 1) (pa_cons (pv 2) pa_nil))))) pss_nil)
      (pss_cons (ps_if (pt_cmp (pc_gt (pe_callB call_len_seq (by rfl) B.len PySem.boot_len (pa_cons (pv 3) pa_nil)) pe_int)) (pss_one (ps_raise rfl (takes_of rfl rfl rfl rfl) (pmk_oex TY.oex TY.ini TY.inT GY (hr.mono (by decide)) bY .nil pass0 (by rfl) TY.mg (pa_cons (pv 1) (pa_cons (pv 2) (pa_cons (pe_ix (r := rIxT K) ix_tup (pv 3) pe_int (fun _ _ => rfl)) (pa_cons (pe_ix (r := rIxT K) ix_tup (pv 3) pe_int (fun _ _ => rfl)) pa_nil))))))) pss_nil)
      (pss_one (ps_ret (pe_ix (r := rIxT K) ix_tup (pv 3) pe_int (fun _ _ => rfl))))))), ?_⟩
    refine ⟨_, rfl, _, rfl, _, rfl, p, ds, c, m, rfl, hw, ok, hc, h12, hm, fun t H1 s1 ht => ?_⟩
    refine ⟨_, rfl, t, _, rfl, .inr (SqT.of ht), rfl, _, rfl, ?_⟩
    cases e : ansL ds c m with
    | nil =>
      rw [e] at ht
      refine iteT' rfl ⟨_, rfl, _, rfl, ?_⟩
      exact raise_q rfl (by decide) fun d H' s2 _ e' => k2 e d H' (s1.trans s2) e'
    | cons a r =>
      rw [e] at ht
      refine iteF' (decide_eq_false fun z => by have := V.int.inj z; simp at this; omega) ?_
      refine ⟨_, rfl, t, _, rfl, .inr (SqT.of ht), _, _, rfl, rfl, _, rfl, ?_⟩
      cases r with
      | nil =>
        refine iteF' rfl ⟨_, rfl, t, _, ((0 : Nat) : Int), _, rfl, rfl, SqT.of ht, atI_nat rfl, k1 a e H1 s1⟩
      | cons b r =>
        refine iteT' (decide_eq_true (by simp; omega)) ⟨_, rfl, _, rfl, _, rfl, t, _, ((0 : Nat) : Int), _, rfl, rfl, SqT.of ht, atI_nat rfl, _, rfl, t, _, ((1 : Nat) : Int), _, rfl, rfl, SqT.of ht, atI_nat rfl, ?_⟩
        exact raise_q rfl (by decide) fun d H' s2 _ e' => k3 a b r e d H' (s1.trans s2) e'
end
end K57

set_option maxRecDepth 100000
set_option maxHeartbeats 8000000
namespace K57
open PySem PySem.Spec PyProof.Rows L2 Kw
/-- a comprehension over enumerate(xs) -/
theorem lc_enumTN {K : PySem.W.Frag} {a : Addr} {xs : List V} {g : TG} {tt : TT} {te : TE} {vs : List Nat} {σ : L2.St} {H1 : Hp} {D : Addr} {Qd : Hp → Prop} (Pv : Nat → Hp → Prop) (h0 : Pv 0 (upd H1 D (.lst []))) (hl : ∀ i H, i ≤ xs.length → Pv i H → SqT K H a xs)
    (hs : ∀ i x H T, xs[i]? = some x → Pv i H → H T = none → g (.ref T) (wipe σ vs) (upd H T (.tup [.int (i : Nat), x])) fun σ2 H2 => wipe σ2 vs = wipe σ vs ∧ tt σ2 H2 fun b H3 =>
      if b = true then te σ2 H3 fun y H4 => ∃ acc, H4 D = some (.lst acc) ∧ acc.length < sizeLine ∧ Pv (i + 1) (upd H4 D (.lst (acc ++ [y]))) else Pv (i + 1) H3) (hd : ∀ H, Pv xs.length H → Qd H) :
    ∃ W : Nat → Nat → Hp → Prop, (∃ m, W 0 m (upd H1 D (.lst []))) ∧ ∀ i m H, W i m H →
      ((Itet K a).stop i H ∧ Qd H) ∨ ((Itet K a).go i H ∧ ∃ Nx : Hp → Prop, (∀ H', Nx H' → ∃ m', m' < m ∧ W (i + 1) m' H') ∧ ∀ x H', (Itet K a).yld i H x H' → g x (wipe σ vs) H' fun σ2 H2 => wipe σ2 vs = wipe σ vs ∧ tt σ2 H2 fun b H3 =>
        if b = true then te σ2 H3 fun y H4 => ∃ acc, H4 D = some (.lst acc) ∧ acc.length < sizeLine ∧ Nx (upd H4 D (.lst (acc ++ [y]))) else Nx H3) := by
  refine ⟨fun i m H => m = xs.length - i ∧ i ≤ xs.length ∧ Pv i H, ⟨xs.length, by simp, Nat.zero_le _, h0⟩, ?_⟩
  rintro i m H ⟨rfl, hi, p⟩
  have q := hl i H hi p
  by_cases hlt : i < xs.length
  · refine .inr ⟨⟨xs, xs[i], q, by simp [hlt]⟩, Pv (i + 1), fun H' p' => ⟨xs.length - (i + 1), by omega, rfl, hlt, p'⟩, fun x H' y => ?_⟩
    obtain ⟨T, z, e1, e2, e3, e4⟩ := y
    subst e1 e3
    exact hs i z H T (e4 xs q) p e2
  · have e : i = xs.length := by omega
    subst e
    exact .inl ⟨⟨xs, q, rfl⟩, hd H p⟩

def rowL (ds : List Ent) (m : Nat) : List Nat := (List.range ds.length).filter fun c => (methsOf ds c).contains m
def condO (ds : List Ent) (a b : Nat) : Bool := decide (a < b) && !((kins (elsOf ds)).getD b []).contains a
theorem condO_iff {ds : List Ent} {a b : Nat} : condO ds a b = true ↔ a < b ∧ ((kins (elsOf ds)).getD b []).contains a = false := by
  unfold condO
  rw [Bool.and_eq_true, decide_eq_true_iff]
  cases ((kins (elsOf ds)).getD b []).contains a <;> simp
theorem rowL_up {ds : List Ent} {m : Nat} : (rowL ds m).Pairwise (· < ·) := List.Pairwise.filter _ List.pairwise_lt_range
theorem rowL_lt {ds : List Ent} {m : Nat} : ∀ x ∈ rowL ds m, x < ds.length := fun x hx => List.mem_range.mp (List.mem_filter.mp hx).1
theorem rowL_len {ds : List Ent} {m : Nat} : (rowL ds m).length ≤ ds.length := by
  unfold rowL
  refine Nat.le_trans (List.length_filter_le _ _) ?_
  rw [List.length_range]
  exact Nat.le_refl _
theorem meth_get {H : Hp} {ms : List V} {ds : List Ent} (h8 : TupsAt H ms (ds.map fun d => sortN d.2.2)) (ok : DsOk ds) {x : Nat} (hx : x < ds.length) : ∃ t, ms[x]? = some (.ref t) ∧ H t = some (.tup ((methsOf ds x).map natV)) := by
  obtain ⟨d, hd⟩ : ∃ d, ds[x]? = some d := ⟨_, List.getElem?_eq_getElem hx⟩
  obtain ⟨t, e1, e2⟩ := h8.get (i := x) (l := sortN d.2.2) (by rw [List.getElem?_map, hd]; rfl)
  obtain ⟨o1, o2, o3, o4, o5, o6, o7⟩ := ok x d hd
  refine ⟨t, e1, ?_⟩
  rw [sortN_nat o5 o6] at e2
  unfold methsOf
  rw [List.getD_eq_getElem?_getD, hd]
  exact e2
def OptP2 (H : Hp) (v : V) (o : Option (List Nat)) : Prop := (o = none ∧ v = .non) ∨ ∃ a b t, o = some [a, b] ∧ v = .ref t ∧ H t = some (.tup [natV a, natV b])
section
variable {P : Program} {w : World} {K : PySem.W.Frag} {mg : Str → Option Value} {base : Heap} {f fL fC fW fN fN2 C Cn : Addr} {fd fdL fdC fdW fdN fdN2 : FuncData}
def spOff (C : Addr) : Sp := fun vs H Q _ => ∃ (p : Addr) (ds : List Ent) (m : Nat), vs = [.ref p, natV m] ∧ WorldAt H p C ds ∧ DsOk ds ∧ ds.length ≤ 12 ∧ m < 6 ∧
  ∀ v H' o, Same H H' → Least (condO ds) (rowL ds m) o → OptP2 H' v o → Q v H'
end
end K57

set_option maxRecDepth 100000
set_option maxHeartbeats 8000000
namespace K57
open PySem PySem.Spec PyProof.Rows L2 Kw
/-- a thing of any kind as a test -/
def tTru (K : PySem.W.Frag) (ta : TE) : TT := fun σ H Q => ta σ H fun x H' => ∃ k, TruV K x H' k ∧ Q k H'
theorem pt_tru {X : Cx} {a : Expr} {ta : TE} (ha : PE X a ta) (he : ∀ whole, isTrue a X.env whole = (do let v ← whole; standAt a.pos; holding [v] (truthy v))) : PT X a (tTru X.K ta) := pt_truth ha he
theorem defL_up {ds : List Ent} (ok : DsOk ds) {c m : Nat} (hc : c < ds.length) : (defL ds c m).Pairwise (· < ·) := by
  unfold defL
  refine List.Pairwise.filter _ ?_
  have e : (kins (elsOf ds)).getD c [] = kinOf (elsOf ds) c := kins_getD (by unfold elsOf; rw [elders_len, List.length_map]; exact hc)
  rw [e]
  exact (kin_up (ds.map (·.1)) c (by rw [List.length_map]; exact hc)).1
section
variable {P : Program} {w : World} {K : PySem.W.Frag} {mg : Str → Option Value} {base : Heap} {f fD fL : Addr} {fd fdD fdL : FuncData}
def spTops : Sp := fun vs H Q _ => ∃ (a r : Addr) (us : List V) (els : List (List Nat)) (xs : List Nat), vs = [.ref a, .ref r] ∧ H a = some (.lst us) ∧ ListsAt H us els ∧ H r = some (.lst (xs.map natV)) ∧ xs.Pairwise (· < ·) ∧ (∀ x ∈ xs, x < els.length) ∧ xs.length ≤ 12 ∧
  ∀ D H', Same H H' → H' D = some (.lst ((topsL els xs).map natV)) → Q (.ref D) H'
theorem sc_tops : FnScope ["_law_elders_here", "_law_lot", "_law_c", "_law_one"] ["_law_elders_here", "_law_lot"] (defScope (top 56)) := ⟨rfl, rfl, rfl, by decide +kernel, rfl, by decide +kernel, by decide +kernel⟩
theorem ok_tops (F : FnP K "_law_tops" 56 f fd) (B : Fr mg) : FnOk P w K mg base CX0 1 f fd ["_law_elders_here", "_law_lot"] spTops := by
  refine F.ok sc_tops (fun vs H Q E h => ?_) (fun cdv A outer s H vs Q E hr h => ?_)
  · obtain ⟨a, r, us, els, xs, rfl, _⟩ := h
    rfl
  · obtain ⟨a, r, us, els, xs, rfl, hA, hL, hR, up, hx, x12, k⟩ := h
    refine ⟨_, PSs.nox (pss_one (ps_ret (pe_lc (own := [("_law_c", 2)]) (g := gName 2) (tt := tNot (tTru K (tLc (iList K (tVar 1)) (gName 3) (tTest (tOp (rIn K false) (tVar 2) (tOp (rIxL K) (tVar 0) (tVar 3)))) (tVar 3) (List.map (fun x => x.snd) [("_law_one", 3)])))) (te := tVar 2) rfl sc_tops.nd
          (pi_list (pe_callB (cr_sortedSet rfl) (by rfl) B.sorted (by decide +kernel) (pa_cons (pe_callTy (T := "set") (r := rSetSI K w) (call_setSI (X := _) rfl) (by rfl) B.set (by decide +kernel) (pa_cons (pv 1) pa_nil)) pa_nil))) (blkOk_by (N := ["_law_elders_here", "_law_lot", "_law_c", "_law_one"]) (sc := defScope (top 56)) (by decide +kernel))
          (fun _ _ _ _ _ => pg_name (i := 2) sc_tops.nd rfl (Or.inr rfl))
          (fun _ _ _ _ _ => ?tt)
          (fun _ _ _ _ _ => pv 2)))), ?_⟩
    case tt => exact pts_one (pt_not (pt_tru (pe_lc (own := [("_law_one", 3)]) (g := gName 3) (te := tVar 3) rfl sc_tops.nd (pi_list (pv 1)) (blkOk_by (by rfl)) (fun _ _ _ _ _ => pg_name (i := 3) sc_tops.nd rfl (Or.inl rfl)) (fun _ _ _ _ _ => pts_one (pt_cmpR (r := rIn K false) op_in_seq (pv 2) (pe_ix (r := rIxL K) ix_list (pv 0) (pv 3) (fun _ _ => rfl)) (by rfl))) (fun _ _ _ _ _ => pv 3)) (by intro _; rfl)))
    refine ⟨_, rfl, r, xs.map (fun (n : Nat) => (n : Int)), rfl, .inl ?_, ?_, fun S c hS hc => ?_⟩
    · rw [List.map_map]
      exact SqL.of hR
    · rw [List.length_map]
      omega
    rw [List.length_map] at hc
    have sS := same_new (o := SetO w S (fun j => decide (j ∈ xs.map (fun (n : Nat) => (n : Int)))) c) hS
    refine ⟨S, _, c, rfl, upd_same, by omega, fun ns L asc hns hlen hL2 => ?_⟩
    have ens : ns.map V.int = xs.map natV := asc_one asc up fun k => by
      rw [hns k, decide_eq_true_iff, List.mem_map]
      exact ⟨fun ⟨n, hn, e⟩ => ⟨n, hn, e.symm⟩, fun ⟨n, hn, e⟩ => ⟨n, hn, e.symm⟩⟩
    have sL := sS.trans (same_new (o := .lst (ns.map V.int)) hL2)
    rw [ens] at sL ⊢
    have hLL : upd (upd H S (SetO w S (fun j => decide (j ∈ xs.map (fun (n : Nat) => (n : Int)))) c)) L (.lst (xs.map natV)) L = some (.lst (xs.map natV)) := upd_same
    generalize hG : upd (upd H S (SetO w S (fun j => decide (j ∈ xs.map (fun (n : Nat) => (n : Int)))) c)) L (.lst (xs.map natV)) = G at sL hLL ⊢
    refine ⟨L, rfl, ⟨_, SqL.of hLL⟩, fun D hD => lc_list (K := K) (a := L) (xs := xs.map natV) (fun j H' => Same G H' ∧ H' D = some (.lst (((xs.take j).filter fun k => !(xs.any fun h => (els.getD h []).contains k)).map natV))) ⟨same_new hD, upd_same⟩ (fun j H' _ z => SqL.of (z.1 _ _ hLL)) ?_ ?_⟩
    · rintro j v H2 hj ⟨s2, hD2⟩
      rw [List.getElem?_map] at hj
      obtain ⟨x, hxx, rfl⟩ := Option.map_eq_some_iff.mp hj
      have s02 := sL.trans s2
      refine ⟨rfl, _, rfl, r, rfl, ⟨_, SqL.of (s02 _ _ hR)⟩, fun D2 hD2' => lc_list (K := K) (a := r) (xs := xs.map natV) (fun j H' => Same H2 H' ∧ H' D2 = some (.lst (((xs.take j).filter fun h => (els.getD h []).contains x).map natV))) ⟨same_new hD2', upd_same⟩ (fun j H' _ z => SqL.of (z.1 _ _ (s02 _ _ hR))) ?_ ?_⟩
      · rintro m v H3 hm ⟨s3, hD3⟩
        rw [List.getElem?_map] at hm
        obtain ⟨y, hy, rfl⟩ := Option.map_eq_some_iff.mp hm
        have s03 := s02.trans s3
        have yl := hx y (List.mem_of_getElem? hy)
        obtain ⟨krow, hk⟩ : ∃ krow, els[y]? = some krow := ⟨_, List.getElem?_eq_getElem yl⟩
        have hgd : els.getD y [] = krow := by
          rw [List.getD_eq_getElem?_getD, hk]
          rfl
        obtain ⟨kt, ekt, hkt⟩ := hL.get hk
        refine ⟨rfl, _, rfl, _, rfl, _, rfl, a, us, (y : Int), _, rfl, rfl, SqL.of (s03 _ _ hA), atI_nat ekt, kt, _, rfl, .inl (SqL.of (s03 _ _ hkt)), rfl, flat_nats krow, _, rfl, ?_⟩
        have ein : inV (natV x) (krow.map natV) = krow.contains x := inV_nat _ _
        show (if inV (natV x) (krow.map natV) = true then _ else _)
        rw [ein]
        have st := take_filterN (p := fun h => (els.getD h []).contains x) hy
        simp only [hgd] at st
        cases hb : krow.contains x with
        | true =>
          rw [hb, if_pos rfl] at st
          refine iteT' rfl ⟨_, rfl, _, hD3, ?_, same_upd s3 hD2', by rw [st, List.map_append, upd_same]; rfl⟩
          rw [List.length_map]
          refine Nat.lt_of_le_of_lt (List.length_filter_le _ _) ?_
          rw [List.length_take]
          show _ < 2 ^ 24
          omega
        | false =>
          rw [hb, if_neg (by decide), List.append_nil] at st
          exact iteF' rfl ⟨s3, by rw [st]; exact hD3⟩
      · rintro H3 ⟨s3, hD3⟩
        rw [List.length_map, List.take_length] at hD3
        refine ⟨_, .inl ⟨_, SqL.of hD3, rfl⟩, ?_⟩
        have hDD := s3 _ _ hD2
        have e : (!(!((xs.filter fun h => (els.getD h []).contains x).map natV).isEmpty)) = !(xs.any fun h => (els.getD h []).contains x) := by
          congr 1
          rw [Bool.eq_iff_iff, List.any_eq_true]
          constructor
          · intro z
            cases q : xs.filter fun h => (els.getD h []).contains x with
            | nil =>
              rw [q] at z
              cases z
            | cons y r =>
              have : y ∈ xs.filter fun h => (els.getD h []).contains x := by rw [q]; exact List.mem_cons_self
              obtain ⟨h1, h2⟩ := List.mem_filter.mp this
              exact ⟨y, h1, h2⟩
          · rintro ⟨y, h1, h2⟩
            have : y ∈ xs.filter fun h => (els.getD h []).contains x := List.mem_filter.mpr ⟨h1, h2⟩
            cases q : xs.filter fun h => (els.getD h []).contains x with
            | nil =>
              rw [q] at this
              cases this
            | cons y r => rfl
        show (if (!(!((xs.filter fun h => (els.getD h []).contains x).map natV).isEmpty)) = true then _ else _)
        rw [e]
        have st := take_filterN (p := fun k => !(xs.any fun h => (els.getD h []).contains k)) hxx
        cases hb : xs.any fun h => (els.getD h []).contains x with
        | false =>
          rw [hb, if_pos (show (!false) = true from rfl)] at st
          refine iteT' rfl ⟨_, rfl, _, hDD, ?_, same_upd (s2.trans s3) hD, by rw [st, List.map_append, upd_same]; rfl⟩
          rw [List.length_map]
          refine Nat.lt_of_le_of_lt (List.length_filter_le _ _) ?_
          rw [List.length_take]
          show _ < 2 ^ 24
          omega
        | true =>
          rw [hb, if_neg (show ¬ (!true) = true from fun z => by cases z), List.append_nil] at st
          exact iteF' rfl ⟨s2.trans s3, by rw [st]; exact hDD⟩
    · rintro H2 ⟨s2, hD2⟩
      rw [List.length_map, List.take_length] at hD2
      exact k D H2 (sL.trans s2) hD2
def spLDef : Sp := fun vs H Q _ => ∃ (l a : Addr) (us es : List V) (ds : List Ent) (c m : Nat), vs = [.ref l, .ref a, natV c, natV m] ∧ H l = some (.lst us) ∧ RwN l H us ds ∧ DsOk ds ∧ ds.length ≤ 12 ∧ c < ds.length ∧ H a = some (.lst es) ∧ ListsAt H es (elsOf ds) ∧
  ∀ D H', Same H H' → H' D = some (.lst ((defL ds c m).map natV)) → Q (.ref D) H'
theorem sc_ldef : FnScope ["_law_rows", "_law_elders_here", "_law_c", "_law_name", "_law_one"] ["_law_rows", "_law_elders_here", "_law_c", "_law_name"] (defScope (top 57)) := ⟨rfl, rfl, rfl, by decide +kernel, rfl, by decide +kernel, by decide +kernel⟩
theorem ok_ldef (F : FnP K "_law_defining" 57 f fd) (B : Fr mg) : FnOk P w K mg base CX0 1 f fd ["_law_rows", "_law_elders_here", "_law_c", "_law_name"] spLDef := by
  refine F.ok sc_ldef (fun vs H Q E h => ?_) (fun cdv A outer s H vs Q E hr h => ?_)
  · obtain ⟨l, a, us, es, ds, c, m, rfl, _⟩ := h
    rfl
  · obtain ⟨l, a, us, es, ds, c, m, rfl, hl, hRw, ok, h12, hc, hA, hL, k⟩ := h
    refine ⟨_, PSs.nox (pss_one (ps_ret (pe_lc (own := [("_law_one", 4)]) (g := gName 4) (tt := tTest (tOp (rIn K false) (tVar 3) (tOp (rIxT K) (tOp (rIxL K) (tVar 0) (tVar 4)) (tC (.int 2))))) (te := tVar 4) rfl sc_ldef.nd
          (pi_list (pe_callB (r := rSortSI K) (call_sortedSI (X := _)) (by rfl) B.sorted (by decide +kernel) (pa_cons (pe_op op_cat (pe_ix (r := rIxL K) ix_list (pv 1) (pv 2) (fun _ _ => rfl)) (pe_lst (pa_cons (pv 2) pa_nil))) pa_nil))) (blkOk_by (N := ["_law_rows", "_law_elders_here", "_law_c", "_law_name", "_law_one"]) (sc := defScope (top 57)) (by decide +kernel))
          (fun _ _ _ _ _ => pg_name (i := 4) sc_ldef.nd rfl (Or.inl rfl))
          (fun _ _ _ _ _ => ?tt)
          (fun _ _ _ _ _ => pv 4)))), ?_⟩
    case tt => exact pts_one (pt_cmpR (r := rIn K false) op_in_seq (pv 3) (pe_ix (r := rIxT K) ix_tup (pe_ix (r := rIxL K) ix_list (pv 0) (pv 4) (fun _ _ => rfl)) pe_int (fun _ _ => rfl)) (by rfl))
    have hel : c < (elsOf ds).length := by
      unfold elsOf
      rw [elders_len, List.length_map]
      exact hc
    obtain ⟨le, hle⟩ : ∃ le, (elsOf ds)[c]? = some le := ⟨_, List.getElem?_eq_getElem hel⟩
    have hgd : (elsOf ds).getD c [] = le := by
      rw [List.getD_eq_getElem?_getD, hle]
      rfl
    obtain ⟨t, et, ht⟩ := hL.get hle
    have ek0 : (kins (elsOf ds)).getD c [] = le ++ [c] := by
      rw [kins_els hc, hgd]
    have hkl := kin_len ok hc h12
    rw [ek0, List.length_append] at hkl
    have hkl : le.length + 1 ≤ 12 := hkl
    refine ⟨_, rfl, _, rfl, a, es, (c : Int), _, rfl, rfl, SqL.of hA, atI_nat et, _, rfl, (by show 1 ≤ 2 ^ 24; decide), fun L hL' => ?_⟩
    have sL := same_new (o := .lst [natV c]) hL'
    refine ⟨t, L, _, _, rfl, rfl, sL _ _ ht, upd_same, ?_, fun N1 hN1 => ?_⟩
    · rw [List.length_map]
      show le.length + 1 ≤ 2 ^ 24
      omega
    have s1 := sL.trans (same_new (o := .lst (le.map natV ++ [natV c])) hN1)
    have ek : le.map natV ++ [natV c] = (((kins (elsOf ds)).getD c []).map fun (n : Nat) => (n : Int)).map V.int := by
      rw [ek0, ← natsI, List.map_append]
      rfl
    have up : ((kins (elsOf ds)).getD c []).Pairwise (· < ·) := by
      rw [kins_getD hel]
      exact (kin_up (ds.map (·.1)) c (by rw [List.length_map]; exact hc)).1
    refine ⟨N1, ((kins (elsOf ds)).getD c []).map fun (n : Nat) => (n : Int), rfl, .inl (SqL.of (by rw [← ek]; exact upd_same)), fun ys p perm srt hp => ?_⟩
    have sp := s1.trans (same_new (o := .lst (ys.map V.int)) hp)
    have ey : ys.map V.int = ((kins (elsOf ds)).getD c []).map natV := sorted_one perm srt (up_nodup up) (up_nodup up) (fun x => Iff.rfl) up
    rw [ey] at sp ⊢
    have hPP : upd (upd (upd H L (.lst [natV c])) N1 (.lst (le.map natV ++ [natV c]))) p (.lst (((kins (elsOf ds)).getD c []).map natV)) p = some (.lst (((kins (elsOf ds)).getD c []).map natV)) := upd_same
    generalize hG : upd (upd (upd H L (.lst [natV c])) N1 (.lst (le.map natV ++ [natV c]))) p (.lst (((kins (elsOf ds)).getD c []).map natV)) = G at sp hPP ⊢
    refine ⟨p, rfl, ⟨_, SqL.of hPP⟩, fun D hD => lc_list (K := K) (a := p) (xs := ((kins (elsOf ds)).getD c []).map natV) (fun j H' => Same G H' ∧ H' D = some (.lst (((((kins (elsOf ds)).getD c []).take j).filter fun k => (methsOf ds k).contains m).map natV))) ⟨same_new hD, upd_same⟩ (fun j H' _ z => SqL.of (z.1 _ _ hPP)) ?_ ?_⟩
    · rintro j v H3 hj ⟨s3, hD3⟩
      rw [List.getElem?_map] at hj
      obtain ⟨x, hx, rfl⟩ := Option.map_eq_some_iff.mp hj
      have xl := kins_mem_lt ok hc (List.mem_of_getElem? hx)
      have s03 := sp.trans s3
      obtain ⟨d, hd⟩ : ∃ d, ds[x]? = some d := ⟨_, List.getElem?_eq_getElem xl⟩
      obtain ⟨rt, rb, rm, er, hr1, hr2, hr3⟩ := hRw.get hd
      have hm : methsOf ds x = d.2.2 := by
        unfold methsOf
        rw [List.getD_eq_getElem?_getD, hd]
        rfl
      refine ⟨rfl, _, rfl, _, rfl, _, rfl, l, us, (x : Int), _, rfl, rfl, SqL.of (s03 _ _ hl), atI_nat er, rt, _, ((2 : Nat) : Int), _, rfl, rfl, SqT.of (s03 _ _ hr1), atI_nat rfl, rm, _, rfl, .inl (SqL.of (s03 _ _ hr3)), rfl, flat_nats _, _, rfl, ?_⟩
      rw [← hm]
      have ein : inV (natV m) ((methsOf ds x).map natV) = (methsOf ds x).contains m := inV_nat _ _
      show (if inV (natV m) ((methsOf ds x).map natV) = true then _ else _)
      rw [ein]
      have st := take_filterN (p := fun k => (methsOf ds k).contains m) hx
      cases hb : (methsOf ds x).contains m with
      | true =>
        rw [hb, if_pos rfl] at st
        refine iteT' rfl ⟨_, rfl, _, hD3, ?_, same_upd s3 hD, by rw [st, List.map_append, upd_same]; rfl⟩
        rw [List.length_map]
        refine Nat.lt_of_le_of_lt (List.length_filter_le _ _) ?_
        rw [List.length_take, ek0, List.length_append]
        show _ < 2 ^ 24
        show min j (le.length + 1) < 2 ^ 24
        omega
      | false =>
        rw [hb, if_neg (by decide), List.append_nil] at st
        exact iteF' rfl ⟨s3, by rw [st]; exact hD3⟩
    · rintro H3 ⟨s3, hD3⟩
      rw [List.length_map, List.take_length] at hD3
      exact k D H3 (sp.trans s3) hD3
def spLAns : Sp := fun vs H Q _ => ∃ (l a : Addr) (us es : List V) (ds : List Ent) (c m : Nat), vs = [.ref l, .ref a, natV c, natV m] ∧ H l = some (.lst us) ∧ RwN l H us ds ∧ DsOk ds ∧ ds.length ≤ 12 ∧ c < ds.length ∧ H a = some (.lst es) ∧ ListsAt H es (elsOf ds) ∧
  ∀ D H', Same H H' → H' D = some (.lst ((ansL ds c m).map natV)) → Q (.ref D) H'
theorem ListsAt.sameN {H H' : Hp} (s : Same H H') : ∀ {vs : List V} {ls : List (List Nat)}, ListsAt H vs ls → ListsAt H' vs ls
  | [], [], _ => .nil
  | _ :: _, _ :: _, .cons ⟨t, e, h⟩ r => .cons ⟨t, e, s _ _ h⟩ (ListsAt.sameN s r)
theorem sc_lans : FnScope ["_law_rows", "_law_elders_here", "_law_c", "_law_name"] ["_law_rows", "_law_elders_here", "_law_c", "_law_name"] (defScope (top 58)) := ⟨rfl, rfl, rfl, by decide +kernel, rfl, by decide +kernel, by decide +kernel⟩
theorem ok_lans (F : FnP K "_law_answers" 58 f fd) (B : Fr mg) (FT : FnP K "_law_tops" 56 fL fdL) (mT : mg "_law_tops" = some (.ref fL)) (FD : FnP K "_law_defining" 57 fD fdD) (mD : mg "_law_defining" = some (.ref fD)) : FnOk P w K mg base CX0 2 f fd ["_law_rows", "_law_elders_here", "_law_c", "_law_name"] spLAns := by
  have GT : FnOk P w K mg base CX0 1 fL fdL ["_law_elders_here", "_law_lot"] spTops := ok_tops FT B
  have bT : L2.Binds K fdL ["_law_elders_here", "_law_lot"] [] := FT.bindsN fun _ _ _ _ _ _ us hl => match us, hl with | [_, _], _ => rfl
  have GD : FnOk P w K mg base CX0 1 fD fdD ["_law_rows", "_law_elders_here", "_law_c", "_law_name"] spLDef := ok_ldef FD B
  have bD : L2.Binds K fdD ["_law_rows", "_law_elders_here", "_law_c", "_law_name"] [] := FD.bindsN fun _ _ _ _ _ _ us hl => match us, hl with | [_, _, _, _], _ => rfl
  refine F.ok sc_lans (fun vs H Q E h => ?_) (fun cdv A outer s H vs Q E hr h => ?_)
  · obtain ⟨l, a, us, es, ds, c, m, rfl, _⟩ := h
    rfl
  · obtain ⟨l, a, us, es, ds, c, m, rfl, hl, hRw, ok, h12, hc, hA, hL, k⟩ := h
    refine ⟨_, PSs.nox (pss_one (ps_ret (pe_call GT hr (by rfl) mT FT.kp bT .nil pass0 (pa_cons (pv 1) (pa_cons (pe_call GD hr (by rfl) mD FD.kp bD .nil pass0 (pa_cons (pv 0) (pa_cons (pv 1) (pa_cons (pv 2) (pa_cons (pv 3) pa_nil))))) pa_nil))))), ?_⟩
    refine ⟨_, rfl, _, rfl, _, rfl, _, rfl, _, rfl, l, a, us, es, ds, c, m, rfl, hl, hRw, ok, h12, hc, hA, hL, fun D H1 s1 hD => ?_⟩
    refine ⟨a, D, es, elsOf ds, _, rfl, s1 _ _ hA, hL.sameN s1, hD, defL_up ok hc, fun x hx => ?_, defL_len ok hc h12, fun D2 H2 s2 hD2 => k D2 H2 (s1.trans s2) hD2⟩
    unfold elsOf
    rw [elders_len, List.length_map]
    exact defL_lt ok hc x hx
end
end K57

set_option maxRecDepth 100000
set_option maxHeartbeats 8000000
namespace K57
open PySem PySem.Spec PyProof.Rows L2 Kw
section
variable {P : Program} {w : World} {K : PySem.W.Frag} {mg : Str → Option Value} {base : Heap} {f : Addr} {fd : FuncData}
def spLOff : Sp := fun vs H Q _ => ∃ (l a : Addr) (us es : List V) (ds : List Ent) (m : Nat), vs = [.ref l, .ref a, natV m] ∧ H l = some (.lst us) ∧ RwN l H us ds ∧ DsOk ds ∧ ds.length ≤ 12 ∧ H a = some (.lst es) ∧ ListsAt H es (elsOf ds) ∧
  ∀ v H' o, Same H H' → Least (condO ds) (rowL ds m) o → OptP2 H' v o → Q v H'
end
end K57

set_option maxRecDepth 100000
set_option maxHeartbeats 8000000
namespace K57
open PySem PySem.Spec PyProof.Rows L2 Kw
theorem DsOk.meths {ds : List Ent} (h : DsOk ds) {i : Nat} {d : Ent} (hd : ds[i]? = some d) {j : Nat} (hj : j = i) {ms : List Nat} (h1 : ms.Pairwise (· < ·)) (h2 : ∀ m ∈ ms, m < 6) (h3 : ms.length ≤ 3) : EOk j (d.1, d.2.1, ms) := by
  obtain ⟨o1, o2, o3, o4, o5, o6, o7⟩ := h i d hd
  rw [hj]
  exact ⟨o1, o2, o3, o4, h1, h2, h3⟩
theorem RwN.getN {R : Addr} {H : Hp} : ∀ {vs : List V} {ls : List Ent} {i : Nat} {d : Ent}, RwN R H vs ls → ls[i]? = some d → ∃ t b m, vs[i]? = some (.ref t) ∧ t ≠ R ∧ H t = some (.tup [.ref b, natV d.2.1, .ref m]) ∧ b ≠ R ∧ H b = some (.lst (d.1.map natV)) ∧ m ≠ R ∧ H m = some (.lst (d.2.2.map natV))
  | [], [], _, _, _, h => by simp at h
  | _ :: _, _ :: _, 0, _, .cons ⟨t, b, m, e1, n1, h1, n2, h2, n3, h3⟩ _, e => by
    obtain rfl := Option.some.inj e
    exact ⟨t, b, m, by rw [e1]; rfl, n1, h1, n2, h2, n3, h3⟩
  | _ :: _, _ :: _, i + 1, _, .cons _ r, e => RwN.getN (i := i) r e
theorem tFor_if {t : TT} {ta tb : TE} {g : TG} {body : TS} {D : Ends} {σ : L2.St} {H : Hp} (Q1 : V → Hp → Prop) (h1 : ∀ Q' : VK, (∀ v H, Q1 v H → Q' v H) → tIf t ta tb σ H Q') (k : ∀ v H', Q1 v H' → tFor (iRng1 (tCons (tC v) tNil)) g body D σ H') : tFor (iRng1 (tCons (tIf t ta tb) tNil)) g body D σ H := h1 _ fun v H' z => k v H' z
theorem gName_seq {i : Nat} {v : V} {σ : L2.St} {H : Hp} {t u : TS} {D : Ends} (h : t { D with nx := u D } (σ.set i (some v)) H) : gName i v σ H (tSeq t u D) := h
section
variable {P : Program} {w : World} {K : PySem.W.Frag} {mg : Str → Option Value} {base : Heap} {f fT fM : Addr} {fd fdT fdM : FuncData}
def spFew : Sp := fun vs H Q _ => ∃ (p q l : Addr) (us : List V) (ds : List Ent), vs = [.ref p, .ref l] ∧ HandAt H p q ∧ l ≠ p ∧ H l = some (.lst us) ∧ RwN l H us ds ∧ DsOk ds ∧ ds.length ≤ 12 ∧
  ∀ l' H' us' (ds' : List Ent), Oth p H H' → HandAt H' p q → l' ≠ p → H' l' = some (.lst us') → RwN l' H' us' ds' → ds'.length = ds.length → DsOk ds' → Q (.ref l') H'
theorem sc_few : FnScope ["_law_hand_here", "_law_rows", "_law_few_here", "_law_found_here", "_law_bases_here", "_law_fields", "_law_methods_here", "_law_names", "_law_step"] ["_law_hand_here", "_law_rows"] (defScope (top 61)) := ⟨rfl, rfl, rfl, by decide +kernel, rfl, by decide +kernel, by decide +kernel⟩
theorem ok_few (F : FnP K "_law_few" 61 f fd) (B : Fr mg) (FT : FnP K "_law_take" 50 fT fdT) (mT : mg "_law_take" = some (.ref fT)) (FM : FnP K "_law_mixed" 49 fM fdM) (mM : mg "_law_mixed" = some (.ref fM)) :
    FnOk P w K mg base CX0 3 f fd ["_law_hand_here", "_law_rows"] spFew := by
  have GT : FnOk P w K mg base CX0 2 fT fdT ["_law_hand_here", "_law_many"] spTake := ok_take FT FM mM B.int B.len
  have bT : L2.Binds K fdT ["_law_hand_here", "_law_many"] [] := FT.bindsN fun _ _ _ _ _ _ us hl => match us, hl with | [_, _], _ => rfl
  refine F.ok sc_few (fun vs H Q E h => ?_) (fun cdv A outer s H vs Q E hr h => ?_)
  · obtain ⟨p, q, l, us, ds, rfl, _⟩ := h
    rfl
  · obtain ⟨p, q, l, us, ds, rfl, hh, lp, hl, hRw, ok, h12, k⟩ := h
    refine ⟨_, PSs.nox (pss_cons (ps_if (pt_cmpR op_eq (pe_call GT hr (by rfl) mT FT.kp bT .nil pass0 (pa_cons (pv 0) (pa_cons pe_int pa_nil))) pe_int (nomark _)) (pss_one (ps_ret (pv 1))) pss_nil)
      (pss_cons (ps_set (i := 2) sc_few.nd rfl (Or.inl rfl) (pe_ix ix_tup (pe_tup (pa_cons pe_int (pa_cons pe_int (pa_cons pe_int (pa_cons pe_int pa_nil))))) (pe_call GT hr (by rfl) mT FT.kp bT .nil pass0 (pa_cons (pv 0) (pa_cons pe_int pa_nil))) (fun _ _ => rfl)))
      (pss_cons (ps_set (i := 3) sc_few.nd rfl (Or.inl rfl) (pe_lst pa_nil))
      (pss_cons (ps_for PassesOwn.never rfl (pi_list (pv 1)) (pg_tup (by rfl) (pgs_cons (pg_name (i := 4) sc_few.nd rfl (Or.inl rfl)) (pgs_cons (pg_name (i := 5) sc_few.nd rfl (Or.inl rfl)) (pgs_cons (pg_name (i := 6) sc_few.nd rfl (Or.inl rfl)) pgs_nil))))
        (pss_cons (ps_set (i := 7) sc_few.nd rfl (Or.inl rfl) (pe_lst pa_nil))
        (pss_cons (ps_for PassesOwn.never rfl (pi_range1 (by rfl) B.range (pa_cons (pe_ifExp (pt_tru (pv 4) (by intro _; rfl))
              (pe_ix ix_tup (pe_tup (pa_cons pe_int (pa_cons pe_int (pa_cons pe_int (pa_cons pe_int (pa_cons pe_int (pa_cons pe_int pa_nil))))))) (pe_call GT hr (by rfl) mT FT.kp bT .nil pass0 (pa_cons (pv 0) (pa_cons pe_int pa_nil))) (fun _ _ => rfl))
              (pe_op op_add pe_int (pe_call GT hr (by rfl) mT FT.kp bT .nil pass0 (pa_cons (pv 0) (pa_cons pe_int pa_nil))))) pa_nil)) (pg_name (i := 8) sc_few.nd rfl (Or.inl rfl))
          (pss_one (ps_expr (pe_bm PySem.F.plainAttrs_list PySem.F.slot_list_append PySem.F.type_list_append mt_append (pv 7) (pa_cons (pe_call GT hr (by rfl) mT FT.kp bT .nil pass0 (pa_cons (pv 0) (pa_cons (pv 2) pa_nil))) pa_nil)))))
        (pss_one (ps_expr (pe_bm PySem.F.plainAttrs_list PySem.F.slot_list_append PySem.F.type_list_append mt_append (pv 3) (pa_cons (pe_tup (pa_cons (pv 4) (pa_cons (pv 5)
            (pa_cons (pe_callB (cr_sortedSet rfl) (by rfl) B.sorted (by decide +kernel) (pa_cons (pe_callTy (T := "set") (r := rSetSI K w) (call_setSI (X := _) rfl) (by rfl) B.set (by decide +kernel) (pa_cons (pv 7) pa_nil)) pa_nil)) pa_nil)))) pa_nil)))))))
      (pss_one (ps_ret (pv 3))))))), ?_⟩
    refine ⟨_, rfl, p, q, 3, rfl, by decide, by decide, hh, fun r0 H1 r00 r01 h1 e1 => ⟨rfl, _, rfl, ?_⟩⟩
    have O1 : Oth p H H1 := Oth.take e1
    refine ite2 (fun _ => ?_) (fun _ => ?_)
    · exact ⟨_, rfl, k l H1 us ds O1 h1 lp (O1 _ _ lp hl) (hRw.keep (KeepX.oth O1 hh)) rfl ok⟩
    have hRw1 := hRw.keep (KeepX.oth O1 hh)
    have hl1 := O1 _ _ lp hl
    refine ⟨by (show 4 ≤ sizeLine); decide, fun t0 ht0 => ?_⟩
    obtain ⟨t0p, t0q⟩ := h1.ne ht0
    have st0 := same_new (o := .tup (([1, 1, 2, 3] : List Int).map V.int)) ht0
    refine ⟨_, rfl, p, q, 4, rfl, by decide, by decide, h1.upd t0p t0q, fun r H2 r0 r1 h2 e2 => ?_⟩
    obtain ⟨v0, hv0, hm0⟩ := tab_at (tab := [1, 1, 2, 3]) r0 r1
    have hv03 : 1 ≤ v0 ∧ v0 ≤ 3 := (by decide : ∀ v ∈ ([1, 1, 2, 3] : List Int), 1 ≤ v ∧ v ≤ 3) v0 hm0
    have T2 : H2 t0 = some (.tup (([1, 1, 2, 3] : List Int).map V.int)) := by
      rw [e2 t0 t0p]
      exact upd_same
    have O12 : Oth p H1 H2 := (Oth.of st0).trans (Oth.take e2)
    have O2 := O1.trans O12
    have hRw2 := hRw1.keep (KeepX.oth O12 h1)
    have hl2 := O12 _ _ lp hl1
    refine ⟨t0, _, r, _, rfl, rfl, SqT.of T2, hv0, by decide, fun D hD => ?_⟩
    obtain ⟨Dp, Dq⟩ := h2.ne hD
    have HD : H D = none := oth_free O2 Dp hD
    have sD := same_new (o := .lst []) hD
    have lD : l ≠ D := fun z => by
      rw [z, hD] at hl2
      cases hl2
    have hus := hRw.len
    refine ⟨_, rfl, l, rfl, ⟨_, SqL.of (sD _ _ hl2)⟩, for_list (K := K) (a := l) (xs := us) (fun i σ H' => ∃ (x4 x5 x6 x7 x8 : Option V), σ = [some (.ref p), some (.ref l), some (.int v0), some (.ref D), x4, x5, x6, x7, x8] ∧
        Oth p H H' ∧ HandAt H' p q ∧ H' l = some (.lst us) ∧ RwN D H' us ds ∧ ∃ vs ds', H' D = some (.lst vs) ∧ RwN D H' vs ds' ∧ ds'.length = i ∧ DsOk ds')
      ⟨none, none, none, none, none, rfl, O2.updN HD, h2.upd Dp Dq, sD _ _ hl2, (hRw2.new hD).keep KeepX.upd, [], [], upd_same, .nil, rfl, fun i d e => by simp at e⟩ (fun i σ H' _ ⟨_, _, _, _, _, _, _, _, h, _⟩ => SqL.of h) ?_ ?_⟩
    · rintro i y σ H3 hi ⟨x4, x5, x6, x7, x8, rfl, O3, h3, hl3, hRw3, vs, ds', D3, hR3, hn3, ok3⟩
      have hil : i < ds.length := by
        rw [← hus]
        exact (List.getElem?_eq_some_iff.mp hi).1
      obtain ⟨d, hd⟩ : ∃ d, ds[i]? = some d := ⟨_, List.getElem?_eq_getElem hil⟩
      obtain ⟨rt, rb, rm, er, n1, hr1, n2', hr2, n3, hr3⟩ := hRw3.getN hd
      obtain rfl : V.ref rt = y := Option.some.inj (er.symm.trans hi)
      refine ⟨rt, _, rfl, SqT.of hr1, rfl, _, _, rfl, _, _, rfl, _, _, rfl, rfl, ?_⟩
      refine ⟨by decide, fun M hM => ?_⟩
      obtain ⟨Mp, Mq⟩ := h3.ne hM
      have HM : H M = none := oth_free O3 Mp hM
      have sM := same_new (o := .lst []) hM
      have MD : M ≠ D := fun z => by
        rw [z, D3] at hM
        cases hM
      have Ml : M ≠ l := fun z => by
        rw [z, hl3] at hM
        cases hM
      have inv0 := h3.upd (o := .lst []) Mp Mq
      have OM := O3.updN HM (o := .lst [])
      have rbM := sM _ _ hr2
      dsimp only [gName, tSeq]
      refine tFor_if (fun v H4 => ∃ n : Nat, v = .int (n : Int) ∧ n ≤ 2 ∧ Oth p H3 H4 ∧ H4 M = some (.lst []) ∧ HandAt H4 p q) (fun Q' kq => ?_) ?_
      · refine ⟨_, rfl, _, .inl ⟨_, SqL.of rbM, rfl⟩, ite2 (fun _ => ?_) (fun _ => ?_)⟩
        · refine ⟨by (show 6 ≤ sizeLine); decide, fun t ht => ?_⟩
          obtain ⟨tp, tq⟩ := inv0.ne ht
          have tM : t ≠ M := fun z => by
            rw [z, upd_same] at ht
            cases ht
          refine ⟨_, rfl, p, q, 6, rfl, by decide, by decide, inv0.upd tp tq, fun r H4 r0 r1 h4 e4 => ?_⟩
          obtain ⟨v, hv, hm⟩ := tab_at (tab := [0, 1, 1, 0, 1, 2]) r0 r1
          have hv3 : 0 ≤ v ∧ v ≤ 2 := (by decide : ∀ v ∈ ([0, 1, 1, 0, 1, 2] : List Int), 0 ≤ v ∧ v ≤ 2) v hm
          have T4 : H4 t = some (.tup (([0, 1, 1, 0, 1, 2] : List Int).map V.int)) := by
            rw [e4 t tp]
            exact upd_same
          refine ⟨t, _, r, _, rfl, rfl, SqT.of T4, hv, kq _ _ ⟨v.toNat, ?_, by omega, ?_, ?_, h4⟩⟩
          · congr 1
            omega
          · exact ((Oth.of sM).trans (Oth.of (same_new ht))).trans (Oth.take e4)
          · rw [e4 M Mp]
            exact upB tM.symm upd_same
        · refine ⟨_, rfl, p, q, 2, rfl, by decide, by decide, inv0, fun r H4 r0 r1 h4 e4 => ⟨_, _, rfl, rfl, kq _ _ ⟨(1 + r).toNat, ?_, by omega, ?_, ?_, h4⟩⟩⟩
          · exact congrArg V.int (by omega)
          · exact (Oth.of sM).trans (Oth.take e4)
          · rw [e4 M Mp]
            exact upd_same
      · rintro v H4 ⟨n, rfl, n2, O4, M4, h4⟩
        refine ⟨(n : Int), rfl, by omega, by omega, for_range (n := (n : Int).toNat) (fun j σ H' => ∃ (ns : List Nat) (x8 : Option V), σ = [some (.ref p), some (.ref l), some (.int v0), some (.ref D), some (.ref rb), some (natV d.2.1), some (.ref rm), some (.ref M), x8] ∧
            Oth p H3 H' ∧ HandAt H' p q ∧ H' M = some (.lst (ns.map natV)) ∧ (∀ m ∈ ns, m < 6) ∧ ns.length = j)
          ⟨[], _, rfl, O4, h4, M4, fun m hm => (by cases hm), rfl⟩ ?_ ?_⟩
        · rintro j σ H5 hj ⟨ns, x8, rfl, O5, h5, M5, hb, hl5⟩
          refine ⟨_, rfl, .inl ⟨rfl, _, SqL.of M5⟩, _, rfl, _, rfl, p, q, v0, rfl, by omega, by omega, h5, fun r H6 r0 r1 h6 e6 => ?_⟩
          obtain ⟨b, rfl⟩ : ∃ b : Nat, r = (b : Int) := ⟨r.toNat, by omega⟩
          have M6 : H6 M = some (.lst (ns.map natV)) := by
            rw [e6 M Mp]
            exact M5
          refine ⟨M, _, _, rfl, rfl, M6, ?_, ns ++ [b], _, rfl, (O5.trans (Oth.take e6)).updN hM, h6.upd Mp Mq, ?_, ?_, ?_⟩
          · rw [List.length_map]
            show _ < 2 ^ 24
            omega
          · rw [upd_same, List.map_append]
            rfl
          · intro a ha
            rcases List.mem_append.mp ha with ha | ha
            · exact hb a ha
            · rw [List.mem_singleton.mp ha]
              omega
          · rw [List.length_append, hl5]
            rfl
        · rintro σ H5 ⟨ns, x8, rfl, O5, h5, M5, hb, hl5⟩
          have D5 := O5 _ _ Dp D3
          have l5 := O5 _ _ lp hl3
          refine ⟨_, rfl, .inl ⟨rfl, _, SqL.of D5⟩, _, rfl, _, rfl, _, rfl, M, ns.map (fun (n : Nat) => (n : Int)), rfl, .inl ?_, ?_, fun S c hS hc => ?_⟩
          · rw [List.map_map]
            exact SqL.of M5
          · rw [List.length_map]
            omega
          rw [List.length_map] at hc
          have sS := same_new (o := SetO w S (fun j => decide (j ∈ ns.map (fun (n : Nat) => (n : Int)))) c) hS
          refine ⟨S, _, c, rfl, upd_same, by omega, fun ks L asc hns hlen hL => ?_⟩
          have sL := same_new (o := .lst (ks.map V.int)) hL
          have ens : ks.map V.int = (sortN ns).map natV := asc_one asc (List.Pairwise.filter _ List.pairwise_lt_range) fun k => by
            rw [hns k, decide_eq_true_iff, List.mem_map]
            constructor
            · rintro ⟨n, hn, e⟩
              exact ⟨n, List.mem_filter.mpr ⟨List.mem_range.mpr (hb n hn), by simpa using hn⟩, e.symm⟩
            · rintro ⟨n, hn, e⟩
              exact ⟨n, by simpa using (List.mem_filter.mp hn).2, e.symm⟩
          have nl : (sortN ns).length = c := by
            have z := congrArg List.length ens
            rw [List.length_map, List.length_map] at z
            omega
          refine ⟨by (show 3 ≤ sizeLine); decide, fun u hu => ?_⟩
          have su := same_new (o := .tup [.ref rb, natV d.2.1, .ref L]) hu
          have s5u := (sS.trans sL).trans su
          have LD : L ≠ D := fun z => by
            have := sS _ _ D5
            rw [z, this] at hL
            cases hL
          have uD : u ≠ D := fun z => by
            have := sL _ _ (sS _ _ D5)
            rw [z, this] at hu
            cases hu
          have kb : KeepX D H3 H5 := KeepX.oth O5 h3
          have hone : RwN D (upd (upd (upd H5 S (SetO w S (fun j => decide (j ∈ ns.map (fun (n : Nat) => (n : Int)))) c)) L (.lst (ks.map V.int))) u (.tup [.ref rb, natV d.2.1, .ref L])) [.ref u] [((d.1, d.2.1, sortN ns) : Ent)] :=
            .cons ⟨u, rb, L, rfl, uD, upd_same, n2', s5u _ _ (kb _ _ n2' hr2 (ints_o _)), LD, (su L _ upd_same).trans (by rw [ens])⟩ .nil
          refine ⟨D, vs, _, rfl, rfl, s5u _ _ D5, ?_, _, _, _, _, _, rfl, (O3.trans (O5.trans (Oth.of s5u))).updN HD, (h5.same s5u).upd Dp Dq, upB lD (s5u _ _ l5), ((hRw3.keep kb).keep (KeepX.of s5u)).keep KeepX.upd, vs ++ [.ref u], ds' ++ [(d.1, d.2.1, sortN ns)], upd_same, ?_, ?_, ?_⟩
          · have := hR3.len
            show _ < 2 ^ 24
            omega
          · refine (((hR3.keep kb).keep (KeepX.of s5u)).app hone).keep KeepX.upd
          · rw [List.length_append, hn3]
            rfl
          · exact ok3.app (ok.meths hd hn3 (List.Pairwise.filter _ List.pairwise_lt_range) (fun m hm => List.mem_range.mp (List.mem_filter.mp hm).1) (by omega))
    · rintro σ H3 ⟨x4, x5, x6, x7, x8, rfl, O3, h3, hl3, hRw3, vs, ds', D3, hR3, hn3, ok3⟩
      exact ⟨_, rfl, k D H3 vs ds' O3 h3 Dp D3 hR3 (by rw [hn3, hus]) ok3⟩
end
end K57

set_option maxRecDepth 100000
set_option maxHeartbeats 8000000
/-! several clauses `except X as n`: the suite of a clause has the exception under its name, which goes behind it -/
namespace L2
open PySem PySem.Spec PyProof.Rows
/-- what a suite under the name of slot i promises at its ends: the slot is unset -/
def endsAs (i : Nat) (D : Ends) : Ends := { nx := fun σ' H' => D.nx (σ'.set i none) H', rt := D.rt, bk := fun σ' H' => D.bk (σ'.set i none) H', ct := fun σ' H' => D.ct (σ'.set i none) H' }
def wManyAs (K : PySem.W.Frag) (i : Nat) (Wout : WX) (D : Ends) : List (Value × (Addr → Value → Option Addr → TS)) → WX
  | [] => Wout
  | (c, ts) :: r => fun cls d σ H => ∃ b, PySem.W.exmOne K cls c = some b ∧ (b = true → ∀ a, H a = none → ts a cls d (endsAs i D) (σ.set i (some (.ref a))) H) ∧ (b = false → wManyAs K i Wout D r cls d σ H)
inductive HdsAs (X : Cx) (n : Str) : List ExceptHandler → List (Value × (Addr → Value → Option Addr → TS)) → Prop
  | nil : HdsAs X n [] []
  | cons {x : Str} {c : Value} {ts : Addr → Value → Option Addr → TS} {b₀ : Stmt} {suite : List Stmt} {np pos' : Pos} {hds : List ExceptHandler} {l : List (Value × (Addr → Value → Option Addr → TS))} (hc : Names X x c)
      (hsu : ∀ (a : Addr) (oe : Obj) (cls : Value) (d : Option Addr) (pn : List (Addr × Obj)), Zc cls d oe → (∃ vs, oe.data = .fields vs) → PSs (X.suite a ((a, oe) :: pn)) (b₀ :: suite) (ts a cls d)) (r : HdsAs X n hds l) :
      HdsAs X n (.ExceptHandler (some (.Name x np)) (some n) (b₀ :: suite) pos' :: hds) ((c, ts) :: l)
section
variable {X : Cx} {n : Str} {i : Nat} {body : List Stmt} {h₀ : ExceptHandler} {hds : List ExceptHandler} {l : List (Value × (Addr → Value → Option Addr → TS))} {pos : Pos} {tb : WX → TS} {Wout : WX}
theorem ps_try_manyAs (hs : X.stack = X.env :: X.outer) (hf : X.env.frame = some X.env.locals) (hN : X.N.Nodup) (hi : X.N[i]? = some n) (hln : X.env.kindOf n = some .local) (tk : Takes X Wout)
    (hb : ∀ (W : WX) (pn : List (Addr × Obj)) (xe : Value → Shared → Prop), Takes (X.tr pn xe) W → PassesOwn (model X.prog X.w) X.A X.env xe → PSs (X.tr pn xe) body (tb W))
    (hh : HdsAs X n (h₀ :: hds) l) : PS X (.Try body (h₀ :: hds) [] [] pos) (fun D σ H => tb (wManyAs X.K i Wout D l) D σ H) := by
  refine ⟨fun pins s σ H D I h => ?_⟩
  have ok := I.ok
  have hfr : X.A.frames = some (X.env :: X.outer) := by rw [ok.frames, hs]
  have hloc : Loc X.env.scope n := .inl hln
  refine wpAny_Try_except ?_
  refine wpAny_mono ((hb (wManyAs X.K i Wout D l) (X.pn ++ pins) (fun e s₁ => wpAny (model X.prog X.w) X.A (noteFrame e X.env) (fun _ s₂ => wpAny (model X.prog X.w) X.A (setFlight e none) (fun _ s₃ =>
    wpAny (model X.prog X.w) X.A (handleBy e X.env (h₀ :: hds)) (SP X pins D) X.xe s₃) X.xe s₂) X.xe s₁) (fun u s' xx => ?_) PassesOwn.looking).run [] s σ H D (I.toTry _) h) (fun f s1 hsp => ?_) (fun e s1 he => he)
  · obtain ⟨a, B, sI, pins', σ', H', cls, d, rfl, J', nb, up, sky, na, os, ag, w⟩ := xx
    have J : Inv X pins σ' H' sI := J'.ofTry ok
    have sky' : Sky B (X.env :: X.outer) a (Zc cls d) X.env.locals s'.heap := by rw [← hs]; exact sky
    show wpAny (model X.prog X.w) X.A (noteFrame (.ref a) X.env) _ _ _
    refine Sky.land Zc.steady hfr hf sky' fun h3 fl3 up3 => ?_
    have J3 : Inv X pins σ' H' { s' with heap := h3 } := J.landed nb fl3.1 (up.trans up3) os ag
    obtain ⟨oe3, vs3, he3, hz3, hd3⟩ := fl3.there
    have notFr : ∀ {h : Heap} {o : Obj} {vs : Array Value}, h.FunFrames B (X.env :: X.outer) → h.get? a = some o → o.data = .fields vs → a ∉ frs (X.env :: X.outer) := fun {h o vs} ff e dd hm => by
      obtain ⟨_, o', e', hnf⟩ := ff.mem hm
      rw [e] at e'; cases e'
      exact hnf _ dd
    have nfr := notFr fl3.2.2.1 he3 hd3
    have nL : a ≠ X.env.locals := fun z => nfr (List.mem_filterMap.mpr ⟨X.env, List.mem_cons_self, by rw [hf, z]⟩)
    have nF : a ∉ X.fs := fun hm => by
      obtain ⟨e, he, q⟩ := List.mem_filterMap.mp hm
      exact nfr (List.mem_filterMap.mpr ⟨e, List.mem_cons_of_mem _ he, q⟩)
    have S3 := J3.suite he3 hd3 na nL nF
    have go : ∀ {hds' : List ExceptHandler} {l' : List (Value × (Addr → Value → Option Addr → TS))}, HdsAs X n hds' l' → wManyAs X.K i Wout D l' cls d σ' H' →
        wpAny (model X.prog X.w) X.A (handleBy (.ref a) X.env hds') (SP X pins D) X.xe { s' with heap := h3 } := by
      intro hds' l' hk
      induction hk with
      | nil =>
        intro w
        refine wpAny_handleBy_nil ?_
        obtain ⟨k1, k2, k3, oe, vs, T, oT, ts', he, hz, hd, h1, hr⟩ := id fl3
        unfold PySem.passOn
        refine wpAny_bind (wpAny_field he hd h1 ?_)
        rw [if_neg (show ¬ ((Value.ref T == Value.none) = true) from by simp)]
        have fin : wpAny (model X.prog X.w) X.A (setFlight (.ref a) X.env.frame) (fun _ s4 => wpAny (model X.prog X.w) X.A (throw (.ref a) : Sem Flow) (SP X pins D) X.xe s4) X.xe { s' with heap := h3 } := by
          rw [hf]
          refine HandSPX.setFlight_upZ fl3 fun h4 hh4 up4 => wpAny_throw (tk _ _ ?_)
          exact ⟨a, B, sI, pins, σ', H', cls, d, rfl, J, nb, (up.trans up3).trans up4, .inr (.inr (by rw [hs]; exact hh4)), na, os, ag, w⟩
        first
          | exact wpAny_bind (wpAny_pure (wpAny_bind fin))
          | exact wpAny_bind fin
      | @cons x c ts b₀ suite np pos' hds2 l2 hc hsu r ih =>
        intro w
        obtain ⟨b, hb1, hyes, hno⟩ := w
        refine wpAny_handleBy_cons (codeAny_handlers_test ?_) (by intro q; cases q)
        have LT : PySem.W.Looks (model X.prog X.w) h3 (typeOf (.ref a)) cls := fun A Q E s k q => wpAny_typeOf_ref (k _ _ he3) (by rw [hz3.1]; exact q)
        have LM := PySem.W.exm_one (M := model X.prog X.w) (J3.kIn) LT hb1
        have test : ∀ {Q : Value → Shared → Prop} {E : Value → Shared → Prop}, Q c { s' with heap := h3 } → wpAny (model X.prog X.w) (X.A.mark (some (.ref a))) (eval (.Name x np) X.env) Q E { s' with heap := h3 } := fun {Q E} q => by
          obtain ⟨hg, hdbg, hm | ⟨hm, hv, hnn⟩⟩ := hc
          · exact ld_glob (X := X.suite a ((a, oe3) :: (X.pn ++ pins))) S3 hg hm q hdbg
          · exact ld_blt (X := X.suite a ((a, oe3) :: (X.pn ++ pins))) S3 hg hm hv q hnn hdbg
        refine test (LM.here ?_)
        cases b with
        | true =>
          refine codeAny_handlers_suite_as ?_
          refine HandSPX.lands_againZ fl3 fun h4 fl4 up4 => ?_
          have J4 : Inv X pins σ' H' { s' with heap := h4 } := J.landed nb fl4.1 ((up.trans up3).trans up4) os ag
          obtain ⟨oe4, vs4, he4, hz4, hd4⟩ := fl4.there
          have S4 := J4.suite he4 hd4 na nL nF
          refine store_ok (X := X.suite a ((a, oe4) :: (X.pn ++ pins))) (v := .ref a) S4 hN hi hloc rfl (fun s5 S5 => ?_) (.inr hln)
          refine wpAny_mono ((hsu a oe4 cls d (X.pn ++ pins) hz4 ⟨_, hd4⟩).run [] s5 _ H' _ S5 (hyes rfl a na)) (fun f s6 hsp => ?_) (fun _ _ z => False.elim z)
          have end_ : ∀ {σ6 : St} {H6 : Hp} {Q : Shared → Prop}, Inv (X.suite a ((a, oe4) :: (X.pn ++ pins))) [] σ6 H6 s6 → (∀ s7, Inv X pins (σ6.set i none) H6 s7 → Q s7) →
              wpAny (model X.prog X.w) X.A (do bindName X.env n .none; unbindBehindTheSuite X.env n pos') (fun _ s7 => Q s7) X.xe s6 := fun {σ6 H6 Q} S6 hq => gone_ok (S6.unsuite ok) hN hi hln hq
          cases f with
          | next =>
            obtain ⟨σ6, H6, S6, q6⟩ := hsp
            exact end_ S6 fun s7 J7 => ⟨_, _, J7, q6⟩
          | brk =>
            obtain ⟨σ6, H6, S6, q6⟩ := hsp
            exact end_ S6 fun s7 J7 => ⟨_, _, J7, q6⟩
          | cont =>
            obtain ⟨σ6, H6, S6, q6⟩ := hsp
            exact end_ S6 fun s7 J7 => ⟨_, _, J7, q6⟩
          | ret u =>
            obtain ⟨v6, σ6, H6, S6, r6, q6⟩ := hsp
            exact end_ S6 fun s7 J7 => ⟨_, _, _, J7, r6, q6⟩
        | false =>
          show wpAny _ X.A (handleBy (.ref a) X.env hds2) _ _ _
          exact ih (hno rfl)
    exact go hh w
  · cases f with
    | next =>
      obtain ⟨σ', H', J', q⟩ := hsp
      exact wpAny_execs_nil ⟨σ', H', J'.ofTry ok, q⟩
    | brk =>
      obtain ⟨σ', H', J', q⟩ := hsp
      exact ⟨σ', H', J'.ofTry ok, q⟩
    | cont =>
      obtain ⟨σ', H', J', q⟩ := hsp
      exact ⟨σ', H', J'.ofTry ok, q⟩
    | ret u =>
      obtain ⟨v, σ', H', J', r, q⟩ := hsp
      exact ⟨v, σ', H', J'.ofTry ok, r, q⟩
end
end L2

set_option maxRecDepth 100000
set_option maxHeartbeats 8000000
namespace K57
open PySem PySem.Spec PyProof.Rows L2 Kw
/-- the answer or the refusal due -/
def AnsV (H : Hp) (v : V) (lot : List Nat) (c m : Nat) : Prop :=
  (lot = [] ∧ ∃ t, v = .ref t ∧ H t = some (.tup [.str "none", natV c, natV m])) ∨ (∃ a, lot = [a] ∧ v = natV a) ∨
  (∃ a b r t, lot = a :: b :: r ∧ v = .ref t ∧ H t = some (.tup [.str "two", natV c, natV m, natV a, natV b]))
section
variable {P : Program} {w : World} {K : PySem.W.Frag} {mg : Str → Option Value} {base : Heap} {f fD fX fY C Cn Ct : Addr} {fd fdD fdX fdY : FuncData}
def spLDue : Sp := fun vs H Q _ => ∃ (l : Addr) (lot : List Nat) (c m : Nat), vs = [.ref l, natV c, natV m] ∧ H l = some (.lst (lot.map natV)) ∧ lot.length ≤ 12 ∧ ∀ v H', Same H H' → AnsV H' v lot c m → Q v H'
def spLDefr (C : Addr) : Sp := fun vs H Q _ => ∃ (p : Addr) (ds : List Ent) (c m : Nat), vs = [.ref p, natV c, natV m] ∧ WorldAt H p C ds ∧ DsOk ds ∧ c < ds.length ∧ ds.length ≤ 12 ∧ m < 6 ∧ ∀ v H', Same H H' → AnsV H' v (ansL ds c m) c m → Q v H'
end
end K57

set_option maxRecDepth 100000
set_option maxHeartbeats 4000000
namespace Kw
open PySem PySem.Spec PyProof.Rows L2
/-! ### a law's def that prints: its promise at the one place from which it is called, where no repr is under way -/
section
variable {P : Program} {w : World} {K : PySem.W.Frag} {mg : Str → Option Value} {base : Heap} {x qual : Str} {params : Arguments} {body : List Stmt} {scope : Scope} {dvs : List V} {kws : List (Str × V)} {f : Addr} {fd : FuncData}
/-- the def run at one place -/
theorem def_at {CX : CXT} {N ps : List Str} {k : Nat} {A : Around} {out : List Env} {s : Shared} {H : Hp} {args : Args} {us : List Value} {vs : List V} {Q : VK} {E : XK}
    (D : FunD K x qual params body scope dvs kws f fd) (S : FnScope N ps scope) (hl : vs.length = ps.length) (room : Room (k + 1) A) (env0 : Env0 P w K mg base A out s H) (bind : BindsTo s fd args (ps.zip us)) (rel : Vals vs us)
    (hb : ∀ cdv : Value, ∃ t, PSs (cxOf CX P w K mg base N qual scope f cdv A out s H E) body t ∧ t { nx := fun _ H' => Q .non H', rt := Q } (start N vs) H) :
    codeAny (model P w) A (.call (.ref f) args) (CR CX out P w H s Q E) s := by
  obtain ⟨oc, od, dV, kV, doc, pm, an, cdv, ct, osl, rfl, at_f, code, _, _⟩ := D.ex
  have inK : K.In s.heap := env0.mod.kin.keeps fun b o z => (env0.bs b o z).1
  refine codeAny_call_function room.depth (inK _ _ at_f) rfl S.co S.gen rfl (PySem.W.codeRec_of inK code)
    (bind _ _ _ _ (wpAny_newFunctionEnv_cells S.kind (fun y hy => ?_) fun env he s1 z => ?_))
  · rcases S.par y.1 (List.of_mem_zip hy).1 with a | a
    · exact .inl a
    · exact .inr ⟨a, PySem.W.cellsFrom_some _ _ _ (.inl a)⟩
  · subst he
    have nolim : s.heap.NoLimit := env0.mod.nolimit.keeps fun b o z => (env0.bs b o z).1
    refine ⟨nolim.keeps z.toInCall.keep, codeAny_func ?_⟩
    obtain ⟨t, ht, ht2⟩ := hb cdv
    have I := inv_start (CX := CX) (E := E) S room.hd env0 hl rel z
    have ran := ht.run [] s1 (start N vs) H _ I ht2
    refine wpAny_mono ran (fun fl s' got => ?_) fun e s' got => got
    cases fl with
    | ret u =>
      obtain ⟨v, _, H', J, rv, qv⟩ := got
      exact ⟨v, H', J.os, J.bare, J.base, J.hok, rv, qv⟩
    | next =>
      obtain ⟨_, H', J, qv⟩ := got
      exact ⟨.non, H', J.os, J.bare, J.base, J.hok, rfl, qv⟩
    | brk => obtain ⟨_, _, _, bad⟩ := got; exact bad.elim
    | cont => obtain ⟨_, _, _, bad⟩ := got; exact bad.elim
end
section
variable {P : Program} {w : World} {K : PySem.W.Frag} {mg : Str → Option Value}
/-- the abstract heap ahead of a law: its script, where the module doesn't have it -/
def onlyScript (K : PySem.W.Frag) (a : Addr) (o : Obj) (u : HO) : Hp := fun b => if b = a ∧ K.lookup a = none then some (.frz o u) else none
theorem onlyScript_some {a b : Addr} {o : Obj} {u v : HO} (z : onlyScript K a o u b = some v) : b = a ∧ K.lookup a = none ∧ v = .frz o u := by
  unfold onlyScript at z
  by_cases c : b = a ∧ K.lookup a = none
  · rw [if_pos c] at z
    exact ⟨c.1, c.2, (Option.some.inj z).symm⟩
  · rw [if_neg c] at z
    cases z
theorem onlyScript_none {a b : Addr} {o : Obj} {u : HO} (z : b ≠ a) : onlyScript K a o u b = none := if_neg fun c => z c.1
/-- the law's call: F says what comes of it, from the heap that it finds -/
theorem call_here {mb : Str → Option Value} {CX : CXT} {fa a : Addr} {s : Shared} {vs : List Value} {ns : List Int}
    (inK : K.In s.heap) (nsG : s.heap.Ns mainGlobals mg) (nsB : s.heap.Ns builtinsNs mb) (boot : ∀ x : Str, x ≠ "__name__" → mb x = bootBuiltins x) (nolim : s.heap.NoLimit) (nogen : s.gens = #[])
    (obj : s.heap.get? a = some { cls := .type "list", data := .seq vs.toArray }) (nums : IntsAre vs ns) (size : ns.length ≤ sizeLine)
    (noErr : ∀ H e s', CX [] H s (fun _ _ _ => False) e s' → False)
    (F : ∀ (base : Heap) (H : Hp), K.In base → base.Ns mainGlobals mg → Env0 P w K mg base callerA [] s H → SqL K H a (ns.map V.int) → codeAny (model P w) callerA (.call (.ref fa) ⟨[.ref a], []⟩) (CR CX [] P w H s (fun v _ => v = .bl true) (fun _ _ _ => False)) s) :
    codeAny (model P w) callerA (.call (.ref fa) ⟨[.ref a], []⟩) (fun r s' => r = .ok (.ret (.bool true)) ∧ OldK s.heap s'.heap ∧ s'.os = s.os ∧ AllBare s'.gens) s := by
  have rel := vals_ints nums
  have lenV := nums.length
  generalize hO : ({ cls := .type "list", data := .seq vs.toArray } : Obj) = O at obj
  have Oc : O.cls = .type "list" := by rw [← hO]
  have Od : O.data = .seq vs.toArray 0 := by rw [← hO]
  have Odd : O.dict = none := by rw [← hO]
  generalize hH : onlyScript K a O (.lst (ns.map V.int)) = H
  have Hs : ∀ {b : Addr} {v : HO}, H b = some v → b = a ∧ K.lookup a = none ∧ v = .frz O (.lst (ns.map V.int)) := fun z => onlyScript_some (by rw [hH]; exact z)
  have hid : ∀ {b : Addr} {o : Obj}, s.heap.get? b = some o → H b = none → (hidT s.heap H).get? b = some o := fun e n => hidT_get e n
  have look : K.In (hidT s.heap H) := fun b o e => hid (inK b o e) (by
    cases z : H b with
    | none => rfl
    | some v =>
      obtain ⟨r1, r2, _⟩ := Hs z
      rw [r1, r2] at e
      cases e)
  have spaces : ∀ {b : Addr} {m : Str → Option Value}, s.heap.Ns b m → (hidT s.heap H).Ns b m := fun {b m} z => by
    obtain ⟨o, es, ep, e, d, r⟩ := z
    refine ⟨o, es, ep, hid e ?_, d, r⟩
    cases z : H b with
    | none => rfl
    | some v =>
      rw [(Hs z).1, obj] at e
      rw [← Option.some.inj e, Od] at d
      cases d
  obtain ⟨ml, l1, l2⟩ := nolim
  have held : HOk P w H s.heap := fun b v z => by
    obtain ⟨r1, _, r3⟩ := Hs z
    rw [r1, r3]
    exact ⟨obj, by rw [List.length_map]; exact size, vs, 0, rel, by rw [obj, ← hO]⟩
  have env0 : Env0 P w K mg (hidT s.heap H) callerA [] s H := ⟨rfl, ⟨look, spaces nsG, ⟨mb, spaces nsB, boot⟩, ⟨ml, spaces l1, l2⟩⟩, fun b o e => of_hidT e, Nat.le_of_eq (hidT_size _ _), trivial, fun b hb => absurd (show b ∈ ([] : List Addr) from hb) List.not_mem_nil, held, .of_eq nogen⟩
  have script : SqL K H a (ns.map V.int) := by
    cases kl : K.lookup a with
    | none => exact .inl (.inr ⟨O, by rw [← hH]; exact if_pos ⟨rfl, kl⟩⟩)
    | some o =>
      have e := inK a o kl
      rw [obj] at e
      obtain rfl := Option.some.inj e
      exact .inr ⟨O, vs.toArray, 0, kl, Oc, Odd, Od, by rw [List.size_toArray, lenV]; exact size, by simpa using rel⟩
  refine codeAny_mono (F _ H look (spaces nsG) env0 script) fun r s' got => ?_
  rcases r with er | fl
  · exact (noErr H er s' got).elim
  cases fl with
  | ret u =>
    obtain ⟨v, H', os, bare, un, held', rv, qv⟩ := got
    obtain rfl : v = .bl true := qv
    obtain rfl : u = Value.bool true := rv
    refine ⟨rfl, OldK.of_keep fun b o e => ?_, os, bare⟩
    cases z : H b with
    | none => exact un.keep b o e z (fun y => absurd (show b ∈ ([] : List Addr) from y) List.not_mem_nil) (by simp)
    | some v =>
      obtain ⟨r1, _, r3⟩ := Hs z
      rw [r3] at z
      obtain ⟨e2, _⟩ := held' b _ (un.frzs b O _ z)
      rw [r1] at e e2
      rw [r1]
      rw [obj] at e
      rw [← Option.some.inj e]
      exact e2
  | next => exact got.elim
  | brk => exact got.elim
  | cont => exact got.elim
end
section
variable {X : Cx}
/-- repr of data -/
def rRepr (K : PySem.W.Frag) : List V → Hp → VK → Prop := fun xs H Q => ∃ (a : Addr) (d : PyData), xs = [.ref a] ∧ Dp K H (.ref a) d ∧ d.showable = true ∧ d.hasDict = false ∧ d.depth ≤ 60 ∧ d.shown.length ≤ sizeLine ∧ Q (.str d.shown) H
theorem call_reprD (quiet : X.A.guards = some []) (hu : X.A.units + 65 < cLine) : CallR X (.builtin "repr") (rRepr X.K) := by
  intro pins s σ H xs us Q I r h
  obtain ⟨a, d, rfl, hd, hs, hn, h60, hz, q⟩ := h
  obtain ⟨u, rfl, ru⟩ := vals1 r
  obtain ⟨as, rd⟩ := Dp.reads I d (.ref a) u hd ru
  obtain rfl : u = Value.ref a := ru
  exact repr_of_reads' rd hs (fun e => by rw [hn] at e; cases e) quiet (by omega) (fun _ _ e => e) (fun h' t tk kept => ⟨.str d.shown, H, I.kept (t' := tk) kept, ⟨t, rfl⟩, q⟩) hz
end
end Kw
namespace Kw
open PySem PySem.Spec PyProof.Rows L2
/-! ### small data: its text fits a line -/
structure Sm (n b : Nat) (d : PyData) : Prop where
  lay : d.canLay0 = true
  dep : d.depth ≤ n
  wt : d.weight ≤ b
  sh : d.intsShort 13 = true
  sho : d.showable = true
theorem Sm.le {n m b c : Nat} {d : PyData} (h : Sm n b d) (k : n ≤ m) (l : b ≤ c) : Sm m c d := ⟨h.lay, Nat.le_trans h.dep k, Nat.le_trans h.wt l, h.sh, h.sho⟩
theorem Sm.fits {n b : Nat} {d : PyData} (h : Sm n b d) (hn : n ≤ 60) (hb : b ≤ 10000) : d.shown.length ≤ sizeLine := by
  have h2 := PyData.shown_le 13 (by decide) d (PyData.leavesShort_of_canLay0 13 d h.lay h.sh)
  have := h.wt
  have e : sizeLine = 2 ^ 24 := by decide
  rw [e]
  omega
theorem Sm.nodict {n b : Nat} {d : PyData} (h : Sm n b d) : d.hasDict = false := PyData.hasDict_of_canLay d h.lay
theorem sm_ints : ∀ m : Nat, m < 16 → (PyData.shown (.int (m : Int))).length ≤ 13 ∧ PyData.weight (.int (m : Int)) ≤ 4 ∧ PyData.showable (.int (m : Int)) = true := by decide +kernel
theorem Sm.nat {m : Nat} (h : m < 16) : Sm 0 4 (.int (m : Int)) := by
  obtain ⟨h1, h2, h3⟩ := sm_ints m h
  exact ⟨by simp [PyData.canLay0], by simp [PyData.depth], h2, by simpa [PyData.intsShort] using h1, h3⟩
theorem Sm.non : Sm 0 0 .none := ⟨rfl, by simp [PyData.depth], by simp [PyData.weight], rfl, rfl⟩
theorem sm_all {n b : Nat} : ∀ {ds : List PyData}, (∀ d ∈ ds, Sm n b d) → PyData.canLayAll0 ds = true ∧ PyData.depthAll ds ≤ n ∧ PyData.weightAll ds ≤ ds.length * (b + 1) ∧ PyData.intsShortAll 13 ds = true ∧ PyData.showableAll ds = true
  | [], _ => ⟨rfl, Nat.zero_le _, Nat.zero_le _, rfl, rfl⟩
  | x :: r, h => by
    obtain ⟨h1, h2, h3, h4, h5⟩ := sm_all (ds := r) fun d hd => h d (List.mem_cons_of_mem _ hd)
    have g := h x List.mem_cons_self
    refine ⟨by simp [PyData.canLayAll0, g.lay, h1], by simp only [PyData.depthAll]; have := g.dep; omega, ?_, by simp [PyData.intsShortAll, g.sh, h4], by simp [PyData.showableAll, g.sho, h5]⟩
    simp only [PyData.weightAll, List.length_cons, Nat.succ_mul]
    have := g.wt
    omega
theorem Sm.tuple {n b l : Nat} {ds : List PyData} (h : ∀ d ∈ ds, Sm n b d) (hl : ds.length ≤ l) : Sm (n + 1) (l * (b + 1)) (.tuple ds) := by
  obtain ⟨h1, h2, h3, h4, h5⟩ := sm_all h
  have := Nat.mul_le_mul_right (b + 1) hl
  exact ⟨by simpa [PyData.canLay0] using h1, by simp only [PyData.depth]; omega, by simp only [PyData.weight]; omega, by simpa [PyData.intsShort] using h4, by simpa [PyData.showable] using h5⟩
section
variable {X : Cx}
/-- repr of small data of any kind -/
def rReprA (K : PySem.W.Frag) : List V → Hp → VK → Prop := fun xs H Q => ∃ (x : V) (d : PyData) (n b : Nat), xs = [x] ∧ Dp K H x d ∧ Sm n b d ∧ n ≤ 60 ∧ b ≤ 10000 ∧ Q (.str d.shown) H
theorem call_reprA (quiet : X.A.guards = some []) (hu : X.A.units + 65 < cLine) : CallR X (.builtin "repr") (rReprA X.K) := by
  intro pins s σ H xs us Q I r h
  obtain ⟨x, d, n, b, rfl, hd, sm, hn, hb, q⟩ := h
  obtain ⟨u, rfl, ru⟩ := vals1 r
  obtain ⟨as, rd⟩ := Dp.reads I d x u hd ru
  have hdep := sm.dep
  cases rd with
  | none => exact PySem.P.repr_of_none ⟨.str _, H, I.tok _, ⟨_, rfl⟩, q⟩
  | bool c => exact PySem.P.repr_of_bool ⟨.str _, H, I.tok _, ⟨_, rfl⟩, q⟩
  | int i t =>
    have hs := sm.sho
    have hs : i.natAbs.log2 < 1920 := of_decide_eq_true hs
    exact PySem.P.repr_of_int hs ⟨.str _, H, I.tok _, ⟨_, rfl⟩, q⟩
  | str z t => exact PySem.P.repr_of_str ⟨.str _, H, I.tok _, ⟨_, rfl⟩, q⟩ (sm.fits hn hb)
  | list h1 h2 h3 h4 => exact repr_of_reads' (.list h1 h2 h3 h4) sm.sho (fun e => by rw [sm.nodict] at e; cases e) quiet (by omega) (fun _ _ e => e) (fun h' t tk kept => ⟨.str _, H, I.kept (t' := tk) kept, ⟨t, rfl⟩, q⟩) (sm.fits hn hb)
  | tuple h1 h2 h3 h4 => exact repr_of_reads' (.tuple h1 h2 h3 h4) sm.sho (fun e => by rw [sm.nodict] at e; cases e) quiet (by omega) (fun _ _ e => e) (fun h' t tk kept => ⟨.str _, H, I.kept (t' := tk) kept, ⟨t, rfl⟩, q⟩) (sm.fits hn hb)
  | dict h1 h2 h3 h4 h5 =>
    have := sm.lay
    simp [PyData.canLay0] at this
end
end Kw

set_option maxRecDepth 100000
set_option maxHeartbeats 8000000
namespace Kw
open PySem PySem.Spec PyProof.Rows L2
/-- a law whose def prints: it is run at the one place from which it is called -/
theorem walk_here {l : PySem.W.OpenLaw} {n : Nat} {q : Program} {loose : List Str} {XP : (Str → Option Value) → Heap → Prop} {YP : World → Heap → Prop} {d : DefRec} {CX : CXT}
    (hn : l.most = some n) (hn2 : n ≤ sizeLine) (hdf : d.params.defaults = [])
    (F : ∀ (w : World) (mg : Str → Option Value) (fa : Addr) (h : Heap), YP w h → h.Ns mainGlobals mg → mg d.name = some (.ref fa) →
      ∃ K : PySem.W.Frag, K.In h ∧ ∀ (base : Heap) (H : Hp) (s : Shared) (a : Addr) (ns : List Int), K.In base → base.Ns mainGlobals mg → ns.length ≤ n → Env0 l.prog w K mg base callerA [] s H → SqL K H a (ns.map V.int) →
        codeAny (model l.prog w) callerA (.call (.ref fa) ⟨[.ref a], []⟩) (CR CX [] l.prog w H s (fun v _ => v = .bl true) (fun _ _ _ => False)) s)
    (hCX : ∀ (H : Hp) (s : Shared) (e : Value) (s' : Shared), CX [] H s (fun _ _ _ => False) e s' → False) :
    PySem.W.WalkO q loose XP YP l.row.toRowW d [] (fun f vs => PySem.call f vs) := by
  refine Att.attach_call hn hdf fun w s₀ s₁ mg mb fa o pm cd doc a vs ns G Y ho hd hcd hmg hobj hints hlen hg => ?_
  obtain ⟨K, KX, hF⟩ := F w mg fa _ Y G.T.g hmg
  exact call_here KX G.T.g G.T.b G.T.builtins G.T.nolimit hg hobj hints (Nat.le_trans hlen hn2) (fun H e s' => hCX H s₁ e s') fun base H hb hbn e0 hS => hF base H s₁ a ns hb hbn hlen e0 hS
theorem Sm.strN : Sm 0 20 (.str ("none" : Str)) := ⟨by decide +kernel, by decide +kernel, by decide +kernel, by decide +kernel, by decide +kernel⟩
theorem Sm.strT : Sm 0 20 (.str ("two" : Str)) := ⟨by decide +kernel, by decide +kernel, by decide +kernel, by decide +kernel, by decide +kernel⟩
theorem ne_self {x : V} : (!decide (x = x)) = false := by rw [decide_eq_true rfl]; rfl
end Kw
namespace K57
open PySem PySem.Spec PyProof.Rows L2 Kw
theorem sm_ns {l : List Nat} {n : Nat} (h : ∀ x ∈ l, x < 16) (hl : l.length ≤ n) : Sm 1 (n * 5) (.tuple (l.map dN)) := Sm.tuple (n := 0) (b := 4) (fun d hd => by
  obtain ⟨x, hx, rfl⟩ := List.mem_map.mp hd
  exact Sm.nat (h x hx)) (by rw [List.length_map]; exact hl)
theorem sm_pairs {l : List (Nat × Nat)} {n : Nat} (h : ∀ x ∈ l, x.1 < 16 ∧ x.2 < 16) (hl : l.length ≤ n) : Sm 2 (n * 11) (.tuple (l.map dPair)) := Sm.tuple (n := 1) (b := 10) (fun d hd => by
  obtain ⟨x, hx, rfl⟩ := List.mem_map.mp hd
  exact Sm.tuple (n := 0) (b := 4) (l := 2) (fun d hd => by
    rcases List.mem_cons.mp hd with rfl | hd
    · exact Sm.nat (h x hx).1
    · rw [List.mem_singleton.mp hd]
      exact Sm.nat (h x hx).2) (by simp)) (by rw [List.length_map]; exact hl)
def dAns (lot : List Nat) (c m : Nat) : PyData := match lot with
  | [] => .tuple [.str "none", dN c, dN m]
  | [a] => dN a
  | a :: b :: _ => .tuple [.str "two", dN c, dN m, dN a, dN b]
theorem AnsV.dp {K : PySem.W.Frag} {H : Hp} {v : V} {lot : List Nat} {c m : Nat} (h : AnsV H v lot c m) : Dp K H v (dAns lot c m) := by
  rcases h with ⟨rfl, t, rfl, ht⟩ | ⟨a, rfl, rfl⟩ | ⟨a, b, r, t, rfl, rfl, ht⟩
  · exact .tup (SqT.of ht) (.cons (.str _) (.cons (.int _) (.cons (.int _) .nil)))
  · exact .int _
  · exact .tup (SqT.of ht) (.cons (.str _) (.cons (.int _) (.cons (.int _) (.cons (.int _) (.cons (.int _) .nil)))))
theorem sm_ans {lot : List Nat} {c m : Nat} (h : ∀ x ∈ lot, x < 16) (hc : c < 16) (hm : m < 16) : Sm 1 105 (dAns lot c m) := by
  match lot, h with
  | [], _ =>
    exact (Sm.tuple (n := 0) (b := 20) (l := 5) (fun d hd => by
      rcases List.mem_cons.mp hd with rfl | hd
      · exact Sm.strN
      rcases List.mem_cons.mp hd with rfl | hd
      · exact (Sm.nat hc).le (by decide) (by decide)
      rw [List.mem_singleton.mp hd]
      exact (Sm.nat hm).le (by decide) (by decide)) (by simp))
  | [a], h => exact (Sm.nat (h a List.mem_cons_self)).le (by decide) (by decide)
  | a :: b :: r, h =>
    exact (Sm.tuple (n := 0) (b := 20) (l := 5) (fun d hd => by
      rcases List.mem_cons.mp hd with rfl | hd
      · exact Sm.strT
      rcases List.mem_cons.mp hd with rfl | hd
      · exact (Sm.nat hc).le (by decide) (by decide)
      rcases List.mem_cons.mp hd with rfl | hd
      · exact (Sm.nat hm).le (by decide) (by decide)
      rcases List.mem_cons.mp hd with rfl | hd
      · exact (Sm.nat (h a List.mem_cons_self)).le (by decide) (by decide)
      rw [List.mem_singleton.mp hd]
      exact (Sm.nat (h b (List.mem_cons_of_mem _ List.mem_cons_self))).le (by decide) (by decide)) (by simp))
def dOpt (o : Option (List Nat)) : PyData := match o with
  | none => .none
  | some l => .tuple (l.map dN)
theorem OptP2.dp {K : PySem.W.Frag} {H : Hp} {v : V} {o : Option (List Nat)} (h : OptP2 H v o) : Dp K H v (dOpt o) := by
  rcases h with ⟨rfl, rfl⟩ | ⟨a, b, t, rfl, rfl, ht⟩
  · exact .non
  · exact .tup (SqT.of ht) (.cons (.int _) (.cons (.int _) .nil))
theorem sm_opt {H : Hp} {v : V} {o : Option (List Nat)} {cond : Nat → Nat → Bool} {xs : List Nat} (h : OptP2 H v o) (l : Least cond xs o) (hx : ∀ x ∈ xs, x < 16) : Sm 1 10 (dOpt o) := by
  rcases h with ⟨rfl, rfl⟩ | ⟨a, b, t, rfl, rfl, ht⟩
  · exact Sm.non.le (by decide) (by decide)
  · rcases l with ⟨e, _⟩ | ⟨a', b', e, h1, h2, _⟩
    · cases e
    · obtain rfl := (List.cons.inj (Option.some.inj e)).1
      obtain rfl := (List.cons.inj (List.cons.inj (Option.some.inj e)).2).1
      exact sm_ns (n := 2) (fun x hm => by
        rcases List.mem_cons.mp hm with rfl | hm
        · exact hx _ h1
        · rw [List.mem_singleton.mp hm]
          exact hx _ h2) (by simp)
theorem ansL_mem {ds : List Ent} {c m x : Nat} (h : x ∈ ansL ds c m) : x ∈ defL ds c m := (List.mem_filter.mp h).1
theorem ansL_len {ds : List Ent} {c m : Nat} : (ansL ds c m).length ≤ (defL ds c m).length := List.length_filter_le _ _
theorem twoIn_mem {ds : List Ent} {c j : Nat} {p : Nat × Nat} (h : p ∈ twoIn ds c j) : p.1 = c ∧ p.2 < j := by
  obtain ⟨m, hm, rfl⟩ := List.mem_map.mp h
  exact ⟨rfl, List.mem_range.mp (List.mem_filter.mp hm).1⟩
theorem twoUp_mem {ds : List Ent} {i : Nat} {p : Nat × Nat} (h : p ∈ twoUp ds i) : p.1 < i ∧ p.2 < 6 := by
  obtain ⟨c, hc, h⟩ := List.mem_flatMap.mp h
  obtain ⟨h1, h2⟩ := twoIn_mem h
  exact ⟨by rw [h1]; exact List.mem_range.mp hc, h2⟩
theorem PairsAt.updL {H : Hp} {D : Addr} {xs ys : List V} (hD : H D = some (.lst xs)) : ∀ {us : List V} {ps : List (Nat × Nat)}, PairsAt H us ps → PairsAt (upd H D (.lst ys)) us ps
  | [], [], _ => .nil
  | _ :: _, _ :: _, .cons ⟨t, e, h⟩ r => .cons ⟨t, e, upB (fun z => by rw [z, hD] at h; cases h) h⟩ (PairsAt.updL hD r)
theorem twoIn_zero {ds : List Ent} {c : Nat} : twoIn ds c 0 = [] := rfl
end K57

set_option maxRecDepth 100000
set_option maxHeartbeats 4000000
namespace Kw
open PySem PySem.Spec PyProof.Rows L2
/-! ### sets of tuples of ints that grow: set(), add, in -/
/-- a set of tuples at a, what stands in it being there to be read -/
structure TSet (P : Program) (w : World) (K : PySem.W.Frag) (H : Hp) (a : Addr) (L : List (Addr × List Int)) : Prop where
  at_ : H a = some (SetTO P w a L)
  tup : ∀ p ∈ L, H p.1 = some (.tup (p.2.map V.int))
theorem setTO_at {X : Cx} {pins : List (Addr × Obj)} {σ : L2.St} {H : Hp} {s : Shared} {a : Addr} {L : List (Addr × List Int)} (I : Inv X pins σ H s) (h : TSet X.prog X.w X.K H a L) : ∃ es ep t, SetTR X.prog X.w s.heap a L es ep t := by
  have R : SetT0 X.prog X.w s.heap a L := (I.hok a _ h.at_).1
  exact R.full fun p hp => I.isT (SqT.of (h.tup p hp))
def rSet0T (P : Program) (w : World) : List V → Hp → VK → Prop := fun xs H Q => xs = [] ∧ ∀ p, H p = none → Q (.ref p) (upd H p (SetTO P w p []))
theorem cr_set0T {X : Cx} : CallR X (.type "set") (rSet0T X.prog X.w) := by
  intro pins s σ H xs us Q I r h
  obtain ⟨rfl, q⟩ := h
  cases r
  refine setR_new fun _ => ?_
  have new : SetTR X.prog X.w (s.heap.push { cls := .type "set", dict := none, data := .set #[] 0 (.fresh 0 0 (!X.w.params.followText "set-order")) }) s.heap.objs.size [] #[] 0 (.fresh 0 0 (!X.w.params.followText "set-order")) := setTR_fresh (Heap.get?_push_size _ rfl)
  exact ⟨.ref _, upd H s.heap.objs.size (SetTO X.prog X.w s.heap.objs.size []), I.laid (t' := s.toks) (fun b u e => Heap.get?_push_of_some _ e) (Nat.le_refl _) (setTO_new new.t0), rfl, q _ (I.hok.fresh (Nat.le_refl _))⟩
def rSAddT (P : Program) (w : World) (K : PySem.W.Frag) : V → List V → Hp → VK → Prop := fun x xs H Q => ∃ (a b : Addr) (k : List Int) (L : List (Addr × List Int)), x = V.ref a ∧ xs = [V.ref b] ∧ TSet P w K H a L ∧ H b = some (.tup (k.map V.int)) ∧ L.length + 1 < 64 ∧
  ∀ L', (k ∈ L.map (·.2) → L' = L) → (k ∉ L.map (·.2) → L'.Perm ((b, k) :: L)) → Q .non (upd H a (SetTO P w a L'))
theorem mt_saddT {X : Cx} (hu : X.A.units + 64 < cLine) : MtR X "set.add" (rSAddT X.prog X.w X.K) := by
  intro pins s σ H x xs v us Q I rx rxs h
  obtain ⟨a, b, k, L, rfl, rfl, hS, hb, few, q⟩ := h
  cases rx
  cases rxs with
  | cons ry rt =>
    cases rt
    cases ry
    have hu1 : X.A.in1.units < cLine := by
      show X.A.units + 1 < cLine
      omega
    obtain ⟨es, ep, t, R⟩ := setTO_at I hS
    have hx : IsT X.prog X.w s.heap k b := I.isT (SqT.of hb)
    obtain ⟨o, ho, hex, hd⟩ := R.ob
    refine wpAny_call_entry F.slot_set_add ⟨o, ho, hex.1⟩ F.entry_set_add ?_ (F.args_set_add_2 _ _)
    unfold Builtin.«set.add» Builtin.Frozenset.oneOther
    simp only [List.isEmpty_nil, bind_assoc]
    unfold Builtin.Frozenset.addrOf setAdd
    refine wpAny_bind (wpAny_pure ?_)
    try dsimp only
    refine wpAny_bind (wpAny_pure ?_)
    try dsimp only
    refine wpAny_bind ?_
    refine wpAny_holding ?_
    refine wpAny_bind (wpAny_pyHash_tuple hu1 hx ?_)
    refine add_at (s := { s with toks := s.toks + (k.length + 1) }) R hx hu1 few fun b' h' L' es' ep' t' hsb hS2 c1 c2 => ?_
    have he : ∃ u, h'.get? a = some u := by
      obtain ⟨o, ho, _⟩ := hS2.ob
      exact ⟨o, ho⟩
    show wpAny _ _ (ret Value.none) _ _ _
    exact wpAny_pure ⟨_, rfl, ⟨.non, upd H a (SetTO X.prog X.w a L'), I.write (e := a) (t' := s.toks + (k.length + 1)) (by rw [hS.at_]; trivial) (.inl rfl) (fun b u hb hu => (hsb.2 b hb).trans hu) he (setTO_new hS2.t0), rfl, q L' c1 c2⟩⟩
/-! ### in: the search that adds nothing -/
/-- where the search stands behind c steps -/
def prb (t : SetTable) (h : Int) (c : Nat) : SetTable.Probe := nth t.mask (t.probeStart h) c
theorem prb_off {t : SetTable} {h : Int} (c q : Nat) : nth t.mask (prb t h c) q = prb t h (c + q) := (nth_add t.mask c _ q).symm
theorem prb_j {t : SetTable} {h : Int} (c : Nat) : (prb t h c).j = way t.mask h c := rfl
theorem nth_clean {m : Nat} : ∀ (n : Nat) {p : SetTable.Probe}, p.dummy = none → (nth m p n).dummy = none
  | 0, _, e => e
  | n + 1, p, e => nth_clean n (p := adv m p) (by unfold adv; split <;> exact e)
section
variable {P : Program} {w : World} {A : Around} {E : Value → Shared → Prop} {s : Shared} {a x : Addr} {L : List (Addr × List Int)} {es : Array (Int × Value)} {ep : Nat} {t : SetTable} {k : List Int}
theorem look_from (R : SetTR P w s.heap a L es ep t) (hx : IsT P w s.heap k x) (hu : A.units < cLine) {K : Nat} {hk : Int} (ehk : thash P w k = hk) (far : K < 10 * SetTable.turns t.mask) (hole : way t.mask hk K ∉ t.place.toList) (full : ∀ c, c < K → way t.mask hk c ∈ t.place.toList)
    {Q : SetFound → Shared → Prop} (yes : ∀ i, k ∈ L.map (·.2) → Q (.there (some i)) s) (no : k ∉ L.map (·.2) → Q (.free (way t.mask hk K) false) s) :
    ∀ (f c : Nat) (o : Option SetTable.Probe), o.getD (t.probeStart hk) = prb t hk c → c ≤ K → K - c < f →
      (∀ (i : Nat) (p : Addr × List Int), L[i]? = some p → p.2 = k → ∃ d, c ≤ d ∧ d < K ∧ t.place.toList[i]? = some (way t.mask hk d)) →
      wpAny (model P w) A (setSearchFrom a (.ref x) hk false f o) Q E s := by
  intro f
  induction f with
  | zero => exact fun c o _ _ z _ => absurd z (Nat.not_lt_zero _)
  | succ f ih =>
    intro c o eo hc hf ahead
    obtain ⟨ob, hob, hex, hd⟩ := R.ob
    rw [setSearchFrom_succ]
    refine wpAny_bind (wpAny_setState_of hob hd R.fits ?_)
    dsimp only
    refine wp_if_neg R.gw ?_
    try refine wpAny_bind (wpAny_pure ?_)
    have wj : ∀ q, (nth t.mask (prb t hk c) q).j = way t.mask hk (c + q) := fun q => by rw [prb_off, prb_j]
    have at_ : ∀ (i : Nat) (p : Addr × List Int), L[i]? = some p → (es[i]?.map (·.1)).getD 0 = thash P w p.2 := fun i p hp => by rw [R.entry hp]; rfl
    have same : ∀ (i : Nat) (p : Addr × List Int), L[i]? = some p → p.2 = k → (es[i]?.map (·.1)).getD 0 = hk := fun i p hp e => by rw [at_ i p hp, e, ehk]
    rcases go_spec t R.tab.ris R.tab.dm (fun i => (es[i]?.map (·.1)).getD 0) hk (10 * SetTable.turns t.mask) (K - c) (prb t hk c) (nth_clean c rfl) (by omega)
      (fun q hq => by rw [wj]; exact full _ (by omega)) (by rw [wj, show c + (K - c) = K by omega]; exact hole) with ⟨q, i, hq, hi, hh, first, met⟩ | ⟨first, met⟩
    · rw [wj] at hi met
      rw [prb_off] at met
      have met : t.probe (fun i => (es[i]?.map (·.1)).getD 0) hk (o.getD (t.probeStart hk)) = some (.candidate (way t.mask hk (c + q)) i (prb t hk (c + (q + 1)))) := by
        rw [eo]
        exact met
      rw [met]
      dsimp only
      have il : i < L.length := by
        have h1 := (List.getElem?_eq_some_iff.mp hi).1
        have h2 := R.tab.sz
        rw [List.length_map] at h2
        rw [Array.length_toList] at h1
        omega
      obtain ⟨p, hp⟩ : ∃ p, L[i]? = some p := ⟨_, List.getElem?_eq_getElem il⟩
      have pm := List.mem_of_getElem? hp
      have slot := slot_live R.tab.ris hi
      have rest : wpAny (model P w) A (searchRest a (.ref x) hk false f es t (way t.mask hk (c + q)) i (prb t hk (c + (q + 1)))) Q E s := by
        unfold searchRest
        rw [R.entry hp]
        dsimp only
        refine wpAny_bind (wpAny_holding (wpAny_eqBool_tuple hu (R.tup p pm) hx ?_))
        refine wpAny_bind (wpAny_setState_of hob hd R.fits ?_)
        dsimp only
        refine wp_if_neg (by simp) ?_
        try refine wpAny_bind (wpAny_pure ?_)
        rw [sameMem]
        dsimp only
        simp only [if_true, slot, R.entry hp]
        refine wpAny_bind (wpAny_isSame_ref_self (wpAny_bind (wpAny_pure ?_)))
        simp only [if_true]
        by_cases e : p.2 = k
        · refine wp_if_pos (by simp [e]) (wpAny_pure (yes i (List.mem_map.mpr ⟨p, pm, e⟩)))
        · refine wp_if_neg (by simp [e]) (ih (c + (q + 1)) _ rfl (by omega) (by omega) fun j z hz ez => ?_)
          obtain ⟨d, d1, d2, d3⟩ := ahead j z hz ez
          refine ⟨d, Classical.byContradiction fun nd => ?_, d2, d3⟩
          by_cases dq : d = c + q
          · rw [dq] at d3
            have two := slot_live R.tab.ris d3
            rw [slot] at two
            injection two with two
            rw [← two, hp] at hz
            exact e (by rw [Option.some.inj hz]; exact ez)
          · refine first (d - c) j (by omega) (by rw [wj, show c + (d - c) = d by omega]; exact d3) (same j z hz ez)
      by_cases hl : t.led = true
      · refine wp_if_neg (by simp [hl]) ?_
        try refine wpAny_bind (wpAny_pure ?_)
        exact rest
      · refine wp_if_pos (by simp [hl]) (wpAny_bind (seen_tup hx (fun y hy => ?_) ?_))
        · obtain ⟨e, he, rfl⟩ := List.mem_map.mp hy
          have he : e ∈ es.toList := by
            have : e ∈ es ∧ e.1 = hk := by simpa using he
            simpa using this.1
          rw [R.rows] at he
          obtain ⟨z, hz, rfl⟩ := List.mem_map.mp he
          exact ⟨z.2, z.1, rfl, R.tup z hz⟩
        · refine wp_if_neg (by decide) ?_
          try refine wpAny_bind (wpAny_pure ?_)
          exact rest
    · rw [wj, show c + (K - c) = K by omega] at met
      have met : t.probe (fun i => (es[i]?.map (·.1)).getD 0) hk (o.getD (t.probeStart hk)) = some (.empty (way t.mask hk K) none) := by
        rw [eo]
        exact met
      rw [met]
      dsimp only
      refine wpAny_pure (no fun hm => ?_)
      obtain ⟨z, hz, ez⟩ := List.mem_map.mp hm
      obtain ⟨j, hj⟩ := List.mem_iff_getElem?.mp hz
      obtain ⟨d, d1, d2, d3⟩ := ahead j z hj ez
      exact first (d - c) j (by omega) (by rw [wj, show c + (d - c) = d by omega]; exact d3) (same j z hj ez)
theorem look_at (R : SetTR P w s.heap a L es ep t) (hx : IsT P w s.heap k x) (hu : A.units < cLine) {Q : Option Nat → Shared → Prop} (q : ∀ r : Option Nat, r.isSome = decide (k ∈ L.map (·.2)) → Q r s) :
    wpAny (model P w) A (setFind a (.ref x) (thash P w k)) Q E s := by
  obtain ⟨ob, hob, hex, hd⟩ := R.ob
  have hroom := R.room
  obtain ⟨K, far, hole, full⟩ := R.tab.first (by rw [List.length_map]; omega) (thash P w k)
  have big : K < 100000 := by
    have : 10 * SetTable.turns t.mask ≤ 1420 := by
      unfold SetTable.turns
      rcases R.tab.mok with e | e | e <;> omega
    omega
  unfold setFind setFindIn
  refine wpAny_bind (wpAny_setState_of hob hd R.fits ?_)
  dsimp only
  refine wp_if_neg (by simp [byScan, Value.scannable]) ?_
  try refine wpAny_bind (wpAny_pure ?_)
  unfold setSearch
  refine wpAny_bind (look_from R hx hu rfl far hole full (fun i hm => ?_) (fun hm => ?_) 100000 0 none rfl (Nat.zero_le _) (by omega) fun i p hp e => ?_)
  · dsimp only
    exact wpAny_pure (q _ (by rw [decide_eq_true hm]; rfl))
  · dsimp only
    exact wpAny_pure (q _ (by rw [decide_eq_false hm]; rfl))
  · have hi : (L.map fun p => thash P w p.2)[i]? = some (thash P w k) := by rw [List.getElem?_map, hp, ← e]; rfl
    have il : i < t.place.toList.length := by
      have h1 := (List.getElem?_eq_some_iff.mp hp).1
      have h2 := R.tab.sz
      rw [List.length_map] at h2
      rw [Array.length_toList]
      omega
    have hj := List.getElem?_eq_getElem il
    obtain ⟨d, hd, e⟩ := R.tab.before hole hi hj
    exact ⟨d, Nat.zero_le _, hd, by rw [hj, e]⟩
end
def rSInT (P : Program) (w : World) (K : PySem.W.Frag) : V → V → Hp → VK → Prop := fun x y H Q => ∃ (b a : Addr) (k : List Int) (L : List (Addr × List Int)), x = V.ref b ∧ y = V.ref a ∧ H b = some (.tup (k.map V.int)) ∧ TSet P w K H a L ∧ Q (.bl (decide (k ∈ L.map (·.2)))) H
theorem or_sinT {X : Cx} (hu : X.A.units + 64 < cLine) : OpR X (compareOp .In) (rSInT X.prog X.w X.K) := by
  intro pins s σ H x y v u Q I rx ry h
  obtain ⟨b, a, k, L, rfl, rfl, hb, hS, q⟩ := h
  cases rx
  cases ry
  obtain ⟨es, ep, t, R⟩ := setTO_at I hS
  have hx : IsT X.prog X.w s.heap k b := I.isT (SqT.of hb)
  obtain ⟨o, ho, hex, hd⟩ := R.ob
  have hT : s.TypeIs (.ref a) "set" := ⟨o, ho, hex.1⟩
  show wpAny _ _ (do return Value.bool (← contains (Value.ref a) (Value.ref b))) _ _ s
  refine wpAny_bind ?_
  unfold contains
  try with_reducible refine wpAny_holding ?_
  refine wpAny_bind (wpAny_specialOf hT F.slot_set_contains.lookup ?_)
  show wpAny _ _ (if (some (Value.builtin "set.__contains__") == some Value.none) = true then _ else _) _ _ s
  rw [if_neg (by rw [beq_builtin_none]; exact Bool.false_ne_true)]
  have hu1 : X.A.in1.in1.units < cLine := by
    show X.A.units + 1 + 1 < cLine
    omega
  have hu2 : X.A.in1.units < cLine := by
    show X.A.units + 1 < cLine
    omega
  refine wpAny_bind (wpAny_callSpecialUnlessNone?_slot (name := Str.ofString "__contains__") hT F.slot_set_contains (wpAny_call_entry F.slot_set_contains hT entry_set_contains ?_ (F.args_set_contains_2 _ _)))
  unfold Builtin.«frozenset.__contains__» Builtin.Frozenset.oneOther
  simp only [List.isEmpty_nil, bind_assoc]
  unfold Builtin.Frozenset.addrOf Builtin.Frozenset.withSetAsKey setContains
  refine wpAny_bind (wpAny_pure ?_)
  try dsimp only
  refine wpAny_bind (wpAny_pure ?_)
  try dsimp only
  refine wpAny_bind (wpAny_tryCatch ?_)
  refine wpAny_holding ?_
  refine wpAny_bind (wpAny_pyHash_tuple (by first | exact hu2 | exact hu1) hx ?_)
  refine wpAny_bind (look_at (s := { s with toks := s.toks + (k.length + 1) }) R hx (by first | exact hu2 | exact hu1) fun r hr => ?_)
  refine wpAny_pure ?_
  show wpAny _ _ (ret (Value.bool r.isSome)) _ _ _
  rw [hr]
  exact wpAny_pure ⟨_, rfl, wpAny_truthy_bool (wpAny_pure ⟨.bl (decide (k ∈ L.map fun (z : Addr × List Int) => z.2)), H, I.tok _, rfl, q⟩)⟩
def tAddT (P : Program) (w : World) (K : PySem.W.Frag) (to : TE) (t : TA) : TE := fun σ H Q => to σ H fun x H1 => (∃ a L, x = V.ref a ∧ H1 a = some (SetTO P w a L)) ∧ t σ H1 fun xs H2 => rSAddT P w K x xs H2 Q
theorem pe_addT {X : Cx} {o e : Expr} {es : List Expr} {to : TE} {t : TA} {apos cpos : Pos} (hu : X.A.units + 64 < cLine) (ho : PE X o to) (ha : PA X (e :: es) t)
    (h1 : attributeBase o "add" X.env (eval o X.env) = eval o X.env := by rfl)
    (h2 : ((backTo cpos (starEach (e :: es) X.env)).all (fun x => !x.1) && (backToKw cpos (keywordEach [] X.env)).all (fun x => x.1.isSome) && decide ((e :: es).length + ([] : List Keyword).length + (if ([] : List Keyword).isEmpty then 0 else 1) < 30)) = true := by rfl)
    (h3 : (apos.endLine == cpos.line) = true := by rfl) (h4 : starEach (e :: es) X.env = (false, eval e X.env) :: starEach es X.env := by rfl) (h5 : (backTo cpos (starEach es X.env)).any (·.1) = false := by rfl) :
    PE X (.Call (.Attribute o "add" apos) (e :: es) [] cpos) (tAddT X.prog X.w X.K to t) := by
  refine ⟨fun pins s σ H Q I h => wpAny_Call_method_late h1 h2 h3 rfl (thn (ho.run pins s σ H _ I h) fun v s1 ⟨x, H1, I1, r1, ty, q1⟩ => ?_)⟩
  obtain ⟨a, L, rfl, hka⟩ := ty
  have R0 : SetT0 X.prog X.w s1.heap a L := (I1.hok a _ hka).1
  obtain ⟨es', ep, t', ⟨ob, hob, hex, hd⟩, _⟩ := R0.ex
  cases r1
  refine ⟨"set", "set.add", F.plainAttrs_set, F.slot_set_add, F.type_set_add, ⟨ob, hob, hex.1⟩, fun b e => ?_, ?_⟩
  · injection e with e
    subst e
    exact ⟨ob, hob, hex.2.1⟩
  have hA := ha.run cpos pins s1 σ H1 _ I1 q1
  rw [h4] at hA ⊢
  refine Calls.callWith_builtin (by show (false || (backTo cpos (starEach es X.env)).any (·.1)) = false; rw [h5]; rfl) (Calls.evalArgs_plain (thn hA fun us s2 ⟨vs, H2, I2, r2, q2⟩ => ?_))
  exact mt_saddT hu pins s2 σ H2 (.ref a) vs (.ref a) us Q I2 rfl r2 q2
/-- x is True, x is False; x anything plain -/
def rIsBx : R2 := fun x y H Q => ∃ b : Bool, y = .bl b ∧ Q (.bl (decide (x = .bl b))) H
theorem op_isBx {X : Cx} : OpR X (compareOp .Is) rIsBx := by
  intro pins s σ H x y v u Q I rx ry h
  obtain ⟨b, rfl, q⟩ := h
  cases (show u = Value.bool b from ry)
  by_cases e : x = .bl b
  · subst e
    cases (show v = Value.bool b from rx)
    exact wpAny_is_self rfl ⟨.bl true, H, I, rfl, by simpa using q⟩
  · have ne : v ≠ Value.bool b := fun z => by
      subst z
      cases x with
      | bl a => exact e (by rw [Value.bool.inj (show Value.bool b = Value.bool a from rx)])
      | non => cases rx
      | int i => obtain ⟨t, z⟩ := rx; cases z
      | str i => obtain ⟨t, z⟩ := rx; cases z
      | byt i => obtain ⟨t, z⟩ := rx; cases z
      | flt i => obtain ⟨t, z⟩ := rx; cases z
      | ref i => cases rx
      | ty i => cases rx
    rw [decide_eq_false e] at q
    refine wpAny_is_other ?_ ne ⟨.bl false, H, I, rfl, q⟩
    cases x <;> first
      | (cases rx; rfl)
      | (obtain ⟨t, rfl⟩ := rx; rfl)
end Kw

set_option maxRecDepth 100000
set_option maxHeartbeats 8000000
namespace K57
open PySem PySem.Spec PyProof.Rows L2 Kw
theorem rIx_q {K : PySem.W.Frag} {H : Hp} {a : Addr} {xs : List V} {i : Nat} {v : V} {Q : VK} (hA : SeqAt H a xs) (h : xs[i]? = some v) (q : Q v H) : rIx K (.ref a) (.int (i : Int)) H Q := by
  rcases hA with hA | hA
  · exact .inl ⟨a, xs, _, v, rfl, rfl, SqL.of hA, atI_nat h, q⟩
  · exact .inr (.inl ⟨a, xs, _, v, rfl, rfl, SqT.of hA, atI_nat h, q⟩)
def basesOf (ds : List Ent) (c : Nat) : List Nat := (ds.getD c ([], 0, [])).1
/-- a link: a class and a base of it -/
def linkB (ds : List Ent) (c b : Nat) : Bool := decide (c < ds.length) && (basesOf ds c).contains b
section
variable {P : Program} {w : World} {K : PySem.W.Frag} {mg : Str → Option Value} {base : Heap} {f fS fW fC C : Addr} {fd fdS fdW fdC : FuncData}
/-- a couple of whole numbers -/
def spCouple : Sp := fun vs H Q _ => ∃ (a : Addr) (x y : Nat), vs = [.ref a] ∧ SeqAt H a [natV x, natV y] ∧ ∀ H', Same H H' → Q (.bl true) H'
theorem sc_couple : FnScope ["thing"] ["thing"] (defScope (top 15)) := ⟨rfl, rfl, rfl, by decide +kernel, rfl, by decide +kernel, by decide +kernel⟩
theorem ok_couple (F : FnP K "is_whole_couple" 15 f fd) (B : Fr mg) (FS : FnP K "is_sequence" 12 fS fdS) (mS : mg "is_sequence" = some (.ref fS)) (FW : FnDf K "is_whole" 13 [.non, .non] fW fdW) (mW : mg "is_whole" = some (.ref fW)) : FnOk P w K mg base CX0 2 f fd ["thing"] spCouple := by
  have GS : FnOk P w K mg base CX0 1 fS fdS ["thing"] spIsSeq := ok_isSeq FS B
  have GW : FnOk P w K mg base CX0 1 fW fdW ["thing", "low", "high"] spWhole := ok_whole FW B
  have bS : L2.Binds K fdS ["thing"] [] := FS.bindsN fun _ _ _ _ _ _ us hl => match us, hl with | [_], _ => rfl
  obtain ⟨dsv, vds, bWh⟩ := binds_whole1 FW
  refine F.ok sc_couple (fun vs H Q E h => ?_) (fun cdv A outer s H vs Q E hr h => ?_)
  · obtain ⟨a, x, y, rfl, _⟩ := h
    rfl
  · obtain ⟨a, x, y, rfl, hA, k⟩ := h
    refine ⟨_, PSs.nox (pss_one (ps_ret (pe_and (pe_call GS hr (by rfl) mS FS.kp bS .nil pass0 (pa_cons (pv 0) pa_nil)) (pe_and (pe_cmpR op_eq (pe_callB call_len_seq (by rfl) B.len PySem.boot_len (pa_cons (pv 0) pa_nil)) pe_int (nomark _))
      (pe_and (pe_call GW hr (by rfl) mW FW.kp bWh vds pass0 (pa_cons (pe_ix ix_seq (pv 0) pe_int (fun _ _ => rfl)) pa_nil)) (pe_one (pe_call GW hr (by rfl) mW FW.kp bWh vds pass0 (pa_cons (pe_ix ix_seq (pv 0) pe_int (fun _ _ => rfl)) pa_nil)))))))), ?_⟩
    obtain ⟨t, ty, hseq⟩ := hA.ty
    refine ⟨_, rfl, .ref a, t, rfl, ty, fun H1 s1 => ?_⟩
    have hA1 := hA.same s1
    refine ⟨_, rfl, ?_⟩
    rw [hseq]
    refine iteT' rfl ?_
    refine ⟨_, rfl, a, _, rfl, hA1.sq, rfl, _, rfl, iteT' rfl ?_⟩
    refine ⟨_, rfl, rIx_q (i := 0) hA1 rfl ⟨_, _, _, "int", rfl, .int _, .inl rfl, .inl rfl, _, rfl, iteT' rfl ?_⟩⟩
    exact ⟨_, rfl, rIx_q (i := 1) hA1 rfl ⟨_, _, _, "int", rfl, .int _, .inl rfl, .inl rfl, k _ s1⟩⟩
def spLink (C : Addr) : Sp := fun vs H Q _ => ∃ (p a : Addr) (ds : List Ent) (c b : Nat), vs = [.ref p, .ref a] ∧ WorldAt H p C ds ∧ ds.length ≤ 12 ∧ SeqAt H a [natV c, natV b] ∧ ∀ H', Same H H' → Q (.bl (linkB ds c b)) H'
end
end K57

set_option maxRecDepth 100000
set_option maxHeartbeats 8000000
namespace K57
open PySem PySem.Spec PyProof.Rows L2 Kw
/-! ### ways: a class, a base of it, and so on -/
def IsWay (ds : List Ent) (ws : List Nat) : Prop := (∃ c, ws[0]? = some c ∧ c < ds.length) ∧ ∀ i c b, ws[i]? = some c → ws[i + 1]? = some b → b ∈ basesOf ds c
theorem basesOf_lt {ds : List Ent} (ok : DsOk ds) {c b : Nat} (h : b ∈ basesOf ds c) : b < c ∧ c < ds.length := by
  unfold basesOf at h
  rw [List.getD_eq_getElem?_getD] at h
  cases e : ds[c]? with
  | none =>
    rw [e] at h
    cases h
  | some d =>
    rw [e] at h
    exact ⟨(ok c d e).2.1 b h, (List.getElem?_eq_some_iff.mp e).1⟩
theorem IsWay.lt {ds : List Ent} {ws : List Nat} (h : IsWay ds ws) (ok : DsOk ds) : ∀ {i c : Nat}, ws[i]? = some c → c < ds.length
  | 0, c, e => by
    obtain ⟨c', e', l⟩ := h.1
    rw [e] at e'
    obtain rfl := Option.some.inj e'
    exact l
  | i + 1, b, e => by
    obtain ⟨c, hc⟩ : ∃ c, ws[i]? = some c := ⟨_, List.getElem?_eq_getElem (by have := (List.getElem?_eq_some_iff.mp e).1; omega)⟩
    have := basesOf_lt ok (h.2 i c b hc e)
    omega
/-- y goes on from the class c: a base of it -/
def stepB (ds : List Ent) (c : Nat) (y : V) : Bool := wholeB .non .non y && inV y ((basesOf ds c).map natV)
theorem stepB_nat {ds : List Ent} {c b : Nat} : stepB ds c (natV b) = (basesOf ds c).contains b := by
  unfold stepB
  rw [show wholeB .non .non (natV b) = true from rfl, Bool.true_and]
  exact inV_nat _ _
/-- a thing as a way: right, or the index of the first fault -/
inductive WayIs (H : Hp) (ds : List Ent) (x : V) : Option Nat → Prop where
  | odd {t : String} (ty : Ty0 H x t) (hs : seqT t = false) : WayIs H ds x (some 0)
  | none {a : Addr} (e : x = .ref a) (hA : SeqAt H a []) : WayIs H ds x (some 0)
  | first {a : Addr} {xs : List V} {y : V} {t : String} (e : x = .ref a) (hA : SeqAt H a xs) (hl : xs.length ≤ 1000) (hy : xs[0]? = some y) (ty : Ty0 H y t) (hb : wholeB (.int 0) (.int ((ds.length : Int) - 1)) y = false) : WayIs H ds x (some 0)
  | bad {a : Addr} {xs : List V} {i c : Nat} {ws : List Nat} {y : V} {t : String} (e : x = .ref a) (hA : SeqAt H a xs) (hl : xs.length ≤ 1000) (pre : xs.take (i + 1) = ws.map natV) (hw : IsWay ds ws) (hc : ws[i]? = some c) (hy : xs[i + 1]? = some y) (ty : Ty0 H y t) (hb : stepB ds c y = false) : WayIs H ds x (some (i + 1))
def GoodWay (H : Hp) (ds : List Ent) (x : V) (ws : List Nat) : Prop := ∃ a, x = .ref a ∧ SeqAt H a (ws.map natV) ∧ IsWay ds ws ∧ ws.length ≤ 1000
/-- a Links as an object -/
def LinksAt (H : Hp) (p Cl wp C : Addr) (ds : List Ent) (ls : List (Nat × Nat)) : Prop := ∃ dx st us, H p = some (.ins Cl dx [("world", .ref wp), ("shared", .ref st)]) ∧ WorldAt H wp C ds ∧ H st = some (.tup us) ∧ PairsAt H us ls
theorem LinksAt.mono {H H' : Hp} {p Cl wp C : Addr} {ds : List Ent} {ls : List (Nat × Nat)} (h : LinksAt H p Cl wp C ds ls) (s : Same H H') : LinksAt H' p Cl wp C ds ls := by
  obtain ⟨dx, st, us, h1, h2, h3, h4⟩ := h
  exact ⟨dx, st, us, s _ _ h1, h2.mono s, s _ _ h3, h4.same s⟩
section
variable {P : Program} {w : World} {K : PySem.W.Frag} {mg : Str → Option Value} {base : Heap} {f fS fW fG C Cl Cg : Addr} {fd fdS fdW fdG : FuncData}
def spWay (C Cl Cg : Addr) : Sp := fun vs H Q E => ∃ (p wp : Addr) (x : V) (ds : List Ent) (ls : List (Nat × Nat)), vs = [.ref p, x] ∧ LinksAt H p Cl wp C ds ls ∧ DsOk ds ∧ ds.length ≤ 12 ∧
  ((∃ ws, GoodWay H ds x ws ∧ ∀ t H', Same H H' → H' t = some (.tup (ws.map natV)) → Q (.ref t) H') ∨
   (∃ i, WayIs H ds x (some i) ∧ ∀ d H', Same H H' → H' d = some (.xd (errF ["index"] [.int (i : Nat)])) → E (.ref Cg) (some d) H'))
end
end K57

set_option maxRecDepth 100000
set_option maxHeartbeats 8000000
namespace K57
open PySem PySem.Spec PyProof.Rows L2 Kw
/-- where the last shared link of the way's first links begins -/
def begN (ls : List (Nat × Nat)) (ws : List Nat) : Nat → Nat
  | 0 => 0
  | j + 1 => if (ws.getD j 0, ws.getD (j + 1) 0) ∈ ls then j + 1 else begN ls ws j
def cutW (ls : List (Nat × Nat)) (ws : List Nat) : List Nat := ws.drop (begN ls ws (ws.length - 1))
theorem begN_le {ls : List (Nat × Nat)} {ws : List Nat} : ∀ {j : Nat}, begN ls ws j ≤ j
  | 0 => Nat.le_refl _
  | j + 1 => by
    unfold begN
    split
    · exact Nat.le_refl _
    · exact Nat.le_trans begN_le (Nat.le_succ _)
theorem IsWay.link {ds : List Ent} {ws : List Nat} (h : IsWay ds ws) (ok : DsOk ds) {i c b : Nat} (hc : ws[i]? = some c) (hb : ws[i + 1]? = some b) : linkB ds c b = true := by
  unfold linkB
  rw [decide_eq_true (h.lt ok hc), Bool.true_and]
  exact List.contains_iff_mem.mpr (h.2 i c b hc hb)
theorem cut_q {K : PySem.W.Frag} {H : Hp} {a : Addr} {xs : List V} {g : Nat} {Q : VK} (hg : g ≤ xs.length) (ha : H a = some (.tup xs)) (q : ∀ t H', Same H H' → H' t = some (.tup (xs.drop g)) → Q (.ref t) H') : rSlA K (.ref a) (some (g : Int)) none H Q := by
  have ec : cutV xs (some (g : Int)) none = xs.drop g := by
    unfold cutV
    rw [HT.sIx_nat, HT.sIx_none, Nat.min_eq_left hg, List.take_of_length_le (by rw [List.length_drop]; exact Nat.le_refl _)]
  refine ⟨a, xs, rfl, SqT.of ha, fun z => ?_, fun _ p hp => ?_⟩
  · have : g = 0 := by
      have := z.1
      rw [HT.sIx_nat] at this
      omega
    subst this
    exact q a H (Same.refl _) ha
  · rw [ec]
    exact q p _ (same_new hp) upd_same
section
variable {P : Program} {w : World} {K : PySem.W.Frag} {mg : Str → Option Value} {base : Heap} {f fI fK fSh C Cl Cg : Addr} {fd fdI fdK fdSh : FuncData}
def spShared (C Cl : Addr) : Sp := fun vs H Q _ => ∃ (p wp : Addr) (ds : List Ent) (ls : List (Nat × Nat)) (c b : Nat), vs = [.ref p, natV c, natV b] ∧ LinksAt H p Cl wp C ds ls ∧ ds.length ≤ 12 ∧ linkB ds c b = true ∧ ∀ H', Same H H' → Q (.bl (decide ((c, b) ∈ ls))) H'
def spCut (C Cl Cg : Addr) : Sp := fun vs H Q E => ∃ (p wp : Addr) (x : V) (ds : List Ent) (ls : List (Nat × Nat)), vs = [.ref p, x] ∧ LinksAt H p Cl wp C ds ls ∧ DsOk ds ∧ ds.length ≤ 12 ∧
  ((∃ ws, GoodWay H ds x ws ∧ ∀ t H', Same H H' → H' t = some (.tup ((cutW ls ws).map natV)) → Q (.ref t) H') ∨
   (∃ i, WayIs H ds x (some i) ∧ ∀ d H', Same H H' → H' d = some (.xd (errF ["index"] [.int (i : Nat)])) → E (.ref Cg) (some d) H'))
end
end K57

set_option maxRecDepth 100000
set_option maxHeartbeats 8000000
namespace K57
open PySem PySem.Spec PyProof.Rows L2 Kw
theorem ne_self'' {x : V} : (!decide (x = x)) = false := by rw [decide_eq_true rfl]; rfl
theorem ne_len' {m n : Nat} (h : m ≠ n) : (!decide (natV m = natV n)) = true := by
  rw [decide_eq_false fun e => h (by have := V.int.inj e; omega)]
  rfl
theorem eqv_dN (a b : Nat) : PyData.eqv (dN a) (dN b) = decide (a = b) := by
  unfold dN
  simp only [PyData.eqv]
  by_cases z : a = b
  · rw [z]
    simp
  · rw [decide_eq_false z]
    exact beq_eq_false_iff_ne.mpr (by omega)
theorem eqvA_dN : ∀ (l m : List Nat), PyData.eqvAll (l.map dN) (m.map dN) = decide (l = m)
  | [], [] => by simp [PyData.eqvAll]
  | [], _ :: _ => by simp [PyData.eqvAll]
  | _ :: _, [] => by simp [PyData.eqvAll]
  | a :: l, b :: m => by
    rw [List.map_cons, List.map_cons, PyData.eqvAll, eqv_dN, eqvA_dN l m]
    by_cases z : a = b
    · by_cases y : l = m
      · rw [z, y]
        simp
      · simp [z, y]
    · simp [z]
theorem eqv_dNs (l m : List Nat) : PyData.eqv (dNs l) (dNs m) = decide (l = m) := by
  unfold dNs
  rw [← eqvA_dN]
  simp [PyData.eqv]
theorem WayIs.same {H H' : Hp} {ds : List Ent} {x : V} {o : Option Nat} (h : WayIs H ds x o) (s : Same H H') : WayIs H' ds x o := by
  cases h with
  | odd ty hs => exact .odd (ty.same s) hs
  | none e hA => exact .none e (hA.same s)
  | first e hA hl hy ty hb => exact .first e (hA.same s) hl hy (ty.same s) hb
  | bad e hA hl pre hw hc hy ty hb => exact .bad e (hA.same s) hl pre hw hc hy (ty.same s) hb
theorem GoodWay.same {H H' : Hp} {ds : List Ent} {x : V} {ws : List Nat} (h : GoodWay H ds x ws) (s : Same H H') : GoodWay H' ds x ws := by
  obtain ⟨a, e, hA, hw⟩ := h
  exact ⟨a, e, hA.same s, hw⟩
section
variable {P : Program} {w : World} {K : PySem.W.Frag} {mg : Str → Option Value} {base : Heap} {f fK fU fG C Cl Cg : Addr} {fd fdK fdU fdG : FuncData}
def spAgree (C Cl Cg : Addr) : Sp := fun vs H Q E => ∃ (p wp : Addr) (x y : V) (ds : List Ent) (ls : List (Nat × Nat)), vs = [.ref p, x, y] ∧ LinksAt H p Cl wp C ds ls ∧ DsOk ds ∧ ds.length ≤ 12 ∧
  ((∃ i, WayIs H ds x (some i) ∧ ∀ d H', Same H H' → H' d = some (.xd (errF ["index"] [.int (i : Nat)])) → E (.ref Cg) (some d) H') ∨
   ∃ v, GoodWay H ds x v ∧
    ((∃ i, WayIs H ds y (some i) ∧ ∀ d H', Same H H' → H' d = some (.xd (errF ["index"] [.int (i : Nat)])) → E (.ref Cg) (some d) H') ∨
     ∃ u, GoodWay H ds y u ∧
      ((v[0]? ≠ u[0]? ∧ ∀ d H', Same H H' → H' d = some (.xd (errF ["index"] [.int ((0 : Nat) : Int)])) → E (.ref Cg) (some d) H') ∨
       (v[0]? = u[0]? ∧ ∀ H', Same H H' → Q (.bl (decide (cutW ls v = cutW ls u))) H'))))
end
end K57

set_option maxRecDepth 100000
set_option maxHeartbeats 8000000
namespace K57
open PySem PySem.Spec PyProof.Rows L2 Kw
/-! ### kinds: the mathematics of what keeps them -/
structure KOk (n : Nat) (js : List (Nat × Nat)) (lone : List Nat) : Prop where
  lo : 1 ≤ n
  hi : n ≤ 5
  so : SortP js
  lt : ∀ p ∈ js, p.1 < p.2 ∧ p.2 < n
  up : lone.Pairwise (· < ·)
  bl : ∀ x ∈ lone, x < n
def joinedB (js : List (Nat × Nat)) (x y : Nat) : Bool := decide ((min x y, max x y) ∈ js)
def gAt (gs : List Nat) (c : Nat) : Nat := gs.getD c 0
def pairW (els : List (List Nat)) (js : List (Nat × Nat)) (gs : List Nat) (a b : Nat) : Option Str :=
  if gAt gs a = gAt gs b then (if onLine els a b = true then none else some ("line" : Str)) else (if joinedB js (gAt gs a) (gAt gs b) = true then none else some ("kind" : Str))
def rowW (els : List (List Nat)) (js : List (Nat × Nat)) (gs : List Nat) (a : Nat) (bs : List Nat) : Option (Nat × Nat × Str) := bs.findSome? fun b => (pairW els js gs a b).map fun w => (a, b, w)
def lotW (els : List (List Nat)) (js : List (Nat × Nat)) (gs lot : List Nat) : Option (Nat × Nat × Str) := firstS lot.length fun i => rowW els js gs (lot.getD i 0) (lot.drop (i + 1))
def kinL (els : List (List Nat)) (c : Nat) : List Nat := els.getD c [] ++ [c]
def breachC (els : List (List Nat)) (flds : Nat) (js : List (Nat × Nat)) (lone gs : List Nat) (c : Nat) : Option (Nat × Nat × Nat × Str) :=
  if (decide (0 < flds) && lone.contains (gAt gs c)) = true then some (c, c, c, ("bare" : Str)) else (lotW els js gs (kinL els c)).map fun z => (c, z)
def fldsOf (ds : List Ent) (c : Nat) : Nat := (ds.getD c ([], 0, [])).2.1
def breachD (ds : List Ent) (js : List (Nat × Nat)) (lone gs : List Nat) (c : Nat) : Option (Nat × Nat × Nat × Str) := breachC (elsOf ds) (fldsOf ds c) js lone gs c
def breachA (ds : List Ent) (js : List (Nat × Nat)) (lone gs : List Nat) : Option (Nat × Nat × Nat × Str) := firstS ds.length (breachD ds js lone gs)
theorem fs_none {α β : Type} {g : α → Option β} {xs : List α} {j : Nat} {x : α} (h : (xs.take j).findSome? g = none) (hx : xs[j]? = some x) (e : g x = none) : (xs.take (j + 1)).findSome? g = none := by
  rw [List.take_add_one, hx, Option.toList_some, List.findSome?_append, h]
  simp [e]
theorem fs_hit {α β : Type} {g : α → Option β} {xs : List α} {j : Nat} {x : α} {r : β} (h : (xs.take j).findSome? g = none) (hx : xs[j]? = some x) (e : g x = some r) : xs.findSome? g = some r := by
  obtain ⟨h1, h2⟩ := List.getElem?_eq_some_iff.mp hx
  rw [← List.take_append_drop j xs, List.findSome?_append, h, List.drop_eq_getElem_cons h1, h2, List.findSome?_cons, e]
  rfl
theorem first_hit {α : Type} {f : Nat → Option α} {k i : Nat} {r : α} (h : ∀ j, j < i → f j = none) (hi : i < k) (e : f i = some r) : firstS k f = some r := firstS_some.mpr ⟨i, hi, e, h⟩
/-! ### a Kinds as an object -/
def KFs (n : Nat) (aj ab : Addr) : List (Str × V) := [("many", natV n), ("joined", .ref aj), ("bare", .ref ab)]
def KindsAt (H : Hp) (p Ck : Addr) (n : Nat) (js : List (Nat × Nat)) (lone : List Nat) : Prop := ∃ dx aj ab us, H p = some (.ins Ck dx (KFs n aj ab)) ∧ H aj = some (.tup us) ∧ PairsAt H us js ∧ H ab = some (.tup (lone.map natV))
theorem PairsAt.ki {H H' : Hp} (k : KI H H') : ∀ {us : List V} {ps : List (Nat × Nat)}, PairsAt H us ps → PairsAt H' us ps
  | [], [], _ => .nil
  | _ :: _, _ :: _, .cons ⟨t, e, h⟩ r => .cons ⟨t, e, k _ _ h nh_tup⟩ (PairsAt.ki k r)
theorem KindsAt.ki {H H' : Hp} {p Ck : Addr} {n : Nat} {js : List (Nat × Nat)} {lone : List Nat} (h : KindsAt H p Ck n js lone) (k : KI H H') : KindsAt H' p Ck n js lone := by
  obtain ⟨dx, aj, ab, us, h1, h2, h3, h4⟩ := h
  exact ⟨dx, aj, ab, us, k _ _ h1 nh_ins, k _ _ h2 nh_tup, h3.ki k, k _ _ h4 nh_tup⟩
theorem KindsAt.mono {H H' : Hp} {p Ck : Addr} {n : Nat} {js : List (Nat × Nat)} {lone : List Nat} (h : KindsAt H p Ck n js lone) (s : Same H H') : KindsAt H' p Ck n js lone := h.ki (KI.of s)
section
variable {P : Program} {w : World} {K : PySem.W.Frag} {mg : Str → Option Value} {base : Heap} {f fW fC Ck : Addr} {fd fdW fdC : FuncData}
def spKind (Ck : Addr) : Sp := fun vs H Q _ => ∃ (p : Addr) (n x : Nat) (js : List (Nat × Nat)) (lone : List Nat), vs = [.ref p, natV x] ∧ KindsAt H p Ck n js lone ∧ x < n ∧ Q (natV x) H
def spIsBare (Ck : Addr) : Sp := fun vs H Q _ => ∃ (p : Addr) (n x : Nat) (js : List (Nat × Nat)) (lone : List Nat), vs = [.ref p, natV x] ∧ KindsAt H p Ck n js lone ∧ x < n ∧ Q (.bl (lone.contains x)) H
def spJoined (Ck : Addr) : Sp := fun vs H Q _ => ∃ (p : Addr) (n x y : Nat) (js : List (Nat × Nat)) (lone : List Nat), vs = [.ref p, natV x, natV y] ∧ KindsAt H p Ck n js lone ∧ x < n ∧ y < n ∧ ∀ H', Same H H' → Q (.bl (joinedB js x y)) H'
theorem min_nat {x y : Nat} : (if (y : Int) < (x : Int) then (y : Int) else (x : Int)) = ((min x y : Nat) : Int) := by
  by_cases h : y < x
  · rw [if_pos (by omega)]
    omega
  · rw [if_neg (by omega)]
    omega
theorem max_nat {x y : Nat} : (if (x : Int) < (y : Int) then (y : Int) else (x : Int)) = ((max x y : Nat) : Int) := by
  by_cases h : x < y
  · rw [if_pos (by omega)]
    omega
  · rw [if_neg (by omega)]
    omega
end
end K57

set_option maxRecDepth 100000
set_option maxHeartbeats 8000000
namespace K57
open PySem PySem.Spec PyProof.Rows L2 Kw
section
variable {P : Program} {w : World} {K : PySem.W.Frag} {mg : Str → Option Value} {base : Heap} {f fW fC fL fN fJ fI fS fU C Cn Cb Ck : Addr} {fd fdW fdC fdL fdN fdJ fdI fdS fdU : FuncData}
/-! ### Breach -/
def spBreachI (Cb : Addr) : Sp := fun vs H Q _ => ∃ (p dx : Addr) (x y z v : V), vs = [.ref p, x, y, z, v] ∧ H p = some (.ins Cb dx []) ∧ ∀ H', Oth p H H' → H' p = some (.ins Cb dx [("cls", x), ("first", y), ("second", z), ("what", v)]) → Q .non H'
def BrAt (H : Hp) (p Cb : Addr) (z : Nat × Nat × Nat × Str) : Prop := ∃ dx, H p = some (.ins Cb dx [("cls", natV z.1), ("first", natV z.2.1), ("second", natV z.2.2.1), ("what", .str z.2.2.2)])
def OptBr (H : Hp) (Cb : Addr) (v : V) (o : Option (Nat × Nat × Nat × Str)) : Prop := (o = none ∧ v = .non) ∨ ∃ z p, o = some z ∧ v = .ref p ∧ BrAt H p Cb z
/-! ### pair_fault -/
def optS : Option Str → V
  | none => .non
  | some z => .str z
def spPairF (C Ck : Addr) : Sp := fun vs H Q _ => ∃ (p q g : Addr) (ds : List Ent) (n : Nat) (js : List (Nat × Nat)) (lone gs : List Nat) (a b : Nat), vs = [.ref p, .ref q, .ref g, natV a, natV b] ∧ WorldAt H p C ds ∧ KindsAt H q Ck n js lone ∧ H g = some (.tup (gs.map natV)) ∧ gs.length = ds.length ∧ (∀ x ∈ gs, x < n) ∧ a < ds.length ∧ b < ds.length ∧
  ∀ H', Same H H' → Q (optS (pairW (elsOf ds) js gs a b)) H'
theorem gAt_get {gs : List Nat} {c : Nat} (h : c < gs.length) : (gs.map natV)[c]? = some (natV (gAt gs c)) := by
  rw [List.getElem?_map, List.getElem?_eq_getElem h]
  show some (natV gs[c]) = some (natV (gs.getD c 0))
  rw [List.getD_eq_getElem?_getD, List.getElem?_eq_getElem h]
  rfl
theorem gAt_mem {gs : List Nat} {c : Nat} (h : c < gs.length) : gAt gs c ∈ gs := by
  unfold gAt
  rw [List.getD_eq_getElem?_getD, List.getElem?_eq_getElem h]
  exact List.getElem_mem h
theorem nat_eq {x y : Nat} : decide (natV x = natV y) = decide (x = y) := by
  by_cases h : x = y
  · rw [h, decide_eq_true rfl, decide_eq_true rfl]
  · rw [decide_eq_false h, decide_eq_false fun e => h (by have := V.int.inj (show V.int (x : Int) = V.int (y : Int) from e); omega)]
end
end K57

set_option maxRecDepth 100000
set_option maxHeartbeats 8000000
namespace K57
open PySem PySem.Spec PyProof.Rows L2 Kw
theorem kinL_kins {ds : List Ent} {c : Nat} (hc : c < ds.length) : kinL (elsOf ds) c = (kins (elsOf ds)).getD c [] := (kins_els hc).symm
theorem kinL_len {ds : List Ent} (ok : DsOk ds) {c : Nat} (hc : c < ds.length) (h12 : ds.length ≤ 12) : (kinL (elsOf ds) c).length ≤ 12 := by
  rw [kinL_kins hc]
  exact kin_len ok hc h12
theorem kinL_lt {ds : List Ent} (ok : DsOk ds) {c x : Nat} (hc : c < ds.length) (h : x ∈ kinL (elsOf ds) c) : x < ds.length := by
  rw [kinL_kins hc] at h
  have := ok.kins.le c (by rw [kinsL]; exact hc) x h
  omega
theorem set_if {σ : L2.St} {H : Hp} {c : TT} {t e rest : TS} {D : Ends} (Inv : L2.St → Hp → Prop) (k : ∀ σ H, Inv σ H → rest D σ H) (h : ∀ N : L2.St → Hp → Prop, (∀ σ H, Inv σ H → N σ H) → tIfS c t e { D with nx := N } σ H) : tSeq (tIfS c t e) rest D σ H := h _ k
theorem optS_non (o : Option Str) : decide (optS o = V.non) = o.isNone := by
  cases o with
  | none => exact decide_eq_true rfl
  | some z => exact decide_eq_false fun e => by cases e
theorem getD_get {l : List Nat} {i a : Nat} (h : l[i]? = some a) : l.getD i 0 = a := by
  rw [List.getD_eq_getElem?_getD, h]
  rfl
section
variable {P : Program} {w : World} {K : PySem.W.Frag} {mg : Str → Option Value} {base : Heap} {f fW fC fN fB fI fS fP fG fA C Cn Cb Cg Ck : Addr} {fd fdW fdC fdN fdB fdI fdS fdP fdG fdA : FuncData}
def spBr (C Cb Ck : Addr) : Sp := fun vs H Q _ => ∃ (p q g : Addr) (ds : List Ent) (n : Nat) (js : List (Nat × Nat)) (lone gs : List Nat) (c : Nat), vs = [.ref p, .ref q, .ref g, natV c] ∧ WorldAt H p C ds ∧ DsOk ds ∧ ds.length ≤ 12 ∧ KindsAt H q Ck n js lone ∧ H g = some (.tup (gs.map natV)) ∧ gs.length = ds.length ∧ (∀ x ∈ gs, x < n) ∧ c < ds.length ∧
  ∀ v H', Same H H' → OptBr H' Cb v (breachD ds js lone gs c) → Q v H'
end
end K57

set_option maxRecDepth 100000
set_option maxHeartbeats 8000000
namespace K57
open PySem PySem.Spec PyProof.Rows L2 Kw
theorem ne_self' {x : V} : (!decide (x = x)) = false := by rw [decide_eq_true rfl]; rfl
theorem ne_len {m n : Nat} (h : m ≠ n) : (!decide (V.int (m : Int) = V.int (n : Int))) = true := by
  rw [decide_eq_false fun e => h (by have := V.int.inj e; omega)]
  rfl
section
variable {P : Program} {w : World} {K : PySem.W.Frag} {mg : Str → Option Value} {base : Heap} {f fW fC fN fB fI fS fP fG fA C Cn Cb Cg Ck : Addr} {fd fdW fdC fdN fdB fdI fdS fdP fdG fdA : FuncData}
/-- a row of kinds given: right, or the index of the first that is wrong -/
inductive GivenIs (H : Hp) (m n : Nat) (x : V) : Option Nat → Prop where
  | odd {t : String} (ty : Ty0 H x t) (hs : seqT t = false) : GivenIs H m n x (some 0)
  | len {a : Addr} {xs : List V} (e : x = .ref a) (hA : SeqAt H a xs) (hl : xs.length ≠ m) (h64 : xs.length ≤ 1000) : GivenIs H m n x (some 0)
  | bad {a : Addr} {xs : List V} {i : Nat} {y : V} {t : String} (e : x = .ref a) (hA : SeqAt H a xs) (hl : xs.length = m) (pre : ∀ j z, j < i → xs[j]? = some z → ∃ k : Nat, z = natV k ∧ k < n) (hy : xs[i]? = some y) (ty : Ty0 H y t) (hb : wholeB (.int 0) (.int ((n : Int) - 1)) y = false) : GivenIs H m n x (some i)
  | good {a : Addr} {gs : List Nat} (e : x = .ref a) (hA : SeqAt H a (gs.map natV)) (hl : gs.length = m) (hn : ∀ k ∈ gs, k < n) : GivenIs H m n x none
def GoodAt (H : Hp) (m n : Nat) (x : V) (gs : List Nat) : Prop := ∃ a, x = .ref a ∧ SeqAt H a (gs.map natV) ∧ gs.length = m ∧ ∀ k ∈ gs, k < n
def BadAt (H : Hp) (m n : Nat) (x : V) (i : Nat) : Prop := GivenIs H m n x (some i)
def spGiven (C Ck Cg : Addr) : Sp := fun vs H Q E => ∃ (p q : Addr) (x : V) (ds : List Ent) (n : Nat) (js : List (Nat × Nat)) (lone : List Nat), vs = [.ref p, .ref q, x] ∧ WorldAt H p C ds ∧ ds.length ≤ 12 ∧ KindsAt H q Ck n js lone ∧
  ((∃ gs, GoodAt H ds.length n x gs ∧ ∀ t H', Same H H' → H' t = some (.tup (gs.map natV)) → Q (.ref t) H') ∨
   (∃ i, BadAt H ds.length n x i ∧ ∀ d H', Same H H' → H' d = some (.xd (errF ["index"] [.int (i : Nat)])) → E (.ref Cg) (some d) H'))
end
end K57

set_option maxRecDepth 100000
set_option maxHeartbeats 8000000
namespace K57
open PySem PySem.Spec PyProof.Rows L2 Kw
theorem cut_headT (xs : List V) (i : Nat) (h : i < xs.length) : ¬ (HT.sIx xs.length 0 none = 0 ∧ HT.sIx xs.length xs.length (some (i : Int)) = xs.length) ∧ cutV xs none (some (i : Int)) = xs.take i := by
  constructor
  · rw [HT.sIx_nat]
    omega
  · unfold cutV
    rw [HT.sIx_nat, HT.sIx_none, Nat.min_eq_left (by omega)]
    simp
theorem OptBr.non {H : Hp} {Cb : Addr} {v : V} {o : Option (Nat × Nat × Nat × Str)} (h : OptBr H Cb v o) : (!decide (v = V.non)) = o.isSome := by
  rcases h with ⟨rfl, rfl⟩ | ⟨z, p, rfl, rfl, _⟩
  · rfl
  · rw [decide_eq_false fun e => by cases e]
    rfl
section
variable {P : Program} {w : World} {K : PySem.W.Frag} {mg : Str → Option Value} {base : Heap} {f fW fB fS fG fR fJ C Cn Cb Cg Ck Cd : Addr} {fd fdW fdB fdS fdG fdR fdJ : FuncData}
def spKept (C Cb Ck Cg : Addr) : Sp := fun vs H Q E => ∃ (p q : Addr) (x : V) (ds : List Ent) (n : Nat) (js : List (Nat × Nat)) (lone : List Nat), vs = [.ref p, .ref q, x] ∧ WorldAt H p C ds ∧ DsOk ds ∧ ds.length ≤ 12 ∧ KindsAt H q Ck n js lone ∧
  ((∃ gs, GoodAt H ds.length n x gs ∧ ∀ v H', Same H H' → OptBr H' Cb v (breachA ds js lone gs) → Q v H') ∨
   (∃ i, BadAt H ds.length n x i ∧ ∀ d H', Same H H' → H' d = some (.xd (errF ["index"] [.int (i : Nat)])) → E (.ref Cg) (some d) H'))
/-! ### the constructor of Kinds, given what is right -/
def spRowF : Sp := fun vs H Q _ => ∃ (a : Addr) (n : Nat) (xs : List Nat), vs = [.ref a, natV n] ∧ SeqAt H a (xs.map natV) ∧ xs.Nodup ∧ (∀ x ∈ xs, x < n) ∧ xs.length ≤ 1000 ∧ ∀ H', Same H H' → Q .non H'
/-- couples as given: each a list or a tuple of two, either way round -/
def normP (q : Nat × Nat) : Nat × Nat := (min q.1 q.2, max q.1 q.2)
def CouplesAt (H : Hp) : List V → List (Nat × Nat) → Prop := Paired fun v q => ∃ t, v = .ref t ∧ SeqAt H t [natV q.1, natV q.2]
theorem CouplesAt.same {H H' : Hp} (s : Same H H') : ∀ {us : List V} {qs : List (Nat × Nat)}, CouplesAt H us qs → CouplesAt H' us qs
  | [], [], _ => .nil
  | _ :: _, _ :: _, .cons ⟨t, e, h⟩ r => .cons ⟨t, e, h.same s⟩ (CouplesAt.same s r)
theorem CouplesAt.len {H : Hp} {us : List V} {qs : List (Nat × Nat)} (h : CouplesAt H us qs) : us.length = qs.length := Paired.length h
theorem CouplesAt.at {H : Hp} {us : List V} {qs : List (Nat × Nat)} (h : CouplesAt H us qs) : ∀ {j : Nat} {v : V}, us[j]? = some v → ∃ q t, qs[j]? = some q ∧ v = .ref t ∧ SeqAt H t [natV q.1, natV q.2] := by
  induction h with
  | nil => intro j v hj; simp at hj
  | cons z _ ih =>
    intro j v hj
    obtain ⟨t, e, h⟩ := z
    cases j with
    | zero => exact ⟨_, t, rfl, by rw [← e]; exact (Option.some.inj hj).symm, h⟩
    | succ j => exact ih (j := j) hj
structure CoupOk (n : Nat) (qs : List (Nat × Nat)) : Prop where
  ne : ∀ q ∈ qs, q.1 ≠ q.2 ∧ q.1 < n ∧ q.2 < n
  nd : (qs.map normP).Nodup
  few : qs.length ≤ 25
def codeP (q : Nat × Nat) : List Int := [((normP q).1 : Int), ((normP q).2 : Int)]
theorem codeP_inj {q r : Nat × Nat} (h : codeP q = codeP r) : normP q = normP r := by
  unfold codeP at h
  have h1 := (List.cons.inj h).1
  have h2 := (List.cons.inj (List.cons.inj h).2).1
  exact Prod.ext (by omega) (by omega)
theorem norm_sorted {q : Nat × Nat} {ys : List Int} (ne : q.1 ≠ q.2) (p : ys.Perm [(q.1 : Int), (q.2 : Int)]) (so : ys.Pairwise (· ≤ ·)) : ys = codeP q := by
  match ys, p.length_eq with
  | [u, v], _ =>
    have le : u ≤ v := List.rel_of_pairwise_cons so List.mem_cons_self
    have m1 : (q.1 : Int) ∈ [u, v] := p.mem_iff.mpr List.mem_cons_self
    have m2 : (q.2 : Int) ∈ [u, v] := p.mem_iff.mpr (List.mem_cons_of_mem _ List.mem_cons_self)
    have n1 : u ∈ [(q.1 : Int), (q.2 : Int)] := p.mem_iff.mp List.mem_cons_self
    have n2 : v ∈ [(q.1 : Int), (q.2 : Int)] := p.mem_iff.mp (List.mem_cons_of_mem _ List.mem_cons_self)
    simp only [List.mem_cons, List.not_mem_nil, or_false] at m1 m2 n1 n2
    unfold codeP normP
    show [u, v] = [((min q.1 q.2 : Nat) : Int), ((max q.1 q.2 : Nat) : Int)]
    have e1 : u = ((min q.1 q.2 : Nat) : Int) := by omega
    have e2 : v = ((max q.1 q.2 : Nat) : Int) := by omega
    rw [e1, e2]
def spJoinF : Sp := fun vs H Q _ => ∃ (a : Addr) (n : Nat) (us : List V) (qs : List (Nat × Nat)), vs = [.ref a, natV n] ∧ SeqAt H a us ∧ CouplesAt H us qs ∧ CoupOk n qs ∧ ∀ H', Same H H' → Q .non H'
end
end K57

set_option maxRecDepth 100000
set_option maxHeartbeats 8000000
namespace K57
open PySem PySem.Spec PyProof.Rows L2 Kw
/-! ### sorted of couples -/
def keyP (H : Hp) : V → Int × Int
  | .ref t => match H t with
    | some (.tup [.int i, .int j]) => (i, j)
    | _ => (0, 0)
  | _ => (0, 0)
theorem keyP_at {H : Hp} {t : Addr} {i j : Nat} (h : H t = some (.tup [natV i, natV j])) : keyP H (.ref t) = ((i : Int), (j : Int)) := by
  show (match H t with | some (.tup [.int i, .int j]) => (i, j) | _ => (0, 0)) = _
  rw [h]
  rfl
theorem PairsAt.mem {H : Hp} : ∀ {us : List V} {ps : List (Nat × Nat)}, PairsAt H us ps → ∀ x ∈ us, ∃ t i j, x = .ref t ∧ H t = some (.tup [natV i, natV j])
  | [], [], _, x, hx => by cases hx
  | _ :: _, _ :: _, .cons ⟨t, e, h⟩ r, x, hx => by
    rcases List.mem_cons.mp hx with rfl | hx
    · exact ⟨t, _, _, e, h⟩
    · exact PairsAt.mem r x hx
def natP (H : Hp) (v : V) : Nat × Nat := ((keyP H v).1.toNat, (keyP H v).2.toNat)
theorem PairsAt.of_mem {H : Hp} : ∀ {us : List V}, (∀ x ∈ us, ∃ t i j, x = .ref t ∧ H t = some (.tup [natV i, natV j])) → PairsAt H us (us.map (natP H))
  | [], _ => .nil
  | u :: us, h => by
    obtain ⟨t, i, j, e, ht⟩ := h u List.mem_cons_self
    refine .cons ⟨t, e, ?_⟩ (PairsAt.of_mem fun x hx => h x (List.mem_cons_of_mem _ hx))
    rw [e]
    unfold natP
    rw [keyP_at ht]
    exact ht
theorem PairsAt.nats {H : Hp} : ∀ {us : List V} {ps : List (Nat × Nat)}, PairsAt H us ps → us.map (natP H) = ps
  | [], [], _ => rfl
  | _ :: _, (i, j) :: _, .cons ⟨t, e, h⟩ r => by
    rw [List.map_cons, PairsAt.nats r, e]
    unfold natP
    rw [keyP_at h]
    rfl
def rSortPs (K : PySem.W.Frag) : List V → Hp → VK → Prop := fun vs H Q => ∃ (a : Addr) (us : List V) (ps : List (Nat × Nat)), vs = [.ref a] ∧ SqL K H a us ∧ PairsAt H us ps ∧ ps.Nodup ∧
  ∀ (ys : List V) (qs : List (Nat × Nat)) (p : Addr), PairsAt H ys qs → qs.Perm ps → SortP qs → H p = none → Q (.ref p) (upd H p (.lst ys))
theorem call_sortPs {X : Cx} : CallR X (.builtin "sorted") (rSortPs X.K) := fun pins s σ H xs us0 Q I r q => by
  obtain ⟨a, us, ps, rfl, hS, hP, nd, k⟩ := q
  refine cr_sortedPO pins s σ H _ us0 Q I r ⟨a, us, keyP H, rfl, hS, fun x hx => ?_, fun ys p h1 h2 hp => ?_⟩
  · obtain ⟨t, i, j, rfl, ht⟩ := hP.mem x hx
    refine ⟨t, rfl, ?_⟩
    rw [keyP_at ht]
    exact ht
  · have pm : ys.Perm us := h2.perm
    have hm : ∀ x ∈ ys, ∃ t i j, x = .ref t ∧ H t = some (.tup [natV i, natV j]) := fun x hx => hP.mem x (pm.mem_iff.mp hx)
    have e : (ys.map (natP H)).Perm ps := by
      have := pm.map (natP H)
      rw [hP.nats] at this
      exact this
    refine k ys _ p (PairsAt.of_mem hm) e ?_ hp
    have nd2 : (ys.map (natP H)).Nodup := e.nodup_iff.mpr nd
    have c := (List.pairwise_map.mp nd2).and h1
    refine List.pairwise_map.mpr (List.Pairwise.imp_of_mem (fun {x y} hx hy z => ?_) c)
    obtain ⟨t, i, j, rfl, ht⟩ := hm x hx
    obtain ⟨t', i', j', rfl, ht'⟩ := hm y hy
    have z1 := z.1
    have z2 := SrtO.lexB_no.mp z.2
    unfold natP at z1 ⊢
    rw [keyP_at ht, keyP_at ht'] at z1 z2 ⊢
    have z1 : ¬ ((i : Nat), (j : Nat)) = ((i' : Nat), (j' : Nat)) := z1
    have z2 : ¬ ((i' : Int) < (i : Int) ∨ ((i' : Int) = (i : Int) ∧ (j' : Int) < (j : Int))) := z2
    show i < i' ∨ (i = i' ∧ j < j')
    have z3 : ¬ (i = i' ∧ j = j') := fun ⟨a, b⟩ => z1 (by rw [a, b])
    omega
end K57

set_option maxRecDepth 100000
set_option maxHeartbeats 8000000
namespace K57
open PySem PySem.Spec PyProof.Rows L2 Kw
def upK (n : Nat) (xs : List Nat) : List Nat := (List.range n).filter fun k => xs.contains k
theorem upK_up {n : Nat} {xs : List Nat} : (upK n xs).Pairwise (· < ·) := List.Pairwise.filter _ List.pairwise_lt_range
theorem upK_mem {n : Nat} {xs : List Nat} (h : ∀ x ∈ xs, x < n) {x : Nat} : x ∈ upK n xs ↔ x ∈ xs := by
  unfold upK
  rw [List.mem_filter, List.mem_range, List.contains_iff_mem]
  exact ⟨fun z => z.2, fun z => ⟨h x z, z⟩⟩
abbrev FnMd (K : PySem.W.Frag) (x qual : Str) (st : Stmt) (dvs : List V) (f : Addr) (fd : FuncData) : Prop := FunD K x qual (defArgs st) (defBody st) (defScope st) dvs [] f fd
theorem seq_oth {H H' : Hp} {a p C dx : Addr} {xs : List V} {fs : List (Str × V)} (h : SeqAt H a xs) (O : Oth p H H') (hp : H p = some (.ins C dx fs)) : SeqAt H' a xs := by
  rcases h with h | h
  · exact .inl (O _ _ (fun z => by rw [z, hp] at h; cases h) h)
  · exact .inr (O _ _ (fun z => by rw [z, hp] at h; cases h) h)
theorem PairsAt.tups {H H' : Hp} (k : ∀ b ws, H b = some (.tup ws) → H' b = some (.tup ws)) : ∀ {us : List V} {ps : List (Nat × Nat)}, PairsAt H us ps → PairsAt H' us ps
  | [], [], _ => .nil
  | _ :: _, _ :: _, .cons ⟨t, e, h⟩ r => .cons ⟨t, e, k _ _ h⟩ (PairsAt.tups k r)
theorem norm_ints (q : Nat × Nat) : (codeP q).map V.int = [natV (normP q).1, natV (normP q).2] := rfl
section
variable {P : Program} {w : World} {K : PySem.W.Frag} {mg : Str → Option Value} {base : Heap} {f fW fS fJ fR Ck z0 : Addr} {fd fdW fdS fdJ fdR : FuncData}
def spKindsI (Ck : Addr) : Sp := fun vs H Q _ => ∃ (p dx j b : Addr) (n : Nat) (us : List V) (qs : List (Nat × Nat)) (xs : List Nat), vs = [.ref p, natV n, .ref j, .ref b] ∧ H p = some (.ins Ck dx []) ∧ 1 ≤ n ∧ n ≤ 5 ∧ SeqAt H j us ∧ CouplesAt H us qs ∧ CoupOk n qs ∧ SeqAt H b (xs.map natV) ∧ xs.Nodup ∧ (∀ x ∈ xs, x < n) ∧ xs.length ≤ 1000 ∧
  ∀ H' js, Oth p H H' → js.Perm (qs.map normP) → SortP js → KindsAt H' p Ck n js (upK n xs) → Q .non H'
end
end K57

set_option maxRecDepth 100000
set_option maxHeartbeats 8000000
namespace K57
open PySem PySem.Spec PyProof.Rows L2 Kw
theorem PairsAt.updL' {H : Hp} {D : Addr} {xs ys : List V} (hD : H D = some (.lst xs)) : ∀ {us : List V} {ps : List (Nat × Nat)}, PairsAt H us ps → PairsAt (upd H D (.lst ys)) us ps
  | [], [], _ => .nil
  | _ :: _, _ :: _, .cons ⟨t, e, h⟩ r => .cons ⟨t, e, upB (fun z => by rw [z, hD] at h; cases h) h⟩ (PairsAt.updL' hD r)
theorem WorldAt.oth {H H' : Hp} {p q C Cs dq : Addr} {fs : List (Str × V)} {ds : List Ent} (h : WorldAt H p C ds) (pq : p ≠ q) (hq : H q = some (.ins Cs dq fs)) (O : Oth q H H') : WorldAt H' p C ds := by
  have kt : TupK H H' := O.tupK hq
  obtain ⟨dx, ac, ab, ao, am, ae, ah, cs, bs, ms, es, hs, h1, h2, h3, h4, h5, h6, h7, h8, h9, h10, h11, h12⟩ := h
  exact ⟨dx, ac, ab, ao, am, ae, ah, cs, bs, ms, es, hs, O _ _ pq h1, kt _ _ h2, h3.mono kt, kt _ _ h4, h5.mono kt, kt _ _ h6, kt _ _ h7, h8.mono kt, kt _ _ h9, h10.mono kt, kt _ _ h11, h12.mono kt⟩
theorem PairsAt.tupK {H H' : Hp} (k : TupK H H') : ∀ {us : List V} {ps : List (Nat × Nat)}, PairsAt H us ps → PairsAt H' us ps
  | [], [], _ => .nil
  | _ :: _, _ :: _, .cons ⟨t, e, h⟩ r => .cons ⟨t, e, k _ _ h⟩ (PairsAt.tupK k r)
section
variable {P : Program} {w : World} {K : PySem.W.Frag} {mg : Str → Option Value} {base : Heap} {f fS fI C Cl z0 : Addr} {fd fdS fdI : FuncData}
def spLinksI (C Cl : Addr) : Sp := fun vs H Q _ => ∃ (p dx wp j : Addr) (ds : List Ent) (us : List V) (qs : List (Nat × Nat)), vs = [.ref p, .ref wp, .ref j] ∧ H p = some (.ins Cl dx []) ∧ WorldAt H wp C ds ∧ ds.length ≤ 12 ∧ SeqAt H j us ∧ CouplesAt H us qs ∧ qs.Nodup ∧ (∀ q ∈ qs, linkB ds q.1 q.2 = true) ∧ qs.length ≤ 60 ∧ wp ≠ p ∧
  ∀ H' ls, Oth p H H' → ls.Perm qs → SortP ls → LinksAt H' p Cl wp C ds ls → Q .non H'
end
end K57

set_option maxRecDepth 100000
set_option maxHeartbeats 8000000
namespace K57
open PySem PySem.Spec PyProof.Rows L2 Kw
/-- all links of a world, class by class -/
def pairsUp (ds : List Ent) (n : Nat) : List (Nat × Nat) := (List.range n).flatMap fun c => (basesOf ds c).map fun b => (c, b)
def pairsOf (ds : List Ent) : List (Nat × Nat) := pairsUp ds ds.length
theorem pairsUp_succ {ds : List Ent} {n : Nat} : pairsUp ds (n + 1) = pairsUp ds n ++ (basesOf ds n).map fun b => (n, b) := by
  unfold pairsUp
  rw [List.range_succ, List.flatMap_append]
  simp
theorem pairsUp_len {ds : List Ent} (ok : DsOk ds) : ∀ n, (pairsUp ds n).length ≤ 5 * n
  | 0 => Nat.le_refl _
  | n + 1 => by
    rw [pairsUp_succ, List.length_append, List.length_map]
    have h1 := pairsUp_len ok n
    have h2 : (basesOf ds n).length ≤ 5 := by
      unfold basesOf
      rw [List.getD_eq_getElem?_getD]
      cases e : ds[n]? with
      | none => exact Nat.zero_le _
      | some d => exact Nat.le_trans (ok n d e).2.2.1 (by decide)
    omega
section
variable {P : Program} {w : World} {K : PySem.W.Frag} {mg : Str → Option Value} {base : Heap} {f : Addr} {fd : FuncData}
def spPairsOf : Sp := fun vs H Q _ => ∃ (r R : Addr) (us : List V) (ds : List Ent), vs = [.ref r] ∧ H r = some (.lst us) ∧ RwN R H us ds ∧ DsOk ds ∧ ds.length ≤ 12 ∧ ∀ D us' H', Same H H' → H D = none → H' D = some (.lst us') → PairsAt H' us' (pairsOf ds) → Q (.ref D) H'
end
end K57

set_option maxRecDepth 100000
set_option maxHeartbeats 8000000
namespace K57
open PySem PySem.Spec PyProof.Rows L2 Kw
theorem seq_at' {k n : Nat} (h : k < n) : seqIndex? (k : Int) n = some k := by
  have := PySem.seqIndex_of (k := (k : Int)) (n := n) (by omega) (by omega)
  rw [Int.toNat_natCast] at this
  exact this
theorem perm_eraseV {us : List V} {c : Nat} {x : V} (h : us[c]? = some x) : us.Perm (x :: us.eraseIdx c) := by
  induction us generalizing c with
  | nil => simp at h
  | cons y r ih =>
    cases c with
    | zero =>
      obtain rfl := Option.some.inj h
      exact List.Perm.refl _
    | succ c => exact ((ih (c := c) h).cons y).trans (List.Perm.swap x y _)
section
variable {P : Program} {w : World} {K : PySem.W.Frag} {mg : Str → Option Value} {base : Heap} {f fT : Addr} {fd fdT : FuncData}
def spMixup : Sp := fun vs H Q _ => ∃ (p q a : Addr) (us : List V), vs = [.ref p, .ref a] ∧ HandAt H p q ∧ H a = some (.lst us) ∧ us.length ≤ 60 ∧ ∀ D us' H', Oth p H H' → HandAt H' p q → H D = none → H' D = some (.lst us') → us'.Perm us → Q (.ref D) H'
end
end K57

set_option maxRecDepth 100000
set_option maxHeartbeats 8000000
namespace K57
open PySem PySem.Spec PyProof.Rows L2 Kw
theorem PairsAt.kiL {H H' : Hp} (k : KI H H') : ∀ {us : List V} {ps : List (Nat × Nat)}, PairsAt H us ps → PairsAt H' us ps
  | [], [], _ => .nil
  | _ :: _, _ :: _, .cons ⟨t, e, h⟩ r => .cons ⟨t, e, k _ _ h nh_tup⟩ (PairsAt.kiL k r)
theorem PairsAt.refsL {H : Hp} {us : List V} {ps : List (Nat × Nat)} (h : PairsAt H us ps) : ∀ v ∈ us, ∃ a, v = .ref a := fun v hv => by
  obtain ⟨t, i, j, e, _⟩ := h.mem v hv
  exact ⟨t, e⟩
section
variable {P : Program} {w : World} {K : PySem.W.Frag} {mg : Str → Option Value} {base : Heap} {f fT fP : Addr} {fd fdT fdP : FuncData}
def spSome : Sp := fun vs H Q _ => ∃ (p q r R : Addr) (us : List V) (ds : List Ent), vs = [.ref p, .ref r] ∧ HandAt H p q ∧ H r = some (.lst us) ∧ RwN R H us ds ∧ DsOk ds ∧ 1 ≤ ds.length ∧ ds.length ≤ 12 ∧ ∀ D us' H' qs, Oth p H H' → HandAt H' p q → H D = none → H' D = some (.lst us') → PairsAt H' us' qs → qs.Sublist (pairsOf ds) → Q (.ref D) H'
end
end K57

set_option maxRecDepth 100000
set_option maxHeartbeats 8000000
namespace K57
open PySem PySem.Spec PyProof.Rows L2 Kw
theorem pairs_perm {H : Hp} {us1 us : List V} (pm : us1.Perm us) : ∀ {qs : List (Nat × Nat)}, PairsAt H us qs → ∃ qs1, PairsAt H us1 qs1 ∧ qs1.Perm qs := by
  induction pm with
  | nil => exact fun {qs} h => ⟨qs, h, List.Perm.refl _⟩
  | cons x _ ih =>
    intro qs h
    match qs, h with
    | _ :: _, .cons z r =>
      obtain ⟨q1, a, b⟩ := ih r
      exact ⟨_ :: q1, .cons z a, b.cons _⟩
  | swap x y l =>
    intro qs h
    match qs, h with
    | _ :: _ :: _, .cons z (.cons z' r) => exact ⟨_ :: _ :: _, .cons z' (.cons z r), List.Perm.swap _ _ _⟩
  | trans _ _ ih1 ih2 =>
    intro qs h
    obtain ⟨q2, a2, b2⟩ := ih2 h
    obtain ⟨q1, a1, b1⟩ := ih1 a2
    exact ⟨q1, a1, b1.trans b2⟩
theorem CouplesAt.kiL {H H' : Hp} (k : KI H H') : ∀ {us : List V} {qs : List (Nat × Nat)}, CouplesAt H us qs → CouplesAt H' us qs
  | [], [], _ => .nil
  | _ :: _, (a, b) :: _, .cons ⟨t, e, h⟩ r => .cons ⟨t, e, h.imp (fun h => k _ _ h (nh_nats (l := [a, b]))) fun h => k _ _ h nh_tup⟩ (CouplesAt.kiL k r)
theorem CouplesAt.updN {H : Hp} {D : Addr} {o : HO} : ∀ {us : List V} {qs : List (Nat × Nat)}, (∀ v ∈ us, v ≠ .ref D) → CouplesAt H us qs → CouplesAt (upd H D o) us qs
  | [], [], _, _ => .nil
  | _ :: _, (a, b) :: _, n, .cons ⟨t, e, h⟩ r => .cons ⟨t, e, by
      have ne : t ≠ D := fun z => n _ List.mem_cons_self (by rw [e, z])
      exact h.imp (upB ne) (upB ne)⟩ (CouplesAt.updN (fun v hv => n v (List.mem_cons_of_mem _ hv)) r)
theorem CouplesAt.appL {H : Hp} : ∀ {vs us : List V} {ls ms : List (Nat × Nat)}, CouplesAt H vs ls → CouplesAt H us ms → CouplesAt H (vs ++ us) (ls ++ ms)
  | [], _, [], _, _, h => h
  | _ :: _, _, _ :: _, _, .cons h r, s => .cons h (CouplesAt.appL r s)
theorem CouplesAt.refsL {H : Hp} : ∀ {us : List V} {qs : List (Nat × Nat)}, CouplesAt H us qs → ∀ v ∈ us, ∃ a, v = .ref a
  | _ :: _, _ :: _, .cons ⟨t, e, _⟩ r, v, hv => by
    rcases List.mem_cons.mp hv with rfl | hv
    · exact ⟨t, e⟩
    · exact CouplesAt.refsL r v hv
section
variable {P : Program} {w : World} {K : PySem.W.Frag} {mg : Str → Option Value} {base : Heap} {f fR fM : Addr} {fd fdR fdM : FuncData}
def spGivenL : Sp := fun vs H Q _ => ∃ (p q a : Addr) (us : List V) (qs : List (Nat × Nat)), vs = [.ref p, .ref a] ∧ HandAt H p q ∧ H a = some (.lst us) ∧ PairsAt H us qs ∧ us.length ≤ 60 ∧ ∀ l us' qs' H', Oth p H H' → HandAt H' p q → SeqAt H' l us' → CouplesAt H' us' qs' → qs'.Perm qs → Q (.ref l) H'
end
end K57

set_option maxRecDepth 100000
set_option maxHeartbeats 8000000
namespace K57
open PySem PySem.Spec PyProof.Rows L2 Kw
theorem pairsUp_nodup {ds : List Ent} (ok : DsOk ds) : ∀ n, (pairsUp ds n).Nodup
  | 0 => .nil
  | n + 1 => by
    rw [pairsUp_succ]
    have h2 : (basesOf ds n).Nodup := by
      unfold basesOf
      rw [List.getD_eq_getElem?_getD]
      cases e : ds[n]? with
      | none => exact .nil
      | some d => exact (ok n d e).1
    refine List.nodup_append.mpr ⟨pairsUp_nodup ok n, ?_, fun a ha b hb e => ?_⟩
    · exact List.Pairwise.map _ (fun x y (h : x ≠ y) z => h (Prod.mk.inj z).2) h2
    · obtain ⟨y, _, rfl⟩ := List.mem_map.mp hb
      unfold pairsUp at ha
      obtain ⟨c, hc, ha⟩ := List.mem_flatMap.mp ha
      obtain ⟨z, _, rfl⟩ := List.mem_map.mp ha
      have := List.mem_range.mp hc
      have := (Prod.mk.inj e).1
      omega
theorem pairsOf_link {ds : List Ent} {q : Nat × Nat} (h : q ∈ pairsOf ds) : linkB ds q.1 q.2 = true := by
  unfold pairsOf pairsUp at h
  obtain ⟨c, hc, h⟩ := List.mem_flatMap.mp h
  obtain ⟨b, hb, rfl⟩ := List.mem_map.mp h
  unfold linkB
  rw [decide_eq_true (List.mem_range.mp hc), Bool.true_and]
  exact List.contains_iff_mem.mpr hb
section
variable {P : Program} {w : World} {K : PySem.W.Frag} {mg : Str → Option Value} {base : Heap} {f fA fX C Cl Cg : Addr} {fd fdA : FuncData}
def spAskW (C Cl : Addr) : Sp := fun vs H Q _ => ∃ (p wp : Addr) (x y : V) (ds : List Ent) (ls : List (Nat × Nat)), vs = [.ref p, x, y] ∧ LinksAt H p Cl wp C ds ls ∧ DsOk ds ∧ ds.length ≤ 12 ∧
  ((∃ i : Nat, WayIs H ds x (some i) ∧ ∀ H', Same H H' → Q (natV i) H') ∨
   ∃ v, GoodWay H ds x v ∧
    ((∃ i : Nat, WayIs H ds y (some i) ∧ ∀ H', Same H H' → Q (natV i) H') ∨
     ∃ u, GoodWay H ds y u ∧
      ((v[0]? ≠ u[0]? ∧ ∀ H', Same H H' → Q (natV 0) H') ∨
       (v[0]? = u[0]? ∧ ∀ H', Same H H' → Q (.bl (decide (cutW ls v = cutW ls u))) H'))))
end
end K57

set_option maxRecDepth 100000
set_option maxHeartbeats 8000000
namespace K57
open PySem PySem.Spec PyProof.Rows L2 Kw
theorem Ty0.isLst {K : PySem.W.Frag} {H : Hp} {x : V} {t : String} (h : Ty0 H x t) : PySem.W.kitOne K (.type t) (.type "list") = some (t == "list") := by
  cases h <;> exact kit_ty (by decide +kernel)
section
variable {P : Program} {w : World} {K : PySem.W.Frag} {mg : Str → Option Value} {base : Heap} {f : Addr} {fd : FuncData}
def spLSeq : Sp := fun vs H Q _ => ∃ (x : V) (t : String), vs = [x] ∧ Ty0 H x t ∧ Q (.bl (seqT t)) H
end
end K57

set_option maxRecDepth 100000
set_option maxHeartbeats 8000000
namespace K57
open PySem PySem.Spec PyProof.Rows L2 Kw
theorem basesOf_app {ds : List Ent} {d : Ent} {c : Nat} (h : c < ds.length) : basesOf (ds ++ [d]) c = basesOf ds c := by
  unfold basesOf
  rw [List.getD_eq_getElem?_getD, List.getD_eq_getElem?_getD, List.getElem?_append_left h]
theorem basesOf_last {ds : List Ent} {d : Ent} : basesOf (ds ++ [d]) ds.length = d.1 := by
  unfold basesOf
  rw [List.getD_eq_getElem?_getD, List.getElem?_append_right (Nat.le_refl _), Nat.sub_self]
  rfl
theorem linkB_app {ds : List Ent} {d : Ent} {c b : Nat} (h : linkB ds c b = true) : linkB (ds ++ [d]) c b = true := by
  unfold linkB at h ⊢
  rw [Bool.and_eq_true] at h
  have hc := of_decide_eq_true h.1
  rw [decide_eq_true (show c < (ds ++ [d]).length by rw [List.length_append]; omega), Bool.true_and, basesOf_app hc]
  exact h.2
theorem linkB_last {ds : List Ent} {d : Ent} {b : Nat} (h : b ∈ d.1) : linkB (ds ++ [d]) ds.length b = true := by
  unfold linkB
  rw [decide_eq_true (show ds.length < (ds ++ [d]).length by rw [List.length_append, List.length_singleton]; omega), Bool.true_and, basesOf_last]
  exact List.contains_iff_mem.mpr h
theorem linkB_lt {ds : List Ent} {c b : Nat} (h : linkB ds c b = true) : c < ds.length := by
  unfold linkB at h
  rw [Bool.and_eq_true] at h
  exact of_decide_eq_true h.1
theorem PairsAt.couples {H : Hp} : ∀ {us : List V} {ps : List (Nat × Nat)}, PairsAt H us ps → CouplesAt H us ps
  | [], [], _ => .nil
  | _ :: _, _ :: _, .cons ⟨t, e, h⟩ r => .cons ⟨t, e, .inr h⟩ (PairsAt.couples r)
theorem nodup_len {α : Type} [DecidableEq α] : ∀ {l m : List α}, l.Nodup → (∀ x ∈ l, x ∈ m) → l.length ≤ m.length
  | [], _, _, _ => Nat.zero_le _
  | a :: l, m, h, s => by
    have h' := List.nodup_cons.mp h
    have am := s a List.mem_cons_self
    have := nodup_len (l := l) (m := m.erase a) h'.2 fun x hx => (List.mem_erase_of_ne (fun (e : x = a) => h'.1 (by rw [← e]; exact hx))).mpr (s x (List.mem_cons_of_mem _ hx))
    rw [List.length_erase_of_mem am] at this
    have := List.length_pos_of_mem am
    rw [List.length_cons]
    omega
theorem WorldAt.updLst {H : Hp} {p C D : Addr} {ds : List Ent} {xs ys : List V} (h : WorldAt H p C ds) (hD : H D = some (.lst xs)) : WorldAt (upd H D (.lst ys)) p C ds := by
  have kt : TupK H (upd H D (.lst ys)) := fun b zs e => upB (fun z => by rw [z, hD] at e; cases e) e
  obtain ⟨dx, ac, ab, ao, am, ae, ah, cs, bs, ms, es, hs, h1, h2, h3, h4, h5, h6, h7, h8, h9, h10, h11, h12⟩ := h
  exact ⟨dx, ac, ab, ao, am, ae, ah, cs, bs, ms, es, hs, upB (fun z => by rw [z, hD] at h1; cases h1) h1, kt _ _ h2, h3.mono kt, kt _ _ h4, h5.mono kt, kt _ _ h6, kt _ _ h7, h8.mono kt, kt _ _ h9, h10.mono kt, kt _ _ h11, h12.mono kt⟩
/-- the links of a world, shared -/
def LsOk (ds : List Ent) (ls : List (Nat × Nat)) : Prop := ls.Nodup ∧ ∀ q ∈ ls, linkB ds q.1 q.2 = true
theorem LsOk.few {ds : List Ent} {ls : List (Nat × Nat)} (h : LsOk ds ls) (ok : DsOk ds) : ls.length ≤ 5 * ds.length := by
  refine Nat.le_trans ?_ (pairsUp_len ok ds.length)
  refine nodup_len h.1 fun q hq => ?_
  have hl := h.2 q hq
  unfold linkB at hl
  rw [Bool.and_eq_true] at hl
  unfold pairsUp
  refine List.mem_flatMap.mpr ⟨q.1, List.mem_range.mpr (of_decide_eq_true hl.1), List.mem_map.mpr ⟨q.2, List.contains_iff_mem.mp hl.2, rfl⟩⟩
theorem LsOk.more {ds : List Ent} {ls : List (Nat × Nat)} (h : LsOk ds ls) {d : Ent} {ss : List Nat} (nd : ss.Nodup) (sub : ∀ x ∈ ss, x ∈ d.1) : LsOk (ds ++ [d]) (ls ++ ss.map fun b => (ds.length, b)) := by
  refine ⟨List.nodup_append.mpr ⟨h.1, List.Pairwise.map _ (fun x y (h : x ≠ y) z => h (Prod.mk.inj z).2) nd, fun a ha b hb e => ?_⟩, fun q hq => ?_⟩
  · obtain ⟨y, _, rfl⟩ := List.mem_map.mp hb
    have := linkB_lt (h.2 a ha)
    rw [e] at this
    exact Nat.lt_irrefl _ this
  · rcases List.mem_append.mp hq with hq | hq
    · exact linkB_app (h.2 q hq)
    · obtain ⟨y, hy, rfl⟩ := List.mem_map.mp hq
      exact linkB_last (sub y hy)
theorem LsOk.perm {ds : List Ent} {ls ms : List (Nat × Nat)} (h : LsOk ds ls) (p : ms.Perm ls) : LsOk ds ms := ⟨p.nodup_iff.mpr h.1, fun q hq => h.2 q (p.mem_iff.mp hq)⟩
section
variable {P : Program} {w : World} {K : PySem.W.Frag} {mg : Str → Option Value} {base : Heap} {f fS fI fN fWC C Cl z0 z1 : Addr} {fd fdS fdI fdN fdWC : FuncData}
def spWithLk (C Cl : Addr) : Sp := fun vs H Q _ => ∃ (p wp ab aS : Addr) (ds : List Ent) (ls : List (Nat × Nat)) (bs ss : List Nat) (n : Nat), vs = [.ref p, .ref ab, natV n, .ref aS] ∧ LinksAt H p Cl wp C ds ls ∧ DsOk ds ∧ ds.length + 1 ≤ 12 ∧ LsOk ds ls ∧ SeqAt H ab (bs.map natV) ∧ EOk ds.length (bs, n, []) ∧ SeqAt H aS (ss.map natV) ∧ ss.Nodup ∧ (∀ x ∈ ss, x ∈ bs) ∧
  ∀ q wp' H' ls', Same H H' → LinksAt H' q Cl wp' C (ds ++ [(bs, n, [])]) ls' → ls'.Perm (ls ++ ss.map fun b => (ds.length, b)) → SortP ls' → Q (.ref q) H'
end
end K57

set_option maxRecDepth 100000
set_option maxHeartbeats 8000000
namespace K57
open PySem PySem.Spec PyProof.Rows L2 Kw
/-- rows of rows of numbers, n deep -/
def DT : Nat → Type
  | 0 => Nat
  | n + 1 => Nat ⊕ List (DT n)
def InAt (H : Hp) : (n : Nat) → V → DT n → Prop
  | 0, x, (d : Nat) => x = natV d
  | _ + 1, x, .inl k => x = natV k
  | n + 1, x, .inr l => ∃ a xs, x = .ref a ∧ SeqAt H a xs ∧ xs.length ≤ 1000 ∧ Paired (InAt H n) xs l
def OutAt (H : Hp) : (n : Nat) → V → DT n → Prop
  | 0, x, (d : Nat) => x = natV d
  | _ + 1, x, .inl k => x = natV k
  | n + 1, x, .inr l => ∃ a xs, x = .ref a ∧ H a = some (.tup xs) ∧ Paired (OutAt H n) xs l
theorem paired_imp {α β : Type} {p q : α → β → Prop} (h : ∀ x y, p x y → q x y) : ∀ {xs : List α} {ys : List β}, Paired p xs ys → Paired q xs ys
  | [], [], _ => .nil
  | _ :: _, _ :: _, .cons a r => .cons (h _ _ a) (paired_imp h r)
theorem InAt.same {H H' : Hp} (s : Same H H') : ∀ {n : Nat} {x : V} {d : DT n}, InAt H n x d → InAt H' n x d
  | 0, _, _, h => h
  | _ + 1, _, .inl _, h => h
  | n + 1, _, .inr _, ⟨a, xs, e, h, hl, r⟩ => ⟨a, xs, e, h.same s, hl, paired_imp (fun _ _ => InAt.same s) r⟩
theorem OutAt.tups {H H' : Hp} (s : TupK H H') : ∀ {n : Nat} {x : V} {d : DT n}, OutAt H n x d → OutAt H' n x d
  | 0, _, _, h => h
  | _ + 1, _, .inl _, h => h
  | n + 1, _, .inr _, ⟨a, xs, e, h, r⟩ => ⟨a, xs, e, s _ _ h, paired_imp (fun _ _ => OutAt.tups s) r⟩
theorem paired_app {α β : Type} {p : α → β → Prop} : ∀ {xs us : List α} {ys ws : List β}, Paired p xs ys → Paired p us ws → Paired p (xs ++ us) (ys ++ ws)
  | [], _, [], _, _, h => h
  | _ :: _, _, _ :: _, _, .cons a r, h => .cons a (paired_app r h)
theorem paired_get {α β : Type} {p : α → β → Prop} : ∀ {xs : List α} {ys : List β} {i : Nat} {x : α}, Paired p xs ys → xs[i]? = some x → ∃ y, ys[i]? = some y ∧ p x y
  | [], [], _, _, _, e => by simp at e
  | _ :: _, y :: _, 0, _, .cons a _, e => ⟨y, rfl, by obtain rfl := Option.some.inj e; exact a⟩
  | _ :: _, _ :: _, i + 1, _, .cons _ r, e => paired_get (i := i) r e
theorem TupK.of {H H' : Hp} (s : Same H H') : TupK H H' := fun b xs e => s _ _ e
def entT (d : Ent) : DT 2 := (Sum.inr [(Sum.inr d.1 : DT 1), (Sum.inl d.2.1 : DT 1), (Sum.inr d.2.2 : DT 1)] : Nat ⊕ List (DT 1))
def rowsT (ds : List Ent) : DT 3 := (Sum.inr (ds.map entT) : Nat ⊕ List (DT 2))
theorem nums_in {H : Hp} : ∀ l : List Nat, Paired (InAt H 0) (l.map natV) l
  | [] => .nil
  | _ :: l => .cons rfl (nums_in l)
theorem nums_out {H : Hp} : ∀ {xs : List V} {l : List Nat}, Paired (OutAt H 0) xs l → xs = l.map natV
  | [], [], _ => rfl
  | _ :: _, _ :: _, .cons a r => by
    rw [nums_out r]
    have e : _ = natV _ := a
    rw [e]
    rfl
theorem RwN.tree {R : Addr} {H : Hp} : ∀ {us : List V} {ds : List Ent}, RwN R H us ds → (∀ d ∈ ds, d.1.length ≤ 1000 ∧ d.2.2.length ≤ 1000) → Paired (InAt H 2) us (ds.map entT)
  | [], [], _, _ => .nil
  | _ :: _, d :: _, .cons ⟨t, b, m, e, n1, h1, n2, h2, n3, h3⟩ r, z => .cons ⟨t, _, e, .inr h1, (by show 3 ≤ 1000; decide), .cons ⟨b, _, rfl, .inl h2, by rw [List.length_map]; exact (z d List.mem_cons_self).1, nums_in _⟩ (.cons rfl (.cons ⟨m, _, rfl, .inl h3, by rw [List.length_map]; exact (z d List.mem_cons_self).2, nums_in _⟩ .nil))⟩ (RwN.tree r fun d hd => z d (List.mem_cons_of_mem _ hd))
theorem RwN.inRows {R r : Addr} {H : Hp} {us : List V} {ds : List Ent} (h : RwN R H us ds) (hr : H r = some (.lst us)) (ok : DsOk ds) (h12 : ds.length ≤ 12) : InAt H 3 (.ref r) (rowsT ds) := by
  refine ⟨r, us, rfl, .inl hr, by rw [h.len]; omega, h.tree fun d hd => ?_⟩
  obtain ⟨i, hi⟩ := List.mem_iff_getElem?.mp hd
  obtain ⟨_, _, o3, _, _, _, o7⟩ := ok i d hi
  exact ⟨Nat.le_trans o3 (by decide), Nat.le_trans o7 (by decide)⟩
theorem out_ent {H : Hp} {x : V} {d : Ent} (h : OutAt H 2 x (entT d)) : ∃ t b m, x = .ref t ∧ H t = some (.tup [.ref b, natV d.2.1, .ref m]) ∧ H b = some (.tup (d.1.map natV)) ∧ H m = some (.tup (d.2.2.map natV)) := by
  obtain ⟨t, xs, rfl, ht, hP⟩ := h
  match xs, hP with
  | [_, _, _], .cons ⟨b, us, rfl, hb, h1⟩ (.cons h2 (.cons ⟨m, ws, rfl, hm, h3⟩ .nil)) =>
    have e2 : _ = natV d.2.1 := h2
    subst e2
    rw [nums_out h1] at hb
    rw [nums_out h3] at hm
    exact ⟨t, b, m, rfl, ht, hb, hm⟩
theorem out_rows {H : Hp} {y : V} {ds : List Ent} (h : OutAt H 3 y (rowsT ds)) (ok : DsOk ds) : ∃ a us, y = .ref a ∧ H a = some (.tup us) ∧ us.length = ds.length ∧ ∀ (i : Nat) (d : Ent), ds[i]? = some d → ∃ e, us[i]? = some e ∧ EntryOk H e i d := by
  obtain ⟨a, us, rfl, ha, hP⟩ := h
  have ul : us.length = ds.length := by rw [Paired.length hP, List.length_map]
  refine ⟨a, us, rfl, ha, ul, fun i d hd => ?_⟩
  have il := (List.getElem?_eq_some_iff.mp hd).1
  obtain ⟨e, he⟩ : ∃ e, us[i]? = some e := ⟨_, List.getElem?_eq_getElem (by omega)⟩
  obtain ⟨z, hz, ho⟩ := paired_get hP he
  rw [List.getElem?_map, hd] at hz
  obtain rfl := Option.some.inj hz
  obtain ⟨t, b, m, rfl, h1, h2, h3⟩ := out_ent ho
  obtain ⟨o1, o2, o3, o4, o5, o6, o7⟩ := ok i d hd
  exact ⟨_, he, t, b, m, rfl, .inr h1, .inr h2, .inr h3, ⟨o1, by omega, o2⟩, o4, up_nodup o5, o7, o6⟩
section
variable {P : Program} {w : World} {K : PySem.W.Frag} {mg : Str → Option Value} {base : Heap} {f fS : Addr} {fd fdS : FuncData}
def spLDeep (n : Nat) : Sp := fun vs H Q _ => ∃ (x : V) (d : DT n), vs = [x] ∧ InAt H n x d ∧ ∀ y H', Same H H' → OutAt H' n y d → Q y H'
end
end K57

set_option maxRecDepth 100000
set_option maxHeartbeats 8000000
namespace K57
open PySem PySem.Spec PyProof.Rows L2 Kw
theorem ins_nat (bs : List Nat) (b i : Nat) : (bs.map natV).take i ++ [natV b] ++ (bs.map natV).drop i = (bs.take i ++ [b] ++ bs.drop i).map natV := by
  rw [List.map_append, List.map_append, List.map_take, List.map_drop]
  rfl
theorem ins_perm (bs : List Nat) (b i : Nat) : (bs.take i ++ [b] ++ bs.drop i).Perm (b :: bs) := by
  have h : (bs.take i ++ [b] ++ bs.drop i).Perm (b :: (bs.take i ++ bs.drop i)) := by
    rw [List.append_assoc]
    exact List.perm_middle
  rw [List.take_append_drop] at h
  exact h
section
variable {P : Program} {w : World} {K : PySem.W.Frag} {mg : Str → Option Value} {base : Heap} {f fT : Addr} {fd fdT : FuncData}
def spDense : Sp := fun vs H Q _ => ∃ (p q : Addr) (lo hi most : Nat), vs = [.ref p, .int (lo : Int), .int (hi : Int), .int (most : Int)] ∧ 1 ≤ lo ∧ lo ≤ hi ∧ hi ≤ 12 ∧ HandAt H p q ∧
  ∀ l H' us (ds : List Ent), Oth p H H' → HandAt H' p q → H l = none → H' l = some (.lst us) → RwN l H' us ds → lo ≤ ds.length → ds.length ≤ hi → DsOk ds → Q (.ref l) H'
end
end K57

set_option maxRecDepth 100000
set_option maxHeartbeats 8000000
namespace K57
open PySem PySem.Spec PyProof.Rows L2 Kw
/-- all ways from c, as the law lists them; n bounds c -/
def waysF (ds : List Ent) : Nat → Nat → List (List Nat)
  | 0, c => [[c]]
  | n + 1, c => [c] :: (basesOf ds c).flatMap fun b => (waysF ds n b).map fun w => [c] ++ w
theorem basesOf_len {ds : List Ent} (ok : DsOk ds) (c : Nat) : (basesOf ds c).length ≤ 3 := by
  unfold basesOf
  rw [List.getD_eq_getElem?_getD]
  cases e : ds[c]? with
  | none => exact Nat.zero_le _
  | some d => exact (ok c d e).2.2.1
theorem flat_len {ds : List Ent} {n m : Nat} : ∀ (l : List Nat) (c : Nat), (∀ b ∈ l, (waysF ds n b).length ≤ m) → (l.flatMap fun b => (waysF ds n b).map fun w => [c] ++ w).length ≤ l.length * m
  | [], c, _ => by simp
  | b :: l, c, h => by
    rw [List.flatMap_cons, List.length_append, List.length_map, List.length_cons, Nat.succ_mul]
    have h1 := h b List.mem_cons_self
    have h2 := flat_len l c fun x hx => h x (List.mem_cons_of_mem _ hx)
    omega
theorem waysF_len {ds : List Ent} (ok : DsOk ds) : ∀ n c, (waysF ds n c).length ≤ 4 ^ c
  | 0, c => Nat.one_le_pow _ _ (by decide)
  | n + 1, 0 => by
    have e : basesOf ds 0 = [] := by
      cases h : basesOf ds 0 with
      | nil => rfl
      | cons b l =>
        have := (basesOf_lt ok (c := 0) (b := b) (by rw [h]; exact List.mem_cons_self)).1
        omega
    unfold waysF
    rw [e]
    exact Nat.le_refl _
  | n + 1, c + 1 => by
    unfold waysF
    rw [List.length_cons]
    have h := flat_len (ds := ds) (n := n) (m := 4 ^ c) (basesOf ds (c + 1)) (c + 1) fun b hb => Nat.le_trans (waysF_len ok n b) (Nat.pow_le_pow_right (by decide) (by have := (basesOf_lt ok hb).1; omega))
    have h3 := Nat.mul_le_mul_right (4 ^ c) (basesOf_len ok (c + 1))
    have h1 : 1 ≤ 4 ^ c := Nat.one_le_pow _ _ (by decide)
    rw [Nat.pow_succ]
    omega
theorem way_cons {ds : List Ent} {c b : Nat} {ws : List Nat} (hc : c < ds.length) (hb : b ∈ basesOf ds c) (h0 : ws[0]? = some b) (hw : IsWay ds ws) : IsWay ds (c :: ws) := by
  refine ⟨⟨c, rfl, hc⟩, fun i x y hx hy => ?_⟩
  cases i with
  | zero =>
    obtain rfl : c = x := Option.some.inj hx
    have : ws[0]? = some y := hy
    rw [h0] at this
    obtain rfl := Option.some.inj this
    exact hb
  | succ i => exact hw.2 i x y hx hy
theorem ways_isWay {ds : List Ent} (ok : DsOk ds) : ∀ (n c : Nat), c < ds.length → ∀ ws ∈ waysF ds n c, IsWay ds ws ∧ ws[0]? = some c
  | 0, c, hc, ws, h => by
    obtain rfl : ws = [c] := List.mem_singleton.mp h
    exact ⟨⟨⟨c, rfl, hc⟩, fun i x y _ hy => by simp at hy⟩, rfl⟩
  | n + 1, c, hc, ws, h => by
    unfold waysF at h
    rcases List.mem_cons.mp h with rfl | h
    · exact ⟨⟨⟨c, rfl, hc⟩, fun i x y _ hy => by simp at hy⟩, rfl⟩
    · obtain ⟨b, hb, h⟩ := List.mem_flatMap.mp h
      obtain ⟨u, hu, rfl⟩ := List.mem_map.mp h
      have bl := (basesOf_lt ok hb).1
      obtain ⟨z1, z2⟩ := ways_isWay ok n b (by omega) u hu
      exact ⟨way_cons hc hb z2 z1, rfl⟩
theorem IsWay.at {ds : List Ent} (ok : DsOk ds) {ws : List Nat} (h : IsWay ds ws) : ∀ {i c : Nat}, ws[i]? = some c → c + i < ds.length
  | 0, c, e => h.lt ok e
  | i + 1, b, e => by
    obtain ⟨c, hc⟩ : ∃ c, ws[i]? = some c := ⟨_, List.getElem?_eq_getElem (by have := (List.getElem?_eq_some_iff.mp e).1; omega)⟩
    have h1 := IsWay.at ok h hc
    have h2 := (basesOf_lt ok (h.2 i c b hc e)).1
    omega
theorem IsWay.len {ds : List Ent} (ok : DsOk ds) {ws : List Nat} (h : IsWay ds ws) : ws.length ≤ ds.length := by
  apply Classical.byContradiction
  intro z
  obtain ⟨c, hc⟩ : ∃ c, ws[ds.length]? = some c := ⟨_, List.getElem?_eq_getElem (by omega)⟩
  have := h.at ok hc
  omega
theorem ways_small {ds : List Ent} (ok : DsOk ds) {n c : Nat} (h : c ≤ 11) : (waysF ds n c).length ≤ 4194304 :=
  Nat.le_trans (waysF_len ok n c) (Nat.le_trans (Nat.pow_le_pow_right (by decide) h) (by decide))
theorem flat_small {ds : List Ent} (ok : DsOk ds) {n c : Nat} {l : List Nat} (l3 : l.length ≤ 3) (h : ∀ b ∈ l, b ≤ 10) : (l.flatMap fun b => (waysF ds n b).map fun w => [c] ++ w).length ≤ 3145728 := by
  refine Nat.le_trans (flat_len (m := 1048576) l c fun b hb => Nat.le_trans (waysF_len ok n b) (Nat.le_trans (Nat.pow_le_pow_right (by decide) (h b hb)) (by decide))) ?_
  omega
section
variable {P : Program} {w : World} {K : PySem.W.Frag} {mg : Str → Option Value} {base : Heap} {f fT fC fD : Addr} {fd fdT fdC fdD : FuncData}
def spWays (n : Nat) : Sp := fun vs H Q _ => ∃ (r R : Addr) (us : List V) (ds : List Ent) (c : Nat), vs = [.ref r, natV c] ∧ H r = some (.lst us) ∧ RwN R H us ds ∧ DsOk ds ∧ ds.length ≤ 12 ∧ c < ds.length ∧ c ≤ n ∧ ∀ D us' H', Same H H' → H D = none → H' D = some (.lst us') → TupsAt H' us' (waysF ds n c) → Q (.ref D) H'
end
end K57

set_option maxRecDepth 100000
set_option maxHeartbeats 8000000
namespace K57
open PySem PySem.Spec PyProof.Rows L2 Kw
theorem last_atI {l : List Nat} {y : Nat} (h : l.getLast? = some y) : atI (l.map natV) (-1) = some (natV y) := by
  obtain ⟨r, rfl⟩ := List.getLast?_eq_some_iff.mp h
  rw [List.map_append]
  exact atI_last _ _
theorem IsWay.last {ds : List Ent} {ws : List Nat} (h : IsWay ds ws) : ∃ y, ws.getLast? = some y := by
  obtain ⟨c, e, _⟩ := h.1
  cases ws with
  | nil => simp at e
  | cons a l => exact ⟨_, List.getLast?_eq_some_getLast (by simp)⟩
theorem take_filter {α : Type} {p : α → Bool} {l : List α} {i : Nat} {x : α} (h : l[i]? = some x) : (l.take (i + 1)).filter p = (l.take i).filter p ++ (if p x then [x] else []) := by
  rw [List.take_add_one, h, Option.toList_some, List.filter_append, List.filter_cons, List.filter_nil]
def waysTo (ds : List Ent) (n c tg : Nat) : List (List Nat) := (waysF ds n c).filter fun w => decide (w.getLast? = some tg)
theorem eq_nat {m n : Nat} : decide (natV m = natV n) = decide (m = n) := by
  by_cases z : m = n
  · rw [z, decide_eq_true rfl, decide_eq_true rfl]
  · rw [decide_eq_false z, decide_eq_false fun e => z (by have := V.int.inj e; omega)]
section
variable {P : Program} {w : World} {K : PySem.W.Frag} {mg : Str → Option Value} {base : Heap} {f fW : Addr} {fd fdW : FuncData}
def spWaysTo (n : Nat) : Sp := fun vs H Q _ => ∃ (r R : Addr) (us : List V) (ds : List Ent) (c tg : Nat), vs = [.ref r, natV c, natV tg] ∧ H r = some (.lst us) ∧ RwN R H us ds ∧ DsOk ds ∧ ds.length ≤ 12 ∧ c < ds.length ∧ c ≤ n ∧ ∀ D us' H', Same H H' → H D = none → H' D = some (.lst us') → TupsAt H' us' (waysTo ds n c tg) → Q (.ref D) H'
end
end K57

set_option maxRecDepth 100000
set_option maxHeartbeats 8000000
namespace K57
open PySem PySem.Spec PyProof.Rows L2 Kw
section
variable {P : Program} {w : World} {K : PySem.W.Frag} {mg : Str → Option Value} {base : Heap} {f : Addr} {fd : FuncData}
def spLCut : Sp := fun vs H Q _ => ∃ (S t : Addr) (us : List V) (ls : List (Nat × Nat)) (ws : List Nat), vs = [.ref S, .ref t] ∧ H S = some (.lst us) ∧ PairsAt H us ls ∧ H t = some (.tup (ws.map natV)) ∧ 1 ≤ ws.length ∧ ws.length ≤ 1000 ∧ ∀ t' H', Same H H' → H' t' = some (.tup ((cutW ls ws).map natV)) → Q (.ref t') H'
end
end K57

set_option maxRecDepth 100000
set_option maxHeartbeats 8000000
namespace K57
open PySem PySem.Spec PyProof.Rows L2 Kw
section
variable {P : Program} {w : World} {K : PySem.W.Frag} {mg : Str → Option Value} {base : Heap} {f fS fI : Addr} {fd fdS fdI : FuncData}
def spLInt : Sp := fun vs H Q _ => ∃ (x : V) (t : String), vs = [x] ∧ Ty0 H x t ∧ Q (.bl (wholeB .non .non x)) H
def spFault : Sp := fun vs H Q _ => ∃ (r R : Addr) (us : List V) (ds : List Ent) (x : V), vs = [.ref r, x] ∧ H r = some (.lst us) ∧ RwN R H us ds ∧ DsOk ds ∧ ds.length ≤ 12 ∧
  ((∃ ws, GoodWay H ds x ws ∧ ∀ H', Same H H' → Q .non H') ∨ (∃ i : Nat, WayIs H ds x (some i) ∧ ∀ H', Same H H' → Q (natV i) H'))
end
end K57

set_option maxRecDepth 100000
set_option maxHeartbeats 4000000
/-! sorted by a key whose answers may hold lists that stood before the call (len(xs), xs): an arrangement of the items -/
namespace Kw
open PySem PySem.W PySem.Calls PyProof.Rows
section
variable {prog : Program} {w : World} {A : Around} {E : Value → Shared → Prop}
/-- what a call for a key does: it keeps all, and answers data whose lists stood at h₁ -/
def KeyL (h₁ : Heap) (k : PyData) (s : Shared) (v : Value) (s2 : Shared) : Prop :=
  ∃ (g : Heap) (tk : Nat) (as : List Addr), s2 = { s with heap := g, toks := tk } ∧ (∀ b o, s.heap.get? b = some o → g.get? b = some o) ∧ Reads g v k as ∧ ∀ b ∈ as, ∃ o, h₁.get? b = some o
/-- the keys collected so far -/
def KeysL (h₁ g : Heap) (vs : List Value) (ks : List PyData) : Prop := EachIs (fun v k => ∃ as, Reads g v k as ∧ alike k k = true ∧ ∀ b ∈ as, ∃ o, h₁.get? b = some o) vs ks
theorem keys_run {s : Shared} {a S : Addr} {f : Value} {vs : List Value} {kz : List PyData} {e1 : Nat} {h₁ : Heap} {P : PySem.Fin → Shared → Prop} (kp : KeepsBut a h₁ s.heap) (fresh : h₁.get? S = none) (atS : s.heap.get? S = some (seqObj "list" #[] 0))
    (ata : s.heap.get? a = some (seqObj "list" #[] e1)) (ne : S ≠ a) (len : kz.length = vs.length) (fits : vs.length ≤ sizeLine) (al : AllAlike kz) (so : Sortable kz) (room : ∀ d, d ∈ kz → A.units + d.depth < cLine)
    (turn : ∀ (i : Nat) (v : Value) (k : PyData), vs[i]? = some v → kz[i]? = some k → ∀ (g : Heap) (tk : Nat), KeepsBut a h₁ g → wpAny (model prog w) A (call f [v]) (KeyL h₁ k { s with heap := g, toks := tk }) (fun _ _ => False) { s with heap := g, toks := tk })
    (fin : ∀ g tk out c, KeepsBut a h₁ g → g.get? a = some (seqObj "list" (List.toArray out) c) → KeyedOut false kz vs out → P (.done (.ret .none)) { s with heap := g, toks := tk }) :
    wpAny (model prog w) A (ksk_rest a f false vs.toArray e1 (.ref S)) P E s := by
  let J : Nat → Shared → Prop := fun i s' => ∃ g tk kA e, s' = { s with heap := g, toks := tk } ∧ KeepsBut a h₁ g ∧ g.get? S = some (seqObj "list" kA e) ∧ g.get? a = some (seqObj "list" #[] e1) ∧ KeysL h₁ g kA.toList (kz.take i)
  unfold ksk_rest
  refine wpAny_bind (wpAny_rule ?_)
  first
    | rw [List.forIn_toArray]
    | (rw [← Array.forIn_toList]; simp only [List.toList_toArray])
    | rw [← Array.forIn_toList]
  refine wpAny_bind (ksk_fold J vs 0 s ⟨s.heap, s.toks, #[], 0, rfl, kp, atS, ata, by rw [List.take_zero]; exact EachIs.nil⟩ (fun j x s' hx z => ?_) fun s' z => ?_)
  · rw [Nat.zero_add] at z ⊢
    obtain ⟨g, tk, kA, e, rfl, kpg, gS, ga, ks⟩ := z
    have jl : j < vs.length := (List.getElem?_eq_some_iff.mp hx).1
    obtain ⟨k, hk⟩ : ∃ k, kz[j]? = some k := ⟨_, List.getElem?_eq_getElem (by omega)⟩
    have kk := al k (List.mem_of_getElem? hk) k (List.mem_of_getElem? hk)
    have sz : kA.size ≤ vs.length := by
      have := EachIs.length ks
      rw [Array.length_toList, List.length_take] at this
      omega
    refine wpAny_bind (wpAny_attempt (wpAny_mono (turn j x k hx hk g tk kpg) (fun v s'' got => ?_) fun _ _ z => z.elim))
    obtain ⟨g2, tk2, as, rfl, hg, hr, old⟩ := got
    have gS2 := hg _ _ gS
    have put := Heap.SameBut.update g2 S (Obj.mapSeq (·.push v))
    obtain ⟨c2, at2⟩ : ∃ c2, (g2.update S (Obj.mapSeq (·.push v))).get? S = some (seqObj "list" (kA.push v) c2) := ⟨_, get?_update_seq gS2 (·.push v)⟩
    have stays : ∀ {u : Value} {d : PyData}, (∃ as, Reads g2 u d as ∧ alike d d = true ∧ ∀ b ∈ as, ∃ o, h₁.get? b = some o) → ∃ as, Reads (g2.update S (Obj.mapSeq (·.push v))) u d as ∧ alike d d = true ∧ ∀ b ∈ as, ∃ o, h₁.get? b = some o := by
      rintro u d ⟨bs, r, dd, o⟩
      refine ⟨bs, Reads.keepBut (a := S) (fun b u hb z => (put.2 b hb).trans z) (fun u z => by rw [gS2] at z; rw [← Option.some.inj z]) d u bs dd r (fun z => ?_), dd, o⟩
      obtain ⟨u, hu⟩ := o S z
      rw [fresh] at hu
      cases hu
    refine wpAny_bind (listUpdate_at gS2 rfl ?_ (Nat.le_trans sz fits) (by rw [Array.size_push]; omega))
    refine wpAny_pure ⟨rfl, _, _, kA.push v, c2, rfl, (kpg.trans_all hg).same put (.inr fresh), at2, (put.2 a (Ne.symm ne)).trans (hg _ _ ga), ?_⟩
    have e1 : kz.take (j + 1) = kz.take j ++ [k] := by
      rw [List.take_add_one, hk]
      rfl
    have e2 : (kA.push v).toList = kA.toList ++ [v] := by simp
    show KeysL h₁ _ (kA.push v).toList (kz.take (j + 1))
    rw [e1, e2]
    exact each_snoc (stays ⟨as, hr, kk, old⟩) (EachIs.mono (fun u d ⟨bs, r, z⟩ => stays ⟨bs, PyProof.Rows.Reads.keeps hg r, z⟩) ks)
  · rw [Nat.zero_add] at z
    obtain ⟨g, tk, kA, e, rfl, kpg, gS, ga, ks⟩ := z
    have ks2 : EachIs (fun v k => ∃ as, Reads g v k as) kA.toList kz := by
      have e3 : kz.take vs.length = kz := List.take_of_length_le (by omega)
      unfold KeysL at ks
      rw [e3] at ks
      exact EachIs.mono (fun _ _ ⟨bs, r, _⟩ => ⟨bs, r⟩) ks
    have sz : kA.size = vs.length := by
      have := EachIs.length ks2
      rw [Array.length_toList] at this
      omega
    refine wpAny_bind (listItems_at gS rfl ?_)
    exact keyH_end (κ := dataKind g kz) (h₁ := h₁) kpg fresh gS ga ne (SortsAt.data (s := { s with heap := g, toks := tk }) ks2 al so room) sz fits fun g3 tk3 c k3 n3 => fin g3 tk3 _ c k3 n3 ⟨g, kA.toList, al, rfl, ks2⟩
/-- sorted(xs, key=f): the items, arranged; all that stood stays -/
theorem sorted_keyL {s : Shared} {l : Addr} {f : Value} {vs : List Value} {kz : List PyData} {Q : Value → Shared → Prop} (hl : s.heap.IsList l vs.toArray) (len : kz.length = vs.length) (fits : vs.length ≤ sizeLine) (al : AllAlike kz) (so : Sortable kz)
    (room : ∀ d, d ∈ kz → A.units + 2 + d.depth < cLine) (okS : argsOk "sorted" ⟨[.ref l], [(Str.ofString "key", f)]⟩) (okL : ∀ x, argsOk "list.sort" ⟨[.ref x], [(Str.ofString "key", f)]⟩) (tree : ∀ x, Builtin.«list.sort» ⟨[.ref x], [(Str.ofString "key", f)]⟩ = ksk_tree x f false)
    (turn : ∀ (i : Nat) (v : Value) (k : PyData), vs[i]? = some v → kz[i]? = some k → ∀ (g : Heap) (tk : Nat), (∀ b o, s.heap.get? b = some o → g.get? b = some o) →
      wpAny (model prog w) A.in1.in1 (call f [v]) (KeyL s.heap k { s with heap := g, toks := tk }) (fun _ _ => False) { s with heap := g, toks := tk })
    (fin : ∀ out c g tk, (∀ b o, s.heap.get? b = some o → g.get? b = some o) → g.get? (s.heap.objs.size + 1) = some (seqObj "list" (List.toArray out) c) → KeyedOut false kz vs out → Q (.ref (s.heap.objs.size + 1)) { s with heap := g, toks := tk }) :
    wpAny (model prog w) A (call (.builtin "sorted") [.ref l] [(Str.ofString "key", f)]) Q E s := by
  have up : ∀ {g : Heap}, KeepsBut (s.heap.objs.size + 1) (copyHeap s.heap vs) g → ∀ b o, s.heap.get? b = some o → g.get? b = some o := fun {g} k b o z => k b o (by have := Heap.lt_size z; exact Nat.ne_of_lt (Nat.lt_succ_of_lt this)) (copyHeap_old z)
  refine sorted_of_sort hl fits okS okL fun E' => ?_
  rw [tree]
  have at0 := copyHeap_at s.heap vs
  generalize hC : copyHeap s.heap vs = C at at0 up ⊢
  have inC := Heap.lt_size at0
  obtain ⟨e1, at1⟩ : ∃ e1, (C.update (s.heap.objs.size + 1) (Obj.mapSeq fun _ => (#[] : Array Value))).get? (s.heap.objs.size + 1) = some (seqObj "list" #[] e1) := ⟨_, get?_update_seq at0 fun _ => #[]⟩
  have size2 : ((C.update (s.heap.objs.size + 1) (Obj.mapSeq fun _ => (#[] : Array Value))).push (seqObj "tuple" vs.toArray 0)).objs.size = C.objs.size + 1 := by rw [size_push', Heap.size_update]
  unfold ksk_tree
  refine wpAny_bind (listItems_at at0 rfl ?_)
  refine wpAny_bind (listUpdate_at at0 rfl ?_ (by rw [List.size_toArray]; exact fits) (Nat.zero_le _))
  refine wpAny_bind (seqEpoch_at at1 rfl ?_)
  refine wpAny_bind (wpAny_newTuple ?_ (by show vs.length ≤ _; exact fits))
  refine wpAny_bind (wpAny_newList ?_ (Nat.zero_le _))
  refine wpAny_holding ?_
  have kp : KeepsBut (s.heap.objs.size + 1) C (sortingHeap C (s.heap.objs.size + 1) vs) := fun b o hb z => sortingHeap_old hb z
  refine keys_run (A := A.in1.in1) (s := { s with heap := sortingHeap C (s.heap.objs.size + 1) vs }) (S := ((C.update (s.heap.objs.size + 1) (Obj.mapSeq fun _ => (#[] : Array Value))).push (seqObj "tuple" vs.toArray 0)).objs.size) (h₁ := C) (kz := kz) kp
    (Heap.get?_none_of_le (by rw [size2]; exact Nat.le_succ _)) (Heap.get?_push_size _ rfl) (Heap.get?_push_of_some _ (Heap.get?_push_of_some _ at1)) (by rw [size2]; exact Nat.ne_of_gt (Nat.lt_succ_of_lt inC)) len fits al so (fun d hd => room d hd) (fun i v k hv hk g tk kpg => ?_) fun g tk out c kpg atg ko => ⟨rfl, fin out c g tk (up kpg) atg ko⟩
  refine wpAny_mono (turn i v k hv hk g tk (up kpg)) (fun u s2 z => ?_) fun _ _ z => z
  obtain ⟨g2, tk2, as, e, h1, h2, h3⟩ := z
  refine ⟨g2, tk2, as, e, h1, h2, fun b hb => ?_⟩
  obtain ⟨o, ho⟩ := h3 b hb
  exact ⟨o, by rw [← hC]; exact copyHeap_old ho⟩
end
end Kw

set_option maxRecDepth 100000
set_option maxHeartbeats 4000000
/-! sorted(xs, key=lambda p: (len(p), p)) for a list of lists of ints -/
namespace Kw
open PySem PySem.W PySem.Spec PySem.Calls PyProof.Rows
/-- the parameters, the text and the names of such a lambda -/
def lenPs (p : Str) (p0 : Pos) : Arguments := { posonlyargs := [], args := [{ arg := p, annotation := none, pos := p0 }], vararg := none, kwonlyargs := [], kw_defaults := [], kwarg := none, defaults := [] }
def lenEx (p : Str) (p1 p2 p3 p4 p5 : Pos) : Expr := .Tuple [.Call (.Name "len" p1) [.Name p p2] [] p3, .Name p p4] 0 p5
def lenSc (p : Str) : Scope := { kind := .function, names := [(p, .local), ("len", .globalImplicit)], isGenerator := false, isCoroutine := false, more := [] }
section
variable {prog : Program} {w : World} {A : Around} {s : Shared}
/-- called with a list: its length and itself, in a new tuple; all that stood stays -/
theorem lam_key {f t c' : Addr} {q p : Str} {p0 p1 p2 p3 p4 p5 : Pos} {pm ctv : Value} {its : Array Value} {mg mb : Str → Option Value} {ns : List PyData} {as : List Addr} (hf : s.heap.get? f = some (kla_obj "<lambda>" q (lenPs p p0) (lenEx p p1 p2 p3 p4 p5) (lenSc p) [] pm c' ctv))
    (code : s.heap.CodeRec (.ref c') q) (lim : s.heap.NoLimit) (glob : s.heap.Ns mainGlobals mg) (free : mg "len" = none) (blt : s.heap.Ns builtinsNs mb) (boot : mb "len" = some (.builtin "len")) (hl : s.heap.IsList t its) (fit : (its.size : Int) < 2 ^ 63)
    (hns : ReadsAll s.heap its.toList ns as) (deep : A.depth < recursionLimit) (hp : (p == ("__debug__" : Str)) = false) (hq : (("len" : Str) == p) = false) (rd : bindArgs (kla_fn "<lambda>" q (lenPs p p0) (lenEx p p1 p2 p3 p4 p5) (lenSc p) [] pm (.ref c') ctv) ⟨[.ref t], []⟩ = pure [(p, .ref t)]) :
    wpAny (model prog w) A (call (.ref f) [.ref t]) (fun v s2 => ∃ g tk, s2 = { s with heap := g, toks := tk } ∧ (∀ b o, s.heap.get? b = some o → g.get? b = some o) ∧ Reads g v (.tuple [.int its.size, .list ns]) (t :: as)) (fun _ _ => False) s := by
  refine wpAny_call ?_
  refine kla_callFunE deep hf rfl rfl rfl rfl code ?_
  rw [rd]
  refine wpAny_pure (wpAny_newFunctionEnv (fun x hx => ?_) (fun x hx => ?_) (fun h₁ hns1 hsb => ⟨lim.fresh _ hsb, ?_⟩) rfl)
  · rcases List.mem_cons.mp hx with rfl | hx
    · exact fun z => by cases z
    · rw [List.mem_singleton.mp hx]
      exact fun z => by cases z
  · rw [List.mem_singleton.mp hx]
    show List.lookup p [(p, NameKind.local), ("len", NameKind.globalImplicit)] = _
    rw [List.lookup_cons, beq_self_eq_true]
  have kp : ∀ b o, s.heap.get? b = some o → h₁.get? b = some o := fun b o e => hsb.extBut b o (Nat.ne_of_lt (Heap.lt_size e)) (Heap.get?_push_of_some _ e)
  show codeAny _ _ (.expr (lenEx p p1 p2 p3 p4 p5) (envX q (lenSc p) s.heap.objs.size f (.ref c') [])) _ _
  have loc : ∀ {E : Value → Shared → Prop} {Q : Value → Shared → Prop} {B : Around} {h2 : Heap} {tk : Nat} {pos : Pos}, h2.Ns s.heap.objs.size (fun x => ([(p, Value.ref t)] : List (Str × Value)).reverse.lookup x) → Q (.ref t) { s with heap := h2, toks := tk } →
      wpAny (model prog w) B (eval (.Name p pos) (envX q (lenSc p) s.heap.objs.size f (.ref c') [])) Q E { s with heap := h2, toks := tk } := fun {E Q B h2 tk pos} n z => by
    refine wpAny_Name (wpAny_loadName_local rfl ?_ n ?_ z) hp
    · show List.lookup p [(p, NameKind.local), ("len", NameKind.globalImplicit)] = _
      rw [List.lookup_cons, beq_self_eq_true]
    · show List.lookup p [(p, Value.ref t)] = _
      rw [List.lookup_cons, beq_self_eq_true]
  have kl : (envX q (lenSc p) s.heap.objs.size f (.ref c') []).kindOf "len" = some .globalImplicit := by
    show List.lookup ("len" : Str) [(p, NameKind.local), ("len", NameKind.globalImplicit)] = _
    rw [List.lookup_cons, hq]
    rfl
  refine kla_codeExpr ?_
  unfold lenEx
  refine wpAny_Tuple_spliced ?_
  refine Calls.spliced_cons (wpAny_Call_Name_kw (Calls.Name_function_global rfl kl (Calls.loadGlobal_builtin (glob.keeps kp) free (blt.keeps kp) boot ?_)))
  refine PyProof.Rows.callWith_builtin1 (Calls.spliced_cons (loc hns1 (Calls.spliced_nil ?_)))
  refine Calls.call_len_list (l := t) (items := its) (by obtain ⟨o, ho, r⟩ := hl; exact ⟨o, kp _ _ ho, r⟩) fit ?_
  refine Calls.spliced_cons (loc hns1 (Calls.spliced_nil ⟨by show 2 ≤ sizeLine; decide, ?_⟩))
  have kp2 : ∀ b o, s.heap.get? b = some o → (h₁.push { cls := .type "tuple", data := .seq #[.int its.size (s.toks + ([(p, Value.ref t)] : List (Str × Value)).length + 1), .ref t] }).get? b = some o := fun b o e => Heap.get?_push_of_some _ (kp b o e)
  obtain ⟨o, ho, hc, n, hd⟩ := hl
  refine ⟨_, _, rfl, kp2, ?_⟩
  refine Reads.tuple (Heap.get?_push_size _ rfl) rfl rfl ?_
  have r1 : ReadsAll (h₁.push { cls := .type "tuple", data := .seq #[.int its.size (s.toks + ([(p, Value.ref t)] : List (Str × Value)).length + 1), .ref t] }) [Value.ref t] [.list ns] ((t :: as) ++ []) := .cons (.list (kp2 _ _ ho) hc hd (PyProof.Rows.ReadsAll.keeps kp2 hns)) .nil
  rw [List.append_nil] at r1
  exact ReadsAll.cons (as := []) (.int _ _) r1
end
/-- lists of ints, tracked -/
def LsAt (H : L2.Hp) : List L2.V → List (List Nat) → Prop := Paired fun v l => ∃ t, v = L2.V.ref t ∧ H t = some (.lst (l.map fun (n : Nat) => L2.V.int (n : Int)))
def lenKey (l : List Nat) : PyData := .tuple [.int (l.length : Int), .list (l.map fun (n : Nat) => PyData.int (n : Int))]
/-- the order by length, then by the lists -/
def byLen : L2.V × List Nat → L2.V × List Nat → Bool := dataLe false fun b => lenKey b.2
theorem vals_reads {h : Heap} : ∀ {l : List Nat} {us : List Value}, L2.Vals (l.map fun (n : Nat) => L2.V.int (n : Int)) us → ReadsAll h us (l.map fun (n : Nat) => PyData.int (n : Int)) []
  | [], us, r => by
    cases r
    exact .nil
  | n :: l, us, r => by
    cases r with
    | cons r1 r2 =>
      obtain ⟨t, rfl⟩ := r1
      exact ReadsAll.cons (as := []) (.int _ _) (vals_reads r2)
theorem keys_alike (bs : List (List Nat)) : AllAlike (bs.map lenKey) := AllAlike.of fun a b => by
  have h : ∀ l : List Nat, (l.map fun (n : Nat) => PyData.int (n : Int)) = (l.map fun (n : Nat) => (n : Int)).map .int := fun l => by rw [List.map_map]; rfl
  unfold lenKey
  rw [h a, h b]
  simp only [alike, alikeAll, Bool.and_true, Bool.true_and]
  exact alike_ints _ _
theorem key_depth (l : List Nat) : (lenKey l).depth ≤ 2 := by
  have h : ∀ l : List Nat, PyData.depthAll (l.map fun (n : Nat) => PyData.int (n : Int)) = 0 := fun l => by
    induction l with
    | nil => rfl
    | cons a r ih =>
      rw [List.map_cons]
      simp [PyData.depthAll, PyData.depth, ih]
  unfold lenKey
  simp only [PyData.depth, PyData.depthAll, h]
  omega
theorem LsAt.at {H : L2.Hp} : ∀ {us : List L2.V} {bs : List (List Nat)} {i : Nat} {v : L2.V}, LsAt H us bs → us[i]? = some v → ∃ l t, bs[i]? = some l ∧ v = .ref t ∧ H t = some (.lst (l.map fun (n : Nat) => L2.V.int (n : Int)))
  | [], [], _, _, _, e => by simp at e
  | _ :: _, b :: _, 0, _, .cons ⟨t, e1, h⟩ _, e => by
    obtain rfl := Option.some.inj e
    exact ⟨b, t, rfl, e1, h⟩
  | _ :: _, _ :: _, i + 1, _, .cons _ r, e => LsAt.at (i := i) r e
theorem vals_at : ∀ {us : List L2.V} {its : List Value} {i : Nat} {v : Value}, L2.Vals us its → its[i]? = some v → ∃ x, us[i]? = some x ∧ L2.RelV x v
  | [], [], _, _, _, e => by simp at e
  | u :: _, _ :: _, 0, _, .cons h _, e => by
    obtain rfl := Option.some.inj e
    exact ⟨u, rfl, h⟩
  | _ :: _, _ :: _, i + 1, _, .cons _ r, e => vals_at (i := i) r e
theorem each_zip {γ : Type} : ∀ {us : List L2.V} {its : List Value} {bs : List γ}, L2.Vals us its → us.length = bs.length → EachIs (fun (v : Value) (b : L2.V × γ) => L2.RelV b.1 v) its (us.zip bs)
  | [], [], [], _, _ => .nil
  | _ :: _, _ :: _, _ :: _, .cons h r, e => .cons h (each_zip r (Nat.succ.inj e))
theorem vals_each {γ : Type} : ∀ {zs : List (L2.V × γ)} {out : List Value}, EachIs (fun (v : Value) (b : L2.V × γ) => L2.RelV b.1 v) out zs → L2.Vals (zs.map (·.1)) out
  | [], [], _ => .nil
  | _ :: _, _ :: _, .cons h r => .cons h (vals_each r)
open L2 LamX in
/-- sorted(xs, key=lambda p: (len(p), p)) -/
def tSortLam (T : List (Addr × Str)) (te : TE) : TE := fun σ H Q => tCons te tNil σ H fun vs H1 => ∃ (a : Addr) (us : List V) (bs : List (List Nat)), vs = [V.ref a] ∧ H1 a = some (.lst us) ∧ LsAt H1 us bs ∧ Tabs T H1 ∧
  ∀ (H2 : Hp) (r : Addr) (zs : List (V × List Nat)), ExtN H1 H2 → Tabs T H2 → H2 r = none → zs = (us.zip bs).mergeSort byLen → Q (.ref r) (upd H2 r (.lst (zs.map (·.1))))
open L2 LamX in
theorem pe_sortLam {X : Cx} {T : List (Addr × Str)} {c P : Addr} {e : Expr} {te : TE} {p : Str} {p0 p1 p2 p3 p4 p5 pn pos lpos kpos : Pos} (hg : Gl X "sorted") (hm : X.mg "sorted" = none) (hlen : X.mg "len" = none) (he : PE X e te) (TB : TabB X.base X.mg c P) (hcode : X.env.code = .ref c)
    (hmT : (P, X.env.qual ++ "<lambda>") ∈ T) (hu : ∀ q ∈ T, q.1 = P → q.2 = X.env.qual ++ "<lambda>") (hr : Room 1 X.A) (hd : (p == ("__debug__" : Str)) = false) (hl : (("len" : Str) == p) = false)
    (rd : ∀ (q : Str) (pm cv ctv u : Value), bindArgs (kla_fn "<lambda>" q (lenPs p p0) (lenEx p p1 p2 p3 p4 p5) (lenSc p) [] pm cv ctv) ⟨[u], []⟩ = pure [(p, u)])
    (hst : starEach [e] X.env = (false, eval e X.env) :: starEach [] X.env := by rfl) :
    PE X (.Call (.Name "sorted" pn) [e] [⟨some "key", .Lambda (lenPs p p0) (lenEx p p1 p2 p3 p4 p5) (lenSc p) lpos, kpos⟩] pos) (tSortLam T te) := by
  refine ⟨fun pins s σ H Q I h => ?_⟩
  refine wpAny_Call_Name_kw (ld_blt I hg hm boot_sorted ?_)
  refine PyProof.Rows.callWith_kw (thn ((pa_cons he pa_nil (hs := hst)).run pos pins s σ H _ I h) fun us1 s1 ⟨vs, H1, I1, r1, q1⟩ => ?_) (by rw [hst]; rfl) (by rw [hst]; rfl)
  obtain ⟨a, us, bs, rfl, ha, hU, hT, q⟩ := q1
  obtain rfl := Vals.ref1 r1
  show wpAny _ _ (evalAll ((do let v ← eval (.Lambda (lenPs p p0) (lenEx p p1 p2 p3 p4 p5) (lenSc p) lpos) X.env; standAt pos; pure v) :: [])) _ _ s1
  refine wpAny_evalAll_cons (wpAny_bind (lam_make2 I1 TB hcode hmT hu hT rfl (fun y hy z => ?_) fun f c' pm ctv H2 s2 I2 eN T2 hf hfn hfr hco => wpAny_bind (wpAny_standAt (wpAny_pure (wpAny_evalAll_nil ?_)))))
  · rcases List.mem_cons.mp hy with rfl | hy
    · cases z
    · rw [List.mem_singleton.mp hy] at z
      cases z
  have ha2 := eN _ _ ha (fun ps z => by cases z)
  have hU2 : LsAt H2 us bs := by
    have go : ∀ {us : List V} {bs : List (List Nat)}, LsAt H1 us bs → LsAt H2 us bs := fun z => by
      induction z with
      | nil => exact .nil
      | cons y _ ih =>
        obtain ⟨t, e1, e2⟩ := y
        exact .cons ⟨t, e1, eN _ _ e2 (fun ps z => by cases z)⟩ ih
    exact go hU
  obtain ⟨its, rv, pl, hz⟩ := I2.list (.inl (.inl ha2))
  have lens : us.length = bs.length := Paired.length hU2
  have lenv : us.length = its.length := rv.length
  obtain ⟨⟨oc, ovs, ot, hoc, hdc, hvc⟩, _, _⟩ := I2.hok c' _ hco
  show wpAny _ _ (call (.builtin "sorted") [.ref a] [(Str.ofString "key", .ref f)]) _ _ s2
  refine sorted_keyL (kz := bs.map lenKey) pl.isList (by rw [List.length_map]; omega) (by omega) (keys_alike bs) (.inl fun d hd => by
      obtain ⟨b, _, rfl⟩ := List.mem_map.mp hd
      exact ⟨_, _, rfl⟩) (fun d hd => by
      obtain ⟨b, _, rfl⟩ := List.mem_map.mp hd
      have h1 := key_depth b
      have h2 := hr.un
      omega) (ksk_s1 _ _) (fun _ => ksk_l1 _ _) (fun _ => ksk_t1 _ _) (fun i v k hv hk g tk kp => ?_) fun out cc g tk kp atg ko => ?_
  · rw [List.getElem?_map] at hk
    obtain ⟨l, hl1, rfl⟩ := Option.map_eq_some_iff.mp hk
    obtain ⟨x, hx, rx⟩ := vals_at rv hv
    obtain ⟨l2, t, e1, rfl, e2⟩ := hU2.at hx
    rw [hl1] at e1
    obtain rfl := Option.some.inj e1
    obtain rfl : v = Value.ref t := rx
    obtain ⟨lits, rl, pll, hzl⟩ := I2.list (.inl (.inl e2))
    have ll : lits.length = l.length := by
      have := rl.length
      rw [List.length_map] at this
      exact this.symm
    obtain ⟨mb, b1, b2⟩ := I2.mod.blt
    have isl := pll.isList
    obtain ⟨ol, hol, rl2⟩ := id isl
    refine wpAny_mono (lam_key (s := { s2 with heap := g, toks := tk }) (its := lits.toArray) (kp _ _ hf) ⟨c', oc, ovs, ot, rfl, kp _ _ hoc, hdc, hvc⟩ (I2.nolimit.keeps kp) ((I2.mod.glob.keeps I2.bk).keeps kp) hlen ((b1.keeps I2.bk).keeps kp) ((b2 "len" (by decide)).trans PySem.boot_len) ⟨ol, kp _ _ hol, rl2⟩ ?_
      (PyProof.Rows.ReadsAll.keeps kp (vals_reads rl)) ?_ hd hl (rd _ _ _ _ _)) (fun u s3 z => ?_) fun _ _ z => z
    · rw [List.size_toArray, ll]
      rw [List.length_map] at hzl
      have : sizeLine = 2 ^ 24 := by decide
      omega
    · have := hr.dp
      show X.A.depth < _
      omega
    · obtain ⟨g2, tk2, e3, k3, r3⟩ := z
      refine ⟨g2, tk2, [t], e3, k3, ?_, fun b hb => ?_⟩
      · rw [List.size_toArray, ll] at r3
        exact r3
      · rw [List.mem_singleton.mp hb]
        exact ⟨ol, hol⟩
  · have ez : (us.zip bs).map (fun b => lenKey b.2) = bs.map lenKey := by
      have : (us.zip bs).map (fun b => lenKey b.2) = ((us.zip bs).map Prod.snd).map lenKey := by
        rw [List.map_map]
        rfl
      rw [this, List.map_snd_zip (by omega)]
    rw [← ez] at ko
    have ex := keyedOut_each (fun b : V × List Nat => lenKey b.2) ko (each_zip rv lens)
    have vo := vals_each ex
    have lo : (((us.zip bs).mergeSort byLen).map (·.1)).length ≤ sizeLine := by
      rw [List.length_map, List.length_mergeSort, List.length_zip]
      omega
    refine ⟨.ref _, _, I2.laid (a := s2.heap.objs.size + 1) (o := .lst (((us.zip bs).mergeSort byLen).map (·.1))) (t' := tk) kp (Nat.le_succ _) ⟨lo, out, cc, vo, atg⟩, rfl, q H2 _ _ eN T2 (I2.hok.fresh (Nat.le_succ _)) rfl⟩
end Kw

set_option maxRecDepth 100000
set_option maxHeartbeats 4000000
/-! a def that makes a lambda, a law that prints and has such defs -/
namespace Kw
open PySem PySem.Spec PyProof.Rows L2 LamX
section
variable {P : Program} {w : World} {K : PySem.W.Frag} {mg : Str → Option Value} {base : Heap} {x qual : Str} {params : Arguments} {body : List Stmt} {scope : Scope} {dvs : List V} {kws : List (Str × V)} {f : Addr} {fd : FuncData}
/-- by the body, the code object known -/
theorem FunD.okC {CX : CXT} {N ps : List Str} {k : Nat} {sp : Sp} {c : Addr} (F : FunD K x qual params body scope dvs kws f fd) (hc : fd.code = .ref c) (S : FnScope N ps scope) (len : ∀ vs H Q E, sp vs H Q E → vs.length = ps.length)
    (run : ∀ (A : Around) (outer : List Env) (s : Shared) (H : Hp) (vs : List V) (Q : VK) (E : XK), Room k (A.deeper (envOfC qual scope s.heap.objs.size f (.ref c))) → sp vs H Q E →
      ∃ t, PSs (cxOf CX P w K mg base N qual scope f (.ref c) A outer s H E) body t ∧ t { nx := fun _ H' => Q .non H', rt := Q } (L2.start N vs) H) : FnOk P w K mg base CX (k + 1) f fd ps sp := by
  obtain ⟨oc, od, dV, kV, doc, pm, an, cdv, ct, osl, rfl, lk, hcd, _, _⟩ := F.ex
  have e : cdv = .ref c := hc
  subst e
  exact fn_of lk hcd S len fun A outer s H vs Q E hr h => run A outer s H vs Q E hr h
theorem FunD.codeAt {p : Str × Option Str} (F : FunD K x qual params body scope dvs kws (He.fAd K p) fd) : fd.code = .ref (He.codeOf K p) := by
  obtain ⟨oc, od, dV, kV, doc, pm, an, cdv, ct, osl, rfl, lk, hcd, _, _⟩ := F.ex
  obtain ⟨c, e⟩ := He.codeIn_ref hcd
  have e : cdv = .ref c := e
  subst e
  rw [He.codeOf_eq lk rfl]
end
section
variable {P : Program} {w : World} {K : PySem.W.Frag} {mg : Str → Option Value}
/-- the abstract heap ahead of such a law: its script, the defs' tables -/
def scriptTabs (K : PySem.W.Frag) (a : Addr) (o : Obj) (u : HO) (ts : List Addr) : Hp := fun b => if b = a then (if K.lookup a = none then some (.frz o u) else none) else if b ∈ ts then some (.tbl #[]) else none
theorem call_hereT {mb : Str → Option Value} {CX : CXT} {fa a : Addr} {s : Shared} {vs : List Value} {ns : List Int} {cs : List (Addr × Addr)}
    (inK : K.In s.heap) (nsG : s.heap.Ns mainGlobals mg) (nsB : s.heap.Ns builtinsNs mb) (boot : ∀ x : Str, x ≠ "__name__" → mb x = bootBuiltins x) (nolim : s.heap.NoLimit) (nogen : s.gens = #[])
    (empty : ∀ p ∈ cs, s.heap.get? p.2 = some { cls := .none, data := .fields #[] }) (apart : ∀ p ∈ cs, K.lookup p.2 = none) (codes : ∀ p ∈ cs, PySem.W.CodeHd s.heap p.1 p.2)
    (bmod : ∃ (bm : Addr) (ob : Obj), mg "__builtins__" = some (.ref bm) ∧ bm ≠ builtinsNs ∧ s.heap.get? bm = some ob ∧ ob.cls = .type "module" ∧ ob.dict = some builtinsNs ∧ ob.data = .plain)
    (obj : s.heap.get? a = some { cls := .type "list", data := .seq vs.toArray }) (nums : IntsAre vs ns) (size : ns.length ≤ sizeLine)
    (noErr : ∀ H e s', CX [] H s (fun _ _ _ => False) e s' → False)
    (F : ∀ (base : Heap) (H : Hp), K.In base → base.Ns mainGlobals mg → (∀ p ∈ cs, TabB base mg p.1 p.2) → (∀ p ∈ cs, H p.2 = some (.tbl #[])) → Env0 P w K mg base callerA [] s H → SqL K H a (ns.map V.int) →
      codeAny (model P w) callerA (.call (.ref fa) ⟨[.ref a], []⟩) (CR CX [] P w H s (fun v _ => v = .bl true) (fun _ _ _ => False)) s) :
    codeAny (model P w) callerA (.call (.ref fa) ⟨[.ref a], []⟩) (fun r s' => r = .ok (.ret (.bool true)) ∧ OldK s.heap s'.heap ∧ s'.os = s.os ∧ AllBare s'.gens) s := by
  have rel := vals_ints nums
  have lenV := nums.length
  generalize hO : ({ cls := .type "list", data := .seq vs.toArray } : Obj) = O at obj
  have Oc : O.cls = .type "list" := by rw [← hO]
  have Od : O.data = .seq vs.toArray 0 := by rw [← hO]
  have Odd : O.dict = none := by rw [← hO]
  have tabAt : ∀ b ∈ cs.map (·.2), s.heap.get? b = some { cls := .none, data := .fields #[] } := fun b hb => by
    obtain ⟨p, hp, rfl⟩ := List.mem_map.mp hb
    exact empty p hp
  have aNo : a ∉ cs.map (·.2) := fun z => by
    have := tabAt a z
    rw [obj] at this
    rw [Option.some.inj this] at Od
    cases Od
  generalize hH : scriptTabs K a O (.lst (ns.map V.int)) (cs.map (·.2)) = H
  have Hs : ∀ {b : Addr} {v : HO}, H b = some v → (b = a ∧ K.lookup a = none ∧ v = .frz O (.lst (ns.map V.int))) ∨ (b ∈ cs.map (·.2) ∧ v = .tbl #[]) := fun {b v} z => by
    rw [← hH] at z
    unfold scriptTabs at z
    by_cases q : b = a
    · rw [if_pos q] at z
      by_cases q2 : K.lookup a = none
      · rw [if_pos q2] at z
        exact .inl ⟨q, q2, (Option.some.inj z).symm⟩
      · rw [if_neg q2] at z
        cases z
    · rw [if_neg q] at z
      by_cases q2 : b ∈ cs.map (·.2)
      · rw [if_pos q2] at z
        exact .inr ⟨q2, (Option.some.inj z).symm⟩
      · rw [if_neg q2] at z
        cases z
  have Ht : ∀ p ∈ cs, H p.2 = some (.tbl #[]) := fun p hp => by
    have m : p.2 ∈ cs.map (·.2) := List.mem_map.mpr ⟨p, hp, rfl⟩
    rw [← hH]
    unfold scriptTabs
    rw [if_neg (fun z => aNo (by rw [← z]; exact m)), if_pos m]
  -- an object of another make is not ours
  have free : ∀ {b : Addr} {o : Obj}, s.heap.get? b = some o → (∀ vs n, o.data ≠ .seq vs n) → o.data ≠ .fields #[] → H b = none := fun {b o} e h1 h2 => by
    cases z : H b with
    | none => rfl
    | some v =>
      rcases Hs z with ⟨r1, _, _⟩ | ⟨r1, _⟩
      · rw [r1, obj] at e
        rw [← Option.some.inj e] at h1
        exact (h1 _ _ Od).elim
      · rw [tabAt b r1] at e
        rw [← Option.some.inj e] at h2
        exact (h2 rfl).elim
  have hid : ∀ {b : Addr} {o : Obj}, s.heap.get? b = some o → H b = none → (hidT s.heap H).get? b = some o := fun e n => hidT_get e n
  have look : K.In (hidT s.heap H) := fun b o e => hid (inK b o e) (by
    cases z : H b with
    | none => rfl
    | some v =>
      rcases Hs z with ⟨r1, r2, _⟩ | ⟨r1, _⟩
      · rw [r1, r2] at e
        cases e
      · obtain ⟨p, hp, ep⟩ := List.mem_map.mp r1
        rw [← ep, apart p hp] at e
        cases e)
  have spaces : ∀ {b : Addr} {m : Str → Option Value}, s.heap.Ns b m → (hidT s.heap H).Ns b m := fun {b m} z => by
    obtain ⟨o, es, ep, e, d, r⟩ := z
    exact ⟨o, es, ep, hid e (free e (fun vs n y => by rw [d] at y; cases y) (fun y => by rw [d] at y; cases y)), d, r⟩
  obtain ⟨ml, l1, l2⟩ := nolim
  have held : HOk P w H s.heap := fun b v z => by
    rcases Hs z with ⟨r1, _, r3⟩ | ⟨r1, r2⟩
    · rw [r1, r3]
      exact ⟨obj, by rw [List.length_map]; exact size, vs, 0, rel, by rw [obj, ← hO]⟩
    · rw [r2]
      exact tabAt b r1
  have env0 : Env0 P w K mg (hidT s.heap H) callerA [] s H := ⟨rfl, ⟨look, spaces nsG, ⟨mb, spaces nsB, boot⟩, ⟨ml, spaces l1, l2⟩⟩, fun b o e => of_hidT e, Nat.le_of_eq (hidT_size _ _), trivial, fun b hb => absurd (show b ∈ ([] : List Addr) from hb) List.not_mem_nil, held, .of_eq nogen⟩
  have script : SqL K H a (ns.map V.int) := by
    cases kl : K.lookup a with
    | none =>
      refine .inl (.inr ⟨O, ?_⟩)
      rw [← hH]
      unfold scriptTabs
      rw [if_pos rfl, if_pos kl]
    | some o =>
      have e := inK a o kl
      rw [obj] at e
      obtain rfl := Option.some.inj e
      exact .inr ⟨O, vs.toArray, 0, kl, Oc, Odd, Od, by rw [List.size_toArray, lenV]; exact size, by simpa using rel⟩
  have tabs : ∀ p ∈ cs, TabB (hidT s.heap H) mg p.1 p.2 := fun p hp => by
    have at_ := empty p hp
    refine ⟨?_, ?_, fun z => ?_⟩
    · obtain ⟨o, us, file, tf, flags, tg, inF, text, tt, e1, r1, r2, r3, rest⟩ := codes p hp
      refine ⟨o, us, file, tf, flags, tg, inF, text, tt, hid e1 (free e1 (fun vs n y => by rw [r2] at y; cases y) (fun y => ?_)), r1, r2, r3, rest⟩
      rw [r2] at y
      cases y
      simp at r3
    · obtain ⟨bm, ob, b1, b2, b3, b4, b5, b6⟩ := bmod
      refine ⟨bm, ob, b1, b2, fun z => ?_, fun z => ?_, hid b3 (free b3 (fun vs n y => by rw [b6] at y; cases y) (fun y => by rw [b6] at y; cases y)), b4, b5, b6⟩
      · obtain ⟨o, es, ep, e, d, _⟩ := nsG
        rw [z, e] at b3
        rw [Option.some.inj b3, b6] at d
        cases d
      · rw [z, at_] at b3
        rw [← Option.some.inj b3] at b6
        cases b6
    · obtain ⟨o, es, ep, e, d, _⟩ := nsG
      rw [z, at_] at e
      rw [← Option.some.inj e] at d
      cases d
  refine codeAny_mono (F _ H look (spaces nsG) tabs Ht env0 script) fun r s' got => ?_
  rcases r with er | fl
  · exact (noErr H er s' got).elim
  cases fl with
  | ret u =>
    obtain ⟨v, H', os, bare, un, held', rv, qv⟩ := got
    obtain rfl : v = .bl true := qv
    obtain rfl : u = Value.bool true := rv
    have kept : ∀ b o, b ∉ cs.map (·.2) → s.heap.get? b = some o → s'.heap.get? b = some o := fun b o nb e => by
      cases z : H b with
      | none => exact un.keep b o e z (fun y => absurd (show b ∈ ([] : List Addr) from y) List.not_mem_nil) (by simp)
      | some v =>
        rcases Hs z with ⟨r1, _, r3⟩ | ⟨r1, _⟩
        · rw [r3] at z
          obtain ⟨e2, _⟩ := held' b _ (un.frzs b O _ z)
          rw [r1] at e e2
          rw [r1]
          rw [obj] at e
          rw [← Option.some.inj e]
          exact e2
        · exact absurd r1 nb
    have grown : ∀ p ∈ cs, ∃ more : Array Value, s'.heap.get? p.2 = some { cls := .none, data := .fields more } := fun p hp => by
      obtain ⟨more, z⟩ := un.tbls p.2 #[] (Ht p hp)
      exact ⟨_, held' p.2 _ z⟩
    refine ⟨rfl, ⟨fun b o e => ?_, fun b o e => ?_⟩, os, bare⟩
    · by_cases m : b ∈ cs.map (·.2)
      · obtain ⟨p, hp, ep⟩ := List.mem_map.mp m
        obtain ⟨more, hm⟩ := grown p hp
        rw [← ep] at e ⊢
        rw [empty p hp] at e
        obtain rfl := Option.some.inj e
        exact .inr (.inl ⟨((codes p hp).tab (empty p hp)).isCodeTable, rfl, #[], more, rfl, by rw [Array.empty_append]; exact hm⟩)
      · exact .inl (kept b o m e)
    · by_cases m : b ∈ cs.map (·.2)
      · obtain ⟨p, hp, ep⟩ := List.mem_map.mp m
        obtain ⟨more, hm⟩ := grown p hp
        rw [← ep]
        exact ⟨_, hm⟩
      · exact ⟨o, kept b o m e⟩
  | next => exact got.elim
  | brk => exact got.elim
  | cont => exact got.elim
/-- such a law: run at the one place from which it is called -/
theorem walk_hereT {l : PySem.W.OpenLaw} {n : Nat} {q : Program} {loose : List Str} {XP : (Str → Option Value) → Heap → Prop} {YP : World → Heap → Prop} {d : DefRec} {CX : CXT}
    (hn : l.most = some n) (hn2 : n ≤ sizeLine) (hdf : d.params.defaults = [])
    (F : ∀ (w : World) (mg : Str → Option Value) (fa : Addr) (h : Heap), YP w h → h.Ns mainGlobals mg → mg d.name = some (.ref fa) →
      ∃ (K : PySem.W.Frag) (cs : List (Addr × Addr)), K.In h ∧ (∀ p ∈ cs, h.get? p.2 = some { cls := .none, data := .fields #[] }) ∧ (∀ p ∈ cs, K.lookup p.2 = none) ∧ (∀ p ∈ cs, PySem.W.CodeHd h p.1 p.2) ∧
        ∀ (base : Heap) (H : Hp) (s : Shared) (a : Addr) (ns : List Int), K.In base → base.Ns mainGlobals mg → (∀ p ∈ cs, TabB base mg p.1 p.2) → (∀ p ∈ cs, H p.2 = some (.tbl #[])) → ns.length ≤ n → Env0 l.prog w K mg base callerA [] s H → SqL K H a (ns.map V.int) →
        codeAny (model l.prog w) callerA (.call (.ref fa) ⟨[.ref a], []⟩) (CR CX [] l.prog w H s (fun v _ => v = .bl true) (fun _ _ _ => False)) s)
    (hCX : ∀ (H : Hp) (s : Shared) (e : Value) (s' : Shared), CX [] H s (fun _ _ _ => False) e s' → False) :
    PySem.W.WalkO q loose XP YP l.row.toRowW d [] (fun f vs => PySem.call f vs) := by
  refine Att.attach_call hn hdf fun w s₀ s₁ mg mb fa o pm cd doc a vs ns G Y ho hd hcd hmg hobj hints hlen hg => ?_
  obtain ⟨K, cs, KX, h1, h2, h3, hF⟩ := F w mg fa _ Y G.T.g hmg
  exact call_hereT KX G.T.g G.T.b G.T.builtins G.T.nolimit hg h1 h2 h3 G.T.bmain hobj hints (Nat.le_trans hlen hn2) (fun H e s' => hCX H s₁ e s') fun base H hb hbn htb ht e0 hS => hF base H s₁ a ns hb hbn htb ht hlen e0 hS
end
end Kw

set_option maxRecDepth 100000
set_option maxHeartbeats 4000000
namespace Kw
open PySem PySem.Spec PyProof.Rows L2
/-- a def that prints: called where no repr is under way -/
structure FnOkG (P : Program) (w : World) (K : PySem.W.Frag) (mg : Str → Option Value) (base : Heap) (CX : CXT) (k : Nat) (f : Addr) (fd : FuncData) (ps : List Str) (sp : Sp) : Prop where
  len : ∀ vs H Q E, sp vs H Q E → vs.length = ps.length
  run : ∀ (A : Around) (outer : List Env) (s : Shared) (H : Hp) (args : Args) (us : List Value) (vs : List V) (Q : VK) (E : XK), A.guards = some [] → Room k A → Env0 P w K mg base A outer s H → BindsTo s fd args (ps.zip us) → Vals vs us → sp vs H Q E →
    codeAny (model P w) A (.call (.ref f) args) (CR CX outer P w H s Q E) s
section
variable {P : Program} {w : World} {K : PySem.W.Frag} {mg : Str → Option Value} {base : Heap} {x qual : Str} {params : Arguments} {body : List Stmt} {scope : Scope} {dvs : List V} {kws : List (Str × V)} {f : Addr} {fd : FuncData}
theorem FunD.okG {CX : CXT} {N ps : List Str} {k : Nat} {sp : Sp} (D : FunD K x qual params body scope dvs kws f fd) (S : FnScope N ps scope) (len : ∀ vs H Q E, sp vs H Q E → vs.length = ps.length)
    (run : ∀ (cdv : Value) (A : Around) (outer : List Env) (s : Shared) (H : Hp) (vs : List V) (Q : VK) (E : XK), A.guards = some [] → Room k (A.deeper (envOfC qual scope s.heap.objs.size f cdv)) → sp vs H Q E →
      ∃ t, PSs (cxOf CX P w K mg base N qual scope f cdv A outer s H E) body t ∧ t { nx := fun _ H' => Q .non H', rt := Q } (L2.start N vs) H) : FnOkG P w K mg base CX (k + 1) f fd ps sp :=
  ⟨len, fun A outer s H args us vs Q E g hr e0 bd rel h => def_at D S (len vs H Q E h) hr e0 bd rel fun cdv => run cdv A outer s H vs Q E g (hr.deeper _) h⟩
end
section
variable {X : Cx} {CX : CXT} {k : Nat} {f : Addr} {fd : FuncData} {ps : List Str} {sp : Sp} {E : XK} {x : Str} {p pos : Pos} {e : Expr} {es : List Expr} {t : TA}
theorem pe_callG (F : FnOkG X.prog X.w X.K X.mg X.base CX k f fd ps sp) (quiet : X.A.guards = some []) (hr : Room k X.A) (hg : Gl X x) (hm : X.mg x = some (.ref f)) (hk : PySem.W.keepIn X.K (.ref f) = true) (hb : Binds X.K fd ps []) (hx : Passes CX X E)
    (ha : PA X (e :: es) t) (hdb : (x == ("__debug__" : Str)) = false := by decide) (he : starEach (e :: es) X.env = (false, eval e X.env) :: starEach es X.env := by rfl) (hpl : (backTo pos (starEach es X.env)).any (·.1) = false := by rfl) :
    PE X (.Call (.Name x p) (e :: es) [] pos) (tCall sp [] E t) := by
  refine ⟨fun pins s σ H Q I h => ?_⟩
  refine wpAny_Call_Name_kw (ld_glob I hg hm ?_ hdb)
  refine PySem.W.callWith_K (h₀ := X.base) I.ok.mod.kin hk (thn (ha.run pos pins s σ H _ I h) fun us s1 ⟨vs, H1, I1, r, q⟩ => ⟨I1.kIn, ?_⟩) he hpl
  have q : sp vs H1 Q E := by
    have q2 : sp (vs ++ []) H1 Q E := q
    rw [List.append_nil] at q2
    exact q2
  have lu : us.length = ps.length := by rw [← r.length]; exact F.len _ _ _ _ q
  have bd : BindsTo s1 fd ⟨us, []⟩ (ps.zip us) := by
    have := hb s1 us I1.kIn (by rw [List.append_nil]; exact lu)
    rw [List.append_nil] at this
    exact this
  refine wpAny_call (codeAny_mono (F.run X.A X.stack s1 H1 ⟨us, []⟩ us vs Q E quiet hr I1.env0 bd r q) fun r s' hq => ?_)
  rcases r with er | fl
  · exact hx pins σ H1 s1 er s' I1 hq
  cases fl with
  | ret u => exact I1.after hq
  | next => exact hq.elim
  | brk => exact hq.elim
  | cont => exact hq.elim
end
/-! ### comprehensions with two for over lists or tuples that stand -/
section
variable {K : PySem.W.Frag} {a : Addr} {xs : List V}
theorem lc2_inT {g1 : TG} {tt1 : TT} {te : TE} {vs1 : List Nat} {σ2 : L2.St} {H4 : Hp} {D : Addr} {Nx : Hp → Prop} (Pw : Nat → Hp → Prop) (h0 : Pw 0 H4) (hl : ∀ i H, i ≤ xs.length → Pw i H → SqT K H a xs)
    (hs : ∀ j x H, xs[j]? = some x → Pw j H → g1 x (wipe σ2 vs1) H fun σ3 H5 => wipe σ3 vs1 = wipe σ2 vs1 ∧ tt1 σ3 H5 fun b H6 =>
        if b = true then te σ3 H6 fun y H7 => ∃ acc, H7 D = some (.lst acc) ∧ acc.length < sizeLine ∧ Pw (j + 1) (upd H7 D (.lst (acc ++ [y]))) else Pw (j + 1) H6)
    (hd : ∀ H, Pw xs.length H → Nx H) :
    ∃ W1 : Nat → Nat → Hp → Prop, (∃ m, W1 0 m H4) ∧ ∀ j k H, W1 j k H →
        ((Itt K a).stop j H ∧ Nx H) ∨ ((Itt K a).go j H ∧ ∃ Nx1 : Hp → Prop, (∀ H', Nx1 H' → ∃ k', k' < k ∧ W1 (j + 1) k' H') ∧ ∀ x H', (Itt K a).yld j H x H' → g1 x (wipe σ2 vs1) H' fun σ3 H5 => wipe σ3 vs1 = wipe σ2 vs1 ∧ tt1 σ3 H5 fun b H6 =>
          if b = true then te σ3 H6 fun y H7 => ∃ acc, H7 D = some (.lst acc) ∧ acc.length < sizeLine ∧ Nx1 (upd H7 D (.lst (acc ++ [y]))) else Nx1 H6) := by
  refine ⟨fun i m H => m = xs.length - i ∧ i ≤ xs.length ∧ Pw i H, ⟨xs.length, by simp, Nat.zero_le _, h0⟩, ?_⟩
  rintro i m H ⟨rfl, hi, p⟩
  have q := hl i H hi p
  by_cases lt : i < xs.length
  · refine .inr ⟨⟨xs, xs[i], q, by simp [lt]⟩, Pw (i + 1), fun H' p' => ⟨xs.length - (i + 1), by omega, rfl, lt, p'⟩, fun x H' y => ?_⟩
    obtain ⟨e, y⟩ := y
    subst e
    exact hs i x _ (y xs q) p
  · obtain rfl : i = xs.length := by omega
    exact .inl ⟨⟨xs, q, Nat.le_refl _⟩, hd H p⟩
theorem lc2_outT {wi1 : TI} {g g1 : TG} {tt tt1 : TT} {te : TE} {vs vs1 : List Nat} {σ : L2.St} {H1 : Hp} {D : Addr} {Qd : Hp → Prop} (Pv : Nat → Hp → Prop) (h0 : Pv 0 (upd H1 D (.lst []))) (hl : ∀ i H, i ≤ xs.length → Pv i H → SqT K H a xs)
    (hs : ∀ i x H, xs[i]? = some x → Pv i H → ∀ Nx : Hp → Prop, (∀ H', Pv (i + 1) H' → Nx H') → g x (wipe σ vs) H fun σ2 H2 => wipe σ2 vs = wipe σ vs ∧ tt σ2 H2 fun b H3 => if b = true then wi1 σ2 H3 fun J1 H4 => ∃ W1 : Nat → Nat → Hp → Prop, (∃ m, W1 0 m H4) ∧ ∀ j k H, W1 j k H →
        (J1.stop j H ∧ Nx H) ∨ (J1.go j H ∧ ∃ Nx1 : Hp → Prop, (∀ H', Nx1 H' → ∃ k', k' < k ∧ W1 (j + 1) k' H') ∧ ∀ x H', J1.yld j H x H' → g1 x (wipe σ2 vs1) H' fun σ3 H5 => wipe σ3 vs1 = wipe σ2 vs1 ∧ tt1 σ3 H5 fun b H6 =>
          if b = true then te σ3 H6 fun y H7 => ∃ acc, H7 D = some (.lst acc) ∧ acc.length < sizeLine ∧ Nx1 (upd H7 D (.lst (acc ++ [y]))) else Nx1 H6) else Nx H3)
    (hd : ∀ H, Pv xs.length H → Qd H) :
    ∃ W : Nat → Nat → Hp → Prop, (∃ m, W 0 m (upd H1 D (.lst []))) ∧ ∀ i m H, W i m H →
  ((Itt K a).stop i H ∧ Qd H) ∨ ((Itt K a).go i H ∧ ∃ Nx : Hp → Prop, (∀ H', Nx H' → ∃ m', m' < m ∧ W (i + 1) m' H') ∧ ∀ x H', (Itt K a).yld i H x H' → g x (wipe σ vs) H' fun σ2 H2 => wipe σ2 vs = wipe σ vs ∧ tt σ2 H2 fun b H3 =>
    if b = true then wi1 σ2 H3 fun J1 H4 => ∃ W1 : Nat → Nat → Hp → Prop, (∃ m, W1 0 m H4) ∧ ∀ j k H, W1 j k H →
        (J1.stop j H ∧ Nx H) ∨ (J1.go j H ∧ ∃ Nx1 : Hp → Prop, (∀ H', Nx1 H' → ∃ k', k' < k ∧ W1 (j + 1) k' H') ∧ ∀ x H', J1.yld j H x H' → g1 x (wipe σ2 vs1) H' fun σ3 H5 => wipe σ3 vs1 = wipe σ2 vs1 ∧ tt1 σ3 H5 fun b H6 =>
          if b = true then te σ3 H6 fun y H7 => ∃ acc, H7 D = some (.lst acc) ∧ acc.length < sizeLine ∧ Nx1 (upd H7 D (.lst (acc ++ [y]))) else Nx1 H6) else Nx H3) := by
  refine ⟨fun i m H => m = xs.length - i ∧ i ≤ xs.length ∧ Pv i H, ⟨xs.length, by simp, Nat.zero_le _, h0⟩, ?_⟩
  rintro i m H ⟨rfl, hi, p⟩
  have q := hl i H hi p
  by_cases lt : i < xs.length
  · refine .inr ⟨⟨xs, xs[i], q, by simp [lt]⟩, Pv (i + 1), fun H' p' => ⟨xs.length - (i + 1), by omega, rfl, lt, p'⟩, fun x H' y => ?_⟩
    obtain ⟨e, y⟩ := y
    subst e
    exact hs i x _ (y xs q) p _ fun _ z => z
  · obtain rfl : i = xs.length := by omega
    exact .inl ⟨⟨xs, q, Nat.le_refl _⟩, hd H p⟩
end
end Kw

set_option maxRecDepth 100000
set_option maxHeartbeats 8000000
namespace K57
open PySem PySem.Spec PyProof.Rows L2 Kw
/-- the outer walk, over enumerate of a tuple -/
theorem lc2_outE {K : PySem.W.Frag} {a : Addr} {xs : List V} {wi1 : TI} {g g1 : TG} {tt tt1 : TT} {te : TE} {vs vs1 : List Nat} {σ : L2.St} {H1 : Hp} {D : Addr} {Qd : Hp → Prop} (Pv : Nat → Hp → Prop) (h0 : Pv 0 (upd H1 D (.lst []))) (hl : ∀ i H, i ≤ xs.length → Pv i H → SqT K H a xs)
    (hs : ∀ i x H T, xs[i]? = some x → Pv i H → H T = none → ∀ Nx : Hp → Prop, (∀ H', Pv (i + 1) H' → Nx H') → g (.ref T) (wipe σ vs) (upd H T (.tup [.int (i : Nat), x])) fun σ2 H2 => wipe σ2 vs = wipe σ vs ∧ tt σ2 H2 fun b H3 => if b = true then wi1 σ2 H3 fun J1 H4 => ∃ W1 : Nat → Nat → Hp → Prop, (∃ m, W1 0 m H4) ∧ ∀ j k H, W1 j k H →
        (J1.stop j H ∧ Nx H) ∨ (J1.go j H ∧ ∃ Nx1 : Hp → Prop, (∀ H', Nx1 H' → ∃ k', k' < k ∧ W1 (j + 1) k' H') ∧ ∀ x H', J1.yld j H x H' → g1 x (wipe σ2 vs1) H' fun σ3 H5 => wipe σ3 vs1 = wipe σ2 vs1 ∧ tt1 σ3 H5 fun b H6 =>
          if b = true then te σ3 H6 fun y H7 => ∃ acc, H7 D = some (.lst acc) ∧ acc.length < sizeLine ∧ Nx1 (upd H7 D (.lst (acc ++ [y]))) else Nx1 H6) else Nx H3)
    (hd : ∀ H, Pv xs.length H → Qd H) :
    ∃ W : Nat → Nat → Hp → Prop, (∃ m, W 0 m (upd H1 D (.lst []))) ∧ ∀ i m H, W i m H →
  ((Itet K a).stop i H ∧ Qd H) ∨ ((Itet K a).go i H ∧ ∃ Nx : Hp → Prop, (∀ H', Nx H' → ∃ m', m' < m ∧ W (i + 1) m' H') ∧ ∀ x H', (Itet K a).yld i H x H' → g x (wipe σ vs) H' fun σ2 H2 => wipe σ2 vs = wipe σ vs ∧ tt σ2 H2 fun b H3 =>
    if b = true then wi1 σ2 H3 fun J1 H4 => ∃ W1 : Nat → Nat → Hp → Prop, (∃ m, W1 0 m H4) ∧ ∀ j k H, W1 j k H →
        (J1.stop j H ∧ Nx H) ∨ (J1.go j H ∧ ∃ Nx1 : Hp → Prop, (∀ H', Nx1 H' → ∃ k', k' < k ∧ W1 (j + 1) k' H') ∧ ∀ x H', J1.yld j H x H' → g1 x (wipe σ2 vs1) H' fun σ3 H5 => wipe σ3 vs1 = wipe σ2 vs1 ∧ tt1 σ3 H5 fun b H6 =>
          if b = true then te σ3 H6 fun y H7 => ∃ acc, H7 D = some (.lst acc) ∧ acc.length < sizeLine ∧ Nx1 (upd H7 D (.lst (acc ++ [y]))) else Nx1 H6) else Nx H3) := by
  refine ⟨fun i m H => m = xs.length - i ∧ i ≤ xs.length ∧ Pv i H, ⟨xs.length, by simp, Nat.zero_le _, h0⟩, ?_⟩
  rintro i m H ⟨rfl, hi, p⟩
  have q := hl i H hi p
  by_cases hlt : i < xs.length
  · refine .inr ⟨⟨xs, xs[i], q, by simp [hlt]⟩, Pv (i + 1), fun H' p' => ⟨xs.length - (i + 1), by omega, rfl, hlt, p'⟩, fun x H' y => ?_⟩
    obtain ⟨T, z, e1, e2, e3, e4⟩ := y
    subst e1 e3
    exact hs i z H T (e4 xs q) p e2 _ fun _ z => z
  · have e : i = xs.length := by omega
    subst e
    exact .inl ⟨⟨xs, q, rfl⟩, hd H p⟩
theorem pairsOf_mem {ds : List Ent} {c b : Nat} (h : linkB ds c b = true) : (c, b) ∈ pairsOf ds := by
  unfold linkB at h
  rw [Bool.and_eq_true] at h
  exact List.mem_flatMap.mpr ⟨c, List.mem_range.mpr (of_decide_eq_true h.1), List.mem_map.mpr ⟨b, List.contains_iff_mem.mp h.2, rfl⟩⟩
section
variable {P : Program} {w : World} {K : PySem.W.Frag} {mg : Str → Option Value} {base : Heap} {f fI fN fA fG C Cl z0 pA : Addr} {fd fdI fdN fdA fdG : FuncData}
def spAllL (C Cl : Addr) : Sp := fun vs H Q _ => ∃ (p wp : Addr) (ds : List Ent) (ls : List (Nat × Nat)), vs = [.ref p] ∧ LinksAt H p Cl wp C ds ls ∧ DsOk ds ∧ ds.length ≤ 12 ∧ ∀ t us H', Same H H' → H' t = some (.tup us) → PairsAt H' us (pairsOf ds) → Q (.ref t) H'
def spWithSh (C Cl : Addr) : Sp := fun vs H Q _ => ∃ (p wp : Addr) (ds : List Ent) (ls : List (Nat × Nat)) (c b : Nat), vs = [.ref p, natV c, natV b] ∧ LinksAt H p Cl wp C ds ls ∧ DsOk ds ∧ ds.length ≤ 12 ∧ LsOk ds ls ∧ linkB ds c b = true ∧ (c, b) ∉ ls ∧
  ∀ q H' ls', Same H H' → LinksAt H' q Cl wp C ds ls' → ls'.Perm (ls ++ [(c, b)]) → Q (.ref q) H'
theorem links_q {Q : VK} {E : XK} {H : Hp} {y dy x t : Addr} {ds : List Ent} {us : List V} {qs : List (Nat × Nat)} (hy : H y = none) (hdy : H dy = none) (ne : dy ≠ y) (hW : WorldAt H x C ds) (h12 : ds.length ≤ 12) (ht : H t = some (.tup us)) (hP : PairsAt H us qs) (ok : DsOk ds) (lok : LsOk ds qs)
    (q : ∀ H' ls', Same H H' → LinksAt H' y Cl x C ds ls' → ls'.Perm qs → Q .non H') : spLinksI C Cl (.ref y :: ([.ref x, .ref t] ++ [])) (upd (upd H dy (.own y)) y (.ins Cl dy [])) Q E := by
  have sX := (same_new (o := .own y) hdy).trans (same_new (o := .ins Cl dy []) (by rw [upd_ne (Ne.symm ne)]; exact hy))
  have X1 : upd (upd H dy (.own y)) y (.ins Cl dy []) y = some (.ins Cl dy []) := upd_same
  have hWX := hW.mono sX
  have hPX := hP.same sX
  have htX := sX _ _ ht
  have few := lok.few ok
  have xy : x ≠ y := fun z => by
    obtain ⟨dw, _, _, _, _, _, _, _, _, _, _, _, w1, _⟩ := hW
    rw [z, hy] at w1
    cases w1
  generalize upd (upd H dy (.own y)) y (.ins Cl dy []) = G at sX X1 hWX hPX htX ⊢
  exact ⟨y, dy, x, t, ds, us, qs, rfl, X1, hWX, h12, .inr htX, hPX.couples, lok.1, lok.2, by omega, xy, fun H6 ls' O6 pm so hLk => q H6 ls' (fun b o e => O6 b o (ne_of_none e hy) (sX _ _ e)) hLk pm⟩
def spFlat (C Cl : Addr) : Sp := fun vs H Q _ => ∃ (p wp : Addr) (ds : List Ent) (ls : List (Nat × Nat)), vs = [.ref p] ∧ LinksAt H p Cl wp C ds ls ∧ DsOk ds ∧ ds.length ≤ 12 ∧ ∀ q H' ls', Same H H' → LinksAt H' q Cl wp C ds ls' → ls'.Perm (pairsOf ds) → Q (.ref q) H'
end
end K57

set_option maxRecDepth 100000
set_option maxHeartbeats 8000000
namespace K57
open PySem PySem.Spec PyProof.Rows L2 Kw
theorem WorldAt.heir {H : Hp} {p C : Addr} {ds : List Ent} (h : WorldAt H p C ds) {x : Nat} (hx : x < ds.length) : ∃ (dx : Addr) (fs : List (Str × V)) (ah : Addr) (hs : List V) (t : Addr), H p = some (.ins C dx fs) ∧ List.lookup ("heirs" : Str) fs = some (V.ref ah) ∧ H ah = some (.tup hs) ∧ hs[x]? = some (.ref t) ∧ H t = some (.tup ((heirRow (elsOf ds) ds.length x).map natV)) := by
  obtain ⟨dx, ac, ab, ao, am, ae, ah, cs, bs, ms, es, hs, h1, h2, h3, h4, h5, h6, h7, h8, h9, h10, h11, h12⟩ := h
  have hl : (heirs (elsOf ds))[x]? = some (heirRow (elsOf ds) ds.length x) := by
    unfold heirs
    rw [List.getElem?_map, List.getElem?_range (by rw [elsOf_len]; exact hx), elsOf_len]
    rfl
  obtain ⟨t, e1, e2⟩ := h12.get hl
  exact ⟨dx, _, ah, hs, t, h1, rfl, h11, e1, e2⟩
def commonH (els : List (List Nat)) (n x y : Nat) : List Nat := (heirRow els n x).filter fun h => (heirRow els n y).contains h
theorem mem_common {els : List (List Nat)} {n x y h : Nat} : h ∈ commonH els n x y ↔ h < n ∧ x ∈ els.getD h [] ∧ y ∈ els.getD h [] := by
  unfold commonH heirRow
  rw [List.mem_filter, List.contains_iff_mem, List.mem_filter, List.mem_filter, List.mem_range, List.contains_iff_mem, List.contains_iff_mem]
  exact ⟨fun h => ⟨h.1.1, h.1.2, h.2.2⟩, fun h => ⟨⟨h.1, h.2.1⟩, h.1, h.2.2⟩⟩
section
variable {P : Program} {w : World} {K : PySem.W.Frag} {mg : Str → Option Value} {base : Heap} {f fW fN fC fL fH C Cn : Addr} {fd fdW fdN fdC fdL fdH : FuncData}
def spCommon (C : Addr) : Sp := fun vs H Q _ => ∃ (p : Addr) (ds : List Ent) (x y : Nat), vs = [.ref p, natV x, natV y] ∧ WorldAt H p C ds ∧ x < ds.length ∧ y < ds.length ∧ ds.length ≤ 12 ∧
  ∀ t H', Same H H' → H' t = some (.tup ((commonH (elsOf ds) ds.length x y).map natV)) → Q (.ref t) H'
end
end K57

set_option maxRecDepth 100000
set_option maxHeartbeats 8000000
namespace K57
open PySem PySem.Spec PyProof.Rows L2 Kw
/-! ### fields -/
def owN (ds : List Ent) (c : Nat) : Nat := (ds.getD c ([], 0, [])).2.1
def rowF (ds : List Ent) (c : Nat) : List (Nat × Nat) := (List.range (owN ds c)).map fun i => (c, i)
def fldK (ds : List Ent) (ks : List Nat) : List (Nat × Nat) := ks.flatMap (rowF ds)
def allF (ds : List Ent) : List (Nat × Nat) := fldK ds (List.range ds.length)
def elR (ds : List Ent) (c : Nat) : List Nat := (elsOf ds).getD c []
def fldO (ds : List Ent) (c : Nat) : List (Nat × Nat) := fldK ds (elR ds c ++ [c])
theorem owN_le {ds : List Ent} (ok : DsOk ds) (c : Nat) : owN ds c ≤ 3 := by
  unfold owN
  rw [List.getD_eq_getElem?_getD]
  cases e : ds[c]? with
  | none => exact Nat.zero_le _
  | some d => exact (ok c d e).2.2.2.1
theorem fldK_len {ds : List Ent} (ok : DsOk ds) : ∀ ks : List Nat, (fldK ds ks).length ≤ 3 * ks.length
  | [] => Nat.le_refl _
  | k :: r => by
    have h := fldK_len ok r
    have o := owN_le ok k
    show (rowF ds k ++ fldK ds r).length ≤ _
    unfold rowF
    rw [List.length_append, List.length_map, List.length_range, List.length_cons]
    omega
theorem fldK_take {ds : List Ent} {ks : List Nat} {i k : Nat} (h : ks[i]? = some k) : fldK ds (ks.take (i + 1)) = fldK ds (ks.take i) ++ rowF ds k := by
  unfold fldK
  rw [List.take_add_one, h, Option.toList_some, List.flatMap_append, List.flatMap_cons, List.flatMap_nil, List.append_nil]
theorem elR_len {ds : List Ent} {c : Nat} (hc : c < ds.length) : (elR ds c).length ≤ ds.length := by
  obtain ⟨l, hl⟩ : ∃ l, (elsOf ds)[c]? = some l := ⟨_, List.getElem?_eq_getElem (by unfold elsOf; rw [elders_len, List.length_map]; exact hc)⟩
  unfold elR
  rw [List.getD_eq_getElem?_getD, hl]
  have := elders_len_row _ c l hl
  rw [List.length_map] at this
  exact this
theorem elR_lt {ds : List Ent} {c x : Nat} (h : x ∈ elR ds c) : x < c := elders_below h
/-- no class of this world -/
def OddC (H : Hp) (many : Nat) (x : V) : Prop := ∃ t, Ty0 H x t ∧ wholeB (.int 0) (.int ((many : Int) - 1)) x = false
theorem OddC.same {H H' : Hp} {many : Nat} {x : V} (h : OddC H many x) (s : Same H H') : OddC H' many x := by
  obtain ⟨t, ty, e⟩ := h
  exact ⟨t, ty.same s, e⟩
theorem WorldAt.own {H : Hp} {p C : Addr} {ds : List Ent} (h : WorldAt H p C ds) {x : Nat} (hx : x < ds.length) : ∃ (dx : Addr) (fs : List (Str × V)) (ao : Addr) (os : List V), H p = some (.ins C dx fs) ∧ List.lookup ("owns" : Str) fs = some (V.ref ao) ∧ H ao = some (.tup os) ∧ os[x]? = some (natV (owN ds x)) ∧ os.length = ds.length := by
  obtain ⟨dx, ac, ab, ao, am, ae, ah, cs, bs, ms, es, hs, h1, h2, h3, h4, h5, h6, _⟩ := h
  refine ⟨dx, _, ao, _, h1, rfl, h6, ?_, by rw [List.length_map, List.length_map]⟩
  obtain ⟨d, hd⟩ : ∃ d, ds[x]? = some d := ⟨_, List.getElem?_eq_getElem hx⟩
  rw [List.getElem?_map, List.getElem?_map, hd]
  unfold owN
  rw [List.getD_eq_getElem?_getD, hd]
  rfl
theorem WorldAt.elderR {H : Hp} {p C : Addr} {ds : List Ent} (h : WorldAt H p C ds) {x : Nat} (hx : x < ds.length) : ∃ (dx : Addr) (fs : List (Str × V)) (ae : Addr) (es : List V) (t : Addr), H p = some (.ins C dx fs) ∧ List.lookup ("elders" : Str) fs = some (V.ref ae) ∧ H ae = some (.tup es) ∧ es[x]? = some (.ref t) ∧ H t = some (.tup ((elR ds x).map natV)) := by
  obtain ⟨dx, ac, ab, ao, am, ae, ah, cs, bs, ms, es, hs, h1, h2, h3, h4, h5, h6, h7, h8, h9, h10, h11, h12⟩ := h
  obtain ⟨l, hl⟩ : ∃ l, (elsOf ds)[x]? = some l := ⟨_, List.getElem?_eq_getElem (by unfold elsOf; rw [elders_len, List.length_map]; exact hx)⟩
  obtain ⟨t, e1, e2⟩ := h10.get hl
  refine ⟨dx, _, ae, es, t, h1, rfl, h9, e1, ?_⟩
  unfold elR
  rw [List.getD_eq_getElem?_getD, hl]
  exact e2
/-- a def of a world and a class: it tells a tuple, or raises NoClass -/
def spCls (C Cn : Addr) (R : List Ent → Nat → Hp → Addr → Prop) : Sp := fun vs H Q E => ∃ (p : Addr) (x : V) (ds : List Ent), vs = [.ref p, x] ∧ WorldAt H p C ds ∧ DsOk ds ∧ ds.length ≤ 12 ∧
  ((OddC H ds.length x ∧ ∀ d H', Same H H' → H' d = some (.xd (errF ["cls"] [x])) → E (.ref Cn) (some d) H') ∨ ∃ c, x = natV c ∧ c < ds.length ∧ ∀ t H', Same H H' → R ds c H' t → Q (.ref t) H')
def RNat (f : List Ent → Nat → List Nat) : List Ent → Nat → Hp → Addr → Prop := fun ds c H t => H t = some (.tup ((f ds c).map natV))
def RPair (f : List Ent → Nat → List (Nat × Nat)) : List Ent → Nat → Hp → Addr → Prop := fun ds c H t => ∃ us, H t = some (.tup us) ∧ PairsAt H us (f ds c)
def heR (ds : List Ent) (c : Nat) : List Nat := heirRow (elsOf ds) ds.length c
section
variable {P : Program} {w : World} {K : PySem.W.Frag} {mg : Str → Option Value} {base : Heap} {f fC fA fW fN C Cn Cf : Addr} {fd fdC fdA fdW fdN : FuncData}
/-- two classes: it tells a value, or raises NoClass for the first that is none -/
def spTwo (C Cn : Addr) (R : List Ent → Nat → Nat → Hp → V → Prop) : Sp := fun vs H Q E => ∃ (p : Addr) (x y : V) (ds : List Ent), vs = [.ref p, x, y] ∧ WorldAt H p C ds ∧ DsOk ds ∧ ds.length ≤ 12 ∧
  ((OddC H ds.length x ∧ ∀ d H', Same H H' → H' d = some (.xd (errF ["cls"] [x])) → E (.ref Cn) (some d) H') ∨
   ∃ a, x = natV a ∧ a < ds.length ∧ ((OddC H ds.length y ∧ ∀ d H', Same H H' → H' d = some (.xd (errF ["cls"] [y])) → E (.ref Cn) (some d) H') ∨
    ∃ b, y = natV b ∧ b < ds.length ∧ ∀ v H', Same H H' → R ds a b H' v → Q v H'))
def RBl (f : List Ent → Nat → Nat → Bool) : List Ent → Nat → Nat → Hp → V → Prop := fun ds a b _ v => v = .bl (f ds a b)
def RTup2 (f : List Ent → Nat → Nat → List Nat) : List Ent → Nat → Nat → Hp → V → Prop := fun ds a b H v => ∃ t, v = .ref t ∧ H t = some (.tup ((f ds a b).map natV))
def kinB (ds : List Ent) (a b : Nat) : Bool := decide (a = b) || (elR ds a).contains b
def lineB (ds : List Ent) (a b : Nat) : Bool := decide (a = b) || ((elR ds b).contains a || (elR ds a).contains b)
def comL (ds : List Ent) (a b : Nat) : List Nat := commonH (elsOf ds) ds.length a b
end
end K57

set_option maxRecDepth 100000
set_option maxHeartbeats 8000000
namespace K57
open PySem PySem.Spec PyProof.Rows L2 Kw
theorem TupK.updLJ {H : Hp} {D : Addr} {us ws : List V} (hD : H D = some (.lst us)) : TupK H (upd H D (.lst ws)) := fun b zs e => upB (fun z => by rw [z, hD] at e; cases e) e
section
variable {P : Program} {w : World} {K : PySem.W.Frag} {mg : Str → Option Value} {base : Heap} {f fC fA fW fN C Cn Cf : Addr} {fd fdC fdA fdW fdN : FuncData}
/-- the inner walk: the fields of one class more -/
theorem fld_in {ds : List Ent} (ok : DsOk ds) {H : Hp} {D : Addr} {ks : List Nat} {i k : Nat} {H1 : Hp} {us : List V} (hD : H D = none) (hk : ks[i]? = some k) (kl : ks.length ≤ 13) (s1 : Same H H1) (D1 : H1 D = some (.lst us)) (U1 : PairsAt H1 us (fldK ds (ks.take i))) {j : Nat} {H3 : Hp} {us3 : List V} (hj : j < owN ds k) (s3 : Same H H3) (D3 : H3 D = some (.lst us3)) (P3 : PairsAt H3 us3 (fldK ds (ks.take i) ++ (List.range j).map fun x => (k, x))) {T : Addr} (hT : H3 T = none) :
    Same H (upd (upd H3 T (.tup [natV k, natV j])) D (.lst (us3 ++ [.ref T]))) ∧ upd H3 T (.tup [natV k, natV j]) D = some (.lst us3) ∧ us3.length < sizeLine ∧ PairsAt (upd (upd H3 T (.tup [natV k, natV j])) D (.lst (us3 ++ [.ref T]))) (us3 ++ [.ref T]) (fldK ds (ks.take i) ++ (List.range (j + 1)).map fun x => (k, x)) := by
  have sT := same_new (o := .tup [natV k, natV j]) hT
  have D4 := sT _ _ D3
  have TD : T ≠ D := Ne.symm (ne_of_none D3 hT)
  have ul := P3.len
  have fl := fldK_len ok (ks.take i)
  have o3 := owN_le ok k
  rw [List.length_append, List.length_map, List.length_range] at ul
  rw [List.length_take] at fl
  refine ⟨same_upd (s3.trans sT) hD, D4, (by show _ < 2 ^ 24; omega), ?_⟩
  rw [List.range_succ, List.map_append, ← List.append_assoc]
  exact (PairsAt.updL' D4 (P3.same sT)).app (.cons ⟨T, rfl, upB TD upd_same⟩ .nil)
theorem sc_fldOf : FnScope ["world", "c", "k", "i"] ["world", "c"] (defScope (top 18)) := ⟨rfl, rfl, rfl, by decide +kernel, rfl, by decide +kernel, by decide +kernel⟩
theorem ok_fldOf (F : FnP K "fields_of" 18 f fd) (B : Fr mg) (TC : ClsWorld K mg C) (FC : FnP K "check_class" 17 fC fdC) (mC : mg "check_class" = some (.ref fC)) (GC : FnOk P w K mg base (L2.CX P w) 3 fC fdC ["world", "c"] (spCheck C Cn)) : FnOk P w K mg base (L2.CX P w) 4 f fd ["world", "c"] (spCls C Cn (RPair fldO)) := by
  have bC : L2.Binds K fdC ["world", "c"] [] := FC.bindsN fun _ _ _ _ _ _ us hl => match us, hl with | [_, _], _ => rfl
  refine F.ok sc_fldOf (fun vs H Q E h => ?_) (fun cdv A outer s H vs Q E hr h => ?_)
  · obtain ⟨p, x, ds, rfl, _⟩ := h
    rfl
  · obtain ⟨p, x, ds, rfl, hw, ok, h12, h⟩ := h
    refine ⟨_, (pss_cons (ps_expr (pe_callS GC hr (by rfl) mC FC.kp bC (fun σ => passAt (takes_of rfl rfl rfl rfl) σ) (pa_cons (pv 0) (pa_cons (pv 1) pa_nil))))
      (pss_one (ps_ret (pe_callTy (T := "tuple") (r := rTupOf K) (call_tup (X := _)) (by rfl) B.tuple (by decide +kernel) (pa_cons
        (pe_lc2 (own := [("k", 2), ("i", 3)]) (vs1 := [3]) (g := gName 2) (g1 := gName 3) (tt := tYes) (tt1 := tYes) (te := tTup (tCons (tVar 2) (tCons (tVar 3) tNil))) (wi1 := iRng1 (tCons (tOp (rIxT K) (tFld K (tVar 0) "owns") (tVar 2)) tNil)) rfl sc_fldOf.nd (pi_tup (pe_op (r := rCatQ K) op_catQ (pe_ix (r := rIxT K) ix_tup (pe_fld (pv 0) rfl) (pv 1) (fun _ _ => rfl)) (pe_tup (pa_cons (pv 1) pa_nil)))) (blkOk_by (N := ["world", "c", "k", "i"]) (sc := defScope (top 18)) (by decide +kernel)) (by decide)
          (fun _ _ _ _ _ => pg_name (i := 2) sc_fldOf.nd rfl (Or.inl rfl)) (fun _ _ _ _ _ => pts_nil)
          (fun _ _ _ _ _ => ?it)
          (fun _ _ _ _ _ => pg_name (i := 3) sc_fldOf.nd rfl (Or.inl rfl)) (fun _ _ _ _ _ => pts_nil) (fun _ _ _ _ _ => pe_tup (pa_cons (pv 2) (pa_cons (pv 3) pa_nil)))) pa_nil))))), ?_⟩
    case it => exact pi_range1 (by rfl) B.range (pa_cons (pe_ix (r := rIxT K) ix_tup (pe_fld (pv 0) rfl) (pv 2) (fun _ _ => rfl)) pa_nil)
    rcases h with ⟨⟨t, ty, eb⟩, k⟩ | ⟨c, rfl, hc, k⟩
    · exact ⟨_, rfl, _, rfl, p, x, t, ds, rfl, hw, ty, .inr ⟨eb, k⟩⟩
    · refine ⟨_, rfl, _, rfl, p, natV c, "int", ds, rfl, hw, .int _, .inl ⟨whole_of hc, fun H1 s1 => ?_⟩⟩
      obtain ⟨dx, fs, ae, es, t, p1, p2, p3, p4, p5⟩ := (hw.mono s1).elderR hc
      have el := elR_len hc
      refine ⟨_, rfl, p, C, dx, _, _, rfl, p1, TC.cl, TC.no _ (List.mem_of_getElem? (i := 4) rfl), p2, _, rfl, ae, es, (c : Int), _, rfl, rfl, SqT.of p3, atI_nat p4, _, rfl, (by show 1 ≤ sizeLine; decide), fun T1 hT1 => ?_⟩
      have sT1 := same_new (o := .tup [natV c]) hT1
      refine cat_q (H0 := upd H1 T1 (.tup [natV c])) (xs := (elR ds c).map natV) (ys := [natV c]) (sT1 _ _ p5) upd_same (by rw [List.length_map]; show _ + 1 ≤ 2 ^ 24; omega) (Same.refl _) fun tk H2 s2 htk => ?_
      have htk : H2 tk = some (.tup ((elR ds c ++ [c]).map natV)) := by rw [List.map_append]; exact htk
      have s12 := sT1.trans s2
      have hw2 := (hw.mono s1).mono s12
      have kl : (elR ds c ++ [c]).length ≤ 13 := by rw [List.length_append, List.length_singleton]; omega
      have kin : ∀ k ∈ elR ds c ++ [c], k < ds.length := fun k hk => by
        rcases List.mem_append.mp hk with hk | hk
        · have := elR_lt hk
          omega
        · rw [List.mem_singleton.mp hk]
          exact hc
      have k' : ∀ t H' us, Same H H' → H' t = some (.tup us) → PairsAt H' us (fldK ds (elR ds c ++ [c])) → Q (.ref t) H' := fun t H' us s ht h => k t H' s ⟨us, ht, h⟩
      generalize elR ds c ++ [c] = ks at htk kl kin k'
      refine ⟨tk, rfl, ⟨_, SqT.of htk⟩, fun D hD => lc2_outT (K := K) (a := tk) (xs := ks.map natV) (fun i H' => Same H2 H' ∧ ∃ us, H' D = some (.lst us) ∧ PairsAt H' us (fldK ds (ks.take i))) ⟨same_new hD, [], upd_same, .nil⟩ (fun i H' _ z => SqT.of (z.1 _ _ htk)) ?_ ?_⟩
      · rintro i y H3 hi ⟨s3, us, D3, U3⟩ Nx hNx
        rw [List.getElem?_map] at hi
        obtain ⟨kk, hk, rfl⟩ := Option.map_eq_some_iff.mp hi
        have kkl := kin kk (List.mem_of_getElem? hk)
        obtain ⟨dx, fs, ao, os, q1, q2, q3, q4, ol⟩ := (hw2.mono s3).own kkl
        have o3 := owN_le ok kk
        refine ⟨rfl, _, rfl, p, C, dx, _, _, rfl, q1, TC.cl, TC.no _ (List.mem_of_getElem? (i := 2) rfl), q2, _, rfl, ao, os, (kk : Int), _, rfl, rfl, SqT.of q3, atI_nat q4, _, rfl, by omega, by omega, ?_⟩
        refine lc2_in (m := owN ds kk) (fun j H' => Same H2 H' ∧ ∃ us', H' D = some (.lst us') ∧ PairsAt H' us' (fldK ds (ks.take i) ++ (List.range j).map fun x => (kk, x))) ⟨s3, us, D3, by rw [List.range_zero, List.map_nil, List.append_nil]; exact U3⟩ ?_ ?_
        · rintro j H4 hj ⟨s4, us4, D4, U4⟩
          have ej : V.int ((0 : Int) + (j : Int)) = natV j := congrArg V.int (by omega)
          rw [ej]
          refine ⟨rfl, _, rfl, _, rfl, (by show 2 ≤ sizeLine; decide), fun T hT => ?_⟩
          obtain ⟨r1, r2, r3, r4⟩ := fld_in ok hD hk kl s3 D3 U3 hj s4 D4 U4 hT
          exact ⟨us4, r2, r3, r1, _, upd_same, r4⟩
        · rintro H4 ⟨s4, us4, D4, U4⟩
          refine hNx _ ⟨s4, us4, D4, ?_⟩
          rw [fldK_take hk]
          exact U4
      · rintro H3 ⟨s3, us, D3, U3⟩
        rw [List.length_map, List.take_length] at U3
        exact tup_q (.inl D3) fun t H4 s4 ht => k' t H4 us (s1.trans (s12.trans (s3.trans s4))) ht (U3.same s4)
/-- World.all_fields -/
def spAllF (C : Addr) : Sp := fun vs H Q _ => ∃ (p : Addr) (ds : List Ent), vs = [.ref p] ∧ WorldAt H p C ds ∧ DsOk ds ∧ ds.length ≤ 12 ∧ ∀ t us H', Same H H' → H' t = some (.tup us) → PairsAt H' us (allF ds) → Q (.ref t) H'
theorem sc_allF : FnScope ["self", "c", "i"] ["self"] (defScope (inClass (top 24) 1)) := ⟨rfl, rfl, rfl, by decide +kernel, rfl, by decide +kernel, by decide +kernel⟩
theorem ok_allF (F : FnM K "all_fields" "World.all_fields" (inClass (top 24) 1) f fd) (B : Fr mg) (TC : ClsWorld K mg C) : FnOk P w K mg base CX0 1 f fd ["self"] (spAllF C) := by
  refine F.ok sc_allF (fun vs H Q E h => ?_) (fun cdv A outer s H vs Q E hr h => ?_)
  · obtain ⟨p, ds, rfl, _⟩ := h
    rfl
  · obtain ⟨p, ds, rfl, hw, ok, h12, k⟩ := h
    refine ⟨_, PSs.nox (pss_one (ps_ret (pe_callTy (T := "tuple") (r := rTupOf K) (call_tup (X := _)) (by rfl) B.tuple (by decide +kernel) (pa_cons
        (pe_lc2 (own := [("c", 1), ("i", 2)]) (vs1 := [2]) (g := gName 1) (g1 := gName 2) (tt := tYes) (tt1 := tYes) (te := tTup (tCons (tVar 1) (tCons (tVar 2) tNil))) (wi1 := iRng1 (tCons (tOp (rIxT K) (tFld K (tVar 0) "owns") (tVar 1)) tNil)) rfl sc_allF.nd (pi_range1 (by rfl) B.range (pa_cons (pe_callB call_len_seq (by rfl) B.len PySem.boot_len (pa_cons (pe_fld (pv 0) rfl) pa_nil)) pa_nil)) (blkOk_by (N := ["self", "c", "i"]) (sc := defScope (inClass (top 24) 1)) (by decide +kernel)) (by decide)
          (fun _ _ _ _ _ => pg_name (i := 1) sc_allF.nd rfl (Or.inl rfl)) (fun _ _ _ _ _ => pts_nil)
          (fun _ _ _ _ _ => ?it)
          (fun _ _ _ _ _ => pg_name (i := 2) sc_allF.nd rfl (Or.inl rfl)) (fun _ _ _ _ _ => pts_nil) (fun _ _ _ _ _ => pe_tup (pa_cons (pv 1) (pa_cons (pv 2) pa_nil)))) pa_nil)))), ?_⟩
    case it => exact pi_range1 (by rfl) B.range (pa_cons (pe_ix (r := rIxT K) ix_tup (pe_fld (pv 0) rfl) (pv 1) (fun _ _ => rfl)) pa_nil)
    obtain ⟨dx, ac, ab, ao, am, ae, ah, cs, bs, ms, es, hs, h1, h2, h3, h4, h5, h6, _⟩ := id hw
    refine ⟨_, rfl, p, C, dx, _, _, rfl, h1, TC.cl, TC.no _ (List.mem_of_getElem? (i := 2) rfl), rfl, ao, _, rfl, .inr (SqT.of h6), _, rfl, by rw [List.length_map, List.length_map]; omega, by rw [List.length_map, List.length_map]; omega, fun D hD => ?_⟩
    refine lc2_out (n := (((ds.map (·.2.1)).map natV).length : Int).toNat) (fun i H' => Same H H' ∧ ∃ us, H' D = some (.lst us) ∧ PairsAt H' us (fldK ds ((List.range ds.length).take i))) ⟨same_new hD, [], upd_same, .nil⟩ ?_ ?_
    · rintro i H3 hi ⟨s3, us, D3, U3⟩ Nx hNx
      rw [List.length_map, List.length_map, Int.toNat_natCast] at hi
      have ei : V.int ((0 : Int) + (i : Int)) = natV i := congrArg V.int (by omega)
      rw [ei]
      have hk : (List.range ds.length)[i]? = some i := List.getElem?_range hi
      obtain ⟨dx, fs, ao, os, q1, q2, q3, q4, ol⟩ := (hw.mono s3).own hi
      have o3 := owN_le ok i
      refine ⟨rfl, _, rfl, p, C, dx, _, _, rfl, q1, TC.cl, TC.no _ (List.mem_of_getElem? (i := 2) rfl), q2, _, rfl, ao, os, (i : Int), _, rfl, rfl, SqT.of q3, atI_nat q4, _, rfl, by omega, by omega, ?_⟩
      refine lc2_in (m := owN ds i) (fun j H' => Same H H' ∧ ∃ us', H' D = some (.lst us') ∧ PairsAt H' us' (fldK ds ((List.range ds.length).take i) ++ (List.range j).map fun x => (i, x))) ⟨s3, us, D3, by rw [List.range_zero, List.map_nil, List.append_nil]; exact U3⟩ ?_ ?_
      · rintro j H4 hj ⟨s4, us4, D4, U4⟩
        have ej : V.int ((0 : Int) + (j : Int)) = natV j := congrArg V.int (by omega)
        rw [ej]
        refine ⟨rfl, _, rfl, _, rfl, (by show 2 ≤ sizeLine; decide), fun T hT => ?_⟩
        obtain ⟨r1, r2, r3, r4⟩ := fld_in ok hD hk (by rw [List.length_range]; omega) s3 D3 U3 hj s4 D4 U4 hT
        exact ⟨us4, r2, r3, r1, _, upd_same, r4⟩
      · rintro H4 ⟨s4, us4, D4, U4⟩
        refine hNx _ ⟨s4, us4, D4, ?_⟩
        rw [fldK_take hk]
        exact U4
    · rintro H3 ⟨s3, us, D3, U3⟩
      have et : (List.range ds.length).take (((ds.map (·.2.1)).map natV).length : Int).toNat = List.range ds.length := by
        rw [List.length_map, List.length_map, Int.toNat_natCast]
        exact List.take_of_length_le (by rw [List.length_range]; exact Nat.le_refl _)
      rw [et] at U3
      exact tup_q (.inl D3) fun t H4 s4 ht => k t us H4 (s3.trans s4) ht (U3.same s4)
end
end K57

set_option maxRecDepth 100000
set_option maxHeartbeats 8000000
namespace K57
open PySem PySem.Spec PyProof.Rows L2 Kw
def rNotInDT (K : PySem.W.Frag) : R2 := fun x y H Q => ∃ d ds, Dp K H x d ∧ Dp K H y (.tuple ds) ∧ SeqAt.shaped d = true ∧ SeqAt.shaped (.tuple ds) = true ∧ Q (.bl (!ds.any fun z => PyData.eqv z d)) H
theorem op_notInDT {X : Cx} (hu : X.A.units + 65 < cLine) : OpR X (compareOp .NotIn) (rNotInDT X.K) := by
  intro pins s σ H x y v u Q I rx ry h
  obtain ⟨d, ds, hd, he, sd, se, q⟩ := h
  obtain ⟨as, r1⟩ := Dp.reads I d x v hd rx
  obtain ⟨bs, r2⟩ := Dp.reads I (.tuple ds) y u he ry
  exact SeqAt.notIn_tuple_reads r2 r1 (SeqAt.canLay_of_shaped se) (SeqAt.canLay_of_shaped sd) (room_in_shaped sd hu) ⟨.bl _, H, I, rfl, q⟩
def coupleB : List V → Bool
  | [x, y] => wholeB .non .non x && wholeB .non .non y
  | _ => false
theorem coupleB_len {xs : List V} (h : xs.length ≠ 2) : coupleB xs = false := by
  match xs, h with
  | [], _ => rfl
  | [_], _ => rfl
  | [_, _], h => exact absurd rfl h
  | _ :: _ :: _ :: _, _ => rfl
def dIP (i j : Int) : PyData := .tuple [.int i, .int j]
theorem lay_ip (i j : Int) : LayD 1 (dIP i j) := LayD.tup fun d hd => by
  rcases List.mem_cons.mp hd with rfl | hd
  · exact .int _
  · rw [List.mem_singleton.mp hd]
    exact .int _
theorem any_ip (ps : List (Nat × Nat)) (i j : Int) : ((ps.map dPair).any fun z => PyData.eqv z (dIP i j)) = decide (∃ p ∈ ps, (p.1 : Int) = i ∧ (p.2 : Int) = j) := by
  rw [Bool.eq_iff_iff, List.any_eq_true, decide_eq_true_eq]
  have e : ∀ p : Nat × Nat, PyData.eqv (dPair p) (dIP i j) = (((p.1 : Int) == i) && (((p.2 : Int) == j) && true)) := fun p => by simp only [dPair, dIP, PyData.eqv, PyData.eqvAll]
  constructor
  · rintro ⟨z, hz, h⟩
    obtain ⟨p, hp, rfl⟩ := List.mem_map.mp hz
    rw [e, Bool.and_eq_true, Bool.and_true, beq_iff_eq, beq_iff_eq] at h
    exact ⟨p, hp, h⟩
  · rintro ⟨p, hp, h1, h2⟩
    exact ⟨_, List.mem_map_of_mem hp, by rw [e, h1, h2]; simp⟩
/-- a thing as a field -/
inductive FieldIs (H : Hp) (ds : List Ent) (x : V) : Option (Nat × Nat) → Prop where
  | odd {t : String} (ty : Ty0 H x t) (hs : seqT t = false) : FieldIs H ds x none
  | row {a : Addr} {xs : List V} (e : x = .ref a) (hA : SeqAt H a xs) (ty : ∀ y ∈ xs, ∃ t, Ty0 H y t) (hb : coupleB xs = false) : FieldIs H ds x none
  | out {a : Addr} {i j : Int} (e : x = .ref a) (hA : SeqAt H a [.int i, .int j]) (hn : ¬ ∃ p ∈ allF ds, (p.1 : Int) = i ∧ (p.2 : Int) = j) : FieldIs H ds x none
  | good {a : Addr} {c i : Nat} (e : x = .ref a) (hA : SeqAt H a [natV c, natV i]) (hm : (c, i) ∈ allF ds) : FieldIs H ds x (some (c, i))
theorem FieldIs.same {H H' : Hp} {ds : List Ent} {x : V} {o : Option (Nat × Nat)} (h : FieldIs H ds x o) (s : Same H H') : FieldIs H' ds x o := by
  cases h with
  | odd ty hs => exact .odd (ty.same s) hs
  | row e hA ty hb => exact .row e (hA.same s) (fun y hy => ⟨_, (ty y hy).choose_spec.same s⟩) hb
  | out e hA hn => exact .out e (hA.same s) hn
  | good e hA hm => exact .good e (hA.same s) hm
theorem elR_up {ds : List Ent} {c : Nat} (hc : c < ds.length) : (elR ds c).Pairwise (· < ·) := by
  obtain ⟨l, hl⟩ : ∃ l, (elsOf ds)[c]? = some l := ⟨_, List.getElem?_eq_getElem (by unfold elsOf; rw [elders_len, List.length_map]; exact hc)⟩
  unfold elR
  rw [List.getD_eq_getElem?_getD, hl]
  exact elders_row_up _ c l hl
/-- the fields of a class, as the law finds them -/
theorem fldO_filter {ds : List Ent} {c : Nat} (hc : c < ds.length) : (allF ds).filter (fun f => decide (f.1 = c) || (elR ds c).contains f.1) = fldO ds c := by
  have h1 : ∀ ks : List Nat, (fldK ds ks).filter (fun f => decide (f.1 = c) || (elR ds c).contains f.1) = fldK ds (ks.filter fun k => decide (k = c) || (elR ds c).contains k) := by
    intro ks
    induction ks with
    | nil => rfl
    | cons k r ih =>
      have e1 : fldK ds (k :: r) = rowF ds k ++ fldK ds r := rfl
      rw [e1, List.filter_append, ih, List.filter_cons]
      by_cases z : (decide (k = c) || (elR ds c).contains k) = true
      · rw [if_pos z]
        have : (rowF ds k).filter (fun f => decide (f.1 = c) || (elR ds c).contains f.1) = rowF ds k := by
          refine List.filter_eq_self.mpr fun f hf => ?_
          obtain ⟨i, _, rfl⟩ := List.mem_map.mp hf
          exact z
        rw [this]
        rfl
      · rw [if_neg z]
        have : (rowF ds k).filter (fun f => decide (f.1 = c) || (elR ds c).contains f.1) = [] := by
          refine List.filter_eq_nil_iff.mpr fun f hf => ?_
          obtain ⟨i, _, rfl⟩ := List.mem_map.mp hf
          exact z
        rw [this, List.nil_append]
  have h2 : (List.range ds.length).filter (fun k => decide (k = c) || (elR ds c).contains k) = elR ds c ++ [c] := by
    have ua : ((List.range ds.length).filter (fun k => decide (k = c) || (elR ds c).contains k)).Pairwise (· < ·) := List.pairwise_lt_range.filter _
    have ub : (elR ds c ++ [c]).Pairwise (· < ·) := by
      refine List.pairwise_append.mpr ⟨elR_up hc, List.pairwise_singleton _ _, fun a ha b hb => ?_⟩
      rw [List.mem_singleton.mp hb]
      exact elR_lt ha
    have p : ((List.range ds.length).filter (fun k => decide (k = c) || (elR ds c).contains k)).Perm (elR ds c ++ [c]) := (List.perm_ext_iff_of_nodup (ua.imp fun h => Nat.ne_of_lt h) (ub.imp fun h => Nat.ne_of_lt h)).mpr fun x => by
      rw [List.mem_filter, List.mem_range, Bool.or_eq_true, decide_eq_true_eq, List.contains_iff_mem, List.mem_append, List.mem_singleton]
      constructor
      · rintro ⟨_, h | h⟩
        · exact .inr h
        · exact .inl h
      · rintro (h | h)
        · have := elR_lt h
          exact ⟨by omega, .inr h⟩
        · exact ⟨by omega, .inl h⟩
    exact p.eq_of_pairwise (fun x y _ _ h1 h2 => by omega) ua ub
  show (fldK ds (List.range ds.length)).filter _ = _
  rw [h1, h2]
  rfl
/-- lists of pairs -/
def PLsAt (H : Hp) : List V → List (List (Nat × Nat)) → Prop := Paired fun v l => ∃ t us, v = .ref t ∧ H t = some (.lst us) ∧ PairsAt H us l
theorem PLsAt.same {H H' : Hp} (s : Same H H') {vs : List V} {ls : List (List (Nat × Nat))} (h : PLsAt H vs ls) : PLsAt H' vs ls := paired_imp (fun _ _ ⟨t, us, e, h1, h2⟩ => ⟨t, us, e, s _ _ h1, h2.same s⟩) h
theorem PLsAt.app {H : Hp} {us vs : List V} {ls ms : List (List (Nat × Nat))} (h : PLsAt H us ls) (g : PLsAt H vs ms) : PLsAt H (us ++ vs) (ls ++ ms) := paired_app h g
theorem PLsAt.len {H : Hp} {us : List V} {ls : List (List (Nat × Nat))} (h : PLsAt H us ls) : us.length = ls.length := Paired.length h
theorem PLsAt.upd {H : Hp} {D : Addr} {xs ys : List V} (hD : H D = some (.lst xs)) : ∀ {vs : List V} {ls : List (List (Nat × Nat))}, PLsAt H vs ls → (∀ v ∈ vs, v ≠ .ref D) → PLsAt (upd H D (.lst ys)) vs ls
  | [], [], _, _ => .nil
  | _ :: _, _ :: _, .cons ⟨t, us, e, h1, h2⟩ r, n => .cons ⟨t, us, e, upB (fun z => n _ List.mem_cons_self (by rw [e, z])) h1, PairsAt.updL' hD h2⟩ (PLsAt.upd hD r fun v hv => n v (List.mem_cons_of_mem _ hv))
theorem ListsAt.updJ {H : Hp} {D : Addr} {ys : List V} : ∀ {vs : List V} {ls : List (List Nat)}, ListsAt H vs ls → (∀ v ∈ vs, v ≠ .ref D) → ListsAt (upd H D (.lst ys)) vs ls
  | [], [], _, _ => .nil
  | _ :: _, _ :: _, .cons ⟨t, e, h1⟩ r, n => .cons ⟨t, e, upB (fun z => n _ List.mem_cons_self (by rw [e, z])) h1⟩ (ListsAt.updJ r fun v hv => n v (List.mem_cons_of_mem _ hv))
theorem ListsAt.sameJ {H H' : Hp} (s : Same H H') {vs : List V} {ls : List (List Nat)} (h : ListsAt H vs ls) : ListsAt H' vs ls := paired_imp (fun _ _ ⟨t, e, h1⟩ => ⟨t, e, s _ _ h1⟩) h
section
variable {P : Program} {w : World} {K : PySem.W.Frag} {mg : Str → Option Value} {base : Heap} {f fS fW fC fN fA fE fF C Cf pA : Addr} {fd fdS fdW fdC fdN fdA fdE fdF : FuncData}
/-! ### is_whole_couple, check_field -/
def spCoupB : Sp := fun vs H Q _ => ∃ (x : V), vs = [x] ∧ ((∃ t, Ty0 H x t ∧ seqT t = false ∧ ∀ H', Same H H' → Q (.bl false) H') ∨ (∃ a xs, x = .ref a ∧ SeqAt H a xs ∧ (∀ y ∈ xs, ∃ t, Ty0 H y t) ∧ ∀ H', Same H H' → Q (.bl (coupleB xs)) H'))
theorem sc_coupB : FnScope ["thing"] ["thing"] (defScope (top 15)) := ⟨rfl, rfl, rfl, by decide +kernel, rfl, by decide +kernel, by decide +kernel⟩
theorem ok_coupB (F : FnP K "is_whole_couple" 15 f fd) (B : Fr mg) (FS : FnP K "is_sequence" 12 fS fdS) (mS : mg "is_sequence" = some (.ref fS)) (FW : FnDf K "is_whole" 13 [.non, .non] fW fdW) (mW : mg "is_whole" = some (.ref fW)) : FnOk P w K mg base CX0 2 f fd ["thing"] spCoupB := by
  have GS : FnOk P w K mg base CX0 1 fS fdS ["thing"] spIsSeq := ok_isSeq FS B
  have GW : FnOk P w K mg base CX0 1 fW fdW ["thing", "low", "high"] spWhole := ok_whole FW B
  have bS : L2.Binds K fdS ["thing"] [] := FS.bindsN fun _ _ _ _ _ _ us hl => match us, hl with | [_], _ => rfl
  obtain ⟨dsv, vds, bWh⟩ := binds_whole1 FW
  refine F.ok sc_coupB (fun vs H Q E h => ?_) (fun cdv A outer s H vs Q E hr h => ?_)
  · obtain ⟨x, rfl, _⟩ := h
    rfl
  · obtain ⟨x, rfl, h⟩ := h
    refine ⟨_, PSs.nox (pss_one (ps_ret (pe_and (pe_call GS hr (by rfl) mS FS.kp bS .nil pass0 (pa_cons (pv 0) pa_nil)) (pe_and (pe_cmpR op_eq (pe_callB call_len_seq (by rfl) B.len PySem.boot_len (pa_cons (pv 0) pa_nil)) pe_int (nomark _))
      (pe_and (pe_call GW hr (by rfl) mW FW.kp bWh vds pass0 (pa_cons (pe_ix ix_seq (pv 0) pe_int (fun _ _ => rfl)) pa_nil)) (pe_one (pe_call GW hr (by rfl) mW FW.kp bWh vds pass0 (pa_cons (pe_ix ix_seq (pv 0) pe_int (fun _ _ => rfl)) pa_nil)))))))), ?_⟩
    rcases h with ⟨t, ty, hs, k⟩ | ⟨a, xs, rfl, hA, hty, k⟩
    · exact ⟨_, rfl, x, t, rfl, ty, fun H1 s1 => ⟨_, rfl, by rw [hs]; exact iteF' rfl (k H1 s1)⟩⟩
    · obtain ⟨t, ty, hseq⟩ := hA.ty
      refine ⟨_, rfl, .ref a, t, rfl, ty, fun H1 s1 => ?_⟩
      have hA1 := hA.same s1
      refine ⟨_, rfl, ?_⟩
      rw [hseq]
      refine iteT' rfl ?_
      by_cases l2 : xs.length = 2
      · match xs, l2 with
        | [x, y], _ =>
          obtain ⟨tx, hx⟩ := hty x List.mem_cons_self
          obtain ⟨t2, hy⟩ := hty y (List.mem_cons_of_mem _ List.mem_cons_self)
          refine ⟨_, rfl, a, _, rfl, hA1.sq, rfl, _, rfl, iteT' rfl ?_⟩
          have ek : coupleB [x, y] = (wholeB .non .non x && wholeB .non .non y) := rfl
          refine ⟨_, rfl, rIx_q (i := 0) hA1 rfl ⟨x, _, _, tx, rfl, hx.same s1, .inl rfl, .inl rfl, _, rfl, ?_⟩⟩
          cases z : wholeB .non .non x with
          | false =>
            rw [z, Bool.false_and] at ek
            rw [ek] at k
            exact iteF' rfl (k _ s1)
          | true =>
            rw [z, Bool.true_and] at ek
            rw [ek] at k
            exact iteT' rfl ⟨_, rfl, rIx_q (i := 1) hA1 rfl ⟨y, _, _, t2, rfl, hy.same s1, .inl rfl, .inl rfl, k _ s1⟩⟩
      · rw [coupleB_len l2] at k
        have e2 : decide (V.int (xs.length : Int) = V.int 2) = false := decide_eq_false fun q => l2 (by have := V.int.inj q; omega)
        refine ⟨_, rfl, a, _, rfl, hA1.sq, rfl, _, rfl, ?_⟩
        rw [e2]
        exact iteF' rfl (k _ s1)
theorem sc_noField : FnScope ["self", "field"] ["self", "field"] (defScope (inClass (top 5) 0)) := ⟨rfl, rfl, rfl, by decide +kernel, rfl, by decide +kernel, by decide +kernel⟩
theorem ok_noField (F : FnM K "__init__" "NoField.__init__" (inClass (top 5) 0) f fd) (T : ErrX K mg "NoField" ["field"] C f) : FnOk P w K mg base CX0 1 f fd ["self", "field"] (spR C ["field"]) ∧ Binds K fd ["self", "field"] [] := by
  refine ⟨F.ok sc_noField (fun vs H Q E h => ?_) (fun cdv A outer s H vs Q E hr h => ?_), F.bindsN fun _ _ _ _ _ _ us hl => match us, hl with | [_, _], _ => rfl⟩
  · obtain ⟨a, xs, rfl, hl, _⟩ := h
    exact congrArg Nat.succ hl
  · obtain ⟨a, xs, rfl, hl, ha, k⟩ := h
    match xs, hl with
    | [x1], _ =>
      refine ⟨_, PSs.nox (pss_one (ps_ost (pv 0) (pv 1))), ?_⟩
      refine ⟨_, rfl, _, rfl, a, C, rfl, T.oex, T.no _ (List.mem_of_getElem? (i := 0) rfl), .inl ⟨ha, fun dx hd ne => ?_⟩⟩
      exact k dx _ hd ne upd_same (upB ne upd_same) fun b o hb e => upB hb (upB (ne_of_none e hd) e)
def spField (C Cf : Addr) : Sp := fun vs H Q E => ∃ (p : Addr) (x : V) (ds : List Ent), vs = [.ref p, x] ∧ WorldAt H p C ds ∧ DsOk ds ∧ ds.length ≤ 12 ∧
  ((FieldIs H ds x none ∧ ∀ d H', Same H H' → H' d = some (.xd (errF ["field"] [x])) → E (.ref Cf) (some d) H') ∨ ∃ c i, FieldIs H ds x (some (c, i)) ∧ ∀ t H', Same H H' → H' t = some (.tup [natV c, natV i]) → Q (.ref t) H')
/-! ### _law_heirs, _law_fields, _law_fields_of -/
def spHeirsL : Sp := fun vs H Q _ => ∃ (r : Addr) (us : List V) (ds : List Ent), vs = [.ref r] ∧ H r = some (.lst us) ∧ RwN r H us ds ∧ DsOk ds ∧ ds.length ≤ 12 ∧
  ∀ D vs' H', Same H H' → H' D = some (.lst vs') → ListsAt H' vs' ((List.range ds.length).map (heR ds)) → Q (.ref D) H'
def spFieldsL : Sp := fun vs H Q _ => ∃ (r R : Addr) (us : List V) (ds : List Ent), vs = [.ref r] ∧ H r = some (.lst us) ∧ RwN R H us ds ∧ DsOk ds ∧ ds.length ≤ 12 ∧
  ∀ D vs' H', Same H H' → H' D = some (.lst vs') → PairsAt H' vs' (allF ds) → Q (.ref D) H'
end
end K57

set_option maxRecDepth 100000
set_option maxHeartbeats 8000000
namespace K57
open PySem PySem.Spec PyProof.Rows L2 Kw
theorem takeF4 {α : Type} {l : List α} {i : Nat} {x : α} (p : α → Bool) (h : l[i]? = some x) : (l.take (i + 1)).filter p = (l.take i).filter p ++ if p x = true then [x] else [] := by
  rw [List.take_add_one, h, Option.toList_some, List.filter_append, List.filter_cons]
  rfl
theorem PairsAt.get4 {H : Hp} {us : List V} {ps : List (Nat × Nat)} (h : PairsAt H us ps) {i : Nat} {v : V} (e : us[i]? = some v) : ∃ p t, ps[i]? = some p ∧ v = .ref t ∧ H t = some (.tup [natV p.1, natV p.2]) := by
  obtain ⟨p, e1, t, e2, e3⟩ := paired_get h e
  exact ⟨p, t, e1, e2, e3⟩
section
variable {P : Program} {w : World} {K : PySem.W.Frag} {mg : Str → Option Value} {base : Heap} {f fE fF fT fI fS fC fM fB fMe : Addr} {fd fdE fdF fdT fdI fdS fdC fdM fdB fdMe : FuncData}
def spFieldsOf : Sp := fun vs H Q _ => ∃ (r : Addr) (us : List V) (ds : List Ent), vs = [.ref r] ∧ H r = some (.lst us) ∧ RwN r H us ds ∧ DsOk ds ∧ ds.length ≤ 12 ∧
  ∀ D vs' H', Same H H' → H' D = some (.lst vs') → PLsAt H' vs' ((List.range ds.length).map (fldO ds)) → Q (.ref D) H'
end
end K57

set_option maxRecDepth 100000
set_option maxHeartbeats 8000000
namespace K57
open PySem PySem.Spec PyProof.Rows L2 Kw
/-- a class and its heirs -/
def lotOf (ds : List Ent) (c : Nat) : List Nat := c :: heirRow (elsOf ds) ds.length c
theorem mem_lotOf {ds : List Ent} {c x : Nat} (hc : c < ds.length) : x ∈ lotOf ds c ↔ x < ds.length ∧ c ∈ (kins (elsOf ds)).getD x [] := by
  unfold lotOf heirRow
  rw [List.mem_cons, List.mem_filter, List.mem_range, List.contains_iff_mem]
  constructor
  · rintro (rfl | ⟨h1, h2⟩)
    · exact ⟨hc, by rw [kins_els hc]; exact List.mem_append_right _ List.mem_cons_self⟩
    · exact ⟨h1, by rw [kins_els h1]; exact List.mem_append_left _ h2⟩
  · rintro ⟨h1, h2⟩
    rw [kins_els h1] at h2
    rcases List.mem_append.mp h2 with h2 | h2
    · exact .inr ⟨h1, h2⟩
    · exact .inl (List.mem_singleton.mp h2).symm
section
variable {P : Program} {w : World} {K : PySem.W.Frag} {mg : Str → Option Value} {base : Heap} {f fW fN fC C Cn : Addr} {fd fdW fdN fdC : FuncData}
def spLot (C : Addr) : Sp := fun vs H Q _ => ∃ (p : Addr) (ds : List Ent) (c : Nat), vs = [.ref p, natV c] ∧ WorldAt H p C ds ∧ c < ds.length ∧ ds.length ≤ 12 ∧
  ∀ t H', Same H H' → H' t = some (.tup ((lotOf ds c).map natV)) → Q (.ref t) H'
end
end K57

set_option maxRecDepth 100000
set_option maxHeartbeats 8000000
namespace K57
open PySem PySem.Spec PyProof.Rows L2 Kw
/-- a comprehension over enumerate(xs) -/
theorem lc_enumT {K : PySem.W.Frag} {a : Addr} {xs : List V} {g : TG} {tt : TT} {te : TE} {vs : List Nat} {σ : L2.St} {H1 : Hp} {D : Addr} {Qd : Hp → Prop} (Pv : Nat → Hp → Prop) (h0 : Pv 0 (upd H1 D (.lst []))) (hl : ∀ i H, i ≤ xs.length → Pv i H → SqT K H a xs)
    (hs : ∀ i x H T, xs[i]? = some x → Pv i H → H T = none → g (.ref T) (wipe σ vs) (upd H T (.tup [.int (i : Nat), x])) fun σ2 H2 => wipe σ2 vs = wipe σ vs ∧ tt σ2 H2 fun b H3 =>
      if b = true then te σ2 H3 fun y H4 => ∃ acc, H4 D = some (.lst acc) ∧ acc.length < sizeLine ∧ Pv (i + 1) (upd H4 D (.lst (acc ++ [y]))) else Pv (i + 1) H3) (hd : ∀ H, Pv xs.length H → Qd H) :
    ∃ W : Nat → Nat → Hp → Prop, (∃ m, W 0 m (upd H1 D (.lst []))) ∧ ∀ i m H, W i m H →
      ((Itet K a).stop i H ∧ Qd H) ∨ ((Itet K a).go i H ∧ ∃ Nx : Hp → Prop, (∀ H', Nx H' → ∃ m', m' < m ∧ W (i + 1) m' H') ∧ ∀ x H', (Itet K a).yld i H x H' → g x (wipe σ vs) H' fun σ2 H2 => wipe σ2 vs = wipe σ vs ∧ tt σ2 H2 fun b H3 =>
        if b = true then te σ2 H3 fun y H4 => ∃ acc, H4 D = some (.lst acc) ∧ acc.length < sizeLine ∧ Nx (upd H4 D (.lst (acc ++ [y]))) else Nx H3) := by
  refine ⟨fun i m H => m = xs.length - i ∧ i ≤ xs.length ∧ Pv i H, ⟨xs.length, by simp, Nat.zero_le _, h0⟩, ?_⟩
  rintro i m H ⟨rfl, hi, p⟩
  have q := hl i H hi p
  by_cases hlt : i < xs.length
  · refine .inr ⟨⟨xs, xs[i], q, by simp [hlt]⟩, Pv (i + 1), fun H' p' => ⟨xs.length - (i + 1), by omega, rfl, hlt, p'⟩, fun x H' y => ?_⟩
    obtain ⟨T, z, e1, e2, e3, e4⟩ := y
    subst e1 e3
    exact hs i z H T (e4 xs q) p e2
  · have e : i = xs.length := by omega
    subst e
    exact .inl ⟨⟨xs, q, rfl⟩, hd H p⟩
/-- a comprehension over enumerate(xs) -/
theorem lc_enumL {K : PySem.W.Frag} {a : Addr} {xs : List V} {g : TG} {tt : TT} {te : TE} {vs : List Nat} {σ : L2.St} {H1 : Hp} {D : Addr} {Qd : Hp → Prop} (Pv : Nat → Hp → Prop) (h0 : Pv 0 (upd H1 D (.lst []))) (hl : ∀ i H, i ≤ xs.length → Pv i H → SqL K H a xs)
    (hs : ∀ i x H T, xs[i]? = some x → Pv i H → H T = none → g (.ref T) (wipe σ vs) (upd H T (.tup [.int (i : Nat), x])) fun σ2 H2 => wipe σ2 vs = wipe σ vs ∧ tt σ2 H2 fun b H3 =>
      if b = true then te σ2 H3 fun y H4 => ∃ acc, H4 D = some (.lst acc) ∧ acc.length < sizeLine ∧ Pv (i + 1) (upd H4 D (.lst (acc ++ [y]))) else Pv (i + 1) H3) (hd : ∀ H, Pv xs.length H → Qd H) :
    ∃ W : Nat → Nat → Hp → Prop, (∃ m, W 0 m (upd H1 D (.lst []))) ∧ ∀ i m H, W i m H →
      ((Ite K a).stop i H ∧ Qd H) ∨ ((Ite K a).go i H ∧ ∃ Nx : Hp → Prop, (∀ H', Nx H' → ∃ m', m' < m ∧ W (i + 1) m' H') ∧ ∀ x H', (Ite K a).yld i H x H' → g x (wipe σ vs) H' fun σ2 H2 => wipe σ2 vs = wipe σ vs ∧ tt σ2 H2 fun b H3 =>
        if b = true then te σ2 H3 fun y H4 => ∃ acc, H4 D = some (.lst acc) ∧ acc.length < sizeLine ∧ Nx (upd H4 D (.lst (acc ++ [y]))) else Nx H3) := by
  refine ⟨fun i m H => m = xs.length - i ∧ i ≤ xs.length ∧ Pv i H, ⟨xs.length, by simp, Nat.zero_le _, h0⟩, ?_⟩
  rintro i m H ⟨rfl, hi, p⟩
  have q := hl i H hi p
  by_cases hlt : i < xs.length
  · refine .inr ⟨⟨xs, xs[i], q, by simp [hlt]⟩, Pv (i + 1), fun H' p' => ⟨xs.length - (i + 1), by omega, rfl, hlt, p'⟩, fun x H' y => ?_⟩
    obtain ⟨T, z, e1, e2, e3, e4⟩ := y
    subst e1 e3
    exact hs i z H T (e4 xs q) p e2
  · have e : i = xs.length := by omega
    subst e
    exact .inl ⟨⟨xs, q, Nat.le_refl _⟩, hd H p⟩
end K57

set_option maxRecDepth 100000
set_option maxHeartbeats 8000000
namespace K57
open PySem PySem.Spec PyProof.Rows L2 Kw
/-! ### comprehensions whose parts only make new objects: the list told part by part (none: left out) -/
structure RelOk {β : Type} (R : Hp → V → β → Prop) : Prop where
  same : ∀ {H H' : Hp} {v : V} {b : β}, Same H H' → R H v b → R H' v b
  updL : ∀ {H : Hp} {D : Addr} {xs ys : List V} {v : V} {b : β}, H D = some (.lst xs) → v ≠ .ref D → R H v b → R (upd H D (.lst ys)) v b
def LcInv {β : Type} (R : Hp → V → β → Prop) (cs : List (Option β)) (H1 : Hp) (D : Addr) (i : Nat) (H : Hp) : Prop := Same H1 H ∧ ∃ vs, H D = some (.lst vs) ∧ (∀ v ∈ vs, v ≠ .ref D) ∧ Paired (R H) vs ((cs.take i).filterMap id)
theorem LcInv.zero {β : Type} {R : Hp → V → β → Prop} {cs : List (Option β)} {H1 : Hp} {D : Addr} (hD : H1 D = none) : LcInv R cs H1 D 0 (upd H1 D (.lst [])) :=
  ⟨same_new hD, [], upd_same, (fun v hv => by cases hv), .nil⟩
theorem LcInv.no {β : Type} {R : Hp → V → β → Prop} (ok : RelOk R) {cs : List (Option β)} {H1 H H' : Hp} {D : Addr} {i : Nat} (h : LcInv R cs H1 D i H) (hc : cs[i]? = some none) (s : Same H H') : LcInv R cs H1 D (i + 1) H' := by
  obtain ⟨s1, vs, h1, h2, h3⟩ := h
  refine ⟨s1.trans s, vs, s _ _ h1, h2, ?_⟩
  rw [List.take_add_one, hc, Option.toList_some, List.filterMap_append]
  show Paired (R H') vs (_ ++ [])
  rw [List.append_nil]
  exact paired_imp (fun _ _ z => ok.same s z) h3
theorem LcInv.yes {β : Type} {R : Hp → V → β → Prop} (ok : RelOk R) {cs : List (Option β)} {H1 H H' : Hp} {D : Addr} {i : Nat} {b : β} {y : V} (hD : H1 D = none) (few : cs.length < 2 ^ 20) (h : LcInv R cs H1 D i H) (hc : cs[i]? = some (some b)) (s : Same H H') (ne : y ≠ .ref D) (hy : R H' y b) :
    ∃ acc, H' D = some (.lst acc) ∧ acc.length < sizeLine ∧ LcInv R cs H1 D (i + 1) (upd H' D (.lst (acc ++ [y]))) := by
  obtain ⟨s1, vs, h1, h2, h3⟩ := h
  have hl := Paired.length h3
  have l1 : ((cs.take i).filterMap id).length ≤ cs.length := Nat.le_trans (List.length_filterMap_le _ _) (by rw [List.length_take]; omega)
  have h1' := s _ _ h1
  refine ⟨vs, h1', (by show _ < 2 ^ 24; omega), same_upd (s1.trans s) hD, vs ++ [y], upd_same, fun v hv => ?_, ?_⟩
  · rcases List.mem_append.mp hv with hv | hv
    · exact h2 v hv
    · rw [List.mem_singleton.mp hv]
      exact ne
  · rw [List.take_add_one, hc, Option.toList_some, List.filterMap_append]
    have key : ∀ {vs : List V} {bs : List β}, (∀ v ∈ vs, v ≠ .ref D) → Paired (R H) vs bs → ∀ ys, Paired (R (upd H' D (.lst ys))) vs bs := fun n p ys => by
      induction p with
      | nil => exact .nil
      | cons z _ ih => exact .cons (ok.updL h1' (n _ List.mem_cons_self) (ok.same s z)) (ih fun v hv => n v (List.mem_cons_of_mem _ hv))
    exact paired_app (key h2 h3 _) (.cons (ok.updL h1' ne hy) .nil)
section
variable {β : Type} {R : Hp → V → β → Prop} {K : PySem.W.Frag} {a b2 : Addr} {xs ys : List V} {g : TG} {tt : TT} {te : TE} {vs : List Nat} {σ : L2.St} {H1 : Hp} {D : Addr} {Qd : Hp → Prop}
/-- a part of the comprehension: it goes on with N when it is taken, with M when it is left out -/
def LcAt (R : Hp → V → β → Prop) (g : TG) (tt : TT) (te : TE) (vs : List Nat) (σ : L2.St) (D : Addr) (H : Hp) (x : V) (c : Option β) : Prop := ∀ (N : VK) (M : Hp → Prop), (∃ us, H D = some (.lst us)) →
  (∀ b, c = some b → ∀ y H4, Same H H4 → y ≠ .ref D → R H4 y b → N y H4) → (c = none → ∀ H3, Same H H3 → M H3) →
  g x (wipe σ vs) H fun σ2 H2 => wipe σ2 vs = wipe σ vs ∧ tt σ2 H2 fun b H3 => if b = true then te σ2 H3 N else M H3
def LcPart (R : Hp → V → β → Prop) (g : TG) (tt : TT) (te : TE) (vs : List Nat) (σ : L2.St) (H1 : Hp) (D : Addr) (x : V) (c : Option β) : Prop := ∀ H : Hp, Same H1 H → LcAt R g tt te vs σ D H x c
theorem LcInv.keep (ok : RelOk R) {cs : List (Option β)} {i : Nat} {H H' : Hp} (h : LcInv R cs H1 D i H) (s : Same H H') : LcInv R cs H1 D i H' := by
  obtain ⟨s1, vs, h1, h2, h3⟩ := h
  exact ⟨s1.trans s, vs, s _ _ h1, h2, paired_imp (fun _ _ z => ok.same s z) h3⟩
theorem LcInv.step (ok : RelOk R) {cs : List (Option β)} {i : Nat} {x : V} {c : Option β} {H : Hp} (hD : H1 D = none) (few : cs.length < 2 ^ 20) (h : LcInv R cs H1 D i H) (hc : cs[i]? = some c) (part : LcAt R g tt te vs σ D H x c) :
    g x (wipe σ vs) H fun σ2 H2 => wipe σ2 vs = wipe σ vs ∧ tt σ2 H2 fun b H3 =>
      if b = true then te σ2 H3 fun y H4 => ∃ acc, H4 D = some (.lst acc) ∧ acc.length < sizeLine ∧ LcInv R cs H1 D (i + 1) (upd H4 D (.lst (acc ++ [y]))) else LcInv R cs H1 D (i + 1) H3 := by
  obtain ⟨s1, us, h1, _⟩ := id h
  exact part _ _ ⟨us, h1⟩ (fun b e y H4 s ne hy => by subst e; exact h.yes ok hD few hc s ne hy) (fun e H3 s => by subst e; exact h.no ok hc s)
theorem LcInv.done {cs : List (Option β)} {n : Nat} {H : Hp} (h : LcInv R cs H1 D n H) (hn : cs.length ≤ n) (hd : ∀ H vs, Same H1 H → H D = some (.lst vs) → Paired (R H) vs (cs.filterMap id) → Qd H) : Qd H := by
  obtain ⟨s1, vs, h1, _, h3⟩ := h
  rw [List.take_of_length_le hn] at h3
  exact hd H vs s1 h1 h3
theorem lc_tupA (ok : RelOk R) (cs : List (Option β)) (hD : H1 D = none) (cl : cs.length = xs.length) (few : xs.length < 2 ^ 20) (sq : ∀ H, Same H1 H → SqT K H a xs)
    (hs : ∀ (i : Nat) (x : V) (c : Option β), xs[i]? = some x → cs[i]? = some c → LcPart R g tt te vs σ H1 D x c) (hd : ∀ H vs, Same H1 H → H D = some (.lst vs) → Paired (R H) vs (cs.filterMap id) → Qd H) :
    ∃ W : Nat → Nat → Hp → Prop, (∃ m, W 0 m (upd H1 D (.lst []))) ∧ ∀ i m H, W i m H →
      ((Itt K a).stop i H ∧ Qd H) ∨ ((Itt K a).go i H ∧ ∃ Nx : Hp → Prop, (∀ H', Nx H' → ∃ m', m' < m ∧ W (i + 1) m' H') ∧ ∀ x H', (Itt K a).yld i H x H' → g x (wipe σ vs) H' fun σ2 H2 => wipe σ2 vs = wipe σ vs ∧ tt σ2 H2 fun b H3 =>
        if b = true then te σ2 H3 fun y H4 => ∃ acc, H4 D = some (.lst acc) ∧ acc.length < sizeLine ∧ Nx (upd H4 D (.lst (acc ++ [y]))) else Nx H3) :=
  lc_tup (LcInv R cs H1 D) (.zero hD) (fun i H _ h => sq H h.1) (fun i x H hi h => by
    have hl := (List.getElem?_eq_some_iff.mp hi).1
    have hc : cs[i]? = some cs[i] := List.getElem?_eq_getElem (by omega)
    exact h.step ok hD (by omega) hc (hs i x _ hi hc H h.1)) (fun H h => h.done (by omega) hd)
theorem lc_listA (ok : RelOk R) (cs : List (Option β)) (hD : H1 D = none) (cl : cs.length = xs.length) (few : xs.length < 2 ^ 20) (sq : ∀ H, Same H1 H → SqL K H a xs)
    (hs : ∀ (i : Nat) (x : V) (c : Option β), xs[i]? = some x → cs[i]? = some c → LcPart R g tt te vs σ H1 D x c) (hd : ∀ H vs, Same H1 H → H D = some (.lst vs) → Paired (R H) vs (cs.filterMap id) → Qd H) :
    ∃ W : Nat → Nat → Hp → Prop, (∃ m, W 0 m (upd H1 D (.lst []))) ∧ ∀ i m H, W i m H →
      ((Itl K a).stop i H ∧ Qd H) ∨ ((Itl K a).go i H ∧ ∃ Nx : Hp → Prop, (∀ H', Nx H' → ∃ m', m' < m ∧ W (i + 1) m' H') ∧ ∀ x H', (Itl K a).yld i H x H' → g x (wipe σ vs) H' fun σ2 H2 => wipe σ2 vs = wipe σ vs ∧ tt σ2 H2 fun b H3 =>
        if b = true then te σ2 H3 fun y H4 => ∃ acc, H4 D = some (.lst acc) ∧ acc.length < sizeLine ∧ Nx (upd H4 D (.lst (acc ++ [y]))) else Nx H3) :=
  lc_list (LcInv R cs H1 D) (.zero hD) (fun i H _ h => sq H h.1) (fun i x H hi h => by
    have hl := (List.getElem?_eq_some_iff.mp hi).1
    have hc : cs[i]? = some cs[i] := List.getElem?_eq_getElem (by omega)
    exact h.step ok hD (by omega) hc (hs i x _ hi hc H h.1)) (fun H h => h.done (by omega) hd)
theorem lc_rangeA {lo : Int} {n : Nat} (ok : RelOk R) (cs : List (Option β)) (hD : H1 D = none) (cl : cs.length = n) (few : n < 2 ^ 20)
    (hs : ∀ (i : Nat) (c : Option β), i < n → cs[i]? = some c → LcPart R g tt te vs σ H1 D (.int (lo + i)) c) (hd : ∀ H vs, Same H1 H → H D = some (.lst vs) → Paired (R H) vs (cs.filterMap id) → Qd H) :
    ∃ W : Nat → Nat → Hp → Prop, (∃ m, W 0 m (upd H1 D (.lst []))) ∧ ∀ i m H, W i m H →
      ((Itr lo n).stop i H ∧ Qd H) ∨ ((Itr lo n).go i H ∧ ∃ Nx : Hp → Prop, (∀ H', Nx H' → ∃ m', m' < m ∧ W (i + 1) m' H') ∧ ∀ x H', (Itr lo n).yld i H x H' → g x (wipe σ vs) H' fun σ2 H2 => wipe σ2 vs = wipe σ vs ∧ tt σ2 H2 fun b H3 =>
        if b = true then te σ2 H3 fun y H4 => ∃ acc, H4 D = some (.lst acc) ∧ acc.length < sizeLine ∧ Nx (upd H4 D (.lst (acc ++ [y]))) else Nx H3) :=
  lc_range (LcInv R cs H1 D) (.zero hD) (fun i H hi h => by
    have hc : cs[i]? = some cs[i] := List.getElem?_eq_getElem (by omega)
    exact h.step ok hD (by omega) hc (hs i _ hi hc H h.1)) (fun H h => h.done (by omega) hd)
/-- over zip of two tuples -/
theorem lc_zipTA (ok : RelOk R) (cs : List (Option β)) (hD : H1 D = none) (cl : cs.length = xs.length) (yl : xs.length = ys.length) (few : xs.length < 2 ^ 20) (sq : ∀ H, Same H1 H → SqT K H a xs ∧ SqT K H b2 ys)
    (hs : ∀ (i : Nat) (x y : V) (c : Option β) (T : Addr) (H : Hp), xs[i]? = some x → ys[i]? = some y → cs[i]? = some c → Same H1 H → H T = none → LcAt R g tt te vs σ D (upd H T (.tup [x, y])) (.ref T) c) (hd : ∀ H vs, Same H1 H → H D = some (.lst vs) → Paired (R H) vs (cs.filterMap id) → Qd H) :
    ∃ W : Nat → Nat → Hp → Prop, (∃ m, W 0 m (upd H1 D (.lst []))) ∧ ∀ i m H, W i m H →
      ((RZ.ItzT K a b2).stop i H ∧ Qd H) ∨ ((RZ.ItzT K a b2).go i H ∧ ∃ Nx : Hp → Prop, (∀ H', Nx H' → ∃ m', m' < m ∧ W (i + 1) m' H') ∧ ∀ x H', (RZ.ItzT K a b2).yld i H x H' → g x (wipe σ vs) H' fun σ2 H2 => wipe σ2 vs = wipe σ vs ∧ tt σ2 H2 fun b H3 =>
        if b = true then te σ2 H3 fun y H4 => ∃ acc, H4 D = some (.lst acc) ∧ acc.length < sizeLine ∧ Nx (upd H4 D (.lst (acc ++ [y]))) else Nx H3) := by
  refine ⟨fun i m H => m = xs.length - i ∧ i ≤ xs.length ∧ LcInv R cs H1 D i H, ⟨xs.length, rfl, Nat.zero_le _, .zero hD⟩, ?_⟩
  rintro i m H ⟨rfl, hi, p⟩
  obtain ⟨qx, qy⟩ := sq H p.1
  by_cases hlt : i < xs.length
  · have hx : xs[i]? = some xs[i] := List.getElem?_eq_getElem hlt
    have hlt2 : i < ys.length := by omega
    have hy : ys[i]? = some ys[i] := List.getElem?_eq_getElem hlt2
    have hc : cs[i]? = some cs[i] := List.getElem?_eq_getElem (by omega)
    refine .inr ⟨⟨xs, ys, _, _, qx, qy, hx, hy⟩, LcInv R cs H1 D (i + 1), fun H' p' => ⟨xs.length - (i + 1), by omega, rfl, hlt, p'⟩, fun v H' y => ?_⟩
    obtain ⟨T, x', y', rfl, hT, rfl, f1, f2⟩ := y
    exact (p.keep ok (same_new hT)).step ok hD (by omega) hc (hs i x' y' _ T H (f1 xs qx) (f2 ys qy) hc p.1 hT)
  · have e : i = xs.length := by omega
    subst e
    exact .inl ⟨⟨xs, ys, qx, qy, Or.inl (Nat.le_refl _)⟩, p.done (by omega) hd⟩
/-- over enumerate of a tuple -/
theorem lc_enumTA (ok : RelOk R) (cs : List (Option β)) (hD : H1 D = none) (cl : cs.length = xs.length) (few : xs.length < 2 ^ 20) (sq : ∀ H, Same H1 H → SqT K H a xs)
    (hs : ∀ (i : Nat) (x : V) (c : Option β) (T : Addr) (H : Hp), xs[i]? = some x → cs[i]? = some c → Same H1 H → H T = none → LcAt R g tt te vs σ D (upd H T (.tup [.int (i : Nat), x])) (.ref T) c) (hd : ∀ H vs, Same H1 H → H D = some (.lst vs) → Paired (R H) vs (cs.filterMap id) → Qd H) :
    ∃ W : Nat → Nat → Hp → Prop, (∃ m, W 0 m (upd H1 D (.lst []))) ∧ ∀ i m H, W i m H →
      ((Itet K a).stop i H ∧ Qd H) ∨ ((Itet K a).go i H ∧ ∃ Nx : Hp → Prop, (∀ H', Nx H' → ∃ m', m' < m ∧ W (i + 1) m' H') ∧ ∀ x H', (Itet K a).yld i H x H' → g x (wipe σ vs) H' fun σ2 H2 => wipe σ2 vs = wipe σ vs ∧ tt σ2 H2 fun b H3 =>
        if b = true then te σ2 H3 fun y H4 => ∃ acc, H4 D = some (.lst acc) ∧ acc.length < sizeLine ∧ Nx (upd H4 D (.lst (acc ++ [y]))) else Nx H3) :=
  lc_enumT (K := K) (a := a) (xs := xs) (g := g) (tt := tt) (te := te) (vs := vs) (σ := σ) (Qd := Qd) (LcInv R cs H1 D) (.zero hD) (fun i H _ h => sq H h.1) (fun i x H T hi h hT => by
    have hl := (List.getElem?_eq_some_iff.mp hi).1
    have hc : cs[i]? = some cs[i] := List.getElem?_eq_getElem (by omega)
    exact (h.keep ok (same_new hT)).step ok hD (by omega) hc (hs i x _ T H hi hc h.1 hT)) (fun H h => h.done (by omega) hd)
theorem rel_int : RelOk (fun (_ : Hp) (v : V) (b : Int) => v = .int b) := ⟨fun _ h => h, fun _ _ h => h⟩
theorem paired_int {H : Hp} {vs : List V} {bs : List Int} (h : Paired (fun (v : V) (b : Int) => v = .int b) vs bs) : vs = bs.map V.int := by
  induction h with
  | nil => rfl
  | cons e _ ih => rw [e, ih]; rfl
theorem some_maps {α β : Type} (f : α → β) (l : List α) : (l.map fun x => some (f x)).filterMap id = l.map f := by
  induction l with
  | nil => rfl
  | cons a r ih => show f a :: _ = _; rw [List.map_cons, ← ih]; try rfl
theorem some_filters {α β : Type} (f : α → β) (p : α → Bool) (l : List α) : (l.map fun x => if p x = true then some (f x) else none).filterMap id = (l.filter p).map f := by
  induction l with
  | nil => rfl
  | cons a r ih =>
    rw [List.map_cons, List.filter_cons]
    cases z : p a with
    | true => rw [if_pos rfl, if_pos rfl, List.map_cons, ← ih]; try rfl
    | false => rw [if_neg (by decide), if_neg (by decide), ← ih]; try rfl
theorem rel_ips : RelOk (fun (H : Hp) (v : V) (b : Int × Int) => ∃ t, v = .ref t ∧ H t = some (.tup [.int b.1, .int b.2])) := ⟨fun s ⟨t, e, h⟩ => ⟨t, e, s _ _ h⟩, fun hD ne ⟨t, e, h⟩ => ⟨t, e, upB (fun z => ne (by rw [e, z])) h⟩⟩
theorem rel_nat : RelOk (fun (_ : Hp) (v : V) (b : Nat) => v = natV b) := ⟨fun _ h => h, fun _ _ h => h⟩
theorem paired_nat {H : Hp} {vs : List V} {bs : List Nat} (h : Paired (fun (v : V) (b : Nat) => v = natV b) vs bs) : vs = bs.map natV := by
  induction h with
  | nil => rfl
  | cons e _ ih => rw [e, ih]; rfl
theorem rel_nl : RelOk (fun (H : Hp) (v : V) (l : List Nat) => ∃ t, v = .ref t ∧ H t = some (.lst (l.map natV))) := ⟨fun s ⟨t, e, h⟩ => ⟨t, e, s _ _ h⟩, fun _ ne ⟨t, e, h⟩ => ⟨t, e, upB (fun z => ne (by rw [e, z])) h⟩⟩
theorem rel_ps : RelOk (fun (H : Hp) (v : V) (b : Nat × Nat) => ∃ t, v = .ref t ∧ H t = some (.tup [natV b.1, natV b.2])) := ⟨fun s ⟨t, e, h⟩ => ⟨t, e, s _ _ h⟩, fun hD ne ⟨t, e, h⟩ => ⟨t, e, upB (fun z => ne (by rw [e, z])) h⟩⟩
end
end K57

set_option maxRecDepth 100000
set_option maxHeartbeats 8000000
namespace K57
open PySem PySem.Spec PyProof.Rows L2 Kw
/-! ### comprehensions whose parts take from the hand at p -/
structure RelP {β : Type} (p D : Addr) (R : Hp → V → β → Prop) : Prop where
  same : ∀ {H H' : Hp} {v : V} {b : β}, Oth p H H' → R H v b → R H' v b
  updL : ∀ {H : Hp} {xs ys : List V} {v : V} {b : β}, H D = some (.lst xs) → R H v b → R (upd H D (.lst ys)) v b
def LcH {β : Type} (p q : Addr) (R : Hp → V → β → Prop) (cs : List (Option β)) (H1 : Hp) (D : Addr) (i : Nat) (H : Hp) : Prop := Oth p H1 H ∧ HandAt H p q ∧ ∃ vs, H D = some (.lst vs) ∧ Paired (R H) vs ((cs.take i).filterMap id)
section
variable {β : Type} {p q : Addr} {R : Hp → V → β → Prop} {K : PySem.W.Frag} {a b2 : Addr} {xs ys : List V} {g : TG} {tt : TT} {te : TE} {vs : List Nat} {σ : L2.St} {H1 : Hp} {D : Addr} {Qd : Hp → Prop}
theorem LcH.zero {cs : List (Option β)} (h : HandAt H1 p q) (hD : H1 D = none) : LcH p q R cs H1 D 0 (upd H1 D (.lst [])) := by
  obtain ⟨Dp, Dq⟩ := h.ne hD
  exact ⟨Oth.of (same_new hD), h.upd Dp Dq, [], upd_same, .nil⟩
/-- a part of the comprehension: it goes on with N when it is taken, with M when it is left out -/
def LcHAt (p q : Addr) (R : Hp → V → β → Prop) (g : TG) (tt : TT) (te : TE) (vs : List Nat) (σ : L2.St) (D : Addr) (H : Hp) (x : V) (c : Option β) : Prop := ∀ (N : VK) (M : Hp → Prop), HandAt H p q → D ≠ p → (∃ us, H D = some (.lst us)) →
  (∀ b, c = some b → ∀ y H4, Oth p H H4 → HandAt H4 p q → R H4 y b → N y H4) → (c = none → ∀ H3, Oth p H H3 → HandAt H3 p q → M H3) →
  g x (wipe σ vs) H fun σ2 H2 => wipe σ2 vs = wipe σ vs ∧ tt σ2 H2 fun b H3 => if b = true then te σ2 H3 N else M H3
theorem LcH.step (ok : RelP p D R) {cs : List (Option β)} {i : Nat} {x : V} {c : Option β} {H : Hp} (hD : H1 D = none) (Dp : D ≠ p) (Dq : D ≠ q) (few : cs.length < 2 ^ 20) (h : LcH p q R cs H1 D i H) (hc : cs[i]? = some c) (part : LcHAt p q R g tt te vs σ D H x c) :
    g x (wipe σ vs) H fun σ2 H2 => wipe σ2 vs = wipe σ vs ∧ tt σ2 H2 fun b H3 =>
      if b = true then te σ2 H3 fun y H4 => ∃ acc, H4 D = some (.lst acc) ∧ acc.length < sizeLine ∧ LcH p q R cs H1 D (i + 1) (upd H4 D (.lst (acc ++ [y]))) else LcH p q R cs H1 D (i + 1) H3 := by
  obtain ⟨O1, hh, us, h1, h3⟩ := id h
  refine part _ _ hh Dp ⟨us, h1⟩ (fun b e y H4 O hh4 hy => ?_) (fun e H3 O hh3 => ?_)
  · subst e
    have hl := Paired.length h3
    have l1 : ((cs.take i).filterMap id).length ≤ cs.length := Nat.le_trans (List.length_filterMap_le _ _) (by rw [List.length_take]; omega)
    have h1' := O _ _ Dp h1
    refine ⟨us, h1', (by show _ < 2 ^ 24; omega), Oth.updN (O1.trans O) hD, hh4.upd Dp Dq, us ++ [y], upd_same, ?_⟩
    rw [List.take_add_one, hc, Option.toList_some, List.filterMap_append]
    have key : ∀ {vs : List V} {bs : List β}, Paired (R H) vs bs → ∀ ys, Paired (R (upd H4 D (.lst ys))) vs bs := fun p ys => by
      induction p with
      | nil => exact .nil
      | cons z _ ih => exact .cons (ok.updL h1' (ok.same O z)) ih
    exact paired_app (key h3 _) (.cons (ok.updL h1' hy) .nil)
  · subst e
    refine ⟨O1.trans O, hh3, us, O _ _ Dp h1, ?_⟩
    rw [List.take_add_one, hc, Option.toList_some, List.filterMap_append]
    show Paired (R H3) us (_ ++ [])
    rw [List.append_nil]
    exact paired_imp (fun _ _ z => ok.same O z) h3
theorem LcH.done {cs : List (Option β)} {n : Nat} {H : Hp} (h : LcH p q R cs H1 D n H) (hn : cs.length ≤ n) (hd : ∀ H vs, Oth p H1 H → HandAt H p q → H D = some (.lst vs) → Paired (R H) vs (cs.filterMap id) → Qd H) : Qd H := by
  obtain ⟨O1, hh, vs, h1, h3⟩ := h
  rw [List.take_of_length_le hn] at h3
  exact hd H vs O1 hh h1 h3
theorem lc_listH (ok : RelP p D R) (cs : List (Option β)) (hh1 : HandAt H1 p q) (hD : H1 D = none) (cl : cs.length = xs.length) (few : xs.length < 2 ^ 20) (sq : ∀ H, Oth p H1 H → SqL K H a xs)
    (hs : ∀ (i : Nat) (x : V) (c : Option β) (H : Hp), xs[i]? = some x → cs[i]? = some c → Oth p H1 H → LcHAt p q R g tt te vs σ D H x c) (hd : ∀ H vs, Oth p H1 H → HandAt H p q → H D = some (.lst vs) → Paired (R H) vs (cs.filterMap id) → Qd H) :
    ∃ W : Nat → Nat → Hp → Prop, (∃ m, W 0 m (upd H1 D (.lst []))) ∧ ∀ i m H, W i m H →
      ((Itl K a).stop i H ∧ Qd H) ∨ ((Itl K a).go i H ∧ ∃ Nx : Hp → Prop, (∀ H', Nx H' → ∃ m', m' < m ∧ W (i + 1) m' H') ∧ ∀ x H', (Itl K a).yld i H x H' → g x (wipe σ vs) H' fun σ2 H2 => wipe σ2 vs = wipe σ vs ∧ tt σ2 H2 fun b H3 =>
        if b = true then te σ2 H3 fun y H4 => ∃ acc, H4 D = some (.lst acc) ∧ acc.length < sizeLine ∧ Nx (upd H4 D (.lst (acc ++ [y]))) else Nx H3) := by
  obtain ⟨Dp, Dq⟩ := hh1.ne hD
  exact lc_list (LcH p q R cs H1 D) (.zero hh1 hD) (fun i H _ h => sq H h.1) (fun i x H hi h => by
    have hl := (List.getElem?_eq_some_iff.mp hi).1
    have hc : cs[i]? = some cs[i] := List.getElem?_eq_getElem (by omega)
    exact h.step ok hD Dp Dq (by omega) hc (hs i x _ H hi hc h.1)) (fun H h => h.done (by omega) hd)
theorem lc_tupH (ok : RelP p D R) (cs : List (Option β)) (hh1 : HandAt H1 p q) (hD : H1 D = none) (cl : cs.length = xs.length) (few : xs.length < 2 ^ 20) (sq : ∀ H, Oth p H1 H → SqT K H a xs)
    (hs : ∀ (i : Nat) (x : V) (c : Option β) (H : Hp), xs[i]? = some x → cs[i]? = some c → Oth p H1 H → LcHAt p q R g tt te vs σ D H x c) (hd : ∀ H vs, Oth p H1 H → HandAt H p q → H D = some (.lst vs) → Paired (R H) vs (cs.filterMap id) → Qd H) :
    ∃ W : Nat → Nat → Hp → Prop, (∃ m, W 0 m (upd H1 D (.lst []))) ∧ ∀ i m H, W i m H →
      ((Itt K a).stop i H ∧ Qd H) ∨ ((Itt K a).go i H ∧ ∃ Nx : Hp → Prop, (∀ H', Nx H' → ∃ m', m' < m ∧ W (i + 1) m' H') ∧ ∀ x H', (Itt K a).yld i H x H' → g x (wipe σ vs) H' fun σ2 H2 => wipe σ2 vs = wipe σ vs ∧ tt σ2 H2 fun b H3 =>
        if b = true then te σ2 H3 fun y H4 => ∃ acc, H4 D = some (.lst acc) ∧ acc.length < sizeLine ∧ Nx (upd H4 D (.lst (acc ++ [y]))) else Nx H3) := by
  obtain ⟨Dp, Dq⟩ := hh1.ne hD
  exact lc_tup (LcH p q R cs H1 D) (.zero hh1 hD) (fun i H _ h => sq H h.1) (fun i x H hi h => by
    have hl := (List.getElem?_eq_some_iff.mp hi).1
    have hc : cs[i]? = some cs[i] := List.getElem?_eq_getElem (by omega)
    exact h.step ok hD Dp Dq (by omega) hc (hs i x _ H hi hc h.1)) (fun H h => h.done (by omega) hd)
theorem lc_rangeH {lo : Int} {n : Nat} (ok : RelP p D R) (cs : List (Option β)) (hh1 : HandAt H1 p q) (hD : H1 D = none) (cl : cs.length = n) (few : n < 2 ^ 20)
    (hs : ∀ (i : Nat) (c : Option β) (H : Hp), i < n → cs[i]? = some c → Oth p H1 H → LcHAt p q R g tt te vs σ D H (.int (lo + i)) c) (hd : ∀ H vs, Oth p H1 H → HandAt H p q → H D = some (.lst vs) → Paired (R H) vs (cs.filterMap id) → Qd H) :
    ∃ W : Nat → Nat → Hp → Prop, (∃ m, W 0 m (upd H1 D (.lst []))) ∧ ∀ i m H, W i m H →
      ((Itr lo n).stop i H ∧ Qd H) ∨ ((Itr lo n).go i H ∧ ∃ Nx : Hp → Prop, (∀ H', Nx H' → ∃ m', m' < m ∧ W (i + 1) m' H') ∧ ∀ x H', (Itr lo n).yld i H x H' → g x (wipe σ vs) H' fun σ2 H2 => wipe σ2 vs = wipe σ vs ∧ tt σ2 H2 fun b H3 =>
        if b = true then te σ2 H3 fun y H4 => ∃ acc, H4 D = some (.lst acc) ∧ acc.length < sizeLine ∧ Nx (upd H4 D (.lst (acc ++ [y]))) else Nx H3) := by
  obtain ⟨Dp, Dq⟩ := hh1.ne hD
  exact lc_range (LcH p q R cs H1 D) (.zero hh1 hD) (fun i H hi h => by
    have hc : cs[i]? = some cs[i] := List.getElem?_eq_getElem (by omega)
    exact h.step ok hD Dp Dq (by omega) hc (hs i _ H hi hc h.1)) (fun H h => h.done (by omega) hd)
end
end K57

set_option maxRecDepth 100000
set_option maxHeartbeats 8000000
namespace K57
open PySem PySem.Spec PyProof.Rows L2 Kw
/-! ### tuples of which it is known that they have no dict: t.index -/
def TupZ (H : Hp) (a : Addr) (xs : List V) : Prop := ∃ o : Obj, H a = some (.frz o (.tup xs)) ∧ o.cls = .type "tuple" ∧ o.dict = none
theorem TupZ.r {H : Hp} {a : Addr} {xs : List V} (h : TupZ H a xs) : TupR H a xs := by
  obtain ⟨o, h, _⟩ := h
  exact .inr ⟨o, h⟩
theorem TupZ.same {H H' : Hp} {a : Addr} {xs : List V} (h : TupZ H a xs) (s : Same H H') : TupZ H' a xs := by
  obtain ⟨o, h, c, d⟩ := h
  exact ⟨o, s _ _ h, c, d⟩
/-- a list, or a tuple, frozen or not -/
def SeqR (H : Hp) (a : Addr) (xs : List V) : Prop := H a = some (.lst xs) ∨ TupR H a xs
theorem SeqR.same {H H' : Hp} {a : Addr} {xs : List V} (h : SeqR H a xs) (s : Same H H') : SeqR H' a xs := by
  rcases h with h | h
  · exact .inl (s _ _ h)
  · exact .inr (h.same s)
theorem SeqR.sq {K : PySem.W.Frag} {H : Hp} {a : Addr} {xs : List V} (h : SeqR H a xs) : SqL K H a xs ∨ SqT K H a xs := by
  rcases h with h | h
  · exact .inl (SqL.of h)
  · exact .inr h.sq
theorem SeqR.ty {K : PySem.W.Frag} {H : Hp} {a : Addr} {xs : List V} (h : SeqR H a xs) : ∃ t : String, TyX K H (.ref a) (.type t) ∧ PySem.W.kitAny K (.type t) [.type "list", .type "tuple"] = some true := by
  rcases h with h | h
  · have ty : Ty0 H (.ref a) "list" := .lst h
    exact ⟨_, ty.x, ty.seq⟩
  · have ty : Ty0 (fun _ => some (.tup [])) (.ref a) "tuple" := .tup rfl
    exact ⟨_, h.ty, ty.seq⟩
theorem SeqR.of {H : Hp} {a : Addr} {xs : List V} (h : SeqAt H a xs) : SeqR H a xs := by
  rcases h with h | h
  · exact .inl h
  · exact .inr (.of h)
section
variable {X : Cx}
/-- tuple(xs): a new one has no dict -/
structure rTupZ (K : PySem.W.Frag) (xs : List V) (H : Hp) (Q : VK) : Prop where
  h : ∃ p ys, xs = [.ref p] ∧ ((SqL K H p ys ∧ ∀ l o, H l = none → o.cls = .type "tuple" → o.dict = none → Q (.ref l) (upd H l (.frz o (.tup ys)))) ∨ (SqT K H p ys ∧ Q (.ref p) H))
theorem call_tupZ : CallR X (.type "tuple") (rTupZ X.K) := by
  intro pins s σ H xs us Q I r h
  obtain ⟨p, ys, rfl, h2⟩ := h.h
  clear h
  obtain ⟨u, rfl, rx⟩ := vals1 r
  cases rx
  rcases h2 with ⟨hq, q⟩ | ⟨hq, q⟩
  · obtain ⟨its, r', pl, hz⟩ := I.list hq
    have hlen := r'.length
    refine call_tuple_list pl.isList (fun h' kp => ?_) (by simp only [List.size_toArray] <;> omega)
    have I1 : Inv X pins σ H { s with heap := h' } := I.kept (t' := s.toks) kp
    have I2 : Inv X pins σ (upd H h'.objs.size (.frz { cls := .type "tuple", data := .seq its.toArray } (.tup ys))) { s with heap := h'.push { cls := .type "tuple", data := .seq its.toArray } } :=
      I1.laid (t' := s.toks) (fun b o e => Heap.get?_push_of_some _ e) (Nat.le_refl _) (show ObjOk X.prog X.w _ _ _ (.frz _ (.tup ys)) from ⟨Heap.get?_push_size _ rfl, hz, its, r', IsTup.new _ _⟩)
    exact ⟨.ref h'.objs.size, _, I2, rfl, q _ _ (I1.hok.fresh (Nat.le_refl _)) rfl rfl⟩
  · obtain ⟨its, r', pl, hz⟩ := I.tuple hq
    exact call_tuple_same pl ⟨.ref p, H, I, rfl, q⟩
/-- t + u: a new one has no dict -/
structure rCatZ (K : PySem.W.Frag) (x y : V) (H : Hp) (Q : VK) : Prop where
  h : ∃ a b xs ys, x = .ref a ∧ y = .ref b ∧ SqT K H a xs ∧ SqT K H b ys ∧ xs.length + ys.length ≤ sizeLine ∧
    (xs = [] → Q (.ref b) H) ∧ (xs ≠ [] → ys = [] → Q (.ref a) H) ∧ (xs ≠ [] → ys ≠ [] → ∀ p o, H p = none → o.cls = .type "tuple" → o.dict = none → Q (.ref p) (upd H p (.frz o (.tup (xs ++ ys)))))
theorem op_catZ : OpR X (binaryOp .Add) (rCatZ X.K) := by
  intro pins s σ H x y v u Q I rx ry h
  obtain ⟨a, b, xs, ys, rfl, rfl, ha, hb, hz, q0, q1, q2⟩ := h.h
  by_cases hx : xs = []
  · exact op_catA pins s σ H _ _ v u Q I rx ry ⟨a, b, xs, ys, rfl, rfl, ha, hb, hz, q0, fun z => absurd hx z, fun z => absurd hx z⟩
  · cases rx
    cases ry
    obtain ⟨its, r1, p1, _⟩ := I.tuple ha
    obtain ⟨its2, r2, p2, _⟩ := I.tuple hb
    refine HT.cat_tup p1 p2 (fun z => hx (r1.nil_iff.mp z)) (fun z => ⟨.ref a, H, I, rfl, q1 hx (r2.nil_iff.mp z)⟩) (fun z => ?_) (by rw [← r1.length, ← r2.length]; exact hz)
    refine ⟨.ref s.heap.objs.size, _, I.laid (t' := s.toks) (o := .frz { cls := .type "tuple", data := .seq (its ++ its2).toArray } (.tup (xs ++ ys))) (fun b ob q => Heap.get?_push_of_some _ q) (Nat.le_refl _) ?_, rfl, q2 hx (fun w => z (r2.nil_iff.mpr w)) _ _ (I.hok.fresh (Nat.le_refl _)) rfl rfl⟩
    exact ⟨Heap.get?_push_size _ rfl, by rw [List.length_append]; exact hz, _, r1.append r2, IsTup.new _ _⟩
/-- t.m(e, ..), t a tuple that has no dict -/
def tBMZ (r : V → List V → Hp → VK → Prop) (to : TE) (t : TA) : TE := fun σ H Q => to σ H fun x H1 => (∃ a xs, x = .ref a ∧ TupZ H1 a xs) ∧ t σ H1 fun xs H2 => r x xs H2 Q
variable {o e : Expr} {es : List Expr} {to : TE} {t : TA} {name : Str} {apos cpos : Pos} {id : String} {r : V → List V → Hp → VK → Prop}
theorem pe_bmZ (slot : Slot "tuple" name id) (hty : typeOf (.builtin id) = pure (.type "method_descriptor")) (hm : MtR X id r) (ho : PE X o to) (ha : PA X (e :: es) t)
    (hbase : attributeBase o name X.env (eval o X.env) = eval o X.env := by rfl)
    (hfew : ((backTo cpos (starEach (e :: es) X.env)).all (fun x => !x.1) && (backToKw cpos (keywordEach [] X.env)).all (fun x => x.1.isSome)
      && decide ((e :: es).length + ([] : List Keyword).length + (if ([] : List Keyword).isEmpty then 0 else 1) < 30)) = true := by rfl)
    (hline : (apos.endLine == cpos.line) = true := by rfl) (hs : starEach (e :: es) X.env = (false, eval e X.env) :: starEach es X.env := by rfl) (hplain : (backTo cpos (starEach es X.env)).any (·.1) = false := by rfl) :
    PE X (.Call (.Attribute o name apos) (e :: es) [] cpos) (tBMZ r to t) := by
  refine ⟨fun pins s σ H Q I h => ?_⟩
  refine wpAny_Call_method_late hbase hfew hline rfl (thn (ho.run pins s σ H _ I h) fun v s1 ⟨x, H1, I1, r1, ty, q1⟩ => ?_)
  obtain ⟨a, xs, rfl, ob, hz, hc, hd⟩ := ty
  cases r1
  obtain ⟨g, _⟩ := I1.hok a _ hz
  refine ⟨"tuple", id, PySem.F.plainAttrs_tuple, slot, hty, ⟨ob, g, hc⟩, fun b eb => ?_, ?_⟩
  · cases eb
    exact ⟨ob, g, hd⟩
  have hA := ha.run cpos pins s1 σ H1 _ I1 q1
  rw [hs] at hA ⊢
  refine Calls.callWith_builtin (by show (false || (backTo cpos (starEach es X.env)).any (·.1)) = false; rw [hplain] <;> rfl) (Calls.evalArgs_plain ?_)
  exact thn hA fun us s2 ⟨vs, H2, I2, r2, q2⟩ => hm pins s2 σ H2 (.ref a) vs (.ref a) us Q I2 rfl r2 q2
end
end K57

set_option maxRecDepth 100000
set_option maxHeartbeats 8000000
namespace K57
open PySem PySem.Spec PyProof.Rows L2 Kw
section
variable {X : Cx}
/-- t.index(x), pairs of numbers -/
def rTupIxP (K : PySem.W.Frag) : V → List V → Hp → VK → Prop := fun x xs H Q => ∃ (p t : Addr) (us : List V) (ps : List (Nat × Nat)) (f : Nat × Nat) (j : Nat), x = .ref p ∧ xs = [.ref t] ∧ SqT K H p us ∧ PairsAt H us ps ∧ H t = some (.tup [natV f.1, natV f.2]) ∧ ps[j]? = some f ∧ (∀ m, m < j → ps[m]? ≠ some f) ∧ Q (.int (j : Nat)) H
theorem mt_tupIxP (hu : X.A.units + 65 < cLine) : MtR X "tuple.index" (rTupIxP X.K) := by
  intro pins s σ H x xs v us Q I rx rs h
  obtain ⟨p, t, vs, ps, f, j, rfl, rfl, hq, hP, ht, hy, hno, q⟩ := h
  cases rx
  cases rs with
  | cons ry rt =>
    rename_i uy ut
    cases rt
    have hd : Dp X.K H (.ref t) (dPair f) := .tup (SqT.of ht) (.cons (.int _) (.cons (.int _) .nil))
    obtain ⟨bs, r1⟩ := Dp.reads I (dPair f) (.ref t) uy hd ry
    have sl : SeqAt.shaped (.list (ps.map dPair)) = true := (lay_pairs ps).shaped (by decide)
    have sd : SeqAt.shaped (dPair f) = true := (lay_pair f).shaped (by decide)
    have hxs : PyData.canLayAll0 (ps.map dPair) = true := SeqAt.canLay_of_shaped sl
    have hroom : X.A.units + 1 + min (PyData.depthAll (ps.map dPair)) (dPair f).depth < cLine := room_in_shaped sd hu
    obtain ⟨its, r, pl, hz⟩ := I.tuple hq
    obtain ⟨⟨cls, dd, dt, slt⟩, ho, hc, n, hdt⟩ := pl
    simp only at hc hdt
    subst hc
    subst hdt
    obtain ⟨as, h4⟩ := Dp.readsAll I (ps.map dPair) _ its (dp_pairs hP) r
    have hn : its.length = (ps.map dPair).length := SeqAt.ReadsAll.length _ its as h4
    rw [List.length_map] at hn
    have hmap : its.map (SeqAt.readOf s.heap) = ps.map dPair := SeqAt.readsAll_map _ its as hxs h4
    have hjl : j < ps.length := (List.getElem?_eq_some_iff.mp hy).1
    have hj : j < its.toArray.size := by simpa [hn] using hjl
    have at_ : ∀ (m : Nat) (hm : m < its.toArray.size) (z : Nat × Nat), ps[m]? = some z → SeqAt.readOf s.heap its.toArray[m] = dPair z := by
      intro m hm z hz'
      have hml : m < its.length := by simpa using hm
      have e0 : (its.map (SeqAt.readOf s.heap))[m]? = some (dPair z) := by rw [hmap, List.getElem?_map, hz']; rfl
      rw [List.getElem?_map, List.getElem?_eq_getElem hml] at e0
      have e1 : SeqAt.readOf s.heap its[m] = dPair z := Option.some.inj (show some (SeqAt.readOf s.heap its[m]) = some (dPair z) from e0)
      simpa using e1
    have eqp : ∀ z : Nat × Nat, PyData.eqv (dPair z) (dPair f) = decide (z = f) := fun z => by
      have := any_pair [z] f
      simp only [List.map_cons, List.map_nil, List.any_cons, List.any_nil, Bool.or_false, List.mem_singleton] at this
      rw [this]
      exact decide_eq_decide.mpr ⟨fun q => q.symm, fun q => q.symm⟩
    refine call_meets PySem.F.slot_tuple_index ⟨_, ho, rfl⟩ PySem.F.entry_tuple_index (PySem.F.args_tuple_index_2 _ _) (TI.tuple_indexAt p its.toArray n dd slt uy (fun u => PyData.eqv (SeqAt.readOf s.heap u) (dPair f)) j hj ?_ ?_)
      ⟨ho, SeqAt.items_eqAt (vs := its.toArray) (show ReadsAll s.heap its.toArray.toList (ps.map dPair) as from h4) r1 hxs (SeqAt.canLay_of_shaped sd) hroom, ⟨.int (j : Nat), H, I.tok _, ⟨_, rfl⟩, q⟩⟩
    · show PyData.eqv (SeqAt.readOf s.heap its.toArray[j]) (dPair f) = true
      rw [at_ j hj f hy, eqp]
      exact decide_eq_true rfl
    · intro m hm hmj
      have hmd : m < ps.length := by omega
      have hz' : ps[m]? = some ps[m] := List.getElem?_eq_getElem hmd
      show PyData.eqv (SeqAt.readOf s.heap its.toArray[m]) (dPair f) = false
      rw [at_ m hm _ hz', eqp]
      exact decide_eq_false fun z => hno m hmj (by rw [hz', z])
end
section
variable {P : Program} {w : World} {K : PySem.W.Frag} {mg : Str → Option Value} {base : Heap} {f C CL : Addr} {fd : FuncData}
def spAllZ (C : Addr) : Sp := fun vs H Q _ => ∃ (p : Addr) (ds : List Ent), vs = [.ref p] ∧ WorldAt H p C ds ∧ DsOk ds ∧ ds.length ≤ 12 ∧ ∀ t us H', Same H H' → TupZ H' t us → PairsAt H' us (allF ds) → Q (.ref t) H'
theorem sc_allZ : FnScope ["self", "c", "i"] ["self"] (defScope (inClass (top 24) 1)) := ⟨rfl, rfl, rfl, by decide +kernel, rfl, by decide +kernel, by decide +kernel⟩
theorem ok_allZ (F : FnM K "all_fields" "World.all_fields" (inClass (top 24) 1) f fd) (B : Fr mg) (TC : ClsWorld K mg C) : FnOk P w K mg base CX0 1 f fd ["self"] (spAllZ C) := by
  refine F.ok sc_allZ (fun vs H Q E h => ?_) (fun cdv A outer s H vs Q E hr h => ?_)
  · obtain ⟨p, ds, rfl, _⟩ := h
    rfl
  · obtain ⟨p, ds, rfl, hw, ok, h12, k⟩ := h
    refine ⟨_, PSs.nox (pss_one (ps_ret (pe_callTy (T := "tuple") (r := rTupZ K) (call_tupZ (X := _)) (by rfl) B.tuple (by decide +kernel) (pa_cons
        (pe_lc2 (own := [("c", 1), ("i", 2)]) (vs1 := [2]) (g := gName 1) (g1 := gName 2) (tt := tYes) (tt1 := tYes) (te := tTup (tCons (tVar 1) (tCons (tVar 2) tNil))) (wi1 := iRng1 (tCons (tOp (rIxT K) (tFld K (tVar 0) "owns") (tVar 1)) tNil)) rfl sc_allZ.nd (pi_range1 (by rfl) B.range (pa_cons (pe_callB call_len_seq (by rfl) B.len PySem.boot_len (pa_cons (pe_fld (pv 0) rfl) pa_nil)) pa_nil)) (blkOk_by (N := ["self", "c", "i"]) (sc := defScope (inClass (top 24) 1)) (by decide +kernel)) (by decide)
          (fun _ _ _ _ _ => pg_name (i := 1) sc_allZ.nd rfl (Or.inl rfl)) (fun _ _ _ _ _ => pts_nil)
          (fun _ _ _ _ _ => ?it)
          (fun _ _ _ _ _ => pg_name (i := 2) sc_allZ.nd rfl (Or.inl rfl)) (fun _ _ _ _ _ => pts_nil) (fun _ _ _ _ _ => pe_tup (pa_cons (pv 1) (pa_cons (pv 2) pa_nil)))) pa_nil)))), ?_⟩
    case it => exact pi_range1 (by rfl) B.range (pa_cons (pe_ix (r := rIxT K) ix_tup (pe_fld (pv 0) rfl) (pv 1) (fun _ _ => rfl)) pa_nil)
    obtain ⟨dx, ac, ab, ao, am, ae, ah, cs, bs, ms, es, hs, h1, h2, h3, h4, h5, h6, _⟩ := id hw
    refine ⟨_, rfl, p, C, dx, _, _, rfl, h1, TC.cl, TC.no _ (List.mem_of_getElem? (i := 2) rfl), rfl, ao, _, rfl, .inr (SqT.of h6), _, rfl, by rw [List.length_map, List.length_map]; omega, by rw [List.length_map, List.length_map]; omega, fun D hD => ?_⟩
    refine lc2_out (n := (((ds.map (·.2.1)).map natV).length : Int).toNat) (fun i H' => Same H H' ∧ ∃ us, H' D = some (.lst us) ∧ PairsAt H' us (fldK ds ((List.range ds.length).take i))) ⟨same_new hD, [], upd_same, .nil⟩ ?_ ?_
    · rintro i H3 hi ⟨s3, us, D3, U3⟩ Nx hNx
      rw [List.length_map, List.length_map, Int.toNat_natCast] at hi
      have ei : V.int ((0 : Int) + (i : Int)) = natV i := congrArg V.int (by omega)
      rw [ei]
      have hk : (List.range ds.length)[i]? = some i := List.getElem?_range hi
      obtain ⟨dx, fs, ao, os, q1, q2, q3, q4, ol⟩ := (hw.mono s3).own hi
      have o3 := owN_le ok i
      refine ⟨rfl, _, rfl, p, C, dx, _, _, rfl, q1, TC.cl, TC.no _ (List.mem_of_getElem? (i := 2) rfl), q2, _, rfl, ao, os, (i : Int), _, rfl, rfl, SqT.of q3, atI_nat q4, _, rfl, by omega, by omega, ?_⟩
      refine lc2_in (m := owN ds i) (fun j H' => Same H H' ∧ ∃ us', H' D = some (.lst us') ∧ PairsAt H' us' (fldK ds ((List.range ds.length).take i) ++ (List.range j).map fun x => (i, x))) ⟨s3, us, D3, by rw [List.range_zero, List.map_nil, List.append_nil]; exact U3⟩ ?_ ?_
      · rintro j H4 hj ⟨s4, us4, D4, U4⟩
        have ej : V.int ((0 : Int) + (j : Int)) = natV j := congrArg V.int (by omega)
        rw [ej]
        refine ⟨rfl, _, rfl, _, rfl, (by show 2 ≤ sizeLine; decide), fun T hT => ?_⟩
        obtain ⟨r1, r2, r3, r4⟩ := fld_in ok hD hk (by rw [List.length_range]; omega) s3 D3 U3 hj s4 D4 U4 hT
        exact ⟨us4, r2, r3, r1, _, upd_same, r4⟩
      · rintro H4 ⟨s4, us4, D4, U4⟩
        refine hNx _ ⟨s4, us4, D4, ?_⟩
        rw [fldK_take hk]
        exact U4
    · rintro H3 ⟨s3, us, D3, U3⟩
      have et : (List.range ds.length).take (((ds.map (·.2.1)).map natV).length : Int).toNat = List.range ds.length := by
        rw [List.length_map, List.length_map, Int.toNat_natCast]
        exact List.take_of_length_le (by rw [List.length_range]; exact Nat.le_refl _)
      rw [et] at U3
      exact ⟨⟨D, us, rfl, .inl ⟨SqL.of D3, fun l o hl hc hd => k l us _ (s3.trans (same_new hl)) ⟨o, upd_same, hc, hd⟩ (U3.same (same_new hl))⟩⟩⟩

/-! ### layings -/
def LayAt (H : Hp) (q CL : Addr) (ds : List Ent) (zs : List Int) : Prop := ∃ (dq af ap : Addr) (us : List V), H q = some (.ins CL dq [("fields", .ref af), ("places", .ref ap)]) ∧ TupZ H af us ∧ PairsAt H us (allF ds) ∧ H ap = some (.tup (zs.map V.int)) ∧ zs.length = (allF ds).length
theorem LayAt.mono {H H' : Hp} {q CL : Addr} {ds : List Ent} {zs : List Int} (h : LayAt H q CL ds zs) (s : Same H H') : LayAt H' q CL ds zs := by
  obtain ⟨dq, af, ap, us, h1, h2, h3, h4, h5⟩ := h
  exact ⟨dq, af, ap, us, s _ _ h1, h2.same s, h3.same s, s _ _ h4, h5⟩
def GoodPl (zs : List Int) : Prop := ∀ z ∈ zs, z ≠ 0 ∧ -99 ≤ z ∧ z ≤ 99
def spLayI (C CL : Addr) : Sp := fun vs H Q _ => ∃ (q dq wp r : Addr) (ds : List Ent) (zs : List Int), vs = [.ref q, .ref wp, .ref r] ∧ H q = some (.ins CL dq []) ∧ WorldAt H wp C ds ∧ DsOk ds ∧ ds.length ≤ 12 ∧ SeqAt H r (zs.map V.int) ∧ zs.length = (allF ds).length ∧ GoodPl zs ∧
  ∀ H', Oth q H H' → LayAt H' q CL ds zs → Q .non H'
theorem sc_layI : FnScope ["self", "world", "places", "fields", "index", "place"] ["self", "world", "places"] (defScope (inClass (top 36) 0)) := ⟨rfl, rfl, rfl, by decide +kernel, rfl, by decide +kernel, by decide +kernel⟩
theorem ok_layI {f_World_all_fields f_is_sequence f_is_whole p_World_all_fields : Addr} {fd_World_all_fields fd_is_sequence fd_is_whole : FuncData} (F : FnM K "__init__" "Laying.__init__" (inClass (top 36) 0) f fd)
    (B : Fr mg)
    (F_World_all_fields : FnM K "all_fields" "World.all_fields" (inClass (top 24) 1) f_World_all_fields fd_World_all_fields)
    (G_World_all_fields : FnOk P w K mg base CX0 1 f_World_all_fields fd_World_all_fields ["self"] (spAllZ C))
    (TC : ClsWorld K mg C)
    (P_World_all_fields : PropOf K C "all_fields" p_World_all_fields f_World_all_fields)
    (F_is_sequence : FnP K "is_sequence" 12 f_is_sequence fd_is_sequence)
    (m_is_sequence : mg "is_sequence" = some (.ref f_is_sequence))
    (G_is_sequence : FnOk P w K mg base CX0 1 f_is_sequence fd_is_sequence ["thing"] spIsSeq)
    (F_is_whole : FnDf K "is_whole" 13 [.non, .non] f_is_whole fd_is_whole)
    (m_is_whole : mg "is_whole" = some (.ref f_is_whole))
    (G_is_whole : FnOk P w K mg base CX0 1 f_is_whole fd_is_whole ["thing", "low", "high"] spWhole)
    (z_FARTHEST : ∃ t, mg "FARTHEST" = some (.int 99 t))
    (TCL : ClsF K CL ["fields", "places"]) :
    FnOk P w K mg base CX0 3 f fd ["self", "world", "places"] (spLayI C CL) := by
  have b_World_all_fields : L2.Binds K fd_World_all_fields ["self"] [] := F_World_all_fields.bindsN fun _ _ _ _ _ _ us hl => match us, hl with | [_], _ => rfl
  have b_is_sequence : L2.Binds K fd_is_sequence ["thing"] [] := F_is_sequence.bindsN fun _ _ _ _ _ _ us hl => match us, hl with | [_], _ => rfl
  have bw3 := binds_whole3 F_is_whole
  obtain ⟨t_FARTHEST, g_FARTHEST⟩ := z_FARTHEST
  refine F.ok sc_layI (fun vs H Q E h => ?_) (fun cdv A outer s H vs Q E hr h => ?_)
  · obtain ⟨q, dq, wp, r, ds, zs, rfl, _⟩ := h
    rfl
  · obtain ⟨q, dq, wp, r, ds, zs, rfl, hq, hw, ok, h12, hr0, zl, gz, k⟩ := h
    refine ⟨_, PSs.nox (pss_cons (ps_set (i := 3) sc_layI.nd rfl (Or.inl rfl) (pe_prop (pv 1) TC.cl P_World_all_fields G_World_all_fields (hr.mono (by decide)) b_World_all_fields .nil pass0 rfl))
      (pss_cons (ps_if (PW.pt (pw_or (pt_not (pt_val (pe_call G_is_sequence (hr.mono (by decide)) (by rfl) m_is_sequence F_is_sequence.kp b_is_sequence .nil pass0 (pa_cons (pv 2) pa_nil)))) (pw_or1 (pt_cmpR op_ne (pe_callB (id := "len") (r := rLenS K) (call_lenS (X := _)) (by rfl) B.len PySem.boot_len (pa_cons (pv 2) pa_nil)) (pe_callB (id := "len") (r := rLenS K) (call_lenS (X := _)) (by rfl) B.len PySem.boot_len (pa_cons (pv 3) pa_nil)) (nomark _))))) (pss_one ps_never) pss_nil)
      (pss_cons (ps_for PassesOwn.never rfl (pi_or (pi_enum (by rfl) B.enumerate (pa_cons (pv 2) pa_nil)) (pi_enumT (by rfl) B.enumerate (pa_cons (pv 2) pa_nil))) (pg_tup (by rfl) (pgs_cons (pg_name (i := 4) sc_layI.nd rfl (Or.inl rfl)) (pgs_cons (pg_name (i := 5) sc_layI.nd rfl (Or.inl rfl)) pgs_nil)))
        (pss_one (ps_if (PW.pt (pw_or (pt_not (pt_val (pe_call G_is_whole (hr.mono (by decide)) (by rfl) m_is_whole F_is_whole.kp bw3 .nil pass0 (pa_cons (pv 5) (pa_cons (pe_un un_neg (pe_glob (v := (.int 99)) (by rfl) g_FARTHEST ⟨_, rfl⟩)) (pa_cons (pe_glob (v := (.int 99)) (by rfl) g_FARTHEST ⟨_, rfl⟩) pa_nil)))))) (pw_or1 (pt_cmpR op_eq (pv 5) pe_int (nomark _))))) (pss_one ps_never) pss_nil)))
      (pss_cons (ps_fld (pv 0) (pv 3) rfl)
      (pss_one (ps_fld (pv 0) (pe_callTy (T := "tuple") (r := rTupOf K) (call_tup (X := _)) (by rfl) B.tuple (by decide +kernel) (pa_cons (pv 2) pa_nil)) rfl)))))), ?_⟩
    have wq : wp ≠ q := fun z => by
      obtain ⟨_, _, _, _, _, _, _, _, _, _, _, _, h1, _⟩ := id hw
      rw [z, hq] at h1
      cases h1
    obtain ⟨wdx, wfs, h1⟩ : ∃ dx fs, H wp = some (.ins C dx fs) := by
      obtain ⟨dx, ac, ab, ao, am, ae, ah, cs, bs, ms, es, hs, h1, _⟩ := id hw
      exact ⟨_, _, h1⟩
    refine ⟨_, rfl, wp, wdx, _, rfl, h1, wp, ds, rfl, hw, ok, h12, fun af us H1 s1 haf hP => ?_⟩
    obtain ⟨ty, tyA, hseq⟩ := (hr0.same s1).ty
    refine ⟨_, rfl, _, ty, rfl, tyA, fun H2 s2 => ⟨_, rfl, ?_⟩⟩
    rw [hseq]
    have s12 := s1.trans s2
    have ul := hP.len
    refine iteF' rfl ⟨_, rfl, r, _, rfl, (hr0.same s12).sq, _, rfl, af, us, rfl, .inr (haf.same s2).r.sq, rfl, _, rfl, ?_⟩
    have e1 : decide (V.int ((zs.map V.int).length : Int) = V.int (us.length : Int)) = true := decide_eq_true (by rw [List.length_map, zl, ul])
    rw [e1]
    refine iteF' rfl ?_
    refine for_enumS (K := K) (a := r) (xs := zs.map V.int) rfl hr0 s12 (fun i σ H' => Same H2 H' ∧ ∃ x4 x5, σ = [some (.ref q), some (.ref wp), some (.ref r), some (.ref af), x4, x5]) ⟨Same.refl _, none, none, rfl⟩ (fun i σ H' h => s12.trans h.1) ?_ ?_
    · rintro i e σ H3 T hi ⟨s3, x4, x5, rfl⟩ hT
      rw [List.getElem?_map] at hi
      obtain ⟨z, hz, rfl⟩ := Option.map_eq_some_iff.mp hi
      obtain ⟨g1, g2, g3⟩ := gz z (List.mem_of_getElem? hz)
      have sT := same_new (o := .tup [.int (i : Nat), V.int z]) hT
      refine ⟨T, _, rfl, SqT.of upd_same, rfl, _, _, rfl, _, _, rfl, rfl, ?_⟩
      refine ⟨_, rfl, _, rfl, _, _, _, "int", rfl, .int _, .inr ⟨_, rfl⟩, .inr ⟨_, rfl⟩, _, rfl, ?_⟩
      have ew : wholeB (.int (-99)) (.int 99) (V.int z) = true := by
        show (decide ((-99 : Int) ≤ z) && decide (z ≤ 99)) = true
        rw [decide_eq_true g2, decide_eq_true g3]
        rfl
      have ew2 : wholeB (.int (-(99))) (.int 99) (V.int z) = true := ew
      rw [ew2]
      refine iteF' rfl ⟨_, rfl, rfl, _, rfl, ?_⟩
      have ez : decide (V.int z = V.int 0) = false := decide_eq_false fun q => g1 (V.int.inj q)
      rw [ez]
      exact iteF' rfl ⟨s3.trans sT, _, _, rfl⟩
    · rintro σ H3 ⟨s3, x4, x5, rfl⟩
      have s13 := s12.trans s3
      have hq3 := s13 _ _ hq
      refine ⟨_, rfl, _, rfl, q, CL, dq, [], rfl, hq3, TCL.cl, TCL.no _ (List.mem_of_getElem? (i := 0) rfl), by simp, ?_⟩
      have Q3 : upd H3 q (.ins CL dq (putF "fields" (.ref af) [])) q = some (.ins CL dq [("fields", .ref af)]) := upd_same
      have O3 : Oth q H (upd H3 q (.ins CL dq (putF "fields" (.ref af) []))) := Oth.upd (Oth.of s13)
      have rq : r ≠ q := fun z => by
        rcases hr0 with h | h <;> rw [z, hq] at h <;> cases h
      have hr3 : SeqAt (upd H3 q (.ins CL dq (putF "fields" (.ref af) []))) r (zs.map V.int) := by
        rcases hr0 with h | h
        · exact .inl (upB rq (s13 _ _ h))
        · exact .inr (upB rq (s13 _ _ h))
      have afq : af ≠ q := fun z => by
        obtain ⟨o, h, _⟩ := haf
        rw [z, s1 _ _ hq] at h
        cases h
      have haf3 := haf.same (s2.trans s3)
      have hP3 := hP.same (s2.trans s3)
      have haf4 : TupZ (upd H3 q (.ins CL dq (putF "fields" (.ref af) []))) af us := by
        obtain ⟨o, h, c, d⟩ := haf3
        exact ⟨o, upB afq h, c, d⟩
      have hP4 : PairsAt (upd H3 q (.ins CL dq (putF "fields" (.ref af) []))) us (allF ds) := hP3.tupK (Oth.upd (Oth.of (Same.refl H3))|>.tupK hq3)
      generalize upd H3 q (.ins CL dq (putF "fields" (.ref af) [])) = H4 at Q3 O3 hr3 haf4 hP4 ⊢
      refine ⟨_, rfl, tup_q hr3 fun t H5 s5 ht => ⟨_, rfl, q, CL, dq, _, rfl, s5 _ _ Q3, TCL.cl, TCL.no _ (List.mem_of_getElem? (i := 1) rfl), (by show 1 < _; decide), ?_⟩⟩
      have tq : t ≠ q := fun z => by
        rw [z, s5 _ _ Q3] at ht
        cases ht
      refine k _ (Oth.upd (O3.trans (Oth.of s5))) ⟨dq, af, t, us, upd_same, ?_, ?_, upB tq ht, zl⟩
      · obtain ⟨o, h, c, d⟩ := haf4.same s5
        exact ⟨o, upB afq h, c, d⟩
      · exact (hP4.same s5).tupK (Oth.upd (Oth.of (Same.refl H5))|>.tupK (s5 _ _ Q3))
end
end K57

set_option maxRecDepth 100000
set_option maxHeartbeats 8000000
namespace K57
open PySem PySem.Spec PyProof.Rows L2 Kw
/-! ### cells of the fields -/
def zAt (ds : List Ent) (zs : List Int) (f : Nat × Nat) : Int := zs.getD ((allF ds).idxOf f) 0
def plC (ds : List Ent) (zs : List Int) (c : Nat) : List Int := (fldO ds c).map (zAt ds zs)
def lowZ (l : List Int) : Int := l.foldr min 0
def highZ (l : List Int) : Int := l.foldr max 0
def sharedL (l : List Int) : List Int := l.filter fun x => decide (1 < l.count x)
def reachC (ds : List Ent) (zs : List Int) (c : Nat) : Int × Int := (-lowZ (plC ds zs c), highZ (plC ds zs c))
def holesC (ds : List Ent) (zs : List Int) (c : Nat) : Int := -lowZ (plC ds zs c) + highZ (plC ds zs c) - ((fldO ds c).length : Int)
theorem lowZ_is {m : Int} : ∀ {l : List Int}, m ∈ (0 : Int) :: l → (∀ y ∈ (0 : Int) :: l, m ≤ y) → lowZ l = m := by
  intro l hm hle
  have le : ∀ (l : List Int), ∀ y ∈ (0 : Int) :: l, lowZ l ≤ y := fun l => by
    induction l with
    | nil => intro y hy; rw [List.mem_singleton.mp hy]; exact Int.le_refl _
    | cons a r ih =>
      intro y hy
      show min a (lowZ r) ≤ y
      rcases List.mem_cons.mp hy with rfl | hy
      · have := ih 0 List.mem_cons_self; omega
      · rcases List.mem_cons.mp hy with rfl | hy
        · omega
        · have := ih y (List.mem_cons_of_mem _ hy); omega
  have mem : ∀ (l : List Int), lowZ l ∈ (0 : Int) :: l := fun l => by
    induction l with
    | nil => exact List.mem_cons_self
    | cons a r ih =>
      show min a (lowZ r) ∈ _
      by_cases z : a ≤ lowZ r
      · rw [Int.min_eq_left z]; exact List.mem_cons_of_mem _ List.mem_cons_self
      · rw [Int.min_eq_right (by omega)]
        rcases List.mem_cons.mp ih with e | e
        · rw [e]; exact List.mem_cons_self
        · exact List.mem_cons_of_mem _ (List.mem_cons_of_mem _ e)
  have h1 := hle _ (mem l)
  have h2 := le l m hm
  omega
theorem highZ_is {m : Int} : ∀ {l : List Int}, m ∈ (0 : Int) :: l → (∀ y ∈ (0 : Int) :: l, y ≤ m) → highZ l = m := by
  intro l hm hle
  have le : ∀ (l : List Int), ∀ y ∈ (0 : Int) :: l, y ≤ highZ l := fun l => by
    induction l with
    | nil => intro y hy; rw [List.mem_singleton.mp hy]; exact Int.le_refl _
    | cons a r ih =>
      intro y hy
      show y ≤ max a (highZ r)
      rcases List.mem_cons.mp hy with rfl | hy
      · have := ih 0 List.mem_cons_self; omega
      · rcases List.mem_cons.mp hy with rfl | hy
        · omega
        · have := ih y (List.mem_cons_of_mem _ hy); omega
  have mem : ∀ (l : List Int), highZ l ∈ (0 : Int) :: l := fun l => by
    induction l with
    | nil => exact List.mem_cons_self
    | cons a r ih =>
      show max a (highZ r) ∈ _
      by_cases z : highZ r ≤ a
      · rw [Int.max_eq_left z]; exact List.mem_cons_of_mem _ List.mem_cons_self
      · rw [Int.max_eq_right (by omega)]
        rcases List.mem_cons.mp ih with e | e
        · rw [e]; exact List.mem_cons_self
        · exact List.mem_cons_of_mem _ (List.mem_cons_of_mem _ e)
  have h1 := hle _ (mem l)
  have h2 := le l m hm
  omega
theorem fldO_mem {ds : List Ent} {c : Nat} (hc : c < ds.length) {f : Nat × Nat} (h : f ∈ fldO ds c) : f ∈ allF ds := by
  rw [← fldO_filter hc] at h
  exact (List.mem_filter.mp h).1
theorem fldO_few {ds : List Ent} (ok : DsOk ds) (h12 : ds.length ≤ 12) {c : Nat} (hc : c < ds.length) : (fldO ds c).length ≤ 39 := by
  have h := fldK_len ok (elR ds c ++ [c])
  have e := elR_len hc
  rw [List.length_append, List.length_singleton] at h
  unfold fldO
  omega
theorem same_made {H H' : Hp} {x dx : Addr} {o : HO} (hx : H x = none) (hdx : H dx = none) (ne : dx ≠ x) (O : Oth x (upd (upd H dx (.own x)) x o) H') : Same H H' := fun b z hb => O b z (ne_of_none hb hx) (upB (ne_of_none hb hx) (upB (ne_of_none hb hdx) hb))
/-- pairs of numbers, any -/
def IPsAt (H : Hp) : List V → List (Int × Int) → Prop := Paired fun v p => ∃ t, v = .ref t ∧ H t = some (.tup [.int p.1, .int p.2])
theorem IPsAt.same {H H' : Hp} (s : Same H H') {vs : List V} {ls : List (Int × Int)} (h : IPsAt H vs ls) : IPsAt H' vs ls := paired_imp (fun _ _ ⟨t, e, h1⟩ => ⟨t, e, s _ _ h1⟩) h
theorem IPsAt.len {H : Hp} {us : List V} {ls : List (Int × Int)} (h : IPsAt H us ls) : us.length = ls.length := Paired.length h
theorem IPsAt.app {H : Hp} {us vs : List V} {ls ms : List (Int × Int)} (h : IPsAt H us ls) (g : IPsAt H vs ms) : IPsAt H (us ++ vs) (ls ++ ms) := paired_app h g
theorem IPsAt.updL {H : Hp} {D : Addr} {xs ys : List V} (hD : H D = some (.lst xs)) : ∀ {us : List V} {ps : List (Int × Int)}, IPsAt H us ps → IPsAt (upd H D (.lst ys)) us ps
  | [], [], _ => .nil
  | _ :: _, _ :: _, .cons ⟨t, e, h⟩ r => .cons ⟨t, e, upB (fun z => by rw [z, hD] at h; cases h) h⟩ (IPsAt.updL hD r)
theorem IPsAt.get {H : Hp} {us : List V} {ps : List (Int × Int)} (h : IPsAt H us ps) {i : Nat} {v : V} (e : us[i]? = some v) : ∃ p t, ps[i]? = some p ∧ v = .ref t ∧ H t = some (.tup [.int p.1, .int p.2]) := by
  obtain ⟨p, e1, t, e2, e3⟩ := paired_get h e
  exact ⟨p, t, e1, e2, e3⟩
def SharedAt (H : Hp) (p CS : Addr) (c : Nat) (m : Int) : Prop := ∃ dx, H p = some (.ins CS dx [("cls", natV c), ("cell", .int m)])
/-- what apart_fault tells -/
def AptV (H : Hp) (CS : Addr) (ds : List Ent) (zs : List Int) (v : V) : Prop := (v = .non ∧ ∀ c, c < ds.length → sharedL (plC ds zs c) = []) ∨
  ∃ c m p, v = .ref p ∧ SharedAt H p CS c m ∧ c < ds.length ∧ (∀ b, b < c → sharedL (plC ds zs b) = []) ∧ m ∈ sharedL (plC ds zs c) ∧ ∀ y ∈ sharedL (plC ds zs c), m ≤ y
section
variable {P : Program} {w : World} {K : PySem.W.Frag} {mg : Str → Option Value} {base : Heap} {f C CL CS CNA CBW Cn Cf : Addr} {fd : FuncData}
def spPlaceOf (CL : Addr) : Sp := fun vs H Q _ => ∃ (q t : Addr) (ds : List Ent) (zs : List Int) (f : Nat × Nat), vs = [.ref q, .ref t] ∧ LayAt H q CL ds zs ∧ H t = some (.tup [natV f.1, natV f.2]) ∧ f ∈ allF ds ∧ ∀ H', Same H H' → Q (.int (zAt ds zs f)) H'
theorem sc_plOf : FnScope ["self", "field"] ["self", "field"] (defScope (inClass (top 36) 1)) := ⟨rfl, rfl, rfl, by decide +kernel, rfl, by decide +kernel, by decide +kernel⟩
theorem ok_plOf {f_is_whole_couple : Addr} {fd_is_whole_couple : FuncData} (F : FnM K "place_of" "Laying.place_of" (inClass (top 36) 1) f fd)
    (B : Fr mg)
    (F_is_whole_couple : FnP K "is_whole_couple" 15 f_is_whole_couple fd_is_whole_couple)
    (m_is_whole_couple : mg "is_whole_couple" = some (.ref f_is_whole_couple))
    (G_is_whole_couple : FnOk P w K mg base CX0 2 f_is_whole_couple fd_is_whole_couple ["thing"] spCoupB)
    (TCL : ClsF K CL ["fields", "places"]) :
    FnOk P w K mg base CX0 3 f fd ["self", "field"] (spPlaceOf CL) := by
  have b_is_whole_couple : L2.Binds K fd_is_whole_couple ["thing"] [] := F_is_whole_couple.bindsN fun _ _ _ _ _ _ us hl => match us, hl with | [_], _ => rfl
  refine F.ok sc_plOf (fun vs H Q E h => ?_) (fun cdv A outer s H vs Q E hr h => ?_)
  · obtain ⟨q, t, ds, zs, g, rfl, _⟩ := h
    rfl
  · obtain ⟨q, t, ds, zs, g, rfl, hq, ht, hg, k⟩ := h
    refine ⟨_, PSs.nox (pss_cons (ps_if (PW.pt (pw_or (pt_not (pt_val (pe_call G_is_whole_couple (hr.mono (by decide)) (by rfl) m_is_whole_couple F_is_whole_couple.kp b_is_whole_couple .nil pass0 (pa_cons (pv 1) pa_nil)))) (pw_or1 (pt_cmpR (r := (rNotInDT K)) (op_notInDT (room65 hr)) (pe_callTy (T := "tuple") (r := rTupOf K) (call_tup (X := _)) (by rfl) B.tuple (by decide +kernel) (pa_cons (pv 1) pa_nil)) (pe_fld (pv 0) rfl) (by rfl))))) (pss_one ps_never) pss_nil)
      (pss_one (ps_ret (pe_ix (r := rIxT K) ix_tup (pe_fld (pv 0) rfl) (pe_bmZ PySem.F.slot_tuple_index PySem.F.type_tuple_index (mt_tupIxP (room65 hr)) (pe_fld (pv 0) rfl) (pa_cons (pe_callTy (T := "tuple") (r := rTupOf K) (call_tup (X := _)) (by rfl) B.tuple (by decide +kernel) (pa_cons (pv 1) pa_nil)) pa_nil)) (fun _ _ => rfl))))), ?_⟩
    obtain ⟨dq, af, ap, us, h1, h2, h3, h4, h5⟩ := id hq
    have hj : (allF ds)[(allF ds).idxOf g]? = some g := by
      have hl := List.idxOf_lt_length_of_mem hg
      rw [List.getElem?_eq_getElem hl, List.getElem_idxOf hl]
    have hno : ∀ m, m < (allF ds).idxOf g → (allF ds)[m]? ≠ some g := fun m hm e => by
      have hl : m < (allF ds).length := (List.getElem?_eq_some_iff.mp e).1
      have := List.not_of_lt_findIdx (p := (· == g)) hm
      rw [List.getElem?_eq_getElem hl] at e
      rw [Option.some.inj e] at this
      simp at this
    have hjl := List.idxOf_lt_length_of_mem hg
    have hz : (zs.map V.int)[(allF ds).idxOf g]? = some (.int (zAt ds zs g)) := by
      rw [List.getElem?_map, List.getElem?_eq_getElem (by omega)]
      unfold zAt
      rw [List.getD_eq_getElem?_getD, List.getElem?_eq_getElem (by omega)]
      rfl
    refine ⟨_, rfl, _, rfl, .inr ⟨_, _, rfl, .inr ht, (fun y hy => ?_), fun H1 s1 => ⟨_, rfl, iteF' rfl ?_⟩⟩⟩
    · rcases List.mem_cons.mp hy with rfl | hy
      · exact ⟨_, .int _⟩
      · rw [List.mem_singleton.mp hy]
        exact ⟨_, .int _⟩
    refine ⟨_, rfl, tup_q (.inr (s1 _ _ ht)) fun u H2 s2 hu => ?_⟩
    have s12 := s1.trans s2
    refine ⟨_, rfl, q, CL, dq, _, _, rfl, s12 _ _ h1, TCL.cl, TCL.no _ (List.mem_of_getElem? (i := 0) rfl), rfl, ?_⟩
    refine ⟨dPair g, (allF ds).map dPair, .tup (SqT.of hu) (.cons (.int _) (.cons (.int _) .nil)), .tup (h2.same s12).r.sq (dp_pairs (h3.same s12)), (lay_pair _).shaped (by decide), (lay_pairsT _).shaped (by decide), ?_⟩
    rw [any_pair, decide_eq_true hg]
    refine ⟨_, rfl, iteF' rfl ?_⟩
    refine ⟨_, rfl, q, CL, dq, _, _, rfl, s12 _ _ h1, TCL.cl, TCL.no _ (List.mem_of_getElem? (i := 1) rfl), rfl, ?_⟩
    refine ⟨_, rfl, q, CL, dq, _, _, rfl, s12 _ _ h1, TCL.cl, TCL.no _ (List.mem_of_getElem? (i := 0) rfl), rfl, ⟨_, _, rfl, h2.same s12⟩, ?_⟩
    refine ⟨_, rfl, tup_q (.inr (s12 _ _ ht)) fun u3 H3 s3 hu3 => ?_⟩
    have s13 := s12.trans s3
    refine ⟨af, u3, us, allF ds, g, _, rfl, rfl, (h2.same s13).r.sq, h3.same s13, hu3, hj, hno, ?_⟩
    exact ⟨ap, _, (((allF ds).idxOf g : Nat) : Int), _, rfl, rfl, SqT.of (s13 _ _ h4), atI_nat hz, k _ s13⟩
def spExt (C CL Cn : Addr) : Sp := fun vs H Q _ => ∃ (wp q : Addr) (ds : List Ent) (zs : List Int) (c : Nat), vs = [.ref wp, .ref q, natV c] ∧ WorldAt H wp C ds ∧ DsOk ds ∧ ds.length ≤ 12 ∧ LayAt H q CL ds zs ∧ c < ds.length ∧
  ∀ t H', Same H H' → H' t = some (.tup [.int (lowZ (plC ds zs c)), .int (highZ (plC ds zs c))]) → Q (.ref t) H'
theorem sc_ext : FnScope ["world", "laying", "c", "cells", "field"] ["world", "laying", "c"] (defScope (top 37)) := ⟨rfl, rfl, rfl, by decide +kernel, rfl, by decide +kernel, by decide +kernel⟩
theorem ok_ext {f_Laying_place_of f_fields_of : Addr} {fd_Laying_place_of fd_fields_of : FuncData} (F : FnP K "extent_of" 37 f fd)
    (B : Fr mg)
    (F_fields_of : FnP K "fields_of" 18 f_fields_of fd_fields_of)
    (m_fields_of : mg "fields_of" = some (.ref f_fields_of))
    (G_fields_of : FnOk P w K mg base (L2.CX P w) 4 f_fields_of fd_fields_of ["world", "c"] (spCls C Cn (RPair fldO)))
    (F_Laying_place_of : FnM K "place_of" "Laying.place_of" (inClass (top 36) 1) f_Laying_place_of fd_Laying_place_of)
    (G_Laying_place_of : FnOk P w K mg base CX0 3 f_Laying_place_of fd_Laying_place_of ["self", "field"] (spPlaceOf CL))
    (TCL : ClsF K CL ["fields", "places"])
    (M_Laying_place_of : Meth K CL "place_of" f_Laying_place_of)
    (g_min : mg "min" = none)
    (g_max : mg "max" = none) :
    FnOk P w K mg base CX0 5 f fd ["world", "laying", "c"] (spExt C CL Cn) := by
  have b_fields_of : L2.Binds K fd_fields_of ["world", "c"] [] := F_fields_of.bindsN fun _ _ _ _ _ _ us hl => match us, hl with | [_, _], _ => rfl
  have b_Laying_place_of : L2.Binds K fd_Laying_place_of ["self", "field"] [] := F_Laying_place_of.bindsN fun _ _ _ _ _ _ us hl => match us, hl with | [_, _], _ => rfl
  refine F.ok sc_ext (fun vs H Q E h => ?_) (fun cdv A outer s H vs Q E hr h => ?_)
  · obtain ⟨wp, q, ds, zs, c, rfl, _⟩ := h
    rfl
  · obtain ⟨wp, q, ds, zs, c, rfl, hw, ok, h12, hq, hc, k⟩ := h
    refine ⟨_, PSs.nox (pss_cons (ps_set (i := 3) sc_ext.nd rfl (Or.inl rfl) (pe_op op_cat (pe_lst (pa_cons pe_int pa_nil)) (pe_lc (own := [("field", 4)]) (g := (gName 4)) (tt := tYes) (te := (tMeth CL "place_of" (spPlaceOf CL) [] E0 (tVar 1) (tCons (tVar 4) tNil))) rfl sc_ext.nd (pi_tup (pe_call G_fields_of (hr.mono (by decide)) (by rfl) m_fields_of F_fields_of.kp b_fields_of .nil (passOut (E := fun _ _ _ => False)) (pa_cons (pv 0) (pa_cons (pv 2) pa_nil)))) (blkOk_by (N := ["world", "laying", "c", "cells", "field"]) (sc := defScope (top 37)) (by decide +kernel)) (fun _ _ _ _ _ => (pg_name (i := 4) sc_ext.nd rfl (Or.inl rfl))) (fun _ _ _ _ _ => pts_nil) (fun _ _ _ _ _ => ?x0))))
      (pss_one (ps_ret (pe_tup (pa_cons (pe_callB (id := "min") (r := rMin K) (cr_min rfl) (by rfl) g_min (by decide +kernel) (pa_cons (pv 3) pa_nil)) (pa_cons (pe_callB (id := "max") (r := rMax K) (cr_max rfl) (by rfl) g_max (by decide +kernel) (pa_cons (pv 3) pa_nil)) pa_nil)))))), ?_⟩
    case x0 => exact (pe_meth (pv 1) TCL.cl M_Laying_place_of G_Laying_place_of (hr.mono (by decide)) b_Laying_place_of .nil pass0 (pa_cons (pv 4) pa_nil))
    refine ⟨(by show 1 ≤ sizeLine; decide), fun T hT => ?_⟩
    have sT := same_new (o := .lst [.int 0]) hT
    have T1 : upd H T (.lst [.int 0]) T = some (.lst [.int 0]) := upd_same
    generalize upd H T (.lst [.int 0]) = H1 at sT T1 ⊢
    refine ⟨_, rfl, _, rfl, wp, natV c, ds, rfl, hw.mono sT, ok, h12, .inr ⟨c, rfl, hc, fun t H2 s2 ⟨us, ht, hP⟩ => ⟨t, rfl, ⟨_, SqT.of ht⟩, fun D hD => ?_⟩⟩⟩
    have s02 := sT.trans s2
    have ul := hP.len
    have fl := fldO_few ok h12 hc
    refine lc_tupA rel_int ((plC ds zs c).map fun z => some z) hD (by rw [List.length_map, ul]; unfold plC; rw [List.length_map]) (by omega) (fun H' s' => SqT.of (s' _ _ ht)) (fun i x z hi hz H3 s3 N M _ hN _ => ?_) (fun H3 vs s3 D3 P3 => ?_)
    · obtain ⟨p, u, hp, rfl, hu⟩ := hP.get4 hi
      unfold plC at hz
      rw [List.getElem?_map, List.getElem?_map, hp] at hz
      cases hz
      obtain ⟨dq, af, ap, xs, h1, _⟩ := id hq
      have s03 := s02.trans s3
      have hpm := List.mem_of_getElem? hp
      exact ⟨rfl, _, rfl, q, dq, _, rfl, s03 _ _ h1, rfl, _, rfl, q, u, ds, zs, p, rfl, hq.mono s03, s3 _ _ hu, fldO_mem hc hpm, fun H4 s4 => hN _ rfl _ H4 s4 (fun z => by cases z) rfl⟩
    · rw [some_maps (fun z => z), List.map_id'] at P3
      rw [paired_int (H := H3) P3] at D3
      have s03 := s02.trans s3
      refine ⟨T, D, [.int 0], _, rfl, rfl, (s2.trans s3) _ _ T1, D3, ?_, fun R hR => ?_⟩
      · rw [List.length_map]
        unfold plC
        rw [List.length_map]
        show _ ≤ 2 ^ 24
        show 1 + _ ≤ _
        omega
      have sR := same_new (o := .lst ([V.int 0] ++ (plC ds zs c).map V.int)) hR
      have R4 : upd H3 R (.lst ([V.int 0] ++ (plC ds zs c).map V.int)) R = some (.lst (((0 : Int) :: plC ds zs c).map V.int)) := upd_same
      have s04 := s03.trans sR
      generalize upd H3 R (.lst ([V.int 0] ++ (plC ds zs c).map V.int)) = H4 at sR R4 s04 ⊢
      refine ⟨_, rfl, R, _, rfl, SqL.of R4, by simp, fun m m1 m2 => ⟨_, rfl, R, _, rfl, SqL.of R4, by simp, fun n n1 n2 => ⟨(by show 2 ≤ sizeLine; decide), fun U hU => ?_⟩⟩⟩
      rw [← lowZ_is m1 m2, ← highZ_is n1 n2]
      exact k U _ (s04.trans (same_new hU)) upd_same
end
end K57

set_option maxRecDepth 100000
set_option maxHeartbeats 4000000
namespace Kw
open PySem PySem.Spec PyProof.Rows L2
/-! ### {k: v for ..}, the keys tuples of ints and texts -/
section
variable {X : Cx}
/-- one entry put in by a comprehension, its key a tuple that stands -/
theorem put_tup {pins : List (Addr × Obj)} {σ : L2.St} {H : Hp} {s : Shared} {E : Value → Shared → Prop} {D t : Addr} {es : List (List L2.Key × V)} {k : List L2.Key} {v : V} {r : Value} {Q : Unit → Shared → Prop} (room : X.A.units + 1 < cLine) (inv : Inv X pins σ H s) (at_ : H D = some (.dT es)) (key : H t = some (.tup (k.map kV))) (few : es.length < sizeLine) (rel : RelV v r)
    (go : ∀ s', Inv X pins σ (upd H D (.dT (putK es k v))) s' → Q () s') : wpAny (model X.prog X.w) X.A (dictSet D (.ref t) r) Q E s := by
  obtain ⟨big, own, xs, kt, dict⟩ := dt_of inv.hok at_
  have lx : xs.length ≤ sizeLine := by
    rw [← Paired.length kt]
    exact big
  have lp : (putK es k v).length ≤ sizeLine := Nat.le_trans (length_putK es k v) few
  refine wpAny_dictSet_heap (hsz := lx) (show X.A.units < cLine by omega) (key_of inv.hok key) dict fun h2 dict2 but => go _ ?_
  obtain ⟨o, ents, ep, ho, a1, a2, a3, _, a4⟩ := dict2
  have kt2 := (kt.put k key rel).keeps (H' := upd H D (.dT (putK es k v))) fun c ys ec => by
    rw [upd_ne (ne_of ec at_ fun z => nomatch z)]
    exact ec
  exact d_write inv (by rw [at_]; exact True.intro) but ⟨o, ho⟩ ⟨lp, own, _, kt2, o, ents, ep, ho, a1, a2, a3, a4⟩
/-- what is left of such a comprehension -/
def tDcT (wi : TI) (g : TG) (tt : TT) (tk tv : TE) (vs : List Nat) : TE := fun σ H Q => wi σ H fun J H1 => ∀ D, H1 D = none → ∃ W : Nat → Nat → Hp → Prop, (∃ m, W 0 m (upd H1 D (.dT []))) ∧ ∀ i m H, W i m H →
  (J.stop i H ∧ Q (.ref D) H) ∨ (J.go i H ∧ ∃ Nx : Hp → Prop, (∀ H', Nx H' → ∃ m', m' < m ∧ W (i + 1) m' H') ∧ ∀ x H', J.yld i H x H' → g x (wipe σ vs) H' fun σ2 H2 => wipe σ2 vs = wipe σ vs ∧ tt σ2 H2 fun b H3 =>
    if b = true then tk σ2 H3 fun y H4 => tv σ2 H4 fun z H5 => ∃ es k t, y = .ref t ∧ H5 t = some (.tup (k.map kV)) ∧ H5 D = some (.dT es) ∧ es.length < sizeLine ∧ Nx (upd H5 D (.dT (putK es k z))) else Nx H3)
theorem pe_dcT {kx vx tg iter : Expr} {ifs : List Expr} {scope : Scope} {own : List (Str × Nat)} {pos : Pos} {wi : TI} {g : TG} {tt : TT} {tk tv : TE} (room : X.A.units + 1 < cLine) (hN : X.N.Nodup) (hi : PI X tg iter wi) (ok : BlkOk X.N X.env.scope scope own)
    (hg : ∀ (s : Shared) (H : Hp) (C : Addr) (cl : List (Str × Addr)) (fp : List Addr), PG (X.blk s H scope (compEnvC scope cl C X.env) fp) tg g) (ht : ∀ (s : Shared) (H : Hp) (C : Addr) (cl : List (Str × Addr)) (fp : List Addr), PTs (X.blk s H scope (compEnvC scope cl C X.env) fp) ifs tt)
    (hk : ∀ (s : Shared) (H : Hp) (C : Addr) (cl : List (Str × Addr)) (fp : List Addr), PE (X.blk s H scope (compEnvC scope cl C X.env) fp) kx tk)
    (he : ∀ (s : Shared) (H : Hp) (C : Addr) (cl : List (Str × Addr)) (fp : List Addr), PE (X.blk s H scope (compEnvC scope cl C X.env) fp) vx tv) (hc : X.calm = true := by rfl) (hs : ∀ x, foldedSetIterable iter X.env x = pure x := by intro _; rfl) :
    PE X (.DictComp kx vx [⟨tg, iter, ifs, 0⟩] scope pos) (tDcT wi g tt tk tv (own.map (·.2))) := by
  refine ⟨fun pins s σ H Q inv h => ?_⟩
  rw [arm_eval_DictComp]
  have fr : ∀ y ∈ scope.names, y.2 = .free → ∃ c, X.env.cells.lookup y.1 = some c := fun y hy e => (ok.free y hy e).elim (fun k => inv.ok.has _ (.inl k)) fun k => inv.ok.has _ (.inr k)
  refine wpAny_comprehension_free rfl hs (closure_ok fr) ok.kind (fun y hy e => by rw [ok.uniq y hy, e]) (thn (hi.run pins s σ H _ inv h) fun xv s1 hx => thn hx fun itv s2 h2 => ?_)
  obtain ⟨it, fp, tn, J, H2, rfl, inv2, T, at2, fp2, q⟩ := h2
  refine wpAny_newObj_type (newEnv_comp ?_)
  generalize eD : s2.heap.objs.size = D
  obtain ⟨W, ⟨m0, w0⟩, turn⟩ := q D (inv2.hok.fresh (Nat.le_of_eq eD))
  -- the new dict
  generalize e3 : ({ s2 with heap := s2.heap.push { cls := .type "dict", data := .dict #[] } } : Shared) = s3
  have h3 : s3.heap = s2.heap.push { cls := .type "dict", data := .dict #[] } := by rw [← e3]
  have inv3 : Inv X pins σ (upd H2 D (.dT [])) s3 := by
    rw [← e3]
    exact inv2.laid (t' := s2.toks) (fun b o e => Heap.get?_push_of_some _ e) (Nat.le_of_eq eD) (by rw [← eD]; exact dt_empty s2.heap inv2.big)
  have old : ∀ b ∈ fp, b < s2.heap.objs.size := fun b hb => let ⟨o, e, _⟩ := T.obj _ _ at2 b hb; Heap.lt_size e
  have fp3 : ∀ b ∈ fp, FpOk X pins (upd H2 D (.dT [])) b ∧ b < s3.heap.objs.size := fun b hb => by
    refine ⟨⟨?_, (fp2 b hb).2⟩, ?_⟩
    · rw [upd_ne (by rw [← eD]; exact Nat.ne_of_lt (old b hb))]
      exact (fp2 b hb).1
    · rw [h3, Heap.size_push]
      exact Nat.lt_succ_of_lt (old b hb)
  have at3 : tn 0 s3.heap := T.keep _ _ _ at2 fun b _ o e => by rw [h3]; exact Heap.get?_push_of_some _ e
  have inv4 := block_start inv3 ok hN fp3
  -- the parts in the block's context
  generalize ec : cellsFrom (s3.heap.objs.size + 1) scope.names (cloFrom X.env.cells scope.names []) = cl at inv4
  have pg := hg s3 (upd H2 D (.dT [])) s3.heap.objs.size cl fp
  have pt := ht s3 (upd H2 D (.dT [])) s3.heap.objs.size cl fp
  have pk := hk s3 (upd H2 D (.dT [])) s3.heap.objs.size cl fp
  have pv := he s3 (upd H2 D (.dT [])) s3.heap.objs.size cl fp
  have nofp : ∀ b ∈ fp, (upd H2 D (.dT [])) b = none := fun b hb => (fp3 b hb).1.1
  show codeAny _ _ (.compStart (.DictComp kx vx [⟨tg, iter, ifs, 0⟩] scope pos) 0 (.ref it) (.ref D) (compEnvC scope cl s3.heap.objs.size X.env)) (compPost (model X.prog X.w) X.A X.xe none (EP X pins σ Q) (.ref D) s3.heap.objs.size) { s3 with heap := pushCells (s3.heap.push { cls := .type "dict", data := .dict #[] }) scope.names }
  generalize ee : compEnvC scope cl s3.heap.objs.size X.env = ce at inv4 pg pt pk pv ⊢
  have cL : ce.locals = s3.heap.objs.size := by subst ee; rfl
  generalize upd H2 D (.dT []) = H3 at inv3 inv4 pg pt pk pv w0 nofp fp3
  refine (fun (z : ∀ s4 : Shared, Inv (X.blk s3 H3 scope ce fp) [] (wipe σ (own.map (·.2))) H3 s4 → tn 0 s4.heap → codeAny (model X.prog X.w) X.A (.compStart (.DictComp kx vx [⟨tg, iter, ifs, 0⟩] scope pos) 0 (.ref it) (.ref D) ce) _ s4) => z _ inv4 (T.keep _ _ _ at3 fun b _ o e => pushCells_keeps _ _ _ _ (Heap.get?_push_of_some _ e))) fun s4 inv4 at4 => ?_
  have still : ∀ {σ' : L2.St} {H' : Hp} {s' : Shared}, Inv (X.blk s3 H3 scope ce fp) [] σ' H' s' → (∀ b ∈ fp, H' b = none) → ∀ b ∈ fp, FpOk (X.blk s3 H3 scope ce fp) [] H' b := fun {σ' H' s'} v n b hb =>
    ⟨n b hb, (v.ok.exf b hb).1, v.ok.exfs b hb, .inl hb, fun x c e => (v.ok.exf b hb).2 x c e, fun p hp => absurd (show p ∈ ([] : List (Addr × Obj)) ++ [] from hp) (by simp)⟩
  refine codeAny_compStart_dict ?loop (T.self X.A 0 _ _ _ at4 ?loop)
  refine compLoop_anyD (fun n s' => ∃ i H', Inv (X.blk s3 H3 scope ce fp) [] (wipe σ (own.map (·.2))) H' s' ∧ tn i s'.heap ∧ (∀ b ∈ fp, H' b = none) ∧ W i n H') ?_ m0 ⟨0, H3, inv4, at4, nofp, w0⟩
  rintro n s5 ⟨i, H5, inv5, at5, no5, w5⟩
  rcases turn i n H5 w5 with ⟨stop, fin⟩ | ⟨go, Nx, less, step⟩
  · -- nothing more: back in the def
    refine thnF (T.done (X.blk s3 H3 scope ce fp) rfl rfl rfl hc i [] s5 _ H5 (fun _ _ => False) inv5 (still inv5 no5) at5 stop) fun r s6 ⟨hr, inv6⟩ => ?_
    subst hr
    have inv7 : Inv X pins σ H5 s6 := inv3.call' (ch := fp) inv6.os inv6.base inv6.hok inv6.bare fun b hb => let f := (fp3 b hb).1.2; ⟨f.2.2.1, f.1, f.2.2.2.1, f.2.2.2.2⟩
    obtain ⟨m, hn, _⟩ := inv6.loc
    have hn : s6.heap.Ns ce.locals m := hn
    have free : H5 ce.locals = none := inv6.free
    rw [cL] at hn free
    obtain ⟨f0, f1, f2, f3, f4, _⟩ := inv3.fpOk (Nat.le_refl _) free
    exact ⟨m, hn, fun h'' sb => ⟨.ref D, H5, inv7.turned (t' := s6.toks) (fun b o hb e => (sb.2 b hb).trans e) f0 f1 f3 f4 (inv3.fpOk (Nat.le_refl _) free).2.2.2.2.2, rfl, fin⟩⟩
  · refine thnF (T.item (X.blk s3 H3 scope ce fp) rfl rfl rfl hc i [] s5 _ H5 (fun _ _ => False) inv5 (still inv5 no5) at5 go) fun r s6 ⟨u, hr, h6⟩ => ?_
    subst hr
    refine thnF h6 fun _ s7 ⟨x, H7, inv7, r7, y7, at7, no7⟩ => ?_
    refine thnF (pg.run _ s7 _ H7 x u _ (inv7.pinned (still inv7 no7) (T.obj _ _ at7)) r7 (step x H7 y7)) fun _ s8 ⟨σ8, H8, inv8, wi8, q8⟩ => ?_
    refine thnF (pt.run _ s8 σ8 H8 _ inv8 q8) fun b s9 ⟨H9, inv9, q9⟩ => ?_
    have over : ∀ {s' : Shared} {H' : Hp}, Inv (X.blk s3 H3 scope ce fp) ([] ++ pinsAt fp s7.heap) σ8 H' s' → Nx H' → ∃ m, m < n ∧ ∃ i H', Inv (X.blk s3 H3 scope ce fp) [] (wipe σ (own.map (·.2))) H' s' ∧ tn i s'.heap ∧ (∀ b ∈ fp, H' b = none) ∧ W i m H' := fun {s' H'} v nx => by
      obtain ⟨m', hm, w'⟩ := less H' nx
      have pin : ∀ b ∈ fp, ∀ o, s7.heap.get? b = some o → s'.heap.get? b = some o ∧ H' b = none := fun b hb o e =>
        let z := v.pin (b, o) (List.mem_append_right _ (List.mem_append_right _ (mem_pinsAt hb e)))
        ⟨z.1, z.2.1⟩
      have len : (wipe σ (own.map (·.2))).length = σ8.length := by rw [← wi8, wipe_length]
      refine ⟨m', hm, i + 1, H', (v.unpinned (pins := [])).weak len (fun j y e => (wipe_some (by rw [← wi8] at e; exact e)).1), T.keep _ _ _ at7 fun b hb o e => (pin b hb o e).1, fun b hb => ?_, w'⟩
      obtain ⟨o, e, _⟩ := T.obj _ _ at7 b hb
      exact (pin b hb o e).2
    cases b with
    | false => exact over inv9 (by simpa only [Bool.false_eq_true, if_false] using q9)
    | true =>
      simp only [if_true] at q9 ⊢
      refine thnF (pk.run _ s9 σ8 H9 _ inv9 q9) fun z s10 ⟨y, H10, inv10, r10, q10⟩ => ?_
      refine thnF (pv.run _ s10 σ8 H10 _ inv10 q10) fun z2 s11 ⟨y2, H11, inv11, r11, es, k, t, ey, key, at11, few, nx⟩ => ?_
      subst ey
      cases r10
      exact put_tup (X := X.blk s3 H3 scope ce fp) room inv11 at11 key few r11 fun s12 inv12 => over inv12 nx
/-- over enumerate of a tuple that stays -/
theorem dcT_enumT {K : PySem.W.Frag} {a : Addr} {xs : List V} {g : TG} {tt : TT} {tk tv : TE} {vs : List Nat} {σ : L2.St} {H1 : Hp} {D : Addr} {Qd : Hp → Prop} (Pv : Nat → Hp → Prop) (h0 : Pv 0 (upd H1 D (.dT []))) (hl : ∀ i H, i ≤ xs.length → Pv i H → SqT K H a xs)
    (hs : ∀ i x H T, xs[i]? = some x → Pv i H → H T = none → g (.ref T) (wipe σ vs) (upd H T (.tup [.int (i : Nat), x])) fun σ2 H2 => wipe σ2 vs = wipe σ vs ∧ tt σ2 H2 fun b H3 =>
      if b = true then tk σ2 H3 fun y H4 => tv σ2 H4 fun z H5 => ∃ es k t, y = .ref t ∧ H5 t = some (.tup (k.map kV)) ∧ H5 D = some (.dT es) ∧ es.length < sizeLine ∧ Pv (i + 1) (upd H5 D (.dT (putK es k z))) else Pv (i + 1) H3) (hd : ∀ H, Pv xs.length H → Qd H) :
    ∃ W : Nat → Nat → Hp → Prop, (∃ m, W 0 m (upd H1 D (.dT []))) ∧ ∀ i m H, W i m H →
      ((Itet K a).stop i H ∧ Qd H) ∨ ((Itet K a).go i H ∧ ∃ Nx : Hp → Prop, (∀ H', Nx H' → ∃ m', m' < m ∧ W (i + 1) m' H') ∧ ∀ x H', (Itet K a).yld i H x H' → g x (wipe σ vs) H' fun σ2 H2 => wipe σ2 vs = wipe σ vs ∧ tt σ2 H2 fun b H3 =>
        if b = true then tk σ2 H3 fun y H4 => tv σ2 H4 fun z H5 => ∃ es k t, y = .ref t ∧ H5 t = some (.tup (k.map kV)) ∧ H5 D = some (.dT es) ∧ es.length < sizeLine ∧ Nx (upd H5 D (.dT (putK es k z))) else Nx H3) := by
  refine ⟨fun i m H => m = xs.length - i ∧ i ≤ xs.length ∧ Pv i H, ⟨xs.length, by simp, Nat.zero_le _, h0⟩, ?_⟩
  rintro i m H ⟨rfl, hi, p⟩
  have q := hl i H hi p
  by_cases lt : i < xs.length
  · refine .inr ⟨⟨xs, xs[i], q, by simp [lt]⟩, Pv (i + 1), fun H' p' => ⟨xs.length - (i + 1), by omega, rfl, lt, p'⟩, fun x H' y => ?_⟩
    obtain ⟨T, z, rfl, e2, rfl, e4⟩ := y
    exact hs i z H T (e4 xs q) p e2
  · obtain rfl : i = xs.length := by omega
    exact .inl ⟨⟨xs, q, rfl⟩, hd H p⟩
end
end Kw

namespace K57
end K57

set_option maxRecDepth 100000
set_option maxHeartbeats 8000000
namespace K57
open PySem PySem.Spec PyProof.Rows L2 Kw
theorem hu1 {a : Nat} (h : a + 65 < cLine) : a + 1 < cLine := by omega
/-- a dict comprehension over a range -/
theorem dc_range {lo : Int} {n : Nat} {g : TG} {tt : TT} {tk tv : TE} {vs : List Nat} {σ : L2.St} {H1 : Hp} {D : Addr} {Qd : Hp → Prop} (Pv : Nat → Hp → Prop) (h0 : Pv 0 (upd H1 D (.dK [])))
    (hs : ∀ i H, i < n → Pv i H → g (.int (lo + (i : Int))) (wipe σ vs) H fun σ2 H2 => wipe σ2 vs = wipe σ vs ∧ tt σ2 H2 fun b H3 =>
      if b = true then tk σ2 H3 fun y H4 => tv σ2 H4 fun z H5 => ∃ kvs k, y = kV k ∧ H5 D = some (.dK kvs) ∧ kvs.length < sizeLine ∧ Pv (i + 1) (upd H5 D (.dK (putK kvs k z))) else Pv (i + 1) H3) (hd : ∀ H, Pv n H → Qd H) :
    ∃ W : Nat → Nat → Hp → Prop, (∃ m, W 0 m (upd H1 D (.dK []))) ∧ ∀ i m H, W i m H →
      ((Itr lo n).stop i H ∧ Qd H) ∨ ((Itr lo n).go i H ∧ ∃ Nx : Hp → Prop, (∀ H', Nx H' → ∃ m', m' < m ∧ W (i + 1) m' H') ∧ ∀ x H', (Itr lo n).yld i H x H' → g x (wipe σ vs) H' fun σ2 H2 => wipe σ2 vs = wipe σ vs ∧ tt σ2 H2 fun b H3 =>
        if b = true then tk σ2 H3 fun y H4 => tv σ2 H4 fun z H5 => ∃ kvs k, y = kV k ∧ H5 D = some (.dK kvs) ∧ kvs.length < sizeLine ∧ Nx (upd H5 D (.dK (putK kvs k z))) else Nx H3) := by
  refine ⟨fun i m H => i ≤ n ∧ m + i = n ∧ Pv i H, ⟨n, Nat.zero_le _, rfl, h0⟩, ?_⟩
  rintro i m H ⟨hi, hm, pv⟩
  by_cases q : i < n
  · refine .inr ⟨walk_range.goes i H q trivial, Pv (i + 1), fun H' p' => ⟨n - (i + 1), by omega, q, by omega, p'⟩, fun x H' y => ?_⟩
    obtain ⟨rfl, rfl⟩ := walk_range.yields i H x H' q trivial y
    exact hs i H' q pv
  · obtain rfl : i = n := by omega
    exact .inl ⟨walk_range.stops H trivial, hd H pv⟩
/-- a comprehension over the keys of a dict, whose parts only make new objects -/
theorem lc_keysA {β : Type} {R : Hp → V → β → Prop} {d : Addr} {o : Obj} {kvs : List (Key × V)} {g : TG} {tt : TT} {te : TE} {vs : List Nat} {σ : L2.St} {H1 : Hp} {D : Addr} {Qd : Hp → Prop} (ok : RelOk R) (cs : List (Option β)) (hD : H1 D = none) (cl : cs.length = kvs.length) (few : kvs.length < 2 ^ 20) (hk : H1 d = some (.frz o (.dK kvs)))
    (hs : ∀ (i : Nat) (kv : Key × V) (c : Option β) (H : Hp), kvs[i]? = some kv → cs[i]? = some c → Same H1 H → LcAt R g tt te vs σ D H (kV kv.1) c) (hd : ∀ H vs, Same H1 H → H D = some (.lst vs) → Paired (R H) vs (cs.filterMap id) → Qd H) :
    ∃ W : Nat → Nat → Hp → Prop, (∃ m, W 0 m (upd H1 D (.lst []))) ∧ ∀ i m H, W i m H →
      ((Itk d o kvs).stop i H ∧ Qd H) ∨ ((Itk d o kvs).go i H ∧ ∃ Nx : Hp → Prop, (∀ H', Nx H' → ∃ m', m' < m ∧ W (i + 1) m' H') ∧ ∀ x H', (Itk d o kvs).yld i H x H' → g x (wipe σ vs) H' fun σ2 H2 => wipe σ2 vs = wipe σ vs ∧ tt σ2 H2 fun b H3 =>
        if b = true then te σ2 H3 fun y H4 => ∃ acc, H4 D = some (.lst acc) ∧ acc.length < sizeLine ∧ Nx (upd H4 D (.lst (acc ++ [y]))) else Nx H3) := by
  refine lc_it (n := kvs.length) walk_keys (LcInv R cs H1 D) (.zero hD) (fun i H _ h => h.1 _ _ hk) (fun i x H H' hi h y => ?_) (fun H h => h.done (Nat.le_of_eq cl) hd)
  obtain ⟨rfl, k, v, hkv, rfl⟩ := y
  obtain ⟨c, hc⟩ : ∃ c, cs[i]? = some c := ⟨_, List.getElem?_eq_getElem (by omega)⟩
  exact h.step ok hD (by omega) hc (hs i _ c H' hkv hc h.1)
/-- all kept but some lists -/
def KpL (as : List Addr) (H H' : Hp) : Prop := ∀ b o, b ∉ as → H b = some o → H' b = some o
theorem KpL.of {as : List Addr} {H H1 H' : Hp} (k : KpL as H H1) (s : Same H1 H') : KpL as H H' := fun b o nb e => s b o (k b o nb e)
/-- the fields of a class at a cell -/
def cellF (ds : List Ent) (zs : List Int) (c : Nat) (p : Int) : List (Nat × Nat) := (fldO ds c).filter fun f => decide (zAt ds zs f = p)
def spanN (ds : List Ent) (zs : List Int) (c : Nat) : Nat := (highZ (plC ds zs c) + 1 - lowZ (plC ds zs c)).toNat
/-- a dict of rows, cell by cell -/
def dkL : Int → List Addr → List (Key × V)
  | _, [] => []
  | lo, a :: r => (.inl lo, .ref a) :: dkL (lo + 1) r
theorem dkL_len : ∀ {lo : Int} {as : List Addr}, (dkL lo as).length = as.length
  | _, [] => rfl
  | lo, _ :: r => congrArg Nat.succ (dkL_len (lo := lo + 1) (as := r))
theorem dkL_get : ∀ {lo : Int} {as : List Addr} {i : Nat}, (dkL lo as)[i]? = (as[i]?).map fun a => (Sum.inl (lo + (i : Int)), V.ref a)
  | _, [], i => by simp [dkL]
  | lo, a :: r, 0 => by show some _ = some _; congr 2; show (Sum.inl lo : Key) = Sum.inl (lo + ((0 : Nat) : Int)); congr 1; omega
  | lo, a :: r, i + 1 => by
    show (dkL (lo + 1) r)[i]? = (r[i]?).map _
    rw [dkL_get (lo := lo + 1)]
    congr 1
    funext b
    congr 2
    omega
theorem dkL_val : ∀ {lo : Int} {as : List Addr} {i : Nat} {a : Addr}, as[i]? = some a → valV (dkL lo as) (.inl (lo + (i : Int))) = some (.ref a)
  | lo, a :: r, 0, b, h => by
    obtain rfl := Option.some.inj h
    unfold valV dkL
    rw [List.find?_cons]
    have : decide (((Sum.inl lo, V.ref a) : Key × V).1 = Sum.inl (lo + ((0 : Nat) : Int))) = true := decide_eq_true (by show (Sum.inl lo : Key) = _; congr 1; omega)
    rw [this]
    rfl
  | lo, a :: r, i + 1, b, h => by
    unfold valV dkL
    rw [List.find?_cons]
    have : decide (((Sum.inl lo, V.ref a) : Key × V).1 = Sum.inl (lo + ((i + 1 : Nat) : Int))) = false := decide_eq_false fun e => by
      have e : (Sum.inl lo : Key) = Sum.inl (lo + ((i + 1 : Nat) : Int)) := e
      have := Sum.inl.inj e
      omega
    rw [this]
    have ih := dkL_val (lo := lo + 1) (as := r) (i := i) (a := b) h
    unfold valV at ih
    have e : lo + 1 + (i : Int) = lo + ((i + 1 : Nat) : Int) := by omega
    rw [e] at ih
    exact ih
theorem dkL_put {lo : Int} {as : List Addr} {a : Addr} : putK (dkL lo as) (.inl (lo + (as.length : Int))) (.ref a) = dkL lo (as ++ [a]) := by
  have app : ∀ (lo : Int) (as : List Addr), dkL lo (as ++ [a]) = dkL lo as ++ [(Sum.inl (lo + (as.length : Int)), V.ref a)] := fun lo as => by
    induction as generalizing lo with
    | nil => show [_] = [_]; congr 2; show (Sum.inl lo : Key) = Sum.inl (lo + ((0 : Nat) : Int)); congr 1; omega
    | cons b r ih =>
      show _ :: dkL (lo + 1) (r ++ [a]) = _ :: (dkL (lo + 1) r ++ _)
      rw [ih (lo + 1)]
      congr 3
      show (Sum.inl (lo + 1 + (r.length : Int)) , V.ref a) = ((Sum.inl (lo + ((r.length + 1 : Nat) : Int)) : Key), V.ref a)
      congr 2
      omega
  rw [app]
  unfold putK
  rw [if_neg]
  rw [Bool.not_eq_true, List.any_eq_false]
  intro kv hkv
  obtain ⟨i, hi⟩ := List.mem_iff_getElem?.mp hkv
  rw [dkL_get] at hi
  obtain ⟨b, hb, rfl⟩ := Option.map_eq_some_iff.mp hi
  have il := (List.getElem?_eq_some_iff.mp hb).1
  rw [decide_eq_true_eq]
  intro e
  have e : (Sum.inl (lo + (i : Int)) : Key) = Sum.inl (lo + (as.length : Int)) := e
  have := Sum.inl.inj e
  omega
section
variable {P : Program} {w : World} {K : PySem.W.Frag} {mg : Str → Option Value} {base : Heap} {f C CL Ck CD CSd CKr Cn CBs Cb Cg CBr Cnk Cnt CHo CS : Addr} {fd : FuncData}
def spTwoI (CX : Addr) : Sp := fun vs H Q _ => ∃ (p dx : Addr) (x y : V), vs = [.ref p, x, y] ∧ H p = some (.ins CX dx []) ∧ ∀ H', Oth p H H' → H' p = some (.ins CX dx [("cls", x), ("cell", y)]) → Q .non H'
/-- the cells of a class, from the least on -/
def CellV (H : Hp) (p : Int) (v : V) (l : List (Nat × Nat)) : Prop := (p = 0 ∧ v = .str "head") ∨ (p ≠ 0 ∧ ∃ t us, v = .ref t ∧ H t = some (.tup us) ∧ PairsAt H us l)
theorem rel_cell : RelOk (fun (H : Hp) (v : V) (z : Int × List (Nat × Nat)) => CellV H z.1 v z.2) := ⟨fun s h => h.imp id fun ⟨n, t, us, e, ht, hP⟩ => ⟨n, t, us, e, s _ _ ht, hP.same s⟩, fun hD ne h => h.imp id fun ⟨n, t, us, e, ht, hP⟩ => ⟨n, t, us, e, upB (fun z => ne (by rw [e, z])) ht, PairsAt.updL hD hP⟩⟩
theorem cellF_take {ds : List Ent} {zs : List Int} {fs : List (Nat × Nat)} {f : Nat × Nat} {m : Nat} {p : Int} (h : fs[m]? = some f) : (fs.take (m + 1)).filter (fun f => decide (zAt ds zs f = p)) = (fs.take m).filter (fun f => decide (zAt ds zs f = p)) ++ (if zAt ds zs f = p then [f] else []) := by
  rw [List.take_add_one, h, Option.toList_some, List.filter_append, List.filter_cons]
  by_cases q : zAt ds zs f = p
  · rw [if_pos q, decide_eq_true q]; rfl
  · rw [if_neg q, decide_eq_false q]; rfl
theorem low_le {l : List Int} {z : Int} (h : z ∈ l) : lowZ l ≤ z := by
  induction l with
  | nil => cases h
  | cons a r ih =>
    show min a (lowZ r) ≤ z
    rcases List.mem_cons.mp h with rfl | h
    · omega
    · have := ih h; omega
theorem le_high {l : List Int} {z : Int} (h : z ∈ l) : z ≤ highZ l := by
  induction l with
  | nil => cases h
  | cons a r ih =>
    show z ≤ max a (highZ r)
    rcases List.mem_cons.mp h with rfl | h
    · omega
    · have := ih h; omega
theorem low_bound {l : List Int} (h : ∀ z ∈ l, -1000 ≤ z ∧ z ≤ 1000) : -1000 ≤ lowZ l ∧ lowZ l ≤ 0 := by
  induction l with
  | nil => exact ⟨by decide, by decide⟩
  | cons a r ih =>
    have h1 := h a List.mem_cons_self
    have h2 := ih fun z hz => h z (List.mem_cons_of_mem _ hz)
    show -1000 ≤ min a (lowZ r) ∧ min a (lowZ r) ≤ 0
    omega
theorem high_bound {l : List Int} (h : ∀ z ∈ l, -1000 ≤ z ∧ z ≤ 1000) : 0 ≤ highZ l ∧ highZ l ≤ 1000 := by
  induction l with
  | nil => exact ⟨by decide, by decide⟩
  | cons a r ih =>
    have h1 := h a List.mem_cons_self
    have h2 := ih fun z hz => h z (List.mem_cons_of_mem _ hz)
    show 0 ≤ max a (highZ r) ∧ max a (highZ r) ≤ 1000
    omega
def spCells (C CL : Addr) : Sp := fun vs H Q _ => ∃ (wp q : Addr) (ds : List Ent) (zs : List Int) (c : Nat), vs = [.ref wp, .ref q, natV c] ∧ WorldAt H wp C ds ∧ DsOk ds ∧ ds.length ≤ 12 ∧ LayAt H q CL ds zs ∧ c < ds.length ∧ (∀ z ∈ plC ds zs c, -1000 ≤ z ∧ z ≤ 1000) ∧
  ∀ t H' vs, Same H H' → H' t = some (.tup vs) → vs.length = spanN ds zs c → (∀ (i : Nat) (v : V), vs[i]? = some v → CellV H' (lowZ (plC ds zs c) + (i : Int)) v (cellF ds zs c (lowZ (plC ds zs c) + (i : Int)))) → Q (.ref t) H'
theorem sc_cells : FnScope ["world", "laying", "c", "least", "greatest", "rows", "cell", "field"] ["world", "laying", "c"] (defScope (top 38)) := ⟨rfl, rfl, rfl, by decide +kernel, rfl, by decide +kernel, by decide +kernel⟩
theorem ok_cells {f_Laying_place_of f_extent_of f_fields_of : Addr} {fd_Laying_place_of fd_extent_of fd_fields_of : FuncData} (F : FnP K "cells_of" 38 f fd)
    (B : Fr mg)
    (F_extent_of : FnP K "extent_of" 37 f_extent_of fd_extent_of)
    (m_extent_of : mg "extent_of" = some (.ref f_extent_of))
    (G_extent_of : FnOk P w K mg base CX0 5 f_extent_of fd_extent_of ["world", "laying", "c"] (spExt C CL Cn))
    (F_fields_of : FnP K "fields_of" 18 f_fields_of fd_fields_of)
    (m_fields_of : mg "fields_of" = some (.ref f_fields_of))
    (G_fields_of : FnOk P w K mg base (L2.CX P w) 4 f_fields_of fd_fields_of ["world", "c"] (spCls C Cn (RPair fldO)))
    (F_Laying_place_of : FnM K "place_of" "Laying.place_of" (inClass (top 36) 1) f_Laying_place_of fd_Laying_place_of)
    (G_Laying_place_of : FnOk P w K mg base CX0 3 f_Laying_place_of fd_Laying_place_of ["self", "field"] (spPlaceOf CL))
    (TCL : ClsF K CL ["fields", "places"])
    (M_Laying_place_of : Meth K CL "place_of" f_Laying_place_of) :
    FnOk P w K mg base CX0 6 f fd ["world", "laying", "c"] (spCells C CL) := by
  have b_extent_of : L2.Binds K fd_extent_of ["world", "laying", "c"] [] := F_extent_of.bindsN fun _ _ _ _ _ _ us hl => match us, hl with | [_, _, _], _ => rfl
  have b_fields_of : L2.Binds K fd_fields_of ["world", "c"] [] := F_fields_of.bindsN fun _ _ _ _ _ _ us hl => match us, hl with | [_, _], _ => rfl
  have b_Laying_place_of : L2.Binds K fd_Laying_place_of ["self", "field"] [] := F_Laying_place_of.bindsN fun _ _ _ _ _ _ us hl => match us, hl with | [_, _], _ => rfl
  refine F.ok sc_cells (fun vs H Q E h => ?_) (fun cdv A outer s H vs Q E hr h => ?_)
  · obtain ⟨wp, q, ds, zs, c, rfl, _⟩ := h
    rfl
  · obtain ⟨wp, q, ds, zs, c, rfl, hw, ok, h12, hq, hc, zb, k⟩ := h
    have hu : (A.deeper (envOfC ("cells_of" : Str) (defScope (top 38)) s.heap.objs.size f cdv)).units + 65 < cLine := by
      have := hr.un
      omega
    refine ⟨_, PSs.nox (pss_cons (ps_asg (pe_call G_extent_of (hr.mono (by decide)) (by rfl) m_extent_of F_extent_of.kp b_extent_of .nil pass0 (pa_cons (pv 0) (pa_cons (pv 1) (pa_cons (pv 2) pa_nil)))) (pg_tup (by rfl) (pgs_cons (pg_name (i := 3) sc_cells.nd rfl (Or.inl rfl)) (pgs_cons (pg_name (i := 4) sc_cells.nd rfl (Or.inl rfl)) pgs_nil))))
      (pss_cons (ps_set (i := 5) sc_cells.nd rfl (Or.inr rfl) (pe_dc (own := [("cell", 6)]) (g := (gName 6)) (tt := tYes) (tk := (tVar 6)) (tv := (tLst tNil)) rfl sc_cells.nd (pi_range2 (by rfl) B.range (pa_cons (pv 3) (pa_cons (pe_op op_add (pv 4) pe_int) pa_nil))) (blkOk_by (N := ["world", "laying", "c", "least", "greatest", "rows", "cell", "field"]) (sc := defScope (top 38)) (by decide +kernel)) (fun _ _ _ _ _ => (pg_name (i := 6) sc_cells.nd rfl (Or.inl rfl))) (fun _ _ _ _ _ => pts_nil) (fun _ _ _ _ _ => (pv 6)) (fun _ _ _ _ _ => (pe_lst pa_nil))))
      (pss_cons (ps_for PassesOwn.never rfl (pi_tup (pe_call G_fields_of (hr.mono (by decide)) (by rfl) m_fields_of F_fields_of.kp b_fields_of .nil (passOut (E := fun _ _ _ => False)) (pa_cons (pv 0) (pa_cons (pv 2) pa_nil)))) (pg_name (i := 7) sc_cells.nd rfl (Or.inl rfl))
        (pss_one (ps_expr (pe_bm PySem.F.plainAttrs_list PySem.F.slot_list_append PySem.F.type_list_append mt_append (pe_dget (hu1 hu) (pv 5) (pe_meth (pv 1) TCL.cl M_Laying_place_of G_Laying_place_of (hr.mono (by decide)) b_Laying_place_of .nil pass0 (pa_cons (pv 7) pa_nil)) (fun _ _ => rfl)) (pa_cons (pv 7) pa_nil)))))
      (pss_one (ps_ret (pe_callTy (T := "tuple") (r := rTupOf K) (call_tup (X := _)) (by rfl) B.tuple (by decide +kernel) (pa_cons (pe_lock (pe_lc (own := [("cell", 6)]) (g := (gName 6)) (tt := tYes) (te := (tIf (tTest (tOp rEq (tVar 6) (tC (.int 0)))) (tC (.str "head")) (tCB (rTupOf K) (tCons (tDGet (tVar 5) (tVar 6)) tNil)))) rfl sc_cells.nd (pi_keys (pv 5)) (blkOk_by (N := ["world", "laying", "c", "least", "greatest", "rows", "cell", "field"]) (sc := defScope (top 38)) (by decide +kernel)) (fun _ _ _ _ _ => (pg_name (i := 6) sc_cells.nd rfl (Or.inl rfl))) (fun _ _ _ _ _ => pts_nil) (fun _ _ _ _ _ => ?x0))) pa_nil))))))), ?_⟩
    case x0 => exact (pe_ifExp (pt_cmpR op_eq (pv 6) pe_int (nomark _)) pe_str (pe_callTy (T := "tuple") (r := rTupOf K) (call_tup (X := _)) (by rfl) B.tuple (by decide +kernel) (pa_cons (pe_dget (hu1 hu) (pv 5) (pv 6) (fun _ _ => rfl)) pa_nil)))
    obtain ⟨l1, l2⟩ := low_bound zb
    obtain ⟨g1, g2⟩ := high_bound zb
    obtain ⟨lo, elo⟩ : ∃ lo, lo = lowZ (plC ds zs c) := ⟨_, rfl⟩
    obtain ⟨hi, ehi⟩ : ∃ hi, hi = highZ (plC ds zs c) := ⟨_, rfl⟩
    have espan : spanN ds zs c = (hi + 1 - lo).toNat := by unfold spanN; rw [← elo, ← ehi]
    rw [← elo] at l1 l2 k
    rw [← ehi] at g1 g2
    obtain ⟨n, en⟩ : ∃ n, n = (hi + 1 - lo).toNat := ⟨_, rfl⟩
    rw [← en] at espan
    have n3 : n ≤ 2001 := by omega
    refine ⟨_, rfl, _, rfl, _, rfl, wp, q, ds, zs, c, rfl, hw, ok, h12, hq, hc, fun t H1 s1 ht => ?_⟩
    rw [← elo, ← ehi] at ht
    refine ⟨t, _, rfl, SqT.of ht, rfl, _, _, rfl, _, _, rfl, rfl, ?_⟩
    refine ⟨_, rfl, _, rfl, _, _, rfl, rfl, _, _, rfl, ⟨by omega, by omega, by omega, by omega⟩, fun R hR => ?_⟩
    rw [← en]
    refine dc_range (n := n) (fun i H' => ∃ as : List Addr, as.length = i ∧ as.Nodup ∧ Same H1 H' ∧ H' R = some (.dK (dkL lo as)) ∧ ∀ a ∈ as, H' a = some (.lst []) ∧ H1 a = none ∧ a ≠ R) ⟨[], rfl, .nil, same_new hR, upd_same, fun a ha => by cases ha⟩ (fun i H' hin ⟨as, al, nd, s', hR', ha⟩ => ?_) (fun H2 ⟨as, al, nd, s2, hR2, ha2⟩ => ?_)
    · refine ⟨rfl, _, rfl, (by show 0 ≤ sizeLine; decide), fun L hL => ?_⟩
      have sL := same_new (o := .lst []) hL
      have LR : L ≠ R := Ne.symm (ne_of_none hR' hL)
      refine ⟨_, .inl (lo + (i : Int)), rfl, sL _ _ hR', (by rw [dkL_len, al]; show i < 2 ^ 24; omega), as ++ [L], by rw [List.length_append, al]; rfl, ?_, fun b o hb => ?_, ?_, fun a ha' => ?_⟩
      · refine List.nodup_append.mpr ⟨nd, List.nodup_cons.mpr ⟨(fun z => by cases z), .nil⟩, fun x hx y hy e => ?_⟩
        rw [List.mem_singleton.mp hy] at e
        have := (ha x hx).1
        rw [e, hL] at this
        cases this
      · exact upB (fun z => by rw [z, hR] at hb; cases hb) (sL _ _ (s' _ _ hb))
      · rw [upd_same, ← al, dkL_put]
      · rcases List.mem_append.mp ha' with ha' | ha'
        · obtain ⟨h1, h2, h3⟩ := ha a ha'
          exact ⟨upB h3 (sL _ _ h1), h2, h3⟩
        · rw [List.mem_singleton.mp ha']
          refine ⟨upB LR upd_same, ?_, LR⟩
          cases e : H1 L with
          | none => rfl
          | some o => rw [s' _ _ e] at hL; cases hL
    · have s02 := s1.trans s2
      have asn : ∀ b o, H1 b = some o → b ∉ as := fun b o e z => by rw [(ha2 b z).2.1] at e; cases e
      refine ⟨_, rfl, _, rfl, wp, natV c, ds, rfl, hw.mono s02, ok, h12, .inr ⟨c, rfl, hc, fun tf H3 s3 ⟨us, htf, hP⟩ => ?_⟩⟩
      have hR3 := s3 _ _ hR2
      have s03 := s02.trans s3
      refine ⟨tf, rfl, ⟨_, SqT.of htf⟩, ?_⟩
      have ul := hP.len
      have fl := fldO_few ok h12 hc
      have tfa : tf ∉ as := fun z => by have := s3 _ _ (ha2 tf z).1; rw [htf] at this; cases this
      have Ra : R ∉ as := fun z => (ha2 R z).2.2 rfl
      refine for_tup (K := K) (a := tf) (xs := us) (fun m σ H' => ∃ (x6 x7 : Option V), σ = [some (.ref wp), some (.ref q), some (natV c), some (.int lo), some (.int hi), some (.ref R), x6, x7] ∧ KpL as H3 H' ∧ ∀ (i : Nat) (a : Addr), as[i]? = some a → ∃ ws, H' a = some (.lst ws) ∧ PairsAt H' ws (((fldO ds c).take m).filter fun f => decide (zAt ds zs f = lo + (i : Int)))) ⟨_, _, rfl, fun b o _ e => e, fun i a hia => ⟨[], s3 _ _ (ha2 a (List.mem_of_getElem? hia)).1, .nil⟩⟩ (fun m σ H' _ ⟨_, _, _, kp, _⟩ => SqT.of (kp _ _ tfa htf)) ?_ ?_
      · rintro m v σ H4 hm ⟨x6, x7, rfl, kp, rows⟩
        obtain ⟨g, u, hg, rfl, hu⟩ := hP.get4 hm
        obtain ⟨dq, af, ap, xs, q1, _⟩ := id hq
        have gm := List.mem_of_getElem? hg
        have zin : zAt ds zs g ∈ plC ds zs c := by unfold plC; exact List.mem_map.mpr ⟨g, gm, rfl⟩
        have z1 := low_le zin
        have z2 := le_high zin
        rw [← elo] at z1
        rw [← ehi] at z2
        obtain ⟨i, ei⟩ : ∃ i : Nat, zAt ds zs g = lo + (i : Int) := ⟨(zAt ds zs g - lo).toNat, by omega⟩
        obtain ⟨a, hia⟩ : ∃ a, as[i]? = some a := ⟨_, List.getElem?_eq_getElem (by omega)⟩
        have nal : ∀ {b : Addr} {o : HO}, H3 b = some o → (∀ l, o ≠ .lst l) → b ∉ as := fun e n z => by
          have := s3 _ _ (ha2 _ z).1
          rw [e] at this
          exact n _ (Option.some.inj this)
        have hq4 : LayAt H4 q CL ds zs := by
          obtain ⟨dq, af, ap, us, h1, ⟨o, h2, h2'⟩, h3, h4, h5⟩ := hq.mono s03
          exact ⟨dq, af, ap, us, kp _ _ (nal h1 nofun) h1, ⟨o, kp _ _ (nal h2 nofun) h2, h2'⟩, paired_imp (fun _ _ ⟨t, e, h⟩ => ⟨t, e, kp _ _ (nal h nofun) h⟩) h3, kp _ _ (nal h4 nofun) h4, h5⟩
        have hq1 := kp _ _ (nal (s03 _ _ q1) nofun) (s03 _ _ q1)
        have hu4 := kp _ _ (nal hu nofun) hu
        have hR4 := kp _ _ Ra hR3
        refine ⟨_, rfl, _, rfl, q, dq, _, rfl, hq1, rfl, _, rfl, q, u, ds, zs, g, rfl, hq4, hu4, fldO_mem hc gm, fun H5 s5 => ?_⟩
        obtain ⟨ws, hws, hPw⟩ := rows i a hia
        have wl := hPw.len
        have wf : ws.length ≤ 39 := by
          rw [wl]
          refine Nat.le_trans (List.length_filter_le _ _) ?_
          rw [List.length_take]; omega
        refine ⟨R, .ref a, rfl, .inl ⟨_, .inl (zAt ds zs g), .inl (s5 _ _ hR4), rfl, ?_⟩, .inl ⟨rfl, _, SqL.of (s5 _ _ hws)⟩, _, rfl, a, ws, _, rfl, rfl, s5 _ _ hws, (by show _ < 2 ^ 24; omega), ?_⟩
        · rw [ei]; exact (dkL_val hia).symm
        have am := List.mem_of_getElem? hia
        have ua : u ≠ a := fun z => (nal hu nofun) (z ▸ am)
        refine ⟨_, _, rfl, fun b o nb e => upB (fun z => nb (z ▸ am)) (s5 _ _ (kp _ _ nb e)), fun j b hjb => ?_⟩
        rw [cellF_take hg, ei]
        by_cases q : j = i
        · subst q
          obtain rfl := Option.some.inj (hjb.symm.trans hia)
          rw [if_pos rfl]
          exact ⟨_, upd_same, (PairsAt.updL (s5 _ _ hws) (hPw.same s5)).app (.cons ⟨u, rfl, upB ua (s5 _ _ hu4)⟩ .nil)⟩
        · rw [if_neg (by omega), List.append_nil]
          obtain ⟨ws', hws', hPw'⟩ := rows j b hjb
          have ba : b ≠ a := fun z => by
            subst z
            exact q ((List.getElem?_inj (List.getElem?_eq_some_iff.mp hjb).1 nd).mp (hjb.trans hia.symm))
          exact ⟨ws', upB ba (s5 _ _ hws'), PairsAt.updL (s5 _ _ hws) (hPw'.same s5)⟩
      · rintro σ H4 ⟨x6, x7, rfl, kp, rows⟩
        rw [ul, List.take_length] at rows
        have hR4 := kp _ _ Ra hR3
        refine ⟨R, .dK (dkL lo as), hR4, trivial, fun od => ⟨_, rfl, R, od, rfl, .inl ⟨dkL lo as, upd_same, fun D hD => ?_⟩⟩⟩
        have upR : ∀ {b : Addr} {o : HO}, H4 b = some o → (∀ kv, o ≠ .dK kv) → upd H4 R (.frz od (.dK (dkL lo as))) b = some o := fun e n => upB (fun z => by rw [z, hR4] at e; exact n _ (Option.some.inj e).symm) e
        refine lc_keysA rel_cell ((List.range n).map fun (i : Nat) => some (lo + (i : Int), cellF ds zs c (lo + (i : Int)))) hD (by rw [List.length_map, List.length_range, dkL_len, al]) (by rw [dkL_len]; omega) upd_same (fun i kv cc H5 hkv hcc s5 N M ⟨ud, hud⟩ hN _ => ?_) (fun H5 vs s5 D5 P5 => ?_)
        · rw [dkL_get] at hkv
          obtain ⟨a, hia, rfl⟩ := Option.map_eq_some_iff.mp hkv
          have il := (List.getElem?_eq_some_iff.mp hia).1
          rw [List.getElem?_map, List.getElem?_range (by omega)] at hcc
          have hcc : some (lo + (i : Int), cellF ds zs c (lo + (i : Int))) = cc := Option.some.inj hcc
          refine ⟨rfl, _, rfl, rfl, _, rfl, ?_⟩
          by_cases q0 : lo + (i : Int) = 0
          · refine iteT' (decide_eq_true (by show V.int (lo + (i : Int)) = V.int 0; rw [q0])) ?_
            exact hN _ hcc.symm _ _ (Same.refl _) (fun z => by cases z) (.inl ⟨q0, rfl⟩)
          · refine iteF' (decide_eq_false fun e => q0 (V.int.inj e)) ?_
            obtain ⟨ws, hws, hPw⟩ := rows i a hia
            have hws5 := s5 _ _ (upR hws nofun)
            refine ⟨_, rfl, _, rfl, R, .ref a, rfl, .inl ⟨_, .inl (lo + (i : Int)), .inr ⟨od, s5 _ _ upd_same⟩, rfl, (dkL_val hia).symm⟩, ?_⟩
            refine tup_q (.inl hws5) fun t5 H6 s6 ht5 => ?_
            refine hN _ hcc.symm _ _ s6 (fun z => ?_) (.inr ⟨q0, t5, ws, rfl, ht5, ?_⟩)
            · cases z; rw [s6 _ _ hud] at ht5; cases ht5
            · have hP5 : PairsAt H5 ws (cellF ds zs c (lo + (i : Int))) := paired_imp (fun _ _ ⟨t, e, h⟩ => ⟨t, e, s5 _ _ (upR h nofun)⟩) hPw
              exact hP5.same s6
        · have DR : D ≠ R := fun z => by rw [z, upd_same] at hD; cases hD
          refine ⟨s5 _ _ upd_same, ?_⟩
          refine tup_q (.inl (upB DR D5)) fun t' H6 s6 ht' => ?_
          have s56 : ∀ b o, b ≠ R → H5 b = some o → H6 b = some o := fun b o ne e => s6 _ _ (upB ne e)
          have hL := Paired.length P5
          rw [some_maps (fun (i : Nat) => (lo + (i : Int), cellF ds zs c (lo + (i : Int))))] at hL P5
          rw [List.length_map, List.length_range] at hL
          refine k t' H6 vs (fun b o e => ?_) ht' (by rw [hL, espan]) fun i v hv => ?_
          · have e1 := s1 _ _ e
            have bR : b ≠ R := fun z => by rw [z, hR] at e1; cases e1
            have e4 := kp _ _ (asn _ _ e1) (s03 _ _ e)
            exact s56 _ _ bR (s5 _ _ (upB bR e4))
          · have il := (List.getElem?_eq_some_iff.mp hv).1
            rw [hL] at il
            obtain ⟨z, hz, hc5⟩ := paired_get P5 hv
            rw [List.getElem?_map, List.getElem?_range il] at hz
            obtain rfl := Option.some.inj hz
            have up6 : ∀ {b : Addr} {o : HO}, H5 b = some o → (∀ od l, o ≠ .frz od (.dK l)) → H6 b = some o := fun {b o} e n => s56 _ _ (fun z => by rw [z, s5 _ _ upd_same] at e; exact n _ _ (Option.some.inj e).symm) e
            have hc6 : CellV H5 (lo + (i : Int)) v (cellF ds zs c (lo + (i : Int))) := hc5
            clear hc5
            rcases hc6 with h0 | ⟨n0, t5, us5, e5, h5, hP5⟩
            · exact .inl h0
            · refine .inr ⟨n0, t5, us5, e5, up6 h5 (fun _ _ z => by cases z), ?_⟩
              have hP6 : PairsAt H6 us5 (cellF ds zs c (lo + (i : Int))) := paired_imp (fun _ _ ⟨tt, ee, hh⟩ => ⟨tt, ee, up6 hh (fun _ _ z => by cases z)⟩) hP5
              exact hP6
end
end K57

set_option maxRecDepth 100000
set_option maxHeartbeats 8000000
namespace K57
open PySem PySem.Spec PyProof.Rows L2 Kw
/-! ### comprehensions with two for: the list told part by part. Outside: lc2_outL, lc2_out with Pv := fun i H => LcP R ((bss.take i).flatten) H1 D H; inside: these -/
def LcP {β : Type} (R : Hp → V → β → Prop) (bs : List β) (H1 : Hp) (D : Addr) (H : Hp) : Prop := Same H1 H ∧ ∃ vs, H D = some (.lst vs) ∧ (∀ v ∈ vs, v ≠ .ref D) ∧ Paired (R H) vs bs
section
variable {β : Type} {R : Hp → V → β → Prop} {K : PySem.W.Frag} {a : Addr} {xs ys : List V} {g1 : TG} {tt1 : TT} {te : TE} {vs1 : List Nat} {σ2 : L2.St} {H1 H4 : Hp} {D : Addr} {Nx : Hp → Prop} {bs0 : List β}
theorem LcP.zero (hD : H1 D = none) : LcP R [] H1 D (upd H1 D (.lst [])) := ⟨same_new hD, [], upd_same, (fun v hv => by cases hv), .nil⟩
theorem LcP.keep (ok : RelOk R) {bs : List β} {H H' : Hp} (h : LcP R bs H1 D H) (s : Same H H') : LcP R bs H1 D H' := by
  obtain ⟨s1, vs, h1, h2, h3⟩ := h
  exact ⟨s1.trans s, vs, s _ _ h1, h2, paired_imp (fun _ _ z => ok.same s z) h3⟩
theorem LcP.add (ok : RelOk R) {bs : List β} {H H' : Hp} {b : β} {y : V} (hD : H1 D = none) (few : bs.length < 2 ^ 20) (h : LcP R bs H1 D H) (s : Same H H') (ne : y ≠ .ref D) (hy : R H' y b) :
    ∃ acc, H' D = some (.lst acc) ∧ acc.length < sizeLine ∧ LcP R (bs ++ [b]) H1 D (upd H' D (.lst (acc ++ [y]))) := by
  obtain ⟨s1, vs, h1, h2, h3⟩ := h
  have hl := Paired.length h3
  have h1' := s _ _ h1
  refine ⟨vs, h1', (by show _ < 2 ^ 24; omega), same_upd (s1.trans s) hD, vs ++ [y], upd_same, fun v hv => ?_, ?_⟩
  · rcases List.mem_append.mp hv with hv | hv
    · exact h2 v hv
    · rw [List.mem_singleton.mp hv]
      exact ne
  · have key : ∀ {vs : List V} {bs : List β}, (∀ v ∈ vs, v ≠ .ref D) → Paired (R H) vs bs → ∀ ys, Paired (R (upd H' D (.lst ys))) vs bs := fun n p ys => by
      induction p with
      | nil => exact .nil
      | cons z _ ih => exact .cons (ok.updL h1' (n _ List.mem_cons_self) (ok.same s z)) (ih fun v hv => n v (List.mem_cons_of_mem _ hv))
    exact paired_app (key h2 h3 _) (.cons (ok.updL h1' ne hy) .nil)
/-- all but the list under way stays -/
def OthD (D : Addr) (H H' : Hp) : Prop := ∀ b o, b ≠ D → H b = some o → H' b = some o
theorem OthD.trans {D : Addr} {H H2 H3 : Hp} (x : OthD D H H2) (y : OthD D H2 H3) : OthD D H H3 := fun b o n e => y b o n (x b o n e)
theorem OthD.of {D : Addr} {H H2 : Hp} (s : Same H H2) : OthD D H H2 := fun b o _ e => s b o e
theorem OthD.upd {D : Addr} {H : Hp} {o : HO} : OthD D H (upd H D o) := fun b _ n e => upB n e
def LcQ (R : Hp → V → β → Prop) (bs0 : List β) (cs : List (Option β)) (H1 H4 : Hp) (D : Addr) (j : Nat) (H : Hp) : Prop := OthD D H4 H ∧ LcP R (bs0 ++ (cs.take j).filterMap id) H1 D H
theorem LcQ.step (ok : RelOk R) {cs : List (Option β)} {j : Nat} {x : V} {c : Option β} {H : Hp} (hD : H1 D = none) (few : bs0.length + cs.length < 2 ^ 20) (h : LcQ R bs0 cs H1 H4 D j H) (hc : cs[j]? = some c) (part : LcAt R g1 tt1 te vs1 σ2 D H x c) :
    g1 x (wipe σ2 vs1) H fun σ3 H5 => wipe σ3 vs1 = wipe σ2 vs1 ∧ tt1 σ3 H5 fun b H6 =>
      if b = true then te σ3 H6 fun y H7 => ∃ acc, H7 D = some (.lst acc) ∧ acc.length < sizeLine ∧ LcQ R bs0 cs H1 H4 D (j + 1) (upd H7 D (.lst (acc ++ [y]))) else LcQ R bs0 cs H1 H4 D (j + 1) H6 := by
  obtain ⟨O, p⟩ := h
  have tk : (cs.take (j + 1)).filterMap id = (cs.take j).filterMap id ++ [c].filterMap id := by rw [List.take_add_one, hc, Option.toList_some, List.filterMap_append]
  have l1 : ((cs.take j).filterMap id).length ≤ cs.length := Nat.le_trans (List.length_filterMap_le _ _) (by rw [List.length_take]; omega)
  obtain ⟨s1, us, u1, _⟩ := id p
  refine part _ _ ⟨us, u1⟩ (fun b e y H7 s ne hy => ?_) (fun e H6 s => ?_)
  · subst e
    obtain ⟨acc, a1, a2, a3⟩ := p.add ok hD (by rw [List.length_append]; omega) s ne hy
    refine ⟨acc, a1, a2, (O.trans (.of s)).trans .upd, ?_⟩
    rw [tk, ← List.append_assoc]
    exact a3
  · subst e
    refine ⟨O.trans (.of s), ?_⟩
    rw [tk]
    show LcP R (bs0 ++ (_ ++ [])) H1 D H6
    rw [List.append_nil]
    exact p.keep ok s
theorem lc2_inTA (ok : RelOk R) (cs : List (Option β)) (hD : H1 D = none) (cl : cs.length = ys.length) (few : bs0.length + cs.length < 2 ^ 20) (h0 : LcP R bs0 H1 D H4) (sq : ∀ H, OthD D H4 H → SqT K H a ys)
    (hs : ∀ (j : Nat) (y : V) (c : Option β) (H : Hp), ys[j]? = some y → cs[j]? = some c → OthD D H4 H → Same H1 H → LcAt R g1 tt1 te vs1 σ2 D H y c) (hd : ∀ H, OthD D H4 H → LcP R (bs0 ++ cs.filterMap id) H1 D H → Nx H) :
    ∃ W1 : Nat → Nat → Hp → Prop, (∃ m, W1 0 m H4) ∧ ∀ j k H, W1 j k H →
      ((Itt K a).stop j H ∧ Nx H) ∨ ((Itt K a).go j H ∧ ∃ Nx1 : Hp → Prop, (∀ H', Nx1 H' → ∃ k', k' < k ∧ W1 (j + 1) k' H') ∧ ∀ x H', (Itt K a).yld j H x H' → g1 x (wipe σ2 vs1) H' fun σ3 H5 => wipe σ3 vs1 = wipe σ2 vs1 ∧ tt1 σ3 H5 fun b H6 =>
        if b = true then te σ3 H6 fun y H7 => ∃ acc, H7 D = some (.lst acc) ∧ acc.length < sizeLine ∧ Nx1 (upd H7 D (.lst (acc ++ [y]))) else Nx1 H6) := by
  refine ⟨fun i m H => m = ys.length - i ∧ i ≤ ys.length ∧ LcQ R bs0 cs H1 H4 D i H, ⟨ys.length, by simp, Nat.zero_le _, fun b o _ e => e, by show LcP R (bs0 ++ []) H1 D H4; rw [List.append_nil]; exact h0⟩, ?_⟩
  rintro i m H ⟨rfl, hi, p⟩
  have q := sq H p.1
  by_cases hlt : i < ys.length
  · refine .inr ⟨⟨ys, ys[i], q, by simp [hlt]⟩, LcQ R bs0 cs H1 H4 D (i + 1), fun H' p' => ⟨ys.length - (i + 1), by omega, rfl, hlt, p'⟩, fun x H' y => ?_⟩
    obtain ⟨e, y⟩ := y
    subst e
    have hx := y ys q
    have hc : cs[i]? = some cs[i] := List.getElem?_eq_getElem (by omega)
    exact p.step ok hD few hc (hs i x _ _ hx hc p.1 p.2.1)
  · have e : i = ys.length := by omega
    subst e
    obtain ⟨O, p⟩ := p
    rw [List.take_of_length_le (by omega)] at p
    exact .inl ⟨⟨ys, q, Nat.le_refl _⟩, hd H O p⟩
theorem lc2_inLA (ok : RelOk R) (cs : List (Option β)) (hD : H1 D = none) (cl : cs.length = ys.length) (few : bs0.length + cs.length < 2 ^ 20) (h0 : LcP R bs0 H1 D H4) (sq : ∀ H, OthD D H4 H → SqL K H a ys)
    (hs : ∀ (j : Nat) (y : V) (c : Option β) (H : Hp), ys[j]? = some y → cs[j]? = some c → OthD D H4 H → Same H1 H → LcAt R g1 tt1 te vs1 σ2 D H y c) (hd : ∀ H, OthD D H4 H → LcP R (bs0 ++ cs.filterMap id) H1 D H → Nx H) :
    ∃ W1 : Nat → Nat → Hp → Prop, (∃ m, W1 0 m H4) ∧ ∀ j k H, W1 j k H →
      ((Itl K a).stop j H ∧ Nx H) ∨ ((Itl K a).go j H ∧ ∃ Nx1 : Hp → Prop, (∀ H', Nx1 H' → ∃ k', k' < k ∧ W1 (j + 1) k' H') ∧ ∀ x H', (Itl K a).yld j H x H' → g1 x (wipe σ2 vs1) H' fun σ3 H5 => wipe σ3 vs1 = wipe σ2 vs1 ∧ tt1 σ3 H5 fun b H6 =>
        if b = true then te σ3 H6 fun y H7 => ∃ acc, H7 D = some (.lst acc) ∧ acc.length < sizeLine ∧ Nx1 (upd H7 D (.lst (acc ++ [y]))) else Nx1 H6) := by
  refine ⟨fun i m H => m = ys.length - i ∧ i ≤ ys.length ∧ LcQ R bs0 cs H1 H4 D i H, ⟨ys.length, by simp, Nat.zero_le _, fun b o _ e => e, by show LcP R (bs0 ++ []) H1 D H4; rw [List.append_nil]; exact h0⟩, ?_⟩
  rintro i m H ⟨rfl, hi, p⟩
  have q := sq H p.1
  by_cases hlt : i < ys.length
  · refine .inr ⟨⟨ys, ys[i], q, by simp [hlt]⟩, LcQ R bs0 cs H1 H4 D (i + 1), fun H' p' => ⟨ys.length - (i + 1), by omega, rfl, hlt, p'⟩, fun x H' y => ?_⟩
    obtain ⟨e, y⟩ := y
    subst e
    have hx := y ys q
    have hc : cs[i]? = some cs[i] := List.getElem?_eq_getElem (by omega)
    exact p.step ok hD few hc (hs i x _ _ hx hc p.1 p.2.1)
  · have e : i = ys.length := by omega
    subst e
    obtain ⟨O, p⟩ := p
    rw [List.take_of_length_le (by omega)] at p
    exact .inl ⟨⟨ys, q, Nat.le_refl _⟩, hd H O p⟩
theorem lc2_inRA {lo : Int} {m : Nat} (ok : RelOk R) (cs : List (Option β)) (hD : H1 D = none) (cl : cs.length = m) (few : bs0.length + cs.length < 2 ^ 20) (h0 : LcP R bs0 H1 D H4)
    (hs : ∀ (j : Nat) (c : Option β) (H : Hp), j < m → cs[j]? = some c → OthD D H4 H → Same H1 H → LcAt R g1 tt1 te vs1 σ2 D H (.int (lo + j)) c) (hd : ∀ H, OthD D H4 H → LcP R (bs0 ++ cs.filterMap id) H1 D H → Nx H) :
    ∃ W1 : Nat → Nat → Hp → Prop, (∃ m, W1 0 m H4) ∧ ∀ j k H, W1 j k H →
      ((Itr lo m).stop j H ∧ Nx H) ∨ ((Itr lo m).go j H ∧ ∃ Nx1 : Hp → Prop, (∀ H', Nx1 H' → ∃ k', k' < k ∧ W1 (j + 1) k' H') ∧ ∀ x H', (Itr lo m).yld j H x H' → g1 x (wipe σ2 vs1) H' fun σ3 H5 => wipe σ3 vs1 = wipe σ2 vs1 ∧ tt1 σ3 H5 fun b H6 =>
        if b = true then te σ3 H6 fun y H7 => ∃ acc, H7 D = some (.lst acc) ∧ acc.length < sizeLine ∧ Nx1 (upd H7 D (.lst (acc ++ [y]))) else Nx1 H6) :=
  lc2_in (LcQ R bs0 cs H1 H4 D) ⟨fun b o _ e => e, by show LcP R (bs0 ++ []) H1 D H4; rw [List.append_nil]; exact h0⟩ (fun j H hj p => by
    have hc : cs[j]? = some cs[j] := List.getElem?_eq_getElem (by omega)
    exact p.step ok hD few hc (hs j _ H hj hc p.1 p.2.1)) (fun H p => by
    obtain ⟨O, p⟩ := p
    rw [List.take_of_length_le (by omega)] at p
    exact hd H O p)
end
end K57

set_option maxRecDepth 100000
set_option maxHeartbeats 8000000
namespace K57
open PySem PySem.Spec PyProof.Rows L2 Kw
/-- the methods that a class brings: none of its elders has one -/
def newsE (ds : List Ent) (c : Nat) : List (Nat × Nat) := ((methsOf ds c).filter fun m => decide (defL ds c m = [c])).map fun m => (c, m)
/-- all entries of the table of a world -/
def allE (ds : List Ent) : List (Nat × Nat) := (List.range ds.length).flatMap (newsE ds)
section
variable {P : Program} {w : World} {K : PySem.W.Frag} {mg : Str → Option Value} {base : Heap} {f C CL Cn CHo CS : Addr} {fd : FuncData}
def spAllE (C : Addr) : Sp := fun vs H Q _ => ∃ (p : Addr) (ds : List Ent), vs = [.ref p] ∧ WorldAt H p C ds ∧ DsOk ds ∧ ds.length ≤ 12 ∧ ∀ t us H', Same H H' → H' t = some (.tup us) → PairsAt H' us (allE ds) → Q (.ref t) H'
theorem sc_allE : FnScope ["world", "c", "methods", "name"] ["world"] (defScope (top 41)) := ⟨rfl, rfl, rfl, by decide +kernel, rfl, by decide +kernel, by decide +kernel⟩
theorem ok_allE {f_defining_of : Addr} {fd_defining_of : FuncData} (F : FnP K "all_entries" 41 f fd)
    (B : Fr mg)
    (TC : ClsWorld K mg C)
    (F_defining_of : FnP K "defining_of" 30 f_defining_of fd_defining_of)
    (m_defining_of : mg "defining_of" = some (.ref f_defining_of))
    (G_defining_of : FnOk P w K mg base CX0 4 f_defining_of fd_defining_of ["world", "c", "name"] (spDefining C)) :
    FnOk P w K mg base CX0 5 f fd ["world"] (spAllE C) := by
  have b_defining_of : L2.Binds K fd_defining_of ["world", "c", "name"] [] := F_defining_of.bindsN fun _ _ _ _ _ _ us hl => match us, hl with | [_, _, _], _ => rfl
  refine F.ok sc_allE (fun vs H Q E h => ?_) (fun cdv A outer s H vs Q E hr h => ?_)
  · obtain ⟨p, ds, rfl, _⟩ := h
    rfl
  · obtain ⟨p, ds, rfl, hw, ok, h12, k⟩ := h
    refine ⟨_, PSs.nox (pss_one (ps_ret (pe_callTy (T := "tuple") (r := rTupOf K) (call_tup (X := _)) (by rfl) B.tuple (by decide +kernel) (pa_cons (pe_lc2 (own := [("c", 1), ("methods", 2), ("name", 3)]) (vs1 := [3]) (g := (gTup K 2 (gCons (gName 1) (gCons (gName 2) gNil)))) (g1 := (gName 3)) (tt := tYes) (tt1 := (tTest (tOp (rEqD K) (tCall (spDefining C) [] E0 (tCons (tVar 0) (tCons (tVar 1) (tCons (tVar 3) tNil)))) (tTup (tCons (tVar 1) tNil))))) (te := (tTup (tCons (tVar 1) (tCons (tVar 3) tNil)))) (wi1 := (iTup K (tVar 2))) rfl sc_allE.nd (pi_enumT (by rfl) B.enumerate (pa_cons (pe_fld (pv 0) rfl) pa_nil)) (blkOk_by (N := ["world", "c", "methods", "name"]) (sc := defScope (top 41)) (by decide +kernel)) (by decide) (fun _ _ _ _ _ => (pg_tup (by rfl) (pgs_cons (pg_name (i := 1) sc_allE.nd rfl (Or.inl rfl)) (pgs_cons (pg_name (i := 2) sc_allE.nd rfl (Or.inl rfl)) pgs_nil)))) (fun _ _ _ _ _ => pts_nil) (fun _ _ _ _ _ => ?x0) (fun _ _ _ _ _ => (pg_name (i := 3) sc_allE.nd rfl (Or.inl rfl))) (fun _ _ _ _ _ => ?x1) (fun _ _ _ _ _ => ?x2)) pa_nil)))), ?_⟩
    case x2 => exact (pe_tup (pa_cons (pv 1) (pa_cons (pv 3) pa_nil)))
    case x1 => exact pts_one (pt_cmpR (r := (rEqD K)) (op_eqD hr.units) (pe_call G_defining_of (hr.mono (by decide)) (by rfl) m_defining_of F_defining_of.kp b_defining_of .nil pass0 (pa_cons (pv 0) (pa_cons (pv 1) (pa_cons (pv 3) pa_nil)))) (pe_tup (pa_cons (pv 1) pa_nil)) (nomark _))
    case x0 => exact (pi_tup (pv 2))
    obtain ⟨dx, ac, ab, ao, am, ae, ah, cs, bs, ms, es, hs, h1, h2, h3, h4, h5, h6, h7, h8, _⟩ := id hw
    have ml : ms.length = ds.length := by
      have := Paired.length h8
      rw [List.length_map] at this
      exact this
    have sub : ∀ i, ((List.range i).flatMap (newsE ds)).length ≤ 3 * i := fun i => by
      induction i with
      | zero => exact Nat.le_refl _
      | succ i ih =>
        rw [List.range_succ, List.flatMap_append, List.length_append, List.flatMap_cons, List.flatMap_nil, List.append_nil]
        have : (newsE ds i).length ≤ 3 := by
          unfold newsE
          rw [List.length_map]
          exact Nat.le_trans (List.length_filter_le _ _) (meths_len ok i)
        omega
    refine ⟨_, rfl, p, C, dx, _, _, rfl, h1, TC.cl, TC.no _ (List.mem_of_getElem? (i := 3) rfl), rfl, am, ms, rfl, SqT.of h7, fun D hD => lc2_outE (K := K) (a := am) (xs := ms) (fun i H' => LcP (fun (H : Hp) (v : V) (b : Nat × Nat) => ∃ t, v = .ref t ∧ H t = some (.tup [natV b.1, natV b.2])) ((List.range i).flatMap (newsE ds)) H D H') (.zero hD) (fun i H' _ z => SqT.of (z.1 _ _ h7)) ?_ ?_⟩
    · rintro i x H1 T hi z hT Nx hNx
      have il := (List.getElem?_eq_some_iff.mp hi).1
      obtain ⟨d, hd⟩ : ∃ d, ds[i]? = some d := ⟨_, List.getElem?_eq_getElem (by omega)⟩
      obtain ⟨o1, o2, o3, o4, o5, o6, o7⟩ := ok i d hd
      have ed : methsOf ds i = d.2.2 := by
        unfold methsOf
        rw [List.getD_eq_getElem?_getD, hd]
        rfl
      obtain ⟨t, e1, e2⟩ := h8.get (i := i) (l := sortN d.2.2) (by rw [List.getElem?_map, hd]; rfl)
      rw [hi] at e1
      obtain rfl := Option.some.inj e1
      rw [sortN_nat o5 o6, ← ed] at e2
      have sT := same_new (o := .tup [.int (i : Nat), .ref t]) hT
      have s2 := z.1.trans sT
      have m3 := meths_len ok i
      refine ⟨T, _, rfl, SqT.of upd_same, rfl, _, _, rfl, _, _, rfl, rfl, rfl, _, rfl, t, rfl, ⟨_, SqT.of (s2 _ _ e2)⟩, ?_⟩
      refine lc2_inTA (K := K) (a := t) (ys := (methsOf ds i).map natV) rel_ps ((methsOf ds i).map fun m => if decide (defL ds i m = [i]) = true then some (i, m) else none) hD (by rw [List.length_map, List.length_map]) (by have := sub i; rw [List.length_map]; show _ < 2 ^ 20; omega) (z.keep rel_ps sT) (fun H' O => SqT.of (O _ _ (ne_of_none e2 hD) (s2 _ _ e2))) (fun j y c H4 hj hc O4 s4 N M ⟨u0, hu0⟩ hN hM => ?_) (fun H4 O4 P4 => hNx _ ?_)
      · rw [List.getElem?_map] at hj hc
        obtain ⟨m, hm, rfl⟩ := Option.map_eq_some_iff.mp hj
        rw [hm] at hc
        have hc : (if decide (defL ds i m = [i]) = true then some (i, m) else none) = c := Option.some.inj hc
        have m6 : m < 6 := o6 m (by rw [← ed]; exact List.mem_of_getElem? hm)
        have d12 := defL_len ok (c := i) (m := m) (by omega) h12
        refine ⟨rfl, _, rfl, _, rfl, _, rfl, p, ds, i, m, rfl, hw.mono s4, ok, by omega, h12, m6, fun t5 H5 s5 ht5 => ⟨_, rfl, (by show 1 ≤ sizeLine; decide), fun T5 hT5 => ?_⟩⟩
        have sT5 := same_new (o := .tup [natV i]) hT5
        refine ⟨dNs (defL ds i m), dNs [i], .tup (SqT.of (sT5 _ _ ht5)) (dp_nats _), .tup (SqT.of upd_same) (dp_nats [i]), (lay_ns _).shaped (by decide), (lay_ns _).shaped (by decide), _, rfl, ?_⟩
        rw [eqv_dNs]
        by_cases q : defL ds i m = [i]
        · rw [decide_eq_true q] at hc
          refine iteT' (decide_eq_true q) ⟨_, rfl, _, rfl, (by show 2 ≤ sizeLine; decide), fun T6 hT6 => ?_⟩
          have sT6 := same_new (o := .tup [natV i, natV m]) hT6
          exact hN _ hc.symm _ _ ((s5.trans sT5).trans sT6) (fun z => by cases z; exact absurd (((s5.trans sT5) _ _ hu0).symm.trans hT6) (fun z => by cases z)) ⟨T6, rfl, upd_same⟩
        · rw [decide_eq_false q] at hc
          exact iteF' (decide_eq_false q) (hM hc.symm _ (s5.trans sT5))
      · rw [some_filters (fun m => (i, m)) (fun m => decide (defL ds i m = [i]))] at P4
        rw [List.range_succ, List.flatMap_append, List.flatMap_cons, List.flatMap_nil, List.append_nil]
        exact P4
    · rintro H1 ⟨s1, us, hD1, _, hP⟩
      rw [ml] at hP
      exact tup_q (.inl hD1) fun t H2 s2 ht => k t us H2 (s1.trans s2) ht (PairsAt.same s2 hP)
end
end K57

set_option maxRecDepth 100000
set_option maxHeartbeats 8000000
namespace K57
open PySem PySem.Spec PyProof.Rows L2 Kw
def entO (ds : List Ent) (c : Nat) : List (Nat × Nat) := (allE ds).filter fun e => (elR ds c ++ [c]).contains e.1
def entD (ds : List Ent) : List Ent := (List.range ds.length).map fun c => (basesOf ds c, (newsE ds c).length, [])
theorem news_len {ds : List Ent} (ok : DsOk ds) (c : Nat) : (newsE ds c).length ≤ 3 := by
  unfold newsE
  rw [List.length_map]
  exact Nat.le_trans (List.length_filter_le _ _) (meths_len ok c)
theorem allE_len {ds : List Ent} (ok : DsOk ds) : (allE ds).length ≤ 3 * ds.length := by
  have sub : ∀ i, ((List.range i).flatMap (newsE ds)).length ≤ 3 * i := fun i => by
    induction i with
    | zero => exact Nat.le_refl _
    | succ i ih =>
      rw [List.range_succ, List.flatMap_append, List.length_append, List.flatMap_cons, List.flatMap_nil, List.append_nil]
      have := news_len ok i
      omega
  exact sub ds.length
theorem news_mem {ds : List Ent} {c : Nat} {e : Nat × Nat} (h : e ∈ newsE ds c) : e.1 = c ∧ e.2 ∈ methsOf ds c ∧ defL ds c e.2 = [c] := by
  obtain ⟨m, hm, rfl⟩ := List.mem_map.mp h
  obtain ⟨h1, h2⟩ := List.mem_filter.mp hm
  exact ⟨rfl, h1, of_decide_eq_true h2⟩
theorem allE_mem {ds : List Ent} {e : Nat × Nat} (h : e ∈ allE ds) : e.1 < ds.length ∧ e ∈ newsE ds e.1 := by
  obtain ⟨c, hc, h⟩ := List.mem_flatMap.mp h
  have := (news_mem h).1
  rw [this]
  exact ⟨List.mem_range.mp hc, h⟩
theorem count_news {ds : List Ent} {c : Nat} : ∀ {l : List Nat}, l.Nodup → ((l.flatMap (newsE ds)).map fun e => ((e.1 : Nat) : Int)).count (c : Int) = if c ∈ l then (newsE ds c).length else 0
  | [], _ => rfl
  | a :: r, nd => by
    rw [List.nodup_cons] at nd
    rw [List.flatMap_cons, List.map_append, List.count_append, count_news nd.2]
    by_cases q : c = a
    · subst q
      have e : ((newsE ds c).map fun e => ((e.1 : Nat) : Int)) = List.replicate (newsE ds c).length (c : Int) := List.eq_replicate_iff.mpr ⟨List.length_map _, fun x hx => by
        obtain ⟨e, he, rfl⟩ := List.mem_map.mp hx
        rw [(news_mem he).1]⟩
      rw [e, List.count_replicate_self, if_neg nd.1, if_pos List.mem_cons_self]
      omega
    · have e : ((newsE ds a).map fun e => ((e.1 : Nat) : Int)).count (c : Int) = 0 := List.count_eq_zero.mpr fun h => by
        obtain ⟨e, he, h⟩ := List.mem_map.mp h
        have := (news_mem he).1
        omega
      rw [e, Nat.zero_add]
      by_cases z : c ∈ r
      · rw [if_pos z, if_pos (List.mem_cons_of_mem _ z)]
      · rw [if_neg z, if_neg fun h => (List.mem_cons.mp h).elim q z]
theorem entD_len (ds : List Ent) : (entD ds).length = ds.length := by
  unfold entD
  rw [List.length_map, List.length_range]
theorem entD_get {ds : List Ent} {c : Nat} (h : c < ds.length) : (entD ds)[c]? = some (basesOf ds c, (newsE ds c).length, []) := by
  unfold entD
  rw [List.getElem?_map, List.getElem?_range h]
  rfl
theorem entD_ok {ds : List Ent} (ok : DsOk ds) : DsOk (entD ds) := fun i d h => by
  have hi := (List.getElem?_eq_some_iff.mp h).1
  rw [entD_len] at hi
  rw [entD_get hi] at h
  obtain rfl := Option.some.inj h
  obtain ⟨d, hd⟩ : ∃ d, ds[i]? = some d := ⟨_, List.getElem?_eq_getElem hi⟩
  have e : basesOf ds i = d.1 := by
    unfold basesOf
    rw [List.getD_eq_getElem?_getD, hd]
    rfl
  obtain ⟨o1, o2, o3, _⟩ := ok i d hd
  exact ⟨by rw [e]; exact o1, by rw [e]; exact o2, by rw [e]; exact o3, news_len ok i, .nil, (fun m hm => by cases hm), Nat.zero_le _⟩
/-- a row of the world of entries -/
def RowD (H : Hp) (v : V) (b : List Nat × Nat) : Prop := ∃ a ab am, v = .ref a ∧ H a = some (.tup [.ref ab, natV b.2, .ref am]) ∧ H ab = some (.tup (b.1.map natV)) ∧ H am = some (.tup [])
theorem rel_row : RelOk RowD := ⟨fun s ⟨a, ab, am, e, h1, h2, h3⟩ => ⟨a, ab, am, e, s _ _ h1, s _ _ h2, s _ _ h3⟩, fun hD _ ⟨a, ab, am, e, h1, h2, h3⟩ => ⟨a, ab, am, e, upB (fun z => by rw [z, hD] at h1; cases h1) h1, upB (fun z => by rw [z, hD] at h2; cases h2) h2, upB (fun z => by rw [z, hD] at h3; cases h3) h3⟩⟩
section
variable {P : Program} {w : World} {K : PySem.W.Frag} {mg : Str → Option Value} {base : Heap} {f C CL Cn CHo CS : Addr} {fd : FuncData}
def spEntO (C : Addr) : Sp := fun vs H Q _ => ∃ (p : Addr) (ds : List Ent) (c : Nat), vs = [.ref p, natV c] ∧ WorldAt H p C ds ∧ DsOk ds ∧ ds.length ≤ 12 ∧ c < ds.length ∧ ∀ t us H', Same H H' → H' t = some (.tup us) → PairsAt H' us (entO ds c) → Q (.ref t) H'
theorem sc_entO : FnScope ["world", "c", "among", "entry"] ["world", "c"] (defScope (top 42)) := ⟨rfl, rfl, rfl, by decide +kernel, rfl, by decide +kernel, by decide +kernel⟩
theorem ok_entO {f_all_entries f_check_class : Addr} {fd_all_entries fd_check_class : FuncData} (F : FnP K "entries_of" 42 f fd)
    (B : Fr mg)
    (TC : ClsWorld K mg C)
    (F_check_class : FnP K "check_class" 17 f_check_class fd_check_class)
    (m_check_class : mg "check_class" = some (.ref f_check_class))
    (G_check_class : FnOk P w K mg base (L2.CX P w) 3 f_check_class fd_check_class ["world", "c"] (spCheck C Cn))
    (F_all_entries : FnP K "all_entries" 41 f_all_entries fd_all_entries)
    (m_all_entries : mg "all_entries" = some (.ref f_all_entries))
    (G_all_entries : FnOk P w K mg base CX0 5 f_all_entries fd_all_entries ["world"] (spAllE C)) :
    FnOk P w K mg base CX0 6 f fd ["world", "c"] (spEntO C) := by
  have b_check_class : L2.Binds K fd_check_class ["world", "c"] [] := F_check_class.bindsN fun _ _ _ _ _ _ us hl => match us, hl with | [_, _], _ => rfl
  have b_all_entries : L2.Binds K fd_all_entries ["world"] [] := F_all_entries.bindsN fun _ _ _ _ _ _ us hl => match us, hl with | [_], _ => rfl
  refine F.ok sc_entO (fun vs H Q E h => ?_) (fun cdv A outer s H vs Q E hr h => ?_)
  · obtain ⟨p, ds, c, rfl, _⟩ := h
    rfl
  · obtain ⟨p, ds, c, rfl, hw, ok, h12, hc, k⟩ := h
    refine ⟨_, PSs.nox (pss_cons (ps_set (i := 2) sc_entO.nd rfl (Or.inr rfl) (pe_op (r := rCatQ K) op_catQ (pe_ix (r := rIxT K) ix_tup (pe_fld (pv 0) rfl) (pe_call G_check_class (hr.mono (by decide)) (by rfl) m_check_class F_check_class.kp b_check_class .nil (passOut (E := fun _ _ _ => False)) (pa_cons (pv 0) (pa_cons (pv 1) pa_nil))) (fun _ _ => rfl)) (pe_tup (pa_cons (pv 1) pa_nil))))
      (pss_one (ps_ret (pe_callTy (T := "tuple") (r := rTupOf K) (call_tup (X := _)) (by rfl) B.tuple (by decide +kernel) (pa_cons (pe_lc (own := [("entry", 3)]) (g := (gName 3)) (tt := (tTest (tOp (rIn K false) (tOp (rIxT K) (tVar 3) (tC (.int 0))) (tVar 2)))) (te := (tVar 3)) rfl sc_entO.nd (pi_tup (pe_call G_all_entries (hr.mono (by decide)) (by rfl) m_all_entries F_all_entries.kp b_all_entries .nil pass0 (pa_cons (pv 0) pa_nil))) (blkOk_by (N := ["world", "c", "among", "entry"]) (sc := defScope (top 42)) (by decide +kernel)) (fun _ _ _ _ _ => (pg_name (i := 3) sc_entO.nd rfl (Or.inl rfl))) (fun _ _ _ _ _ => ?x0) (fun _ _ _ _ _ => (pv 3))) pa_nil))))), ?_⟩
    case x0 => exact pts_one (pt_cmpR (r := (rIn K false)) op_in_seq (pe_ix (r := rIxT K) ix_tup (pv 3) pe_int (fun _ _ => rfl)) (pv 2) (by rfl))
    obtain ⟨dx, fs, ae, es, t1, p1, p2, p3, p4, p5⟩ := hw.elder hc
    refine ⟨_, rfl, p, C, dx, _, _, rfl, p1, TC.cl, TC.no _ (List.mem_of_getElem? (i := 4) rfl), p2, _, rfl, _, rfl, p, natV c, "int", ds, rfl, hw, .int _, .inl ⟨whole_of hc, fun H1 s1 => ?_⟩⟩
    refine ⟨ae, es, (c : Int), _, rfl, rfl, SqT.of (s1 _ _ p3), atI_nat p4, _, rfl, (by show 1 ≤ sizeLine; decide), fun T hT => ?_⟩
    have sT := same_new (o := .tup [natV c]) hT
    have elen : ((elsOf ds).getD c []).length ≤ 12 := by
      have := kin_len ok hc h12
      rw [kins_els hc, List.length_append] at this
      omega
    refine cat_q (H0 := H1) (xs := ((elsOf ds).getD c []).map natV) (ys := [natV c]) (s1 _ _ p5) upd_same (by rw [List.length_map]; show _ + 1 ≤ 2 ^ 24; omega) sT fun t2 H2 s2 ht2 => ?_
    have ek : ((elsOf ds).getD c []).map natV ++ [natV c] = (elR ds c ++ [c]).map natV := by
      rw [List.map_append]
      rfl
    rw [ek] at ht2
    have s12 := s1.trans s2
    refine ⟨_, rfl, p, ds, rfl, hw.mono s12, ok, h12, fun t us H3 s3 ht hP => ⟨t, rfl, ⟨_, SqT.of ht⟩, fun D hD => ?_⟩⟩
    have ul := hP.len
    have al := allE_len ok
    refine lc_tupA rel_ps ((allE ds).map fun e => if (elR ds c ++ [c]).contains e.1 = true then some e else none) hD (by rw [List.length_map, ul]) (by show _ < 2 ^ 20; omega) (fun H' s' => SqT.of (s' _ _ ht)) (fun j x cc hj hcc H4 s4 N M _ hN hM => ?_) (fun H4 vs4 s4 D4 P4 => ?_)
    · obtain ⟨e, u, he, rfl, hu⟩ := hP.get4 hj
      rw [List.getElem?_map, he] at hcc
      have hcc : (if (elR ds c ++ [c]).contains e.1 = true then some e else none) = cc := Option.some.inj hcc
      have g0 : ([natV e.1, natV e.2] : List V)[(0 : Nat)]? = some (natV e.1) := rfl
      refine ⟨rfl, _, rfl, u, _, ((0 : Nat) : Int), _, rfl, rfl, SqT.of (s4 _ _ hu), atI_nat g0, _, rfl, t2, _, rfl, .inr (SqT.of (s4 _ _ (s3 _ _ ht2))), rfl, flat_nats _, _, rfl, ?_⟩
      show (if inV (natV e.1) ((elR ds c ++ [c]).map natV) = true then _ else _)
      rw [inV_nat]
      cases q : (elR ds c ++ [c]).contains e.1 with
      | true =>
        rw [q] at hcc
        exact iteT' rfl ⟨_, rfl, hN _ hcc.symm _ _ (Same.refl _) (fun z => by cases z; rw [hD] at hu; cases hu) ⟨u, rfl, s4 _ _ hu⟩⟩
      | false =>
        rw [q] at hcc
        exact iteF' rfl (hM hcc.symm _ (Same.refl _))
    · rw [some_filters (fun e : Nat × Nat => e) (fun e : Nat × Nat => (elR ds c ++ [c]).contains e.1), List.map_id'] at P4
      exact tup_q (.inl D4) fun t H5 s5 ht5 => k t vs4 H5 (((s12.trans s3).trans s4).trans s5) ht5 (PairsAt.same s5 P4)
def spEntW (C : Addr) : Sp := fun vs H Q _ => ∃ (p : Addr) (ds : List Ent), vs = [.ref p] ∧ WorldAt H p C ds ∧ DsOk ds ∧ 1 ≤ ds.length ∧ ds.length ≤ 12 ∧ ∀ t H', Same H H' → WorldAt H' t C (entD ds) → Q (.ref t) H'
theorem sc_entW : FnScope ["world", "owners", "c", "_", "bases"] ["world"] (defScope (top 43)) := ⟨rfl, rfl, rfl, by decide +kernel, rfl, by decide +kernel, by decide +kernel⟩
theorem ok_entW {f_World___init__ f_all_entries : Addr} {fd_World___init__ fd_all_entries : FuncData} (F : FnP K "entry_world" 43 f fd)
    (B : Fr mg)
    (F_all_entries : FnP K "all_entries" 41 f_all_entries fd_all_entries)
    (m_all_entries : mg "all_entries" = some (.ref f_all_entries))
    (G_all_entries : FnOk P w K mg base CX0 5 f_all_entries fd_all_entries ["world"] (spAllE C))
    (F_World___init__ : FnM K "__init__" "World.__init__" (inClass (top 24) 0) f_World___init__ fd_World___init__)
    (G_World___init__ : FnOk P w K mg base (L2.CX P w) 4 f_World___init__ fd_World___init__ ["self", "classes"] (spWorld C Cb))
    (MK_World : Mk K C f_World___init__)
    (m_World : mg "World" = some (.ref C))
    (TC : ClsWorld K mg C) :
    FnOk P w K mg base CX0 9 f fd ["world"] (spEntW C) := by
  have b_all_entries : L2.Binds K fd_all_entries ["world"] [] := F_all_entries.bindsN fun _ _ _ _ _ _ us hl => match us, hl with | [_], _ => rfl
  have b_World___init__ : L2.Binds K fd_World___init__ ["self", "classes"] [] := F_World___init__.bindsN fun _ _ _ _ _ _ us hl => match us, hl with | [_, _], _ => rfl
  refine F.ok sc_entW (fun vs H Q E h => ?_) (fun cdv A outer s H vs Q E hr h => ?_)
  · obtain ⟨p, ds, rfl, _⟩ := h
    rfl
  · obtain ⟨p, ds, rfl, hw, ok, d1, h12, k⟩ := h
    refine ⟨_, PSs.nox (pss_cons (ps_set (i := 1) sc_entW.nd rfl (Or.inr rfl) (pe_lc (own := [("c", 2), ("_", 3)]) (g := (gTup K 2 (gCons (gName 2) (gCons (gName 3) gNil)))) (tt := tYes) (te := (tVar 2)) rfl sc_entW.nd (pi_tup (pe_call G_all_entries (hr.mono (by decide)) (by rfl) m_all_entries F_all_entries.kp b_all_entries .nil pass0 (pa_cons (pv 0) pa_nil))) (blkOk_by (N := ["world", "owners", "c", "_", "bases"]) (sc := defScope (top 43)) (by decide +kernel)) (fun _ _ _ _ _ => (pg_tup (by rfl) (pgs_cons (pg_name (i := 2) sc_entW.nd rfl (Or.inl rfl)) (pgs_cons (pg_name (i := 3) sc_entW.nd rfl (Or.inl rfl)) pgs_nil)))) (fun _ _ _ _ _ => pts_nil) (fun _ _ _ _ _ => (pv 2))))
      (pss_one (ps_ret (pe_make MK_World G_World___init__ (hr.mono (by decide)) (by rfl) m_World b_World___init__ .nil (passOut (E := fun _ _ _ => False)) (pa_cons (pe_lc (own := [("c", 2), ("bases", 4)]) (g := (gTup K 2 (gCons (gName 2) (gCons (gName 4) gNil)))) (tt := tYes) (te := (tTup (tCons (tVar 4) (tCons (tBM K "list" (rCntI K) (tVar 1) (tCons (tVar 2) tNil)) (tCons (tTup tNil) tNil))))) rfl sc_entW.nd (pi_enumT (by rfl) B.enumerate (pa_cons (pe_fld (pv 0) rfl) pa_nil)) (blkOk_by (N := ["world", "owners", "c", "_", "bases"]) (sc := defScope (top 43)) (by decide +kernel)) (fun _ _ _ _ _ => (pg_tup (by rfl) (pgs_cons (pg_name (i := 2) sc_entW.nd rfl (Or.inl rfl)) (pgs_cons (pg_name (i := 4) sc_entW.nd rfl (Or.inl rfl)) pgs_nil)))) (fun _ _ _ _ _ => pts_nil) (fun _ _ _ _ _ => ?x0)) pa_nil))))), ?_⟩
    case x0 => exact (pe_tup (pa_cons (pv 4) (pa_cons (pe_bm PySem.F.plainAttrs_list PySem.F.slot_list_count PySem.F.type_list_count mt_lcount (pv 1) (pa_cons (pv 2) pa_nil)) (pa_cons (pe_tup pa_nil) pa_nil))))
    have al := allE_len ok
    refine ⟨_, rfl, p, ds, rfl, hw, ok, h12, fun t us H1 s1 ht hP => ⟨t, rfl, ⟨_, SqT.of ht⟩, fun O hO => ?_⟩⟩
    have ul := hP.len
    refine lc_tupA rel_int ((allE ds).map fun e => some ((e.1 : Nat) : Int)) hO (by rw [List.length_map, ul]) (by show _ < 2 ^ 20; omega) (fun H' s' => SqT.of (s' _ _ ht)) (fun j x cc hj hcc H2 s2 N M _ hN hM => ?_) (fun H2 vs2 s2 O2 P2 => ?_)
    · obtain ⟨e, u, he, rfl, hu⟩ := hP.get4 hj
      rw [List.getElem?_map, he] at hcc
      have hcc : some ((e.1 : Nat) : Int) = cc := Option.some.inj hcc
      exact ⟨u, _, rfl, SqT.of (s2 _ _ hu), rfl, _, _, rfl, _, _, rfl, rfl, rfl, _, rfl, hN _ hcc.symm _ _ (Same.refl _) (fun z => by cases z) rfl⟩
    rw [some_maps (fun e : Nat × Nat => ((e.1 : Nat) : Int))] at P2
    rw [paired_int (H := H2) P2] at O2
    have hw2 := hw.mono (s1.trans s2)
    obtain ⟨dx, ac, ab, ao, am, ae, ah, cs, bs, ms, es, hs, h1, h2, h3, h4, h5, _⟩ := id hw2
    have bl : bs.length = ds.length := by
      have := Paired.length h5
      rw [List.length_map] at this
      exact this
    refine ⟨_, rfl, p, C, dx, _, _, rfl, h1, TC.cl, TC.no _ (List.mem_of_getElem? (i := 1) rfl), rfl, ab, bs, rfl, SqT.of h4, fun D hD => ?_⟩
    refine lc_enumTA rel_row ((List.range ds.length).map fun c => some (basesOf ds c, (newsE ds c).length)) hD (by rw [List.length_map, List.length_range, bl]) (by omega) (fun H' s' => SqT.of (s' _ _ h4)) (fun i x cc T H3 hx hcc s3 hT N M ⟨u0, hu0⟩ hN hM => ?_) (fun H3 vs3 s3 D3 P3 => ?_)
    · have il := (List.getElem?_eq_some_iff.mp hx).1
      obtain ⟨d, hd⟩ : ∃ d, ds[i]? = some d := ⟨_, List.getElem?_eq_getElem (by omega)⟩
      have ed : basesOf ds i = d.1 := by
        unfold basesOf
        rw [List.getD_eq_getElem?_getD, hd]
        rfl
      rw [List.getElem?_map, List.getElem?_range (by omega)] at hcc
      have hcc : some (basesOf ds i, (newsE ds i).length) = cc := Option.some.inj hcc
      obtain ⟨tb, e1, e2⟩ := h5.get (i := i) (l := d.1) (by rw [List.getElem?_map, hd]; rfl)
      rw [hx] at e1
      obtain rfl := Option.some.inj e1
      have sT := same_new (o := .tup [.int (i : Nat), .ref tb]) hT
      have s23 := s3.trans sT
      refine ⟨T, _, rfl, SqT.of upd_same, rfl, _, _, rfl, _, _, rfl, rfl, rfl, ?_⟩
      have O4 := s23 _ _ O2
      refine ⟨_, rfl, _, rfl, .inl ⟨rfl, _, SqL.of O4⟩, _, rfl, O, _, (i : Int), rfl, rfl, SqL.of O4, ?_⟩
      have ec : ((allE ds).map fun e => ((e.1 : Nat) : Int)).count (i : Int) = (newsE ds i).length := by
        unfold allE
        rw [count_news List.nodup_range, if_pos (List.mem_range.mpr (by omega))]
      rw [ec]
      refine ⟨(by show 0 ≤ sizeLine; decide), fun T0 hT0 => ⟨(by show 3 ≤ sizeLine; decide), fun T3 hT3 => ?_⟩⟩
      have s0 := same_new (o := .tup []) hT0
      have s3' := same_new (o := .tup [.ref tb, natV (newsE ds i).length, .ref T0]) hT3
      exact hN _ hcc.symm _ _ (s0.trans s3') (fun z => by cases z; exact absurd ((s0 _ _ hu0).symm.trans hT3) (fun z => by cases z)) ⟨T3, tb, T0, rfl, upd_same, by rw [ed]; exact s3' _ _ (s0 _ _ (s23 _ _ e2)), s3' _ _ upd_same⟩
    · have P3' : Paired (RowD H3) vs3 ((List.range ds.length).map fun c => (basesOf ds c, (newsE ds c).length)) := by
        have := P3
        rw [some_maps (fun c => (basesOf ds c, (newsE ds c).length))] at this
        exact this
      have vl := Paired.length P3'
      rw [List.length_map, List.length_range] at vl
      refine fun x dx2 hx hdx ne => ?_
      have sX := (same_new (o := .own x) hdx).trans (same_new (o := .ins C dx2 []) (by rw [upd_ne (Ne.symm ne)]; exact hx))
      refine ⟨x, dx2, .ref D, rfl, upd_same, .inr ⟨D, vs3, entD ds, rfl, .inl (sX _ _ D3), by omega, by omega, by rw [entD_len]; omega, fun i d hd => ?_, .inr ⟨by rw [entD_len, vl], fun H' O' hw' => ⟨rfl, k x H' ?_ hw'⟩⟩⟩⟩
      · have ok2 := entD_ok ok i d hd
        have hi := (List.getElem?_eq_some_iff.mp hd).1
        rw [entD_len] at hi
        obtain ⟨v, hv⟩ : ∃ v, vs3[i]? = some v := ⟨_, List.getElem?_eq_getElem (by omega)⟩
        obtain ⟨b, hb, a, ab2, am2, rfl, r1, r2, r3⟩ := paired_get P3' hv
        rw [List.getElem?_map, List.getElem?_range hi] at hb
        have hb := Option.some.inj hb
        rw [entD_get hi] at hd
        have hd := Option.some.inj hd
        subst hb hd
        exact ⟨_, hv, a, ab2, am2, rfl, .inr (sX _ _ r1), .inr (sX _ _ r2), .inr (sX _ _ r3), ⟨ok2.1, Nat.le_trans ok2.2.2.1 (by decide), ok2.2.1⟩, ok2.2.2.2.1, .nil, Nat.zero_le _, fun m hm => by cases hm⟩
      · exact ((s1.trans s2).trans s3).trans (same_made hx hdx ne O')
end
end K57

set_option maxRecDepth 100000
set_option maxHeartbeats 8000000
namespace K57
open PySem PySem.Spec PyProof.Rows L2 Kw
theorem flatMap_sameE {α β : Type} {f g : α → List β} : ∀ {l : List α}, (∀ x ∈ l, f x = g x) → l.flatMap f = l.flatMap g
  | [], _ => rfl
  | a :: r, h => by rw [List.flatMap_cons, List.flatMap_cons, h a List.mem_cons_self, flatMap_sameE fun x hx => h x (List.mem_cons_of_mem _ hx)]
/-! ### dicts whose keys are pairs -/
def keyQ (f : Nat × Nat) : List L2.Key := [(Sum.inl (f.1 : Int) : L2.Key), Sum.inl (f.2 : Int)]
theorem keyQ_inj {f g : Nat × Nat} (h : keyQ f = keyQ g) : f = g := by
  unfold keyQ at h
  injection h with h1 h2
  injection h2 with h2 _
  have e1 : (f.1 : Int) = g.1 := Sum.inl.inj h1
  have e2 : (f.2 : Int) = g.2 := Sum.inl.inj h2
  exact Prod.ext (by omega) (by omega)
def DictP (H : Hp) (D : Addr) (fs : List (Nat × Nat)) (ys : List V) (n : Nat) : Prop := ∃ es : List (List L2.Key × V), H D = some (.dT es) ∧ es.length ≤ n ∧ ∀ j f, j < n → fs[j]? = some f → valV es (keyQ f) = ys[j]?
theorem DictP.same {H H' : Hp} {D : Addr} {fs : List (Nat × Nat)} {ys : List V} {n : Nat} (h : DictP H D fs ys n) (s : Same H H') : DictP H' D fs ys n := by
  obtain ⟨es, h1, h2⟩ := h
  exact ⟨es, s _ _ h1, h2⟩
theorem dict_put {fs : List (Nat × Nat)} {ys : List V} {i : Nat} {f : Nat × Nat} {y : V} {es : List (List L2.Key × V)} (nd : fs.Nodup) (hf : fs[i]? = some f) (hy : ys[i]? = some y) (h : ∀ j f, j < i → fs[j]? = some f → valV es (keyQ f) = ys[j]?) :
    ∀ j f', j < i + 1 → fs[j]? = some f' → valV (putK es (keyQ f) y) (keyQ f') = ys[j]? := by
  intro j f' hj hf'
  rw [valV_put]
  by_cases q : j = i
  · subst q
    rw [hf] at hf'
    obtain rfl := Option.some.inj hf'
    rw [if_pos rfl, hy]
  · rw [if_neg fun z => ?_, h j f' (by omega) hf']
    have e := keyQ_inj z
    subst e
    have il := (List.getElem?_eq_some_iff.mp hf).1
    exact q ((List.getElem?_inj (by have := (List.getElem?_eq_some_iff.mp hf').1; exact this) nd).mp (hf'.trans hf.symm))
theorem dcT_zipT {K : PySem.W.Frag} {a b2 : Addr} {xs ys : List V} {g : TG} {tt : TT} {tk tv : TE} {vs : List Nat} {σ : L2.St} {H1 : Hp} {D : Addr} {Qd : Hp → Prop} (Pv : Nat → Hp → Prop) (h0 : Pv 0 (upd H1 D (.dT []))) (yl : xs.length = ys.length) (hl : ∀ i H, Pv i H → SqT K H a xs ∧ SqT K H b2 ys)
    (hs : ∀ i x y H T, xs[i]? = some x → ys[i]? = some y → Pv i H → H T = none → g (.ref T) (wipe σ vs) (upd H T (.tup [x, y])) fun σ2 H2 => wipe σ2 vs = wipe σ vs ∧ tt σ2 H2 fun b H3 =>
      if b = true then tk σ2 H3 fun y H4 => tv σ2 H4 fun z H5 => ∃ es k t, y = .ref t ∧ H5 t = some (.tup (k.map kV)) ∧ H5 D = some (.dT es) ∧ es.length < sizeLine ∧ Pv (i + 1) (upd H5 D (.dT (putK es k z))) else Pv (i + 1) H3) (hd : ∀ H, Pv xs.length H → Qd H) :
    ∃ W : Nat → Nat → Hp → Prop, (∃ m, W 0 m (upd H1 D (.dT []))) ∧ ∀ i m H, W i m H →
      ((RZ.ItzT K a b2).stop i H ∧ Qd H) ∨ ((RZ.ItzT K a b2).go i H ∧ ∃ Nx : Hp → Prop, (∀ H', Nx H' → ∃ m', m' < m ∧ W (i + 1) m' H') ∧ ∀ x H', (RZ.ItzT K a b2).yld i H x H' → g x (wipe σ vs) H' fun σ2 H2 => wipe σ2 vs = wipe σ vs ∧ tt σ2 H2 fun b H3 =>
        if b = true then tk σ2 H3 fun y H4 => tv σ2 H4 fun z H5 => ∃ es k t, y = .ref t ∧ H5 t = some (.tup (k.map kV)) ∧ H5 D = some (.dT es) ∧ es.length < sizeLine ∧ Nx (upd H5 D (.dT (putK es k z))) else Nx H3) := by
  refine ⟨fun i m H => m = xs.length - i ∧ i ≤ xs.length ∧ Pv i H, ⟨xs.length, rfl, Nat.zero_le _, h0⟩, ?_⟩
  rintro i m H ⟨rfl, hi, p⟩
  obtain ⟨qx, qy⟩ := hl i H p
  by_cases hlt : i < xs.length
  · have hx : xs[i]? = some xs[i] := List.getElem?_eq_getElem hlt
    have hlt2 : i < ys.length := by omega
    have hy : ys[i]? = some ys[i] := List.getElem?_eq_getElem hlt2
    refine .inr ⟨⟨xs, ys, _, _, qx, qy, hx, hy⟩, Pv (i + 1), fun H' p' => ⟨xs.length - (i + 1), by omega, rfl, hlt, p'⟩, fun v H' y => ?_⟩
    obtain ⟨T, x', y', rfl, hT, rfl, f1, f2⟩ := y
    exact hs i x' y' H T (f1 xs qx) (f2 ys qy) p hT
  · have e : i = xs.length := by omega
    subst e
    exact .inl ⟨⟨xs, ys, qx, qy, Or.inl (Nat.le_refl _)⟩, hd H p⟩
/-! ### fields of the world of entries, entries, places: side by side -/
theorem ownE {ds : List Ent} {c : Nat} (h : c < ds.length) : owN (entD ds) c = (newsE ds c).length := by
  unfold owN
  rw [List.getD_eq_getElem?_getD, entD_get h]
  rfl
theorem elsE (ds : List Ent) : elsOf (entD ds) = elsOf ds := by
  unfold elsOf
  congr 1
  refine List.ext_getElem? fun i => ?_
  rw [List.getElem?_map, List.getElem?_map]
  by_cases q : i < ds.length
  · rw [entD_get q, List.getElem?_eq_getElem q]
    show some (basesOf ds i) = some _
    unfold basesOf
    rw [List.getD_eq_getElem?_getD, List.getElem?_eq_getElem q]
    rfl
  · rw [List.getElem?_eq_none (by rw [entD_len]; omega), List.getElem?_eq_none (by omega)]
theorem elE (ds : List Ent) (c : Nat) : elR (entD ds) c = elR ds c := by
  unfold elR
  rw [elsE]
theorem allE_cls {ds : List Ent} : (allF (entD ds)).map (·.1) = (allE ds).map (·.1) := by
  unfold allF fldK allE
  rw [List.map_flatMap, List.map_flatMap, entD_len]
  refine flatMap_sameE fun c hc => ?_
  have a : ((rowF (entD ds) c).map (·.1)) = List.replicate (newsE ds c).length c := by
    refine List.eq_replicate_iff.mpr ⟨?_, fun x hx => ?_⟩
    · unfold rowF
      rw [List.length_map, List.length_map, List.length_range, ownE (List.mem_range.mp hc)]
    · obtain ⟨f, hf, rfl⟩ := List.mem_map.mp hx
      obtain ⟨i, _, rfl⟩ := List.mem_map.mp hf
      rfl
  have b : ((newsE ds c).map (·.1)) = List.replicate (newsE ds c).length c := List.eq_replicate_iff.mpr ⟨List.length_map _, fun x hx => by
    obtain ⟨e, he, rfl⟩ := List.mem_map.mp hx
    exact (news_mem he).1⟩
  rw [a, b]
theorem allE_fl {ds : List Ent} : (allF (entD ds)).length = (allE ds).length := by
  have := congrArg List.length (allE_cls (ds := ds))
  rw [List.length_map, List.length_map] at this
  exact this
theorem rowF_nodupE (ds : List Ent) (c : Nat) : (rowF ds c).Nodup := List.pairwise_map.mpr (List.nodup_range.imp fun h e => h (Prod.mk.inj e).2)
theorem flat_nodup {ds : List Ent} {R : Nat → List (Nat × Nat)} (hn : ∀ c, (R c).Nodup) (hc : ∀ c, ∀ f ∈ R c, f.1 = c) : ∀ {ks : List Nat}, ks.Nodup → (ks.flatMap R).Nodup
  | [], _ => .nil
  | k :: r, h => by
    obtain ⟨h1, h2⟩ := List.nodup_cons.mp h
    rw [List.flatMap_cons]
    refine List.nodup_append.mpr ⟨hn k, flat_nodup (ds := ds) hn hc h2, fun a ha b hb e => ?_⟩
    subst e
    obtain ⟨k2, hk2, hb⟩ := List.mem_flatMap.mp hb
    have : k2 = k := (hc _ _ hb).symm.trans (hc _ _ ha)
    exact h1 (this ▸ hk2)
theorem allF_nodupE (ds : List Ent) : (allF ds).Nodup := flat_nodup (ds := ds) (rowF_nodupE ds) (fun c f hf => by
  obtain ⟨i, _, rfl⟩ := List.mem_map.mp hf
  rfl) List.nodup_range
theorem allE_nodup {ds : List Ent} (ok : DsOk ds) : (allE ds).Nodup := flat_nodup (ds := ds) (fun c => by
  have : (methsOf ds c).Pairwise (· < ·) := by
    unfold methsOf
    rw [List.getD_eq_getElem?_getD]
    cases e : ds[c]? with
    | none => exact .nil
    | some d => exact (ok c d e).2.2.2.2.1
  unfold newsE
  exact List.pairwise_map.mpr ((List.Pairwise.filter _ this).imp fun {a b} h e => by have := (Prod.mk.inj e).2; omega)) (fun c f hf => (news_mem hf).1) List.nodup_range
def kinI (ds : List Ent) (c x : Nat) : Bool := (elR ds c ++ [c]).contains x
def trp (ds : List Ent) (zs : List Int) : List ((Nat × Nat) × ((Nat × Nat) × Int)) := (allF (entD ds)).zip ((allE ds).zip zs)
/-- the entries that a class has, with their places -/
def minE (ds : List Ent) (zs : List Int) (c : Nat) : List ((Nat × Nat) × Int) := ((allE ds).zip zs).filter fun e => kinI ds c e.1.1
def cellT (ds : List Ent) (zs : List Int) (c : Nat) (p : Int) : List ((Nat × Nat) × ((Nat × Nat) × Int)) := ((trp ds zs).filter fun t => kinI ds c t.1.1).filter fun t => decide (t.2.2 = p)
section
variable {ds : List Ent} {zs : List Int} {c : Nat}
theorem trp_get {t : (Nat × Nat) × ((Nat × Nat) × Int)} (h : t ∈ trp ds zs) : ∃ j : Nat, (allF (entD ds))[j]? = some t.1 ∧ (allE ds)[j]? = some t.2.1 ∧ zs[j]? = some t.2.2 := by
  obtain ⟨j, hj⟩ := List.mem_iff_getElem?.mp h
  unfold trp at hj
  rw [List.getElem?_zip_eq_some] at hj
  obtain ⟨h1, h2⟩ := hj
  rw [List.getElem?_zip_eq_some] at h2
  exact ⟨j, h1, h2.1, h2.2⟩
theorem trp_cls {t : (Nat × Nat) × ((Nat × Nat) × Int)} (h : t ∈ trp ds zs) : t.1.1 = t.2.1.1 := by
  obtain ⟨j, h1, h2, _⟩ := trp_get h
  have e := congrArg (fun l => l[j]?) (allE_cls (ds := ds))
  simp only [List.getElem?_map, h1, h2] at e
  exact Option.some.inj e
theorem trp_at {t : (Nat × Nat) × ((Nat × Nat) × Int)} (h : t ∈ trp ds zs) : zAt (entD ds) zs t.1 = t.2.2 := by
  obtain ⟨j, h1, _, h3⟩ := trp_get h
  have e : (allF (entD ds)).idxOf t.1 = j := by
    have m := List.mem_of_getElem? h1
    have l := List.idxOf_lt_length_iff.mpr m
    have g : (allF (entD ds))[(allF (entD ds)).idxOf t.1]? = some t.1 := by rw [List.getElem?_eq_getElem l]; exact congrArg some (List.getElem_idxOf l)
    exact (List.getElem?_inj l (allF_nodupE _)).mp (g.trans h1.symm)
  unfold zAt
  rw [e, List.getD_eq_getElem?_getD, h3]
  rfl
theorem kinI_or {x : Nat} : (decide (x = c) || (elR (entD ds) c).contains x) = kinI ds c x := by
  unfold kinI
  rw [elE, Bool.eq_iff_iff, Bool.or_eq_true, decide_eq_true_eq, List.contains_iff_mem, List.contains_iff_mem, List.mem_append, List.mem_singleton]
  exact ⟨fun h => h.elim .inr .inl, fun h => h.elim .inr .inl⟩
theorem fld_trp (hc : c < ds.length) (zl : zs.length = (allF (entD ds)).length) : fldO (entD ds) c = ((trp ds zs).filter fun t => kinI ds c t.1.1).map (·.1) := by
  have e1 : (trp ds zs).map (·.1) = allF (entD ds) := List.map_fst_zip (by rw [List.length_zip, allE_fl] ; have := allE_fl (ds := ds); omega)
  rw [← fldO_filter (ds := entD ds) (by rw [entD_len]; exact hc), ← e1, List.filter_map]
  congr 1
  exact List.filter_congr fun t _ => kinI_or
theorem min_trp (zl : zs.length = (allF (entD ds)).length) : minE ds zs c = ((trp ds zs).filter fun t => kinI ds c t.1.1).map (·.2) := by
  have e1 : (trp ds zs).map (·.2) = (allE ds).zip zs := List.map_snd_zip (by rw [List.length_zip, allE_fl]; omega)
  unfold minE
  rw [← e1, List.filter_map]
  congr 1
  exact List.filter_congr fun t ht => by
    show kinI ds c t.2.1.1 = _
    rw [trp_cls ht]
theorem cell_fst (hc : c < ds.length) (zl : zs.length = (allF (entD ds)).length) {p : Int} : cellF (entD ds) zs c p = (cellT ds zs c p).map (·.1) := by
  unfold cellF cellT
  rw [fld_trp hc zl, List.filter_map]
  congr 1
  exact List.filter_congr fun t ht => by
    show decide (zAt (entD ds) zs t.1 = p) = _
    rw [trp_at (List.mem_filter.mp ht).1]
theorem cell_snd (zl : zs.length = (allF (entD ds)).length) {p : Int} : (minE ds zs c).filter (fun e => decide (e.2 = p)) = (cellT ds zs c p).map (·.2) := by
  unfold cellT
  rw [min_trp zl, List.filter_map]
  rfl
theorem plC_min (hc : c < ds.length) (zl : zs.length = (allF (entD ds)).length) : plC (entD ds) zs c = (minE ds zs c).map (·.2) := by
  unfold plC
  rw [fld_trp hc zl, min_trp zl, List.map_map, List.map_map]
  exact List.map_congr_left fun t ht => trp_at (List.mem_filter.mp ht).1
end
/-- an entry and its answers, as they stand -/
def AnsW (H : Hp) (v : V) (b : (Nat × Nat) × List Nat) : Prop := ∃ t u a, v = .ref t ∧ H t = some (.tup [.ref u, .ref a]) ∧ H u = some (.tup [natV b.1.1, natV b.1.2]) ∧ H a = some (.tup (b.2.map natV))
theorem rel_ans : RelOk AnsW := ⟨fun s ⟨t, u, a, e, h1, h2, h3⟩ => ⟨t, u, a, e, s _ _ h1, s _ _ h2, s _ _ h3⟩, fun hD _ ⟨t, u, a, e, h1, h2, h3⟩ => ⟨t, u, a, e, upB (fun z => by rw [z, hD] at h1; cases h1) h1, upB (fun z => by rw [z, hD] at h2; cases h2) h2, upB (fun z => by rw [z, hD] at h3; cases h3) h3⟩⟩
/-- a cell of a row of the table -/
def CelW (H : Hp) (v : V) (o : Option (List ((Nat × Nat) × List Nat))) : Prop := (o = none ∧ v = .str "head") ∨ ∃ l t us, o = some l ∧ v = .ref t ∧ H t = some (.tup us) ∧ Paired (AnsW H) us l
theorem rel_cel : RelOk CelW := ⟨fun s h => h.imp id fun ⟨l, t, us, e1, e2, h1, h2⟩ => ⟨l, t, us, e1, e2, s _ _ h1, paired_imp (fun _ _ z => rel_ans.same s z) h2⟩,
  fun hD _ h => h.imp id fun ⟨l, t, us, e1, e2, h1, h2⟩ => ⟨l, t, us, e1, e2, upB (fun z => by rw [z, hD] at h1; cases h1) h1, paired_imp (fun _ _ ⟨t, u, a, e, h1, h2, h3⟩ => ⟨t, u, a, e, upB (fun z => by rw [z, hD] at h1; cases h1) h1, upB (fun z => by rw [z, hD] at h2; cases h2) h2, upB (fun z => by rw [z, hD] at h3; cases h3) h3⟩) h2⟩⟩
def loE (ds : List Ent) (zs : List Int) (c : Nat) : Int := lowZ ((minE ds zs c).map (·.2))
def spanE (ds : List Ent) (zs : List Int) (c : Nat) : Nat := (highZ ((minE ds zs c).map (·.2)) + 1 - loE ds zs c).toNat
def celE (ds : List Ent) (zs : List Int) (c : Nat) (p : Int) : Option (List ((Nat × Nat) × List Nat)) := if p = 0 then none else some (((minE ds zs c).filter fun e => decide (e.2 = p)).map fun e => (e.1, ansL ds c e.1.2))
/-- a class's row of the table -/
def rowE (ds : List Ent) (zs : List Int) (c : Nat) : List (Option (List ((Nat × Nat) × List Nat))) := (List.range (spanE ds zs c)).map fun (i : Nat) => celE ds zs c (loE ds zs c + (i : Int))
def RowW (H : Hp) (t : Addr) (row : List (Option (List ((Nat × Nat) × List Nat)))) : Prop := ∃ us, H t = some (.tup us) ∧ Paired (CelW H) us row
theorem RowW.same {H H' : Hp} {t : Addr} {row : List (Option (List ((Nat × Nat) × List Nat)))} (h : RowW H t row) (s : Same H H') : RowW H' t row := by
  obtain ⟨us, h1, h2⟩ := h
  exact ⟨us, s _ _ h1, paired_imp (fun _ _ z => rel_cel.same s z) h2⟩
section
variable {P : Program} {w : World} {K : PySem.W.Frag} {mg : Str → Option Value} {base : Heap} {f C CL Cn CHo CS : Addr} {fd : FuncData}
theorem layHead : LayD 0 (.str "head") := ⟨by simp [PyData.canLay0]; decide +kernel, by simp [PyData.depth]⟩
theorem cels_upd {H : Hp} {R : Addr} {xs ys : List V} (hR : H R = some (.lst xs)) {us : List V} {l : List (Option (List ((Nat × Nat) × List Nat)))} (h : Paired (CelW H) us l) : Paired (CelW (upd H R (.lst ys))) us l := paired_imp (fun _ _ h => h.imp id fun ⟨l, t, us, e1, e2, h1, h2⟩ => ⟨l, t, us, e1, e2, upB (fun z => by rw [z, hR] at h1; cases h1) h1, paired_imp (fun _ _ ⟨t, u, a, e, h1, h2, h3⟩ => ⟨t, u, a, e, upB (fun z => by rw [z, hR] at h1; cases h1) h1, upB (fun z => by rw [z, hR] at h2; cases h2) h2, upB (fun z => by rw [z, hR] at h3; cases h3) h3⟩) h2⟩) h
def spEntP (C : Addr) : Sp := fun vs H Q _ => ∃ (p z : Addr) (ds : List Ent) (zs : List Int), vs = [.ref p, .ref z] ∧ WorldAt H p C ds ∧ DsOk ds ∧ ds.length ≤ 12 ∧ H z = some (.tup (zs.map V.int)) ∧ zs.length = (allE ds).length ∧ ∀ D H', Same H H' → DictP H' D (allE ds) (zs.map V.int) (allE ds).length → Q (.ref D) H'
theorem sc_entP : FnScope ["world", "places", "entry", "place"] ["world", "places"] (defScope (top 44)) := ⟨rfl, rfl, rfl, by decide +kernel, rfl, by decide +kernel, by decide +kernel⟩
theorem ok_entP {f_all_entries : Addr} {fd_all_entries : FuncData} (F : FnP K "entry_places" 44 f fd)
    (B : Fr mg)
    (F_all_entries : FnP K "all_entries" 41 f_all_entries fd_all_entries)
    (m_all_entries : mg "all_entries" = some (.ref f_all_entries))
    (G_all_entries : FnOk P w K mg base CX0 5 f_all_entries fd_all_entries ["world"] (spAllE C))
    (g_zip : mg "zip" = none) :
    FnOk P w K mg base CX0 6 f fd ["world", "places"] (spEntP C) := by
  have b_all_entries : L2.Binds K fd_all_entries ["world"] [] := F_all_entries.bindsN fun _ _ _ _ _ _ us hl => match us, hl with | [_], _ => rfl
  refine F.ok sc_entP (fun vs H Q E h => ?_) (fun cdv A outer s H vs Q E hr h => ?_)
  · obtain ⟨p, z, ds, zs, rfl, _⟩ := h
    rfl
  · obtain ⟨p, z, ds, zs, rfl, hw, ok, h12, hz, zl, k⟩ := h
    have hu : (A.deeper (envOfC ("entry_places" : Str) (defScope (top 44)) s.heap.objs.size f cdv)).units + 65 < cLine := by
      have := hr.un
      omega
    refine ⟨_, PSs.nox (pss_one (ps_ret (pe_dcT (own := [("entry", 2), ("place", 3)]) (g := (gTup K 2 (gCons (gName 2) (gCons (gName 3) gNil)))) (tt := tYes) (tk := (tVar 2)) (tv := (tVar 3)) (hu1 hu) sc_entP.nd (RZ.pi_zipA (by rfl) g_zip (pa_cons (pe_call G_all_entries (hr.mono (by decide)) (by rfl) m_all_entries F_all_entries.kp b_all_entries .nil pass0 (pa_cons (pv 0) pa_nil)) (pa_cons (pv 1) pa_nil))) (blkOk_by (N := ["world", "places", "entry", "place"]) (sc := defScope (top 44)) (by decide +kernel)) (fun _ _ _ _ _ => (pg_tup (by rfl) (pgs_cons (pg_name (i := 2) sc_entP.nd rfl (Or.inl rfl)) (pgs_cons (pg_name (i := 3) sc_entP.nd rfl (Or.inl rfl)) pgs_nil)))) (fun _ _ _ _ _ => pts_nil) (fun _ _ _ _ _ => (pv 2)) (fun _ _ _ _ _ => (pv 3))))), ?_⟩
    have al := allE_len ok
    refine ⟨_, rfl, p, ds, rfl, hw, ok, h12, fun t us H1 s1 ht hP => ⟨_, rfl, t, z, _, _, rfl, .inr ⟨SqT.of ht, SqT.of (s1 _ _ hz), fun D hD => ?_⟩⟩⟩
    have ul := hP.len
    refine dcT_zipT (K := K) (a := t) (b2 := z) (xs := us) (ys := zs.map V.int) (fun i H' => Same H1 H' ∧ DictP H' D (allE ds) (zs.map V.int) i) ⟨same_new hD, [], upd_same, Nat.le_refl _, fun j f hj => by omega⟩ (by rw [List.length_map]; omega) (fun i H' x => ⟨SqT.of (x.1 _ _ ht), SqT.of (x.1 _ _ (s1 _ _ hz))⟩) ?_ ?_
    · rintro i x y H2 T hx hy ⟨s2, es, D2, el, all⟩ hT
      obtain ⟨f, u, hf, rfl, hu⟩ := hP.get4 hx
      have il := (List.getElem?_eq_some_iff.mp hx).1
      have sT := same_new (o := .tup [.ref u, y]) hT
      refine ⟨T, _, rfl, SqT.of upd_same, rfl, _, _, rfl, _, _, rfl, rfl, rfl, _, rfl, _, rfl, es, keyQ f, u, rfl, sT _ _ (s2 _ _ hu), sT _ _ D2, (by show _ < 2 ^ 24; omega), same_upd (s2.trans sT) hD, _, upd_same, Nat.le_trans (length_putK _ _ _) (by omega), dict_put (allE_nodup ok) hf hy all⟩
    · rintro H2 ⟨s2, d2⟩
      rw [ul] at d2
      exact k D H2 (s1.trans s2) d2
def spTabRow (C CL : Addr) : Sp := fun vs H Q _ => ∃ (p q : Addr) (ds : List Ent) (zs : List Int) (c : Nat), vs = [.ref p, .ref q, natV c] ∧ WorldAt H p C ds ∧ DsOk ds ∧ 1 ≤ ds.length ∧ ds.length ≤ 12 ∧ LayAt H q CL (entD ds) zs ∧ c < ds.length ∧ (∀ z ∈ zs, -1000 ≤ z ∧ z ≤ 1000) ∧
  ∀ t H', Same H H' → RowW H' t (rowE ds zs c) → Q (.ref t) H'
theorem sc_tabRow : FnScope ["world", "laying", "c", "longer", "entries", "field", "entry", "row", "fields"] ["world", "laying", "c"] (defScope (top 45)) := ⟨rfl, rfl, rfl, by decide +kernel, rfl, by decide +kernel, by decide +kernel⟩
theorem ok_tabRow {f_World_all_fields f_all_entries f_answers_of f_cells_of f_entry_world p_World_all_fields : Addr} {fd_World_all_fields fd_all_entries fd_answers_of fd_cells_of fd_entry_world : FuncData} (F : FnP K "table_row" 45 f fd)
    (B : Fr mg)
    (F_entry_world : FnP K "entry_world" 43 f_entry_world fd_entry_world)
    (m_entry_world : mg "entry_world" = some (.ref f_entry_world))
    (G_entry_world : FnOk P w K mg base CX0 9 f_entry_world fd_entry_world ["world"] (spEntW C))
    (F_World_all_fields : FnM K "all_fields" "World.all_fields" (inClass (top 24) 1) f_World_all_fields fd_World_all_fields)
    (G_World_all_fields : FnOk P w K mg base CX0 1 f_World_all_fields fd_World_all_fields ["self"] (spAllZ C))
    (TC : ClsWorld K mg C)
    (P_World_all_fields : PropOf K C "all_fields" p_World_all_fields f_World_all_fields)
    (F_all_entries : FnP K "all_entries" 41 f_all_entries fd_all_entries)
    (m_all_entries : mg "all_entries" = some (.ref f_all_entries))
    (G_all_entries : FnOk P w K mg base CX0 5 f_all_entries fd_all_entries ["world"] (spAllE C))
    (g_zip : mg "zip" = none)
    (F_cells_of : FnP K "cells_of" 38 f_cells_of fd_cells_of)
    (m_cells_of : mg "cells_of" = some (.ref f_cells_of))
    (G_cells_of : FnOk P w K mg base CX0 6 f_cells_of fd_cells_of ["world", "laying", "c"] (spCells C CL))
    (z_HEAD : ∃ t, mg "HEAD" = some (.str "head" t))
    (F_answers_of : FnP K "answers_of" 31 f_answers_of fd_answers_of)
    (m_answers_of : mg "answers_of" = some (.ref f_answers_of))
    (G_answers_of : FnOk P w K mg base CX0 5 f_answers_of fd_answers_of ["world", "c", "name"] (spAnswers C)) :
    FnOk P w K mg base CX0 10 f fd ["world", "laying", "c"] (spTabRow C CL) := by
  have b_entry_world : L2.Binds K fd_entry_world ["world"] [] := F_entry_world.bindsN fun _ _ _ _ _ _ us hl => match us, hl with | [_], _ => rfl
  have b_World_all_fields : L2.Binds K fd_World_all_fields ["self"] [] := F_World_all_fields.bindsN fun _ _ _ _ _ _ us hl => match us, hl with | [_], _ => rfl
  have b_all_entries : L2.Binds K fd_all_entries ["world"] [] := F_all_entries.bindsN fun _ _ _ _ _ _ us hl => match us, hl with | [_], _ => rfl
  have b_cells_of : L2.Binds K fd_cells_of ["world", "laying", "c"] [] := F_cells_of.bindsN fun _ _ _ _ _ _ us hl => match us, hl with | [_, _, _], _ => rfl
  obtain ⟨t_HEAD, g_HEAD⟩ := z_HEAD
  have b_answers_of : L2.Binds K fd_answers_of ["world", "c", "name"] [] := F_answers_of.bindsN fun _ _ _ _ _ _ us hl => match us, hl with | [_, _, _], _ => rfl
  refine F.ok sc_tabRow (fun vs H Q E h => ?_) (fun cdv A outer s H vs Q E hr h => ?_)
  · obtain ⟨p, q, ds, zs, c, rfl, _⟩ := h
    rfl
  · obtain ⟨p, q, ds, zs, c, rfl, hw, ok, d1, h12, hq, hc, zb, k⟩ := h
    have hu : (A.deeper (envOfC ("table_row" : Str) (defScope (top 45)) s.heap.objs.size f cdv)).units + 65 < cLine := by
      have := hr.un
      omega
    refine ⟨_, PSs.nox (pss_cons (ps_set (i := 3) sc_tabRow.nd rfl (Or.inl rfl) (pe_call G_entry_world (hr.mono (by decide)) (by rfl) m_entry_world F_entry_world.kp b_entry_world .nil pass0 (pa_cons (pv 0) pa_nil)))
      (pss_cons (ps_set (i := 4) sc_tabRow.nd rfl (Or.inr rfl) (pe_dcT (own := [("field", 5), ("entry", 6)]) (g := (gTup K 2 (gCons (gName 5) (gCons (gName 6) gNil)))) (tt := tYes) (tk := (tVar 5)) (tv := (tVar 6)) (hu1 hu) sc_tabRow.nd (RZ.pi_zipA (by rfl) g_zip (pa_cons (pe_prop (pv 3) TC.cl P_World_all_fields G_World_all_fields (hr.mono (by decide)) b_World_all_fields .nil pass0 rfl) (pa_cons (pe_call G_all_entries (hr.mono (by decide)) (by rfl) m_all_entries F_all_entries.kp b_all_entries .nil pass0 (pa_cons (pv 0) pa_nil)) pa_nil))) (blkOk_by (N := ["world", "laying", "c", "longer", "entries", "field", "entry", "row", "fields"]) (sc := defScope (top 45)) (by decide +kernel)) (fun _ _ _ _ _ => (pg_tup (by rfl) (pgs_cons (pg_name (i := 5) sc_tabRow.nd rfl (Or.inl rfl)) (pgs_cons (pg_name (i := 6) sc_tabRow.nd rfl (Or.inl rfl)) pgs_nil)))) (fun _ _ _ _ _ => pts_nil) (fun _ _ _ _ _ => (pv 5)) (fun _ _ _ _ _ => (pv 6))))
      (pss_cons (ps_set (i := 7) sc_tabRow.nd rfl (Or.inl rfl) (pe_lst pa_nil))
      (pss_cons (ps_for PassesOwn.never rfl (pi_tup (pe_call G_cells_of (hr.mono (by decide)) (by rfl) m_cells_of F_cells_of.kp b_cells_of .nil pass0 (pa_cons (pv 3) (pa_cons (pv 1) (pa_cons (pv 2) pa_nil))))) (pg_name (i := 8) sc_tabRow.nd rfl (Or.inl rfl))
        (pss_one (ps_if (pt_cmpR (r := (rEqD K)) (op_eqD hr.units) (pv 8) (pe_glob (v := (.str "head")) (by rfl) g_HEAD ⟨_, rfl⟩) (nomark _)) (pss_one (ps_expr (pe_bm PySem.F.plainAttrs_list PySem.F.slot_list_append PySem.F.type_list_append mt_append (pv 7) (pa_cons (pe_glob (v := (.str "head")) (by rfl) g_HEAD ⟨_, rfl⟩) pa_nil)))) (pss_one (ps_expr (pe_bm PySem.F.plainAttrs_list PySem.F.slot_list_append PySem.F.type_list_append mt_append (pv 7) (pa_cons (pe_callTy (T := "tuple") (r := rTupOf K) (call_tup (X := _)) (by rfl) B.tuple (by decide +kernel) (pa_cons (pe_lc (own := [("field", 5)]) (g := (gName 5)) (tt := tYes) (te := (tTup (tCons (tDGet (tVar 4) (tVar 5)) (tCons (tCall (spAnswers C) [] E0 (tCons (tVar 0) (tCons (tVar 2) (tCons (tOp (rIxT K) (tDGet (tVar 4) (tVar 5)) (tC (.int 1))) tNil)))) tNil)))) rfl sc_tabRow.nd (pi_tup (pv 8)) (blkOk_by (N := ["world", "laying", "c", "longer", "entries", "field", "entry", "row", "fields"]) (sc := defScope (top 45)) (by decide +kernel)) (fun _ _ _ _ _ => (pg_name (i := 5) sc_tabRow.nd rfl (Or.inl rfl))) (fun _ _ _ _ _ => pts_nil) (fun _ _ _ _ _ => ?x0)) pa_nil)) pa_nil)))))))
      (pss_one (ps_ret (pe_callTy (T := "tuple") (r := rTupOf K) (call_tup (X := _)) (by rfl) B.tuple (by decide +kernel) (pa_cons (pv 7) pa_nil)))))))), ?_⟩
    case x0 => exact (pe_tup (pa_cons (pe_dget (hu1 hu) (pv 4) (pv 5) (fun _ _ => rfl)) (pa_cons (pe_call G_answers_of (hr.mono (by decide)) (by rfl) m_answers_of F_answers_of.kp b_answers_of .nil pass0 (pa_cons (pv 0) (pa_cons (pv 2) (pa_cons (pe_ix (r := rIxT K) ix_tup (pe_dget (hu1 hu) (pv 4) (pv 5) (fun _ _ => rfl)) pe_int (fun _ _ => rfl)) pa_nil)))) pa_nil)))
    have al := allE_len ok
    have fl := allE_fl (ds := ds)
    obtain ⟨_, _, _, _, _, _, _, _, zl⟩ := id hq
    refine ⟨_, rfl, p, ds, rfl, hw, ok, d1, h12, fun L H1 s1 hwL => ?_⟩
    obtain ⟨dxL, _, _, _, _, _, _, _, _, _, _, _, hL, _⟩ := id hwL
    refine ⟨_, rfl, L, dxL, _, rfl, hL, L, entD ds, rfl, hwL, entD_ok ok, by rw [entD_len]; exact h12, fun tf fus H2 s2 htf hPf => ?_⟩
    refine ⟨_, rfl, p, ds, rfl, hw.mono (s1.trans s2), ok, h12, fun te eus H3 s3 hte hPe => ⟨tf, te, _, _, rfl, .inr ⟨(htf.same s3).r.sq, SqT.of hte, fun D hD => ?_⟩⟩⟩
    have ful := hPf.len
    have eul := hPe.len
    have hPf3 := hPf.same s3
    have htf3 := htf.same s3
    refine dcT_zipT (K := K) (a := tf) (b2 := te) (xs := fus) (ys := eus) (fun i H' => Same H3 H' ∧ DictP H' D (allF (entD ds)) eus i) ⟨same_new hD, [], upd_same, Nat.le_refl _, fun j f hj => by omega⟩ (by omega) (fun i H' x => ⟨(htf3.same x.1).r.sq, SqT.of (x.1 _ _ hte)⟩) ?_ ?_
    · rintro i x y H4 T hx hy ⟨s4, es, D4, el, all⟩ hT
      obtain ⟨f, u, hf, rfl, hu⟩ := hPf3.get4 hx
      have il := (List.getElem?_eq_some_iff.mp hx).1
      have sT := same_new (o := .tup [.ref u, y]) hT
      refine ⟨T, _, rfl, SqT.of upd_same, rfl, _, _, rfl, _, _, rfl, rfl, rfl, _, rfl, _, rfl, es, keyQ f, u, rfl, sT _ _ (s4 _ _ hu), sT _ _ D4, (by show _ < 2 ^ 24; omega), same_upd (s4.trans sT) hD, _, upd_same, Nat.le_trans (length_putK _ _ _) (by omega), dict_put (allF_nodupE _) hf hy all⟩
    · rintro H4 ⟨s4, d4⟩
      rw [ful] at d4
      refine ⟨(by show 0 ≤ sizeLine; decide), fun R hR => ?_⟩
      have sR := same_new (o := .lst []) hR
      have s15 := (((s1.trans s2).trans s3).trans s4).trans sR
      have h5R := upd_same (H := H4) (a := R) (o := .lst [])
      have d5 := d4.same sR
      have hPe5 := (hPe.same s4).same sR
      have hwL5 := hwL.mono (((s2.trans s3).trans s4).trans sR)
      generalize upd H4 R (.lst []) = H5 at sR s15 h5R d5 hPe5 hwL5 ⊢
      refine ⟨_, rfl, _, rfl, _, rfl, L, q, entD ds, zs, c, rfl, hwL5, entD_ok ok, by rw [entD_len]; exact h12, hq.mono s15, by rw [entD_len]; exact hc, fun z hz => ?_, fun tc H6 cvs s6 htc vl cells => ⟨tc, rfl, ⟨_, SqT.of htc⟩, ?_⟩⟩
      · rw [plC_min hc zl] at hz
        obtain ⟨e, he, rfl⟩ := List.mem_map.mp hz
        exact zb _ (List.of_mem_zip (List.mem_filter.mp he).1).2
      have esp : spanN (entD ds) zs c = spanE ds zs c := by unfold spanN spanE loE; rw [plC_min hc zl]
      have elo : lowZ (plC (entD ds) zs c) = loE ds zs c := by unfold loE; rw [plC_min hc zl]
      rw [esp] at vl
      rw [elo] at cells
      have s16 := s15.trans s6
      have h6R := s6 _ _ h5R
      obtain ⟨es, D6, _, all⟩ := d5.same s6
      have hPe6 := hPe5.same s6
      have DR : D ≠ R := fun z => by rw [z, h6R] at D6; cases D6
      have tcR : tc ≠ R := fun z => by rw [z, h6R] at htc; cases htc
      have R0 : H R = none := by
        cases e : H R with
        | none => rfl
        | some o => rw [(((s1.trans s2).trans s3).trans s4) _ _ e] at hR; cases hR
      refine for_tup (K := K) (a := tc) (xs := cvs) (fun m σ H' => ∃ (x8 : Option V) (vs : List V), σ = [some (.ref p), some (.ref q), some (natV c), some (.ref L), some (.ref D), none, none, some (.ref R), x8] ∧ Oth R H6 H' ∧ H' R = some (.lst vs) ∧ Paired (CelW H') vs ((List.range m).map fun (i : Nat) => celE ds zs c (loE ds zs c + (i : Int)))) ⟨none, [], rfl, fun _ _ _ e => e, h6R, .nil⟩ (fun m σ H' _ ⟨_, _, _, O, _⟩ => SqT.of (O _ _ tcR htc)) ?_ ?_
      · rintro m v σ H7 hm ⟨x8, vs, rfl, O7, h7R, hC⟩
        have ml := (List.getElem?_eq_some_iff.mp hm).1
        have vl7 := Paired.length hC
        rw [List.length_map, List.length_range] at vl7
        have m100 : m < 2001 := by
          have a : spanE ds zs c ≤ 2001 := by
            have hb : ∀ z ∈ (minE ds zs c).map (·.2), -1000 ≤ z ∧ z ≤ 1000 := fun z hz => by
              obtain ⟨e, he, rfl⟩ := List.mem_map.mp hz
              exact zb _ (List.of_mem_zip (List.mem_filter.mp he).1).2
            have l := low_bound hb
            have h := high_bound hb
            unfold spanE loE
            omega
          omega
        have vR : ∀ {b : Addr} {o : HO}, H6 b = some o → (∀ l, o ≠ .lst l) → H7 b = some o := fun {b o} e n => O7 _ _ (fun z => by rw [z, h6R] at e; exact n _ (Option.some.inj e).symm) e
        have D7 := vR D6 nofun
        have nxt : ∀ {H9 : Hp} {y : V}, Same H7 H9 → H9 R = some (.lst vs) → CelW H9 y (celE ds zs c (loE ds zs c + (m : Int))) → Paired (CelW (upd H9 R (.lst (vs ++ [y])))) (vs ++ [y]) ((List.range (m + 1)).map fun (i : Nat) => celE ds zs c (loE ds zs c + (i : Int))) := fun {H9 y} s9 h9R hy => by
          rw [List.range_succ, List.map_append]
          exact cels_upd h9R (paired_app (paired_imp (fun _ _ z => rel_cel.same s9 z) hC) (.cons hy .nil))
        rcases cells m v hm with ⟨z0, rfl⟩ | ⟨z0, u, fs, rfl, hu, hPc⟩
        · refine ⟨_, rfl, .str "head", .str "head", .str _, .str _, layHead.shaped (by decide), layHead.shaped (by decide), _, rfl, iteT' rfl ⟨_, rfl, .inl ⟨rfl, _, SqL.of h7R⟩, R, vs, _, rfl, rfl, h7R, (by show _ < 2 ^ 24; omega), ?_⟩⟩
          exact ⟨_, _, rfl, O7.upd, upd_same, nxt (Same.refl _) h7R (.inl ⟨by unfold celE; rw [if_pos z0], rfl⟩)⟩
        · have hu7 := vR hu nofun
          have hPc7 : PairsAt H7 fs (cellF (entD ds) zs c (loE ds zs c + (m : Int))) := paired_imp (fun _ _ ⟨t, e, h⟩ => ⟨t, e, vR h nofun⟩) hPc
          rw [cell_fst hc zl] at hPc7
          refine ⟨_, rfl, .tuple (((cellT ds zs c (loE ds zs c + (m : Int))).map (·.1)).map dPair), .str "head", .tup (SqT.of hu7) (dp_pairs hPc7), .str _, (lay_pairsT _).shaped (by decide), layHead.shaped (by decide), _, rfl, iteF' rfl ⟨_, rfl, .inl ⟨rfl, _, SqL.of h7R⟩, _, rfl, u, rfl, ⟨_, SqT.of hu7⟩, fun N hN => ?_⟩⟩
          have fl2 := hPc7.len
          rw [List.length_map] at fl2
          have few : (cellT ds zs c (loE ds zs c + (m : Int))).length ≤ 36 := by
            refine Nat.le_trans (List.length_filter_le _ _) (Nat.le_trans (List.length_filter_le _ _) ?_)
            unfold trp
            rw [List.length_zip]
            omega
          refine lc_tupA rel_ans ((cellT ds zs c (loE ds zs c + (m : Int))).map fun t => some (t.2.1, ansL ds c t.2.1.2)) hN (by rw [List.length_map, fl2]) (by omega) (fun H' s' => SqT.of (s' _ _ hu7)) (fun j x cc hj hcc H8 s8 NN M ⟨u0, hu0⟩ hNN hM => ?_) (fun H8 ws s8 N8 P8 => ?_)
          · obtain ⟨f, ft, hf, rfl, hft⟩ := hPc7.get4 hj
            rw [List.getElem?_map] at hf hcc
            obtain ⟨tt, htt, rfl⟩ := Option.map_eq_some_iff.mp hf
            rw [htt] at hcc
            have hcc := Option.some.inj hcc
            have tm : tt ∈ trp ds zs := (List.mem_filter.mp (List.mem_filter.mp (List.mem_of_getElem? htt)).1).1
            obtain ⟨jj, j1, j2, _⟩ := trp_get tm
            have jl := (List.getElem?_eq_some_iff.mp j1).1
            have em := allE_mem (List.mem_of_getElem? j2)
            obtain ⟨n1, n2, _⟩ := news_mem em.2
            obtain ⟨ev, hev⟩ : ∃ v, eus[jj]? = some v := ⟨_, List.getElem?_eq_getElem (by omega)⟩
            obtain ⟨ee, eu, he, rfl, heu⟩ := hPe6.get4 hev
            rw [j2] at he
            obtain rfl := Option.some.inj he
            have hv := all jj tt.1 jl j1
            rw [hev] at hv
            have D8 := s8 _ _ D7
            have ft8 := s8 _ _ hft
            have dg : DGet H8 D (.ref ft) (some (.ref eu)) := by
              rw [← hv]
              exact DGet.t D8 ft8
            have eu8 : H8 eu = some (.tup [natV tt.2.1.1, natV tt.2.1.2]) := s8 _ _ (vR heu nofun)
            have g1 : ([natV tt.2.1.1, natV tt.2.1.2] : List V)[(1 : Nat)]? = some (natV tt.2.1.2) := rfl
            have s08 : Same H H8 := fun b o e => s8 _ _ (O7 _ _ (ne_of_none e R0) (s16 _ _ e))
            have m6 : tt.2.1.2 < 6 := by
              have n2 := n2
              unfold methsOf at n2
              rw [List.getD_eq_getElem?_getD] at n2
              cases e : ds[tt.2.1.1]? with
              | none => rw [e] at n2; cases n2
              | some d => rw [e] at n2; exact (ok _ d e).2.2.2.2.2.1 _ n2
            refine ⟨rfl, _, rfl, _, rfl, D, _, rfl, dg, _, rfl, _, rfl, _, rfl, _, rfl, D, _, rfl, dg, eu, _, ((1 : Nat) : Int), _, rfl, rfl, SqT.of eu8, atI_nat g1, p, ds, c, tt.2.1.2, rfl, hw.mono s08, ok, hc, h12, m6, fun ta H9 s9 hta => ⟨(by show 2 ≤ sizeLine; decide), fun T hT => ?_⟩⟩
            have sT := same_new (o := .tup [.ref eu, .ref ta]) hT
            exact hNN _ hcc.symm _ _ (s9.trans sT) (fun z => by cases z; exact absurd ((s9 _ _ hu0).symm.trans hT) (fun z => by cases z)) ⟨T, eu, ta, rfl, upd_same, sT _ _ (s9 _ _ eu8), sT _ _ hta⟩
          · rw [some_maps (fun t : (Nat × Nat) × ((Nat × Nat) × Int) => (t.2.1, ansL ds c t.2.1.2))] at P8
            refine tup_q (.inl N8) fun tt H9 s9 htt => ?_
            have s79 := s8.trans s9
            refine ⟨R, vs, _, rfl, rfl, s79 _ _ h7R, (by show _ < 2 ^ 24; omega), ?_⟩
            refine ⟨_, _, rfl, (O7.trans (Oth.of s79)).upd, upd_same, nxt s79 (s79 _ _ h7R) (.inr ⟨_, tt, ws, ?_, rfl, htt, paired_imp (fun _ _ z => rel_ans.same s9 z) P8⟩)⟩
            unfold celE
            rw [if_neg z0, cell_snd zl, List.map_map]
            rfl
      · rintro σ H7 ⟨x8, vs, rfl, O7, h7R, hC⟩
        rw [vl] at hC
        have s17 : Same H H7 := fun b o e => O7 _ _ (ne_of_none e R0) (s16 _ _ e)
        exact ⟨_, rfl, tup_q (.inl h7R) fun t H8 s8 ht => k t H8 (s17.trans s8) ⟨vs, ht, paired_imp (fun _ _ z => rel_cel.same s8 z) hC⟩⟩
end
end K57

set_option maxRecDepth 100000
set_option maxHeartbeats 8000000
namespace K57
open PySem PySem.Spec PyProof.Rows L2 Kw
/-- the entries of a name that a class has, with their places -/
def namZ (ds : List Ent) (zs : List Int) (view m : Nat) : List ((Nat × Nat) × Int) := (minE ds zs view).filter fun e => decide (e.1.2 = m)
/-- the name of the last entry of a class in a place -/
def nmE (ds : List Ent) (zs : List Int) (c : Nat) (z : Int) : Nat := ((((minE ds zs c).filter fun e => decide (e.2 = z)).map (·.1)).getLastD (0, 0)).2
def outA (lot : List Nat) (c m : Nat) : Nat ⊕ (Str × List Nat) := match lot with
  | [] => .inl 0
  | [a] => .inl a
  | a :: b :: _ => .inr ("two", [c, m, a, b])
/-- what a call by the table gives -/
def outC (ds : List Ent) (zs : List Int) (view c m : Nat) : Nat ⊕ (Str × List Nat) := if kinI ds c view = true then (match namZ ds zs view m with
  | [] => .inr ("none", [view, m])
  | e :: _ => outA (ansL ds c (nmE ds zs c e.2)) c (nmE ds zs c e.2)) else .inr ("view", [view, c])
def OutV (H : Hp) (v : V) (o : Nat ⊕ (Str × List Nat)) : Prop := match o with
  | .inl a => v = natV a
  | .inr (s, l) => ∃ t, v = .ref t ∧ H t = some (.tup (V.str s :: l.map natV))
theorem OutV.same {H H' : Hp} {v : V} {o : Nat ⊕ (Str × List Nat)} (h : OutV H v o) (s : Same H H') : OutV H' v o := by
  cases o with
  | inl a => exact h
  | inr p => obtain ⟨t, e, h⟩ := h; exact ⟨t, e, s _ _ h⟩
theorem minE_get {ds : List Ent} {zs : List Int} {c : Nat} {e : (Nat × Nat) × Int} (h : e ∈ minE ds zs c) : (∃ j : Nat, (allE ds)[j]? = some e.1 ∧ zs[j]? = some e.2) ∧ kinI ds c e.1.1 = true := by
  obtain ⟨h1, h2⟩ := List.mem_filter.mp h
  obtain ⟨j, hj⟩ := List.mem_iff_getElem?.mp h1
  rw [List.getElem?_zip_eq_some] at hj
  exact ⟨⟨j, hj⟩, h2⟩
theorem entO_min {ds : List Ent} {zs : List Int} {c : Nat} (zl : zs.length = (allE ds).length) : entO ds c = (minE ds zs c).map (·.1) := by
  have e1 : ((allE ds).zip zs).map (·.1) = allE ds := List.map_fst_zip (by omega)
  unfold entO minE
  rw [← e1, List.filter_map, e1]
  rfl
theorem kin_sub {ds : List Ent} (ok : DsOk ds) {zs : List Int} {view c : Nat} (h : kinI ds c view = true) {e : (Nat × Nat) × Int} (he : e ∈ minE ds zs view) : e ∈ minE ds zs c := by
  obtain ⟨h1, h2⟩ := List.mem_filter.mp he
  refine List.mem_filter.mpr ⟨h1, ?_⟩
  have h2 : kinI ds view e.1.1 = true := h2
  show kinI ds c e.1.1 = true
  unfold kinI at h h2 ⊢
  rw [List.contains_iff_mem, List.mem_append, List.mem_singleton] at h h2 ⊢
  rcases h with h | h
  · rcases h2 with q | q
    · exact .inl (elders_trans ok.valid c h q)
    · rw [q]; exact .inl h
  · rw [h] at h2; exact h2
theorem name_six {ds : List Ent} (ok : DsOk ds) {e : Nat × Nat} (h : e ∈ allE ds) : e.2 < 6 := by
  have n2 := (news_mem (allE_mem h).2).2.1
  unfold methsOf at n2
  rw [List.getD_eq_getElem?_getD] at n2
  cases z : ds[e.1]? with
  | none => rw [z] at n2; cases n2
  | some d => rw [z] at n2; exact (ok _ d z).2.2.2.2.2.1 _ n2
theorem tops_ne {ds : List Ent} {xs : List Nat} (h : xs ≠ []) : topsL (elsOf ds) xs ≠ [] := by
  have big : ∃ x ∈ xs, ∀ y ∈ xs, y ≤ x := by
    induction xs with
    | nil => exact absurd rfl h
    | cons a r ih =>
      by_cases q : r = []
      · exact ⟨a, List.mem_cons_self, fun y hy => by rw [q] at hy; rw [List.mem_singleton.mp hy]; exact Nat.le_refl _⟩
      · obtain ⟨x, hx, all⟩ := ih q
        by_cases z : a ≤ x
        · exact ⟨x, List.mem_cons_of_mem _ hx, fun y hy => by rcases List.mem_cons.mp hy with e | e; omega; exact all y e⟩
        · exact ⟨a, List.mem_cons_self, fun y hy => by rcases List.mem_cons.mp hy with e | e; omega; have := all y e; omega⟩
  obtain ⟨x, hx, all⟩ := big
  refine List.ne_nil_of_mem (a := x) (List.mem_filter.mpr ⟨hx, ?_⟩)
  rw [Bool.not_eq_true', ← Bool.not_eq_true, List.any_eq_true]
  rintro ⟨y, hy, hxy⟩
  have := elR_lt (ds := ds) (c := y) (List.contains_iff_mem.mp hxy)
  have := all y hy
  omega
theorem ans_ne {ds : List Ent} {c : Nat} (hc : c < ds.length) {e : Nat × Nat} (he : e ∈ allE ds) (hk : kinI ds c e.1 = true) : ansL ds c e.2 ≠ [] := by
  refine tops_ne (List.ne_nil_of_mem (a := e.1) (List.mem_filter.mpr ⟨?_, List.contains_iff_mem.mpr (news_mem (allE_mem he).2).2.1⟩))
  rw [kins_els hc]
  exact List.contains_iff_mem.mp hk
section
variable {P : Program} {w : World} {K : PySem.W.Frag} {mg : Str → Option Value} {base : Heap} {f C CL Cn CHo CS Cv Cm Ct Cx : Addr} {fd : FuncData}
theorem sc_NotView : FnScope ["self", "view", "cls"] ["self", "view", "cls"] (defScope (inClass (top 10) 0)) := ⟨rfl, rfl, rfl, by decide +kernel, rfl, by decide +kernel, by decide +kernel⟩
theorem ok_NotView (F : FnM K "__init__" "NotView.__init__" (inClass (top 10) 0) f fd) (T : ErrX K mg "NotView" ["view", "cls"] Cx f) : FnOk P w K mg base CX0 1 f fd ["self", "view", "cls"] (spR Cx ["view", "cls"]) ∧ Binds K fd ["self", "view", "cls"] [] := by
  refine ⟨F.ok sc_NotView (fun vs H Q E h => ?_) (fun cdv A outer s H vs Q E hr h => ?_), F.bindsN fun _ _ _ _ _ _ us hl => match us, hl with | [_, _, _], _ => rfl⟩
  · obtain ⟨a, xs, rfl, hl, _⟩ := h
    exact congrArg Nat.succ hl
  · obtain ⟨a, xs, rfl, hl, ha, k⟩ := h
    match xs, hl with
    | [x1, x2], _ =>
      refine ⟨_, PSs.nox (pss_cons (ps_ost (pv 0) (pv 1)) (pss_one (ps_ost (pv 0) (pv 2)))), ?_⟩
      refine ⟨_, rfl, _, rfl, a, Cx, rfl, T.oex, T.no _ (List.mem_of_getElem? (i := 0) rfl), .inl ⟨ha, fun dx hd ne => ?_⟩⟩
      have A1 := @upd_same (upd H dx (exd dx [("view", x1)])) a (exo a Cx (some dx))
      have D1 : upd (upd H dx (exd dx [("view", x1)])) a (exo a Cx (some dx)) dx = some (exd dx [("view", x1)]) := upB ne upd_same
      have B1 : ∀ b o, b ≠ a → H b = some o → upd (upd H dx (exd dx [("view", x1)])) a (exo a Cx (some dx)) b = some o := fun b o hb e => upB hb (upB (ne_of_none e hd) e)
      generalize hG1 : upd (upd H dx (exd dx [("view", x1)])) a (exo a Cx (some dx)) = G1 at A1 D1 B1 ⊢
      refine ⟨_, rfl, _, rfl, a, Cx, rfl, T.oex, T.no _ (List.mem_of_getElem? (i := 1) rfl), .inr ⟨dx, [("view", x1)], A1, D1, (by show 1 ≤ 900; decide), ?_⟩⟩
      exact k dx _ hd ne (upB ne.symm A1) upd_same fun b o hb e => upB (ne_of_none e hd) (B1 b o hb e)
def spCallT (C CL Cv Cn Ct : Addr) : Sp := fun vs H Q E => ∃ (p q : Addr) (ds : List Ent) (zs : List Int) (view c m : Nat), vs = [.ref p, .ref q, natV view, natV c, natV m] ∧ WorldAt H p C ds ∧ DsOk ds ∧ ds.length ≤ 12 ∧ LayAt H q CL (entD ds) zs ∧ view < ds.length ∧ c < ds.length ∧ m < 6 ∧
  (kinI ds c view = false → ∀ d H', Same H H' → H' d = some (.xd (errF ["view", "cls"] [natV view, natV c])) → E (.ref Cv) (some d) H') ∧
  (kinI ds c view = true → namZ ds zs view m = [] → ∀ d H', Same H H' → H' d = some (.xd (errF ["cls", "name"] [natV view, natV m])) → E (.ref Cn) (some d) H') ∧
  (∀ e r, kinI ds c view = true → namZ ds zs view m = e :: r → (∀ a, ansL ds c (nmE ds zs c e.2) = [a] → ∀ H', Same H H' → Q (natV a) H') ∧
    ∀ a b r', ansL ds c (nmE ds zs c e.2) = a :: b :: r' → ∀ d H', Same H H' → H' d = some (.xd (errF ["cls", "name", "a", "b"] [natV c, natV (nmE ds zs c e.2), natV a, natV b])) → E (.ref Ct) (some d) H')
theorem sc_callT : FnScope ["world", "laying", "view", "c", "name", "named", "entry", "places", "found"] ["world", "laying", "view", "c", "name"] (defScope (top 46)) := ⟨rfl, rfl, rfl, by decide +kernel, rfl, by decide +kernel, by decide +kernel⟩
theorem ok_callT {f_check_class f_check_name f_definer_of f_entries_of f_entry_places fi_NoMethod fi_NotView : Addr} {fd_check_class fd_check_name fd_definer_of fd_entries_of fd_entry_places fdi_NoMethod fdi_NotView : FuncData} (F : FnP K "call_by_table" 46 f fd)
    (B : Fr mg)
    (F_check_class : FnP K "check_class" 17 f_check_class fd_check_class)
    (m_check_class : mg "check_class" = some (.ref f_check_class))
    (G_check_class : FnOk P w K mg base (L2.CX P w) 3 f_check_class fd_check_class ["world", "c"] (spCheck C Cn))
    (F_check_name : FnP K "check_name" 29 f_check_name fd_check_name)
    (m_check_name : mg "check_name" = some (.ref f_check_name))
    (G_check_name : FnOk P w K mg base CX0 2 f_check_name fd_check_name ["name"] spName)
    (TC : ClsWorld K mg C)
    (FI_NotView : FnM K "__init__" "NotView.__init__" (inClass (top 10) 0) fi_NotView fdi_NotView)
    (T_NotView : ErrX K mg "NotView" ["view", "cls"] Cv fi_NotView)
    (F_entries_of : FnP K "entries_of" 42 f_entries_of fd_entries_of)
    (m_entries_of : mg "entries_of" = some (.ref f_entries_of))
    (G_entries_of : FnOk P w K mg base CX0 6 f_entries_of fd_entries_of ["world", "c"] (spEntO C))
    (FI_NoMethod : FnM K "__init__" "NoMethod.__init__" (inClass (top 8) 0) fi_NoMethod fdi_NoMethod)
    (T_NoMethod : ErrX K mg "NoMethod" ["cls", "name"] Cm fi_NoMethod)
    (F_entry_places : FnP K "entry_places" 44 f_entry_places fd_entry_places)
    (m_entry_places : mg "entry_places" = some (.ref f_entry_places))
    (G_entry_places : FnOk P w K mg base CX0 6 f_entry_places fd_entry_places ["world", "places"] (spEntP C))
    (TCL : ClsF K CL ["fields", "places"])
    (F_definer_of : FnP K "definer_of" 33 f_definer_of fd_definer_of)
    (m_definer_of : mg "definer_of" = some (.ref f_definer_of))
    (G_definer_of : FnOk P w K mg base (L2.CX P w) 6 f_definer_of fd_definer_of ["world", "c", "name"] (spDefiner C Cm Ct)) :
    FnOk P w K mg base (L2.CX P w) 7 f fd ["world", "laying", "view", "c", "name"] (spCallT C CL Cv Cm Ct) := by
  have b_check_class : L2.Binds K fd_check_class ["world", "c"] [] := F_check_class.bindsN fun _ _ _ _ _ _ us hl => match us, hl with | [_, _], _ => rfl
  have b_check_name : L2.Binds K fd_check_name ["name"] [] := F_check_name.bindsN fun _ _ _ _ _ _ us hl => match us, hl with | [_], _ => rfl
  obtain ⟨GI_NotView, bI_NotView⟩ := ok_NotView (P := P) (w := w) (base := base) FI_NotView T_NotView
  have b_entries_of : L2.Binds K fd_entries_of ["world", "c"] [] := F_entries_of.bindsN fun _ _ _ _ _ _ us hl => match us, hl with | [_, _], _ => rfl
  obtain ⟨GI_NoMethod, bI_NoMethod⟩ := ok_noMeth (P := P) (w := w) (base := base) FI_NoMethod T_NoMethod
  have b_entry_places : L2.Binds K fd_entry_places ["world", "places"] [] := F_entry_places.bindsN fun _ _ _ _ _ _ us hl => match us, hl with | [_, _], _ => rfl
  have b_definer_of : L2.Binds K fd_definer_of ["world", "c", "name"] [] := F_definer_of.bindsN fun _ _ _ _ _ _ us hl => match us, hl with | [_, _, _], _ => rfl
  refine F.ok sc_callT (fun vs H Q E h => ?_) (fun cdv A outer s H vs Q E hr h => ?_)
  · obtain ⟨p, q, ds, zs, view, c, m, rfl, _⟩ := h
    rfl
  · obtain ⟨p, q, ds, zs, view, c, m, rfl, hw, ok, h12, hq, hv, hc, hm, k1, k2, k3⟩ := h
    have hu : (A.deeper (envOfC ("call_by_table" : Str) (defScope (top 46)) s.heap.objs.size f cdv)).units + 65 < cLine := by
      have := hr.un
      omega
    refine ⟨_, (pss_cons (ps_expr (pe_callS G_check_class (hr.mono (by decide)) (by rfl) m_check_class F_check_class.kp b_check_class (fun σ => passAt (takes_of rfl rfl rfl rfl) σ) (pa_cons (pv 0) (pa_cons (pv 2) pa_nil))))
      (pss_cons (ps_expr (pe_callS G_check_class (hr.mono (by decide)) (by rfl) m_check_class F_check_class.kp b_check_class (fun σ => passAt (takes_of rfl rfl rfl rfl) σ) (pa_cons (pv 0) (pa_cons (pv 3) pa_nil))))
      (pss_cons (ps_expr (pe_call G_check_name (hr.mono (by decide)) (by rfl) m_check_name F_check_name.kp b_check_name .nil pass0 (pa_cons (pv 4) pa_nil)))
      (pss_cons (ps_if (PW.pt (pw_and (pt_cmpR op_ne (pv 2) (pv 3) (nomark _)) (pw_and1 (pt_cmpR (r := (rIn K true)) op_notIn_seq (pv 2) (pe_ix (r := rIxT K) ix_tup (pe_fld (pv 0) rfl) (pv 3) (fun _ _ => rfl)) (by rfl))))) (pss_one (ps_raise rfl (takes_of rfl rfl rfl rfl) (pmk_oex T_NotView.oex T_NotView.ini T_NotView.inT GI_NotView (hr.mono (by decide)) bI_NotView .nil pass0 (by rfl) T_NotView.mg (pa_cons (pv 2) (pa_cons (pv 3) pa_nil))))) pss_nil)
      (pss_cons (ps_set (i := 5) sc_callT.nd rfl (Or.inr rfl) (pe_lc (own := [("entry", 6)]) (g := (gName 6)) (tt := (tTest (tOp rEq (tOp (rIxT K) (tVar 6) (tC (.int 1))) (tVar 4)))) (te := (tVar 6)) rfl sc_callT.nd (pi_tup (pe_call G_entries_of (hr.mono (by decide)) (by rfl) m_entries_of F_entries_of.kp b_entries_of .nil pass0 (pa_cons (pv 0) (pa_cons (pv 2) pa_nil)))) (blkOk_by (N := ["world", "laying", "view", "c", "name", "named", "entry", "places", "found"]) (sc := defScope (top 46)) (by decide +kernel)) (fun _ _ _ _ _ => (pg_name (i := 6) sc_callT.nd rfl (Or.inl rfl))) (fun _ _ _ _ _ => ?x0) (fun _ _ _ _ _ => (pv 6))))
      (pss_cons (ps_if (pt_cmpR op_eq (pe_callB (id := "len") (r := rLenS K) (call_lenS (X := _)) (by rfl) B.len PySem.boot_len (pa_cons (pv 5) pa_nil)) pe_int (nomark _)) (pss_one (ps_raise rfl (takes_of rfl rfl rfl rfl) (pmk_oex T_NoMethod.oex T_NoMethod.ini T_NoMethod.inT GI_NoMethod (hr.mono (by decide)) bI_NoMethod .nil pass0 (by rfl) T_NoMethod.mg (pa_cons (pv 2) (pa_cons (pv 4) pa_nil))))) pss_nil)
      (pss_cons (ps_set (i := 7) sc_callT.nd rfl (Or.inr rfl) (pe_call G_entry_places (hr.mono (by decide)) (by rfl) m_entry_places F_entry_places.kp b_entry_places .nil pass0 (pa_cons (pv 0) (pa_cons (pe_fld (pv 1) rfl) pa_nil))))
      (pss_cons (ps_setLc (i := 8) (own := [("entry", 6)]) (g := (gName 6)) (tt := (tTest (tOp rEq (tDGet (tVar 7) (tVar 6)) (tDGet (tVar 7) (tOp (rIxL K) (tVar 5) (tC (.int 0))))))) (te := (tVar 6)) rfl sc_callT.nd rfl rfl (sw_true rfl rfl rfl (by decide +kernel)) (pi_tup (pe_call G_entries_of (hr.mono (by decide)) (by rfl) m_entries_of F_entries_of.kp b_entries_of .nil pass0 (pa_cons (pv 0) (pa_cons (pv 3) pa_nil)))) (blkOk_by (N := ["world", "laying", "view", "c", "name", "named", "entry", "places", "found"]) (sc := defScope (top 46)) (by decide +kernel)) (fun _ _ _ _ _ => (pg_name (i := 6) sc_callT.nd rfl (Or.inl rfl))) (fun _ _ _ _ _ => ?x1) (fun _ _ _ _ _ => (pv 6)))
      (pss_one (ps_ret (pe_callS G_definer_of (hr.mono (by decide)) (by rfl) m_definer_of F_definer_of.kp b_definer_of (fun σ => passAt (takes_of rfl rfl rfl rfl) σ) (pa_cons (pv 0) (pa_cons (pv 3) (pa_cons (pe_ix (r := rIxT K) ix_tup (pe_ix (r := rIxL K) ix_list (pv 8) (pe_un un_neg pe_int) (fun _ _ => rfl)) pe_int (fun _ _ => rfl)) pa_nil)))))))))))))), ?_⟩
    case x1 => exact pts_one (pt_cmpR op_eq (pe_dget (hu1 hu) (pv 7) (pv 6) (fun _ _ => rfl)) (pe_dget (hu1 hu) (pv 7) (pe_ix (r := rIxL K) ix_list (pv 5) pe_int (fun _ _ => rfl)) (fun _ _ => rfl)) (nomark _))
    case x0 => exact pts_one (pt_cmpR op_eq (pe_ix (r := rIxT K) ix_tup (pv 6) pe_int (fun _ _ => rfl)) (pv 4) (nomark _))
    have al := allE_len ok
    have fl := allE_fl (ds := ds)
    obtain ⟨dq, af, ap, lus, q1, q2, q3, q4, zl⟩ := id hq
    rw [fl] at zl
    refine ⟨_, rfl, _, rfl, p, natV view, "int", ds, rfl, hw, .int _, .inl ⟨whole_of hv, fun H1 s1 => ?_⟩⟩
    refine ⟨_, rfl, _, rfl, p, natV c, "int", ds, rfl, hw.mono s1, .int _, .inl ⟨whole_of hc, fun H2 s2 => ?_⟩⟩
    have s12 := s1.trans s2
    refine ⟨_, rfl, m, rfl, hm, ?_⟩
    obtain ⟨dx, fs, ae, es, t1, p1, p2, p3, p4, p5⟩ := (hw.mono s12).elder hc
    dsimp only
    refine set_if (fun σ' H' => σ' = [some (.ref p), some (.ref q), some (natV view), some (natV c), some (natV m), none, none, none, none] ∧ H' = H2 ∧ kinI ds c view = true) ?_ ?_
    rotate_left
    · intro N hN
      refine ⟨_, rfl, _, rfl, rfl, _, rfl, ?_⟩
      by_cases vc : view = c
      · subst vc
        refine iteF' (by rw [decide_eq_true rfl]; rfl) (iteF' rfl (hN _ _ ⟨rfl, rfl, ?_⟩))
        unfold kinI
        exact List.contains_iff_mem.mpr (List.mem_append_right _ List.mem_cons_self)
      · refine iteT' (by rw [decide_eq_false fun z => vc (by have := V.int.inj z; omega)]; rfl) ?_
        refine ⟨_, rfl, _, rfl, p, C, dx, _, _, rfl, p1, TC.cl, TC.no _ (List.mem_of_getElem? (i := 4) rfl), p2, _, rfl, ae, es, (c : Int), _, rfl, rfl, SqT.of p3, atI_nat p4, t1, _, rfl, .inr (SqT.of p5), rfl, flat_nats _, _, rfl, ?_⟩
        show (if (!inV (natV view) (((elsOf ds).getD c []).map natV)) = true then _ else _)
        rw [inV_nat]
        cases z : ((elsOf ds).getD c []).contains view with
        | true =>
          refine iteF' rfl (hN _ _ ⟨rfl, rfl, ?_⟩)
          unfold kinI
          exact List.contains_iff_mem.mpr (List.mem_append_left _ (List.contains_iff_mem.mp z))
        | false =>
          refine iteT' rfl ⟨_, rfl, _, rfl, raise_q rfl (by decide) fun d H' s3 _ e' => k1 ?_ d H' (s12.trans s3) e'⟩
          rw [← Bool.not_eq_true]
          unfold kinI
          rw [List.contains_iff_mem, List.mem_append, List.mem_singleton]
          rintro (h | h)
          · have : ((elsOf ds).getD c []).contains view = true := List.contains_iff_mem.mpr h
            rw [z] at this
            cases this
          · exact vc h
    rintro σ' H' ⟨rfl, rfl, hk⟩
    have few : ∀ x, (minE ds zs x).length ≤ 36 := fun x => by
      refine Nat.le_trans (List.length_filter_le _ _) ?_
      rw [List.length_zip]
      omega
    -- the entries of that name
    refine ⟨_, rfl, _, rfl, p, ds, view, rfl, hw.mono s12, ok, h12, hv, fun t us H3 s3 ht hP => ⟨t, rfl, ⟨_, SqT.of ht⟩, fun N hN => ?_⟩⟩
    rw [entO_min zl] at hP
    have ul := hP.len
    rw [List.length_map] at ul
    have fv := few view
    refine lc_tupA rel_ps ((minE ds zs view).map fun e => if decide (e.1.2 = m) = true then some e.1 else none) hN (by rw [List.length_map, ul]) (by omega) (fun H' s' => SqT.of (s' _ _ ht)) (fun j x cc hj hcc H4 s4 NN M _ hNN hM => ?_) (fun H4 vs4 s4 N4 P4 => ?_)
    · obtain ⟨e, u, he, rfl, hu⟩ := hP.get4 hj
      rw [List.getElem?_map] at he hcc
      obtain ⟨ez, hez, rfl⟩ := Option.map_eq_some_iff.mp he
      rw [hez] at hcc
      have hcc : (if decide (ez.1.2 = m) = true then some ez.1 else none) = cc := Option.some.inj hcc
      have g1 : ([natV ez.1.1, natV ez.1.2] : List V)[(1 : Nat)]? = some (natV ez.1.2) := rfl
      refine ⟨rfl, _, rfl, u, _, ((1 : Nat) : Int), _, rfl, rfl, SqT.of (s4 _ _ hu), atI_nat g1, _, rfl, rfl, _, rfl, ?_⟩
      by_cases z : ez.1.2 = m
      · rw [decide_eq_true z] at hcc
        exact iteT' (decide_eq_true (by rw [z])) ⟨_, rfl, hNN _ hcc.symm _ _ (Same.refl _) (fun z => by cases z; rw [hN] at hu; cases hu) ⟨u, rfl, s4 _ _ hu⟩⟩
      · rw [decide_eq_false z] at hcc
        exact iteF' (decide_eq_false fun y => z (by have := V.int.inj y; omega)) (hM hcc.symm _ (Same.refl _))
    have P4 : PairsAt H4 vs4 ((namZ ds zs view m).map (·.1)) := by
      have := P4
      rw [some_filters (fun e : (Nat × Nat) × Int => e.1) (fun e : (Nat × Nat) × Int => decide (e.1.2 = m))] at this
      exact this
    have s04 := (s12.trans s3).trans s4
    have vl4 := P4.len
    rw [List.length_map] at vl4
    refine ⟨_, rfl, N, _, rfl, .inl (SqL.of N4), rfl, _, rfl, ?_⟩
    cases hz : namZ ds zs view m with
    | nil =>
      rw [hz] at vl4
      refine iteT' (decide_eq_true (by rw [vl4]; rfl)) ⟨_, rfl, _, rfl, raise_q rfl (by decide) fun d H' s5 _ e' => k2 hk hz d H' (s04.trans s5) e'⟩
    | cons e0 er =>
    rw [hz] at vl4 P4
    refine iteF' (decide_eq_false fun y => by have := V.int.inj y; rw [vl4, List.length_cons] at this; omega) ?_
    obtain ⟨k3, k4⟩ := k3 e0 er hk hz
    have e0m : e0 ∈ minE ds zs view := (List.mem_filter.mp (show e0 ∈ namZ ds zs view m by rw [hz]; exact List.mem_cons_self)).1
    have e0c := kin_sub ok hk e0m
    -- the places
    refine ⟨_, rfl, _, rfl, q, CL, dq, _, _, rfl, s04 _ _ q1, TCL.cl, TCL.no _ (List.mem_of_getElem? (i := 1) rfl), rfl, p, ap, ds, zs, rfl, hw.mono s04, ok, h12, s04 _ _ q4, zl, fun D H5 s5 hD => ?_⟩
    obtain ⟨des, D5, _, all⟩ := hD
    have at_ : ∀ e ∈ minE ds zs c, valV des (keyQ e.1) = some (.int e.2) := fun e he => by
      obtain ⟨⟨j, j1, j2⟩, _⟩ := minE_get he
      have := all j e.1 (List.getElem?_eq_some_iff.mp j1).1 j1
      rw [this, List.getElem?_map, j2]
      rfl
    have s05 := s04.trans s5
    obtain ⟨u0, hu0, hvs0⟩ : ∃ u0, H5 u0 = some (.tup [natV e0.1.1, natV e0.1.2]) ∧ vs4[(0 : Nat)]? = some (.ref u0) := by
      obtain ⟨v0, hv0⟩ : ∃ v, vs4[(0 : Nat)]? = some v := ⟨_, List.getElem?_eq_getElem (by rw [vl4, List.length_cons]; omega)⟩
      obtain ⟨e, u, he, rfl, hu⟩ := P4.get4 hv0
      obtain rfl : e0.1 = e := Option.some.inj he
      exact ⟨u, s5 _ _ hu, hv0⟩
    refine ⟨_, rfl, _, rfl, p, ds, c, rfl, hw.mono s05, ok, h12, hc, fun t6 us6 H6 s6 ht6 hP6 => ⟨t6, rfl, ⟨_, SqT.of ht6⟩, fun F hF => ?_⟩⟩
    rw [entO_min zl] at hP6
    have ul6 := hP6.len
    rw [List.length_map] at ul6
    have fc := few c
    have N6 := s6 _ _ (s5 _ _ N4)
    have D6 := s6 _ _ D5
    have u06 := s6 _ _ hu0
    refine lc_tupA rel_ps ((minE ds zs c).map fun e => if decide (e.2 = e0.2) = true then some e.1 else none) hF (by rw [List.length_map, ul6]) (by omega) (fun H' s' => SqT.of (s' _ _ ht6)) (fun j x cc hj hcc H7 s7 NN M _ hNN hM => ?_) (fun H7 vs7 s7 F7 P7 => ?_)
    · obtain ⟨e, u, he, rfl, hu⟩ := hP6.get4 hj
      rw [List.getElem?_map] at he hcc
      obtain ⟨ez, hez, rfl⟩ := Option.map_eq_some_iff.mp he
      rw [hez] at hcc
      have hcc : (if decide (ez.2 = e0.2) = true then some ez.1 else none) = cc := Option.some.inj hcc
      have d1 : DGet H7 D (.ref u) (some (.int ez.2)) := by
        rw [← at_ ez (List.mem_of_getElem? hez)]
        exact DGet.t (s7 _ _ D6) (s7 _ _ hu)
      have d0 : DGet H7 D (.ref u0) (some (.int e0.2)) := by
        rw [← at_ e0 e0c]
        exact DGet.t (s7 _ _ D6) (s7 _ _ u06)
      refine ⟨rfl, _, rfl, _, rfl, D, _, rfl, d1, _, rfl, _, rfl, N, _, ((0 : Nat) : Int), _, rfl, rfl, SqL.of (s7 _ _ N6), atI_nat hvs0, D, _, rfl, d0, rfl, _, rfl, ?_⟩
      by_cases z : ez.2 = e0.2
      · rw [decide_eq_true z] at hcc
        exact iteT' (decide_eq_true (by rw [z])) ⟨_, rfl, hNN _ hcc.symm _ _ (Same.refl _) (fun z => by cases z; rw [hF] at hu; cases hu) ⟨u, rfl, s7 _ _ hu⟩⟩
      · rw [decide_eq_false z] at hcc
        exact iteF' (decide_eq_false fun y => z (V.int.inj y)) (hM hcc.symm _ (Same.refl _))
    have P7 : PairsAt H7 vs7 (((minE ds zs c).filter fun e => decide (e.2 = e0.2)).map (·.1)) := by
      have := P7
      rw [some_filters (fun e : (Nat × Nat) × Int => e.1) (fun e : (Nat × Nat) × Int => decide (e.2 = e0.2))] at this
      exact this
    have vl7 := P7.len
    have pos : 0 < (((minE ds zs c).filter fun e => decide (e.2 = e0.2)).map (·.1)).length := List.length_pos_of_mem (List.mem_map.mpr ⟨e0, List.mem_filter.mpr ⟨e0c, decide_eq_true rfl⟩, rfl⟩)
    have ne7 : vs7 ≠ [] := fun z => by rw [z] at vl7; simp only [List.length_nil] at vl7; omega
    obtain ⟨us0, lv, rfl⟩ : ∃ us0 v, vs7 = us0 ++ [v] := ⟨vs7.dropLast, vs7.getLast ne7, (List.dropLast_concat_getLast ne7).symm⟩
    obtain ⟨el, lu, hel, rfl, hlu⟩ := P7.get4 (i := us0.length) (v := lv) (by rw [List.getElem?_append_right (Nat.le_refl _), Nat.sub_self]; rfl)
    have enm : nmE ds zs c e0.2 = el.2 := by
      unfold nmE
      rw [List.getLastD_eq_getLast?, List.getLast?_eq_getElem?, ← vl7, List.length_append, List.length_singleton, Nat.add_sub_cancel, hel]
      rfl
    have elm : el ∈ allE ds ∧ kinI ds c el.1 = true := by
      obtain ⟨ez, hez, rfl⟩ := List.mem_map.mp (List.mem_of_getElem? hel)
      obtain ⟨⟨j, j1, _⟩, kk⟩ := minE_get (List.mem_filter.mp hez).1
      exact ⟨List.mem_of_getElem? j1, kk⟩
    rw [enm] at k3 k4
    have s07 := (s05.trans s6).trans s7
    have g1 : ([natV el.1, natV el.2] : List V)[(1 : Nat)]? = some (natV el.2) := rfl
    refine ⟨_, rfl, _, rfl, _, rfl, _, rfl, F, _, -1, _, rfl, rfl, SqL.of F7, atI_last _ _, lu, _, ((1 : Nat) : Int), _, rfl, rfl, SqT.of hlu, atI_nat g1, p, ds, c, el.2, rfl, hw.mono s07, ok, hc, h12, name_six ok elm.1, fun a ha H8 s8 => k3 a ha H8 (s07.trans s8), fun z => absurd z (ans_ne hc elm.1 elm.2), fun a b r' ha d H8 s8 hd => k4 a b r' ha d H8 (s07.trans s8) hd⟩
end
end K57

set_option maxRecDepth 100000
set_option maxHeartbeats 8000000
namespace K57
open PySem PySem.Spec PyProof.Rows L2 Kw
/-- names that a class brings, as the law finds them -/
def newsL (ds : List Ent) (c : Nat) : List Nat := (methsOf ds c).filter fun m => ((elR ds c).filter fun x => (methsOf ds x).contains m).isEmpty
theorem news_eq {ds : List Ent} {c : Nat} (hc : c < ds.length) : newsE ds c = (newsL ds c).map fun m => (c, m) := by
  unfold newsE newsL
  congr 1
  refine List.filter_congr fun m hm => ?_
  unfold defL
  rw [kins_els hc, List.filter_append]
  have e : [c].filter (fun k => (methsOf ds k).contains m) = [c] := by
    rw [List.filter_cons, if_pos (List.contains_iff_mem.mpr hm)]
    rfl
  rw [e]
  show decide (((elR ds c).filter fun x => (methsOf ds x).contains m) ++ [c] = [c]) = _
  cases (elR ds c).filter fun x => (methsOf ds x).contains m with
  | nil => exact decide_eq_true rfl
  | cons a r =>
    refine decide_eq_false fun h => ?_
    have := congrArg List.length h
    rw [List.length_append, List.length_cons, List.length_singleton] at this
    omega
theorem outC_view {ds : List Ent} {zs : List Int} {view c m : Nat} (h : kinI ds c view = false) : outC ds zs view c m = .inr ("view", [view, c]) := by
  unfold outC
  rw [h]
  rfl
theorem outC_none {ds : List Ent} {zs : List Int} {view c m : Nat} (h : kinI ds c view = true) (hz : namZ ds zs view m = []) : outC ds zs view c m = .inr ("none", [view, m]) := by
  unfold outC
  rw [h, hz]
  rfl
theorem outC_some {ds : List Ent} {zs : List Int} {view c m : Nat} {e : (Nat × Nat) × Int} {r : List ((Nat × Nat) × Int)} (h : kinI ds c view = true) (hz : namZ ds zs view m = e :: r) : outC ds zs view c m = outA (ansL ds c (nmE ds zs c e.2)) c (nmE ds zs c e.2) := by
  unfold outC
  rw [h, hz]
  rfl
theorem up_nodupE {l : List Nat} (h : l.Pairwise (· < ·)) : l.Nodup := h.imp fun h => by omega
theorem nodup_lenE {α : Type} [DecidableEq α] : ∀ {l m : List α}, l.Nodup → (∀ x ∈ l, x ∈ m) → l.length ≤ m.length
  | [], _, _, _ => Nat.zero_le _
  | a :: r, m, nd, h => by
    obtain ⟨h1, h2⟩ := List.nodup_cons.mp nd
    have := nodup_lenE (l := r) (m := m.erase a) h2 fun x hx => (List.mem_erase_of_ne fun (e : x = a) => h1 (by rw [← e]; exact hx)).mpr (h x (List.mem_cons_of_mem _ hx))
    have am := h a List.mem_cons_self
    have lp := List.length_pos_of_mem am
    rw [List.length_erase_of_mem am] at this
    rw [List.length_cons]
    omega
section
variable {P : Program} {w : World} {K : PySem.W.Frag} {mg : Str → Option Value} {base : Heap} {f C CL Cn CHo CS Cv Cm Ct Cx : Addr} {fd : FuncData}
def spBrought : Sp := fun vs H Q _ => ∃ (r e : Addr) (us es : List V) (ds : List Ent) (c : Nat), vs = [.ref r, .ref e, natV c] ∧ H r = some (.lst us) ∧ RwN r H us ds ∧ DsOk ds ∧ ds.length ≤ 12 ∧ c < ds.length ∧ H e = some (.lst es) ∧ ListsAt H es (elsOf ds) ∧ ∀ t H', Same H H' → H' t = some (.lst ((newsL ds c).map natV)) → Q (.ref t) H'
theorem sc_brought : FnScope ["_law_rows", "_law_elders_here", "_law_c", "_law_name", "_law_one"] ["_law_rows", "_law_elders_here", "_law_c"] (defScope (top 59)) := ⟨rfl, rfl, rfl, by decide +kernel, rfl, by decide +kernel, by decide +kernel⟩
theorem ok_brought (F : FnP K "_law_brought" 59 f fd)
    (B : Fr mg) :
    FnOk P w K mg base CX0 1 f fd ["_law_rows", "_law_elders_here", "_law_c"] spBrought := by
  refine F.ok sc_brought (fun vs H Q E h => ?_) (fun cdv A outer s H vs Q E hr h => ?_)
  · obtain ⟨r, e, us, es, ds, c, rfl, _⟩ := h
    rfl
  · obtain ⟨r, e, us, es, ds, c, rfl, hr0, hR, ok, h12, hc, he, hL, k⟩ := h
    refine ⟨_, PSs.nox (pss_one (ps_ret (pe_lc (own := [("_law_name", 3)]) (g := (gName 3)) (tt := (tNot (tTru K (tLc (iList K (tOp (rIxL K) (tVar 1) (tVar 2))) (gName 4) (tTest (tOp (rIn K false) (tVar 3) (tOp (rIxT K) (tOp (rIxL K) (tVar 0) (tVar 4)) (tC (.int 2))))) (tVar 4) (List.map (fun x => x.snd) [("_law_one", 4)]))))) (te := (tVar 3)) rfl sc_brought.nd (pi_list (pe_ix (r := rIxT K) ix_tup (pe_ix (r := rIxL K) ix_list (pv 0) (pv 2) (fun _ _ => rfl)) pe_int (fun _ _ => rfl))) (blkOk_by (N := ["_law_rows", "_law_elders_here", "_law_c", "_law_name", "_law_one"]) (sc := defScope (top 59)) (by decide +kernel)) (fun _ _ _ _ _ => (pg_name (i := 3) sc_brought.nd rfl (Or.inr rfl))) (fun _ _ _ _ _ => ?x0) (fun _ _ _ _ _ => (pv 3))))), ?_⟩
    case x0 => exact pts_one (pt_not (pt_truth (pe_lc (own := [("_law_one", 4)]) (g := (gName 4)) (tt := (tTest (tOp (rIn K false) (tVar 3) (tOp (rIxT K) (tOp (rIxL K) (tVar 0) (tVar 4)) (tC (.int 2)))))) (te := (tVar 4)) rfl sc_brought.nd (pi_list (pe_ix (r := rIxL K) ix_list (pv 1) (pv 2) (fun _ _ => rfl))) (blkOk_by (by rfl)) (fun _ _ _ _ _ => (pg_name (i := 4) sc_brought.nd rfl (Or.inl rfl))) (fun _ _ _ _ _ => pts_one (pt_cmpR (r := (rIn K false)) op_in_seq (pv 3) (pe_ix (r := rIxT K) ix_tup (pe_ix (r := rIxL K) ix_list (pv 0) (pv 4) (fun _ _ => rfl)) pe_int (fun _ _ => rfl)) (by rfl))) (fun _ _ _ _ _ => (pv 4))) (by intro _; rfl)))
    have row : ∀ {H' : Hp} (x : Nat), Same H H' → x < ds.length → ∃ t b m, us[x]? = some (.ref t) ∧ H' t = some (.tup [.ref b, natV (owN ds x), .ref m]) ∧ H' m = some (.lst ((methsOf ds x).map natV)) := fun x s' hx => by
      obtain ⟨d, hd⟩ : ∃ d, ds[x]? = some d := ⟨_, List.getElem?_eq_getElem hx⟩
      obtain ⟨t, b, m, e1, e2, _, e4⟩ := hR.get hd
      refine ⟨t, b, m, e1, ?_, ?_⟩
      · unfold owN
        rw [List.getD_eq_getElem?_getD, hd]
        exact s' _ _ e2
      · unfold methsOf
        rw [List.getD_eq_getElem?_getD, hd]
        exact s' _ _ e4
    obtain ⟨t, tb, tm, r1, r2, r3⟩ := row c (Same.refl _) hc
    have p2 : ([.ref tb, natV (owN ds c), .ref tm] : List V)[(2 : Nat)]? = some (.ref tm) := rfl
    have m3 := meths_len ok c
    obtain ⟨el, hel⟩ : ∃ el, (elsOf ds)[c]? = some el := ⟨_, List.getElem?_eq_getElem (by rw [elsOf_len]; exact hc)⟩
    have eel : elR ds c = el := by unfold elR; rw [List.getD_eq_getElem?_getD, hel]; rfl
    obtain ⟨te, ht1, ht2⟩ := hL.get hel
    have e12 : el.length ≤ 12 := by
      rw [← eel]
      have := nodup_lenE (m := List.range ds.length) (up_nodupE (elR_up hc)) fun x hx => List.mem_range.mpr (Nat.lt_trans (elR_lt hx) hc)
      rw [List.length_range] at this
      omega
    refine ⟨_, rfl, _, rfl, r, us, (c : Int), _, rfl, rfl, SqL.of hr0, atI_nat r1, t, _, ((2 : Nat) : Int), _, rfl, rfl, SqT.of r2, atI_nat p2, tm, rfl, ⟨_, SqL.of r3⟩, fun D hD => ?_⟩
    refine lc_listA rel_nat ((methsOf ds c).map fun m => if ((elR ds c).filter fun x => (methsOf ds x).contains m).isEmpty = true then some m else none) hD (by rw [List.length_map, List.length_map]) (by rw [List.length_map]; omega) (fun H' s' => SqL.of (s' _ _ r3)) (fun j x cc hj hcc H3 s3 N M ⟨u0, hu0⟩ hN hM => ?_) (fun H3 vs s3 D3 P3 => ?_)
    · rw [List.getElem?_map] at hj hcc
      obtain ⟨m, hm, rfl⟩ := Option.map_eq_some_iff.mp hj
      rw [hm] at hcc
      have hcc := Option.some.inj hcc
      dsimp only at hcc
      refine ⟨rfl, _, rfl, _, rfl, e, es, (c : Int), _, rfl, rfl, SqL.of (s3 _ _ he), atI_nat ht1, te, rfl, ⟨_, SqL.of (s3 _ _ ht2)⟩, fun D2 hD2 => ?_⟩
      refine lc_listA rel_nat (el.map fun x => if (methsOf ds x).contains m = true then some x else none) hD2 (by rw [List.length_map, List.length_map]) (by rw [List.length_map]; omega) (fun H' s' => SqL.of (s' _ _ (s3 _ _ ht2))) (fun j2 x2 c2 hj2 hc2 H4 s4 N2 M2 _ hN2 hM2 => ?_) (fun H4 vs4 s4 D4 P4 => ?_)
      · rw [List.getElem?_map] at hj2 hc2
        obtain ⟨x, hx, rfl⟩ := Option.map_eq_some_iff.mp hj2
        rw [hx] at hc2
        have hc2 := Option.some.inj hc2
        dsimp only at hc2
        have xl : x < ds.length := Nat.lt_trans (elR_lt (c := c) (by rw [eel]; exact List.mem_of_getElem? hx)) hc
        obtain ⟨t', tb', tm', q1, q2, q3⟩ := row x (s3.trans s4) xl
        have p2' : ([.ref tb', natV (owN ds x), .ref tm'] : List V)[(2 : Nat)]? = some (.ref tm') := rfl
        refine ⟨rfl, _, rfl, _, rfl, _, rfl, r, us, (x : Int), _, rfl, rfl, SqL.of (s4 _ _ (s3 _ _ hr0)), atI_nat q1, t', _, ((2 : Nat) : Int), _, rfl, rfl, SqT.of q2, atI_nat p2', tm', _, rfl, .inl (SqL.of q3), rfl, flat_nats _, _, rfl, ?_⟩
        show (if inV (natV m) ((methsOf ds x).map natV) = true then _ else _)
        rw [inV_nat]
        cases z : (methsOf ds x).contains m with
        | true =>
          rw [z] at hc2
          exact iteT' rfl ⟨_, rfl, hN2 _ hc2.symm _ _ (Same.refl _) (fun z => by cases z) rfl⟩
        | false =>
          rw [z] at hc2
          exact iteF' rfl (hM2 hc2.symm _ (Same.refl _))
      · rw [some_filters (fun x : Nat => x) (fun x : Nat => (methsOf ds x).contains m), List.map_id'] at P4
        rw [paired_nat (H := H4) P4, ← eel] at D4
        refine ⟨_, .inl ⟨_, SqL.of D4, rfl⟩, ?_⟩
        cases z : (elR ds c).filter fun x => (methsOf ds x).contains m with
        | nil =>
          rw [z] at hcc
          exact iteT' rfl ⟨_, rfl, hN _ hcc.symm _ _ s4 (fun z => by cases z) rfl⟩
        | cons a rr =>
          rw [z] at hcc
          exact iteF' rfl (hM hcc.symm _ s4)
    · rw [some_filters (fun m : Nat => m) (fun m : Nat => ((elR ds c).filter fun x => (methsOf ds x).contains m).isEmpty), List.map_id'] at P3
      rw [paired_nat (H := H3) P3] at D3
      exact k D H3 s3 D3
def spLEnts : Sp := fun vs H Q _ => ∃ (r : Addr) (us : List V) (ds : List Ent), vs = [.ref r] ∧ H r = some (.lst us) ∧ RwN r H us ds ∧ DsOk ds ∧ ds.length ≤ 12 ∧ ∀ t vs H', Same H H' → H' t = some (.lst vs) → PairsAt H' vs (allE ds) → Q (.ref t) H'
theorem sc_lEnts : FnScope ["_law_rows", "_law_elders_here", "_law_found_here", "_law_c", "_law_name"] ["_law_rows"] (defScope (top 60)) := ⟨rfl, rfl, rfl, by decide +kernel, rfl, by decide +kernel, by decide +kernel⟩
theorem ok_lEnts {f__law_brought f__law_elders : Addr} {fd__law_brought fd__law_elders : FuncData} (F : FnP K "_law_entries" 60 f fd)
    (B : Fr mg)
    (F__law_elders : FnP K "_law_elders" 55 f__law_elders fd__law_elders)
    (m__law_elders : mg "_law_elders" = some (.ref f__law_elders))
    (G__law_elders : FnOk P w K mg base CX0 1 f__law_elders fd__law_elders ["_law_rows"] spLElders)
    (F__law_brought : FnP K "_law_brought" 59 f__law_brought fd__law_brought)
    (m__law_brought : mg "_law_brought" = some (.ref f__law_brought))
    (G__law_brought : FnOk P w K mg base CX0 1 f__law_brought fd__law_brought ["_law_rows", "_law_elders_here", "_law_c"] spBrought) :
    FnOk P w K mg base CX0 2 f fd ["_law_rows"] spLEnts := by
  have b__law_elders : L2.Binds K fd__law_elders ["_law_rows"] [] := F__law_elders.bindsN fun _ _ _ _ _ _ us hl => match us, hl with | [_], _ => rfl
  have b__law_brought : L2.Binds K fd__law_brought ["_law_rows", "_law_elders_here", "_law_c"] [] := F__law_brought.bindsN fun _ _ _ _ _ _ us hl => match us, hl with | [_, _, _], _ => rfl
  refine F.ok sc_lEnts (fun vs H Q E h => ?_) (fun cdv A outer s H vs Q E hr h => ?_)
  · obtain ⟨r, us, ds, rfl, _⟩ := h
    rfl
  · obtain ⟨r, us, ds, rfl, hr0, hR, ok, h12, k⟩ := h
    refine ⟨_, PSs.nox (pss_cons (ps_set (i := 1) sc_lEnts.nd rfl (Or.inl rfl) (pe_call G__law_elders (hr.mono (by decide)) (by rfl) m__law_elders F__law_elders.kp b__law_elders .nil pass0 (pa_cons (pv 0) pa_nil)))
      (pss_cons (ps_set (i := 2) sc_lEnts.nd rfl (Or.inl rfl) (pe_lst pa_nil))
      (pss_cons (ps_for PassesOwn.never rfl (pi_range1 (by rfl) B.range (pa_cons (pe_callB (id := "len") (r := rLenS K) (call_lenS (X := _)) (by rfl) B.len PySem.boot_len (pa_cons (pv 0) pa_nil)) pa_nil)) (pg_name (i := 3) sc_lEnts.nd rfl (Or.inr rfl))
        (pss_one (ps_set (i := 2) sc_lEnts.nd rfl (Or.inl rfl) (pe_op op_cat (pv 2) (pe_lc (own := [("_law_name", 4)]) (g := (gName 4)) (tt := tYes) (te := (tTup (tCons (tVar 3) (tCons (tVar 4) tNil)))) rfl sc_lEnts.nd (pi_list (pe_call G__law_brought (hr.mono (by decide)) (by rfl) m__law_brought F__law_brought.kp b__law_brought .nil pass0 (pa_cons (pv 0) (pa_cons (pv 1) (pa_cons (pv 3) pa_nil))))) (blkOk_by (N := ["_law_rows", "_law_elders_here", "_law_found_here", "_law_c", "_law_name"]) (sc := defScope (top 60)) (by decide +kernel)) (fun _ _ _ _ _ => (pg_name (i := 4) sc_lEnts.nd rfl (Or.inl rfl))) (fun _ _ _ _ _ => pts_nil) (fun _ _ _ _ _ => ?x0))))))
      (pss_one (ps_ret (pv 2)))))), ?_⟩
    case x0 => exact (pe_tup (pa_cons (pv 3) (pa_cons (pv 4) pa_nil)))
    have al := allE_len ok
    have usl := hR.len
    refine ⟨_, rfl, r, us, ds.map (·.1), rfl, hr0, hR.rows, ok.valid, by rw [List.length_map]; omega, fun row hw => by have := ok.short row hw; rw [List.length_map]; have : row.length * ds.length ≤ 3 * 12 := Nat.mul_le_mul (by omega) h12; omega, fun H1 E eus s1 nE hE neE hL => ?_⟩
    have hL : ListsAt H1 eus (elsOf ds) := hL
    refine ⟨(by show 0 ≤ sizeLine; decide), fun R0 hR0 => ?_⟩
    have s2 := s1.trans (same_new (o := .lst []) hR0)
    have sR := same_new (o := .lst []) hR0
    have h2R := upd_same (H := H1) (a := R0) (o := .lst [])
    generalize upd H1 R0 (.lst []) = H2 at s2 sR h2R ⊢
    refine ⟨_, rfl, r, us, rfl, .inl (SqL.of (s2 _ _ hr0)), us.length, rfl, by omega, by omega, ?_⟩
    refine for_range (n := us.length) (fun i σ H' => ∃ (F : Addr) (vs : List V) (x3 : Option V), σ = [some (.ref r), some (.ref E), some (.ref F), x3, none] ∧ Same H2 H' ∧ H' F = some (.lst vs) ∧ PairsAt H' vs ((List.range i).flatMap (newsE ds))) ⟨R0, [], none, rfl, Same.refl _, h2R, .nil⟩ ?_ ?_
    · rintro i σ H3 hi ⟨F, vs, x3, rfl, s3, h3F, hP⟩
      have hi' : i < ds.length := by omega
      have ei : V.int ((0 : Int) + (i : Int)) = natV i := congrArg V.int (by omega)
      rw [ei]
      have s03 := s2.trans s3
      have s13 := sR.trans s3
      refine ⟨_, rfl, _, rfl, _, rfl, _, rfl, r, E, us, eus, ds, i, rfl, s03 _ _ hr0, hR.keep (KeepX.of s03), ok, h12, hi', s13 _ _ hE, hL.sameN s13, fun t H4 s4 ht => ⟨t, rfl, ⟨_, SqL.of ht⟩, fun D hD => ?_⟩⟩
      have nl := news_len ok i
      rw [news_eq hi', List.length_map] at nl
      refine lc_listA rel_ps ((newsL ds i).map fun m => some (i, m)) hD (by rw [List.length_map, List.length_map]) (by rw [List.length_map]; omega) (fun H' s' => SqL.of (s' _ _ ht)) (fun j x cc hj hcc H5 s5 N M ⟨u0, hu0⟩ hN hM => ?_) (fun H5 vs5 s5 D5 P5 => ?_)
      · rw [List.getElem?_map] at hj hcc
        obtain ⟨m, hm, rfl⟩ := Option.map_eq_some_iff.mp hj
        rw [hm] at hcc
        have hcc := Option.some.inj hcc
        refine ⟨rfl, _, rfl, _, rfl, (by show 2 ≤ sizeLine; decide), fun T hT => ?_⟩
        have sT := same_new (o := .tup [natV i, natV m]) hT
        exact hN _ hcc.symm _ _ sT (fun z => by cases z; exact absurd (hu0.symm.trans hT) (fun z => by cases z)) ⟨T, rfl, upd_same⟩
      · have P5 : PairsAt H5 vs5 (newsE ds i) := by
          have := P5
          rw [some_maps (fun m => (i, m)), ← news_eq hi'] at this
          exact this
        have s35 := s4.trans s5
        have l5 := P5.len
        have lp := hP.len
        have sub : ((List.range i).flatMap (newsE ds)).length ≤ (allE ds).length := by
          have e : allE ds = (List.range i).flatMap (newsE ds) ++ ((List.range (ds.length - i)).map (i + ·)).flatMap (newsE ds) := by
            unfold allE
            rw [← List.flatMap_append, ← List.range_add]
            congr 2
            omega
          rw [e, List.length_append]
          omega
        refine ⟨F, D, vs, vs5, rfl, rfl, s35 _ _ h3F, D5, (by rw [l5, lp, news_eq hi', List.length_map]; show _ ≤ 2 ^ 24; omega), fun N hN => ?_⟩
        have sN := same_new (o := .lst (vs ++ vs5)) hN
        refine ⟨N, _, _, rfl, (s3.trans s35).trans sN, upd_same, ?_⟩
        rw [List.range_succ, List.flatMap_append, List.flatMap_cons, List.flatMap_nil, List.append_nil]
        exact (hP.same (s35.trans sN)).app (P5.same sN)
    · rintro σ H3 ⟨F, vs, x3, rfl, s3, h3F, hP⟩
      rw [usl] at hP
      exact ⟨_, rfl, k F vs H3 (s2.trans s3) h3F hP⟩
def spLFound : Sp := fun vs H Q _ => ∃ (l a : Addr) (us es : List V) (ds : List Ent) (c m : Nat), vs = [.ref l, .ref a, natV c, natV m] ∧ H l = some (.lst us) ∧ RwN l H us ds ∧ DsOk ds ∧ ds.length ≤ 12 ∧ c < ds.length ∧ H a = some (.lst es) ∧ ListsAt H es (elsOf ds) ∧ m < 6 ∧ ansL ds c m ≠ [] ∧ ∀ v H', Same H H' → OutV H' v (outA (ansL ds c m) c m) → Q v H'
theorem sc_lFound : FnScope ["_law_rows", "_law_elders_here", "_law_c", "_law_name", "_law_lot"] ["_law_rows", "_law_elders_here", "_law_c", "_law_name"] (defScope (top 65)) := ⟨rfl, rfl, rfl, by decide +kernel, rfl, by decide +kernel, by decide +kernel⟩
theorem ok_lFound {f__law_answers : Addr} {fd__law_answers : FuncData} (F : FnP K "_law_found" 65 f fd)
    (B : Fr mg)
    (F__law_answers : FnP K "_law_answers" 58 f__law_answers fd__law_answers)
    (m__law_answers : mg "_law_answers" = some (.ref f__law_answers))
    (G__law_answers : FnOk P w K mg base CX0 2 f__law_answers fd__law_answers ["_law_rows", "_law_elders_here", "_law_c", "_law_name"] spLAns) :
    FnOk P w K mg base CX0 4 f fd ["_law_rows", "_law_elders_here", "_law_c", "_law_name"] spLFound := by
  have b__law_answers : L2.Binds K fd__law_answers ["_law_rows", "_law_elders_here", "_law_c", "_law_name"] [] := F__law_answers.bindsN fun _ _ _ _ _ _ us hl => match us, hl with | [_, _, _, _], _ => rfl
  refine F.ok sc_lFound (fun vs H Q E h => ?_) (fun cdv A outer s H vs Q E hr h => ?_)
  · obtain ⟨l, a, us, es, ds, c, m, rfl, _⟩ := h
    rfl
  · obtain ⟨l, a, us, es, ds, c, m, rfl, hl, hR, ok, h12, hc, ha, hL, hm, ne, k⟩ := h
    refine ⟨_, PSs.nox (pss_cons (ps_set (i := 4) sc_lFound.nd rfl (Or.inl rfl) (pe_call G__law_answers (hr.mono (by decide)) (by rfl) m__law_answers F__law_answers.kp b__law_answers .nil pass0 (pa_cons (pv 0) (pa_cons (pv 1) (pa_cons (pv 2) (pa_cons (pv 3) pa_nil))))))
      (pss_one (ps_ret (pe_ifExp (pt_cmpR op_eq (pe_callB (id := "len") (r := rLenS K) (call_lenS (X := _)) (by rfl) B.len PySem.boot_len (pa_cons (pv 4) pa_nil)) pe_int (nomark _)) (pe_ix (r := rIxL K) ix_list (pv 4) pe_int (fun _ _ => rfl)) (pe_tup (pa_cons pe_str (pa_cons (pv 2) (pa_cons (pv 3) (pa_cons (pe_ix (r := rIxL K) ix_list (pv 4) pe_int (fun _ _ => rfl)) (pa_cons (pe_ix (r := rIxL K) ix_list (pv 4) pe_int (fun _ _ => rfl)) pa_nil)))))))))), ?_⟩
    refine ⟨_, rfl, _, rfl, _, rfl, _, rfl, l, a, us, es, ds, c, m, rfl, hl, hR, ok, h12, hc, ha, hL, fun D H1 s1 hD => ?_⟩
    have d12 := Nat.le_trans (topsL_len (els := elsOf ds) (xs := defL ds c m)) (defL_len ok hc h12)
    have d12 : (ansL ds c m).length ≤ 12 := d12
    refine ⟨_, rfl, D, _, rfl, .inl (SqL.of hD), rfl, _, rfl, ?_⟩
    cases e : ansL ds c m with
    | nil => exact absurd e ne
    | cons x rr =>
      rw [e] at hD k
      cases rr with
      | nil => exact iteT' rfl ⟨_, rfl, D, _, ((0 : Nat) : Int), _, rfl, rfl, SqL.of hD, atI_nat rfl, k _ _ s1 rfl⟩
      | cons y rr =>
        refine iteF' (decide_eq_false fun z => by have := V.int.inj z; simp at this; omega) ⟨_, rfl, _, rfl, _, rfl, D, _, ((0 : Nat) : Int), _, rfl, rfl, SqL.of hD, atI_nat rfl, _, rfl, D, _, ((1 : Nat) : Int), _, rfl, rfl, SqL.of hD, atI_nat rfl, (by show 5 ≤ sizeLine; decide), fun t ht => ?_⟩
        exact k _ _ (s1.trans (same_new ht)) ⟨t, rfl, upd_same⟩
def spLCall (C CL : Addr) : Sp := fun vs H Q _ => ∃ (p q : Addr) (ds : List Ent) (zs : List Int) (view c m : Nat), vs = [.ref p, .ref q, natV view, natV c, natV m] ∧ WorldAt H p C ds ∧ DsOk ds ∧ ds.length ≤ 12 ∧ LayAt H q CL (entD ds) zs ∧ view < ds.length ∧ c < ds.length ∧ m < 6 ∧ ∀ v H', Same H H' → OutV H' v (outC ds zs view c m) → Q v H'
theorem sc_lCall : FnScope ["_law_world", "_law_laying", "_law_view", "_law_c", "_law_name", "_law_told", "wrong"] ["_law_world", "_law_laying", "_law_view", "_law_c", "_law_name"] (defScope (top 63)) := ⟨rfl, rfl, rfl, by decide +kernel, rfl, by decide +kernel, by decide +kernel⟩
theorem ok_lCall {f_call_by_table fi_NoMethod fi_NotView fi_TwoAnswers : Addr} {fd_call_by_table : FuncData} (F : FnP K "_law_call" 63 f fd)
    (B : Fr mg)
    (F_call_by_table : FnP K "call_by_table" 46 f_call_by_table fd_call_by_table)
    (m_call_by_table : mg "call_by_table" = some (.ref f_call_by_table))
    (G_call_by_table : FnOk P w K mg base (L2.CX P w) 7 f_call_by_table fd_call_by_table ["world", "laying", "view", "c", "name"] (spCallT C CL Cv Cm Ct))
    (T_NotView : ErrX K mg "NotView" ["view", "cls"] Cv fi_NotView)
    (XX_NotView : XfC K Cv)
    (T_NoMethod : ErrX K mg "NoMethod" ["cls", "name"] Cm fi_NoMethod)
    (XX_NoMethod : XfC K Cm)
    (T_TwoAnswers : ErrX K mg "TwoAnswers" ["cls", "name", "a", "b"] Ct fi_TwoAnswers)
    (XX_TwoAnswers : XfC K Ct)
    (ex_NotView : PySem.W.exmOne K (.ref Cv) (.ref Cv) = some true)
    (ex_NoMethod_NotView : PySem.W.exmOne K (.ref Cm) (.ref Cv) = some false)
    (ex_NoMethod : PySem.W.exmOne K (.ref Cm) (.ref Cm) = some true)
    (ex_TwoAnswers_NotView : PySem.W.exmOne K (.ref Ct) (.ref Cv) = some false)
    (ex_TwoAnswers_NoMethod : PySem.W.exmOne K (.ref Ct) (.ref Cm) = some false)
    (ex_TwoAnswers : PySem.W.exmOne K (.ref Ct) (.ref Ct) = some true) :
    FnOk P w K mg base CX0 8 f fd ["_law_world", "_law_laying", "_law_view", "_law_c", "_law_name"] (spLCall C CL) := by
  have b_call_by_table : L2.Binds K fd_call_by_table ["world", "laying", "view", "c", "name"] [] := F_call_by_table.bindsN fun _ _ _ _ _ _ us hl => match us, hl with | [_, _, _, _, _], _ => rfl
  refine F.ok sc_lCall (fun vs H Q E h => ?_) (fun cdv A outer s H vs Q E hr h => ?_)
  · obtain ⟨p, q, ds, zs, view, c, m, rfl, _⟩ := h
    rfl
  · obtain ⟨p, q, ds, zs, view, c, m, rfl, hw, ok, h12, hq, hv, hc, hm, k⟩ := h
    refine ⟨_, PSs.nox (pss_cons (ps_try_manyAs (i := 6) rfl rfl sc_lCall.nd rfl rfl takes0
          (fun W pn xe tk _ => (pss_one (ps_set (i := 5) sc_lCall.nd rfl (Or.inl rfl) (pe_callS G_call_by_table (hr.mono (by decide)) (by rfl) m_call_by_table F_call_by_table.kp b_call_by_table (fun σ => passAt tk σ) (pa_cons (pv 0) (pa_cons (pv 1) (pa_cons (pv 2) (pa_cons (pv 3) (pa_cons (pv 4) pa_nil)))))))))
          (.cons ⟨rfl, by decide, .inl T_NotView.mg⟩ (fun a oe cls d pn hz hf => (pss_one (ps_set (i := 5) sc_lCall.nd rfl (Or.inl rfl) (pe_tup (pa_cons pe_str (pa_cons (pe_xf XX_NotView (T_NotView.no _ (List.mem_of_getElem? (i := 0) rfl)) hz hf (pv 6)) (pa_cons (pe_xf XX_NotView (T_NotView.no _ (List.mem_of_getElem? (i := 1) rfl)) hz hf (pv 6)) pa_nil))))))) (.cons ⟨rfl, by decide, .inl T_NoMethod.mg⟩ (fun a oe cls d pn hz hf => (pss_one (ps_set (i := 5) sc_lCall.nd rfl (Or.inl rfl) (pe_tup (pa_cons pe_str (pa_cons (pe_xf XX_NoMethod (T_NoMethod.no _ (List.mem_of_getElem? (i := 0) rfl)) hz hf (pv 6)) (pa_cons (pe_xf XX_NoMethod (T_NoMethod.no _ (List.mem_of_getElem? (i := 1) rfl)) hz hf (pv 6)) pa_nil))))))) (.cons ⟨rfl, by decide, .inl T_TwoAnswers.mg⟩ (fun a oe cls d pn hz hf => (pss_one (ps_set (i := 5) sc_lCall.nd rfl (Or.inl rfl) (pe_tup (pa_cons pe_str (pa_cons (pe_xf XX_TwoAnswers (T_TwoAnswers.no _ (List.mem_of_getElem? (i := 0) rfl)) hz hf (pv 6)) (pa_cons (pe_xf XX_TwoAnswers (T_TwoAnswers.no _ (List.mem_of_getElem? (i := 1) rfl)) hz hf (pv 6)) (pa_cons (pe_xf XX_TwoAnswers (T_TwoAnswers.no _ (List.mem_of_getElem? (i := 2) rfl)) hz hf (pv 6)) (pa_cons (pe_xf XX_TwoAnswers (T_TwoAnswers.no _ (List.mem_of_getElem? (i := 3) rfl)) hz hf (pv 6)) pa_nil))))))))) .nil))))
      (pss_one (ps_ret (pv 5)))), ?_⟩
    refine ⟨_, rfl, _, rfl, _, rfl, _, rfl, _, rfl, p, q, ds, zs, view, c, m, rfl, hw, ok, h12, hq, hv, hc, hm, fun hk d H1 s1 he => ?_, fun hk hz d H1 s1 he => ?_, fun e er hk hz => ⟨fun a ha H1 s1 => ?_, fun a b r' ha d H1 s1 he => ?_⟩⟩
    · refine ⟨true, ex_NotView, fun _ xa hxa => ?_, fun q => nomatch q⟩
      refine ⟨_, rfl, rfl, rfl, d, _, _, rfl, he, rfl, _, rfl, rfl, rfl, d, _, _, rfl, he, rfl, (by show 3 ≤ sizeLine; decide), fun T hT => ?_⟩
      exact ⟨_, rfl, k _ _ (s1.trans (same_new hT)) (by rw [outC_view hk]; exact ⟨T, rfl, upd_same⟩)⟩
    · refine ⟨false, ex_NoMethod_NotView, (fun q => nomatch q), fun _ => ⟨true, ex_NoMethod, fun _ xa hxa => ?_, fun q => nomatch q⟩⟩
      refine ⟨_, rfl, rfl, rfl, d, _, _, rfl, he, rfl, _, rfl, rfl, rfl, d, _, _, rfl, he, rfl, (by show 3 ≤ sizeLine; decide), fun T hT => ?_⟩
      exact ⟨_, rfl, k _ _ (s1.trans (same_new hT)) (by rw [outC_none hk hz]; exact ⟨T, rfl, upd_same⟩)⟩
    · exact ⟨_, rfl, k _ _ s1 (by rw [outC_some hk hz, ha]; rfl)⟩
    · refine ⟨false, ex_TwoAnswers_NotView, (fun q => nomatch q), fun _ => ⟨false, ex_TwoAnswers_NoMethod, (fun q => nomatch q), fun _ => ⟨true, ex_TwoAnswers, fun _ xa hxa => ?_, fun q => nomatch q⟩⟩⟩
      refine ⟨_, rfl, rfl, rfl, d, _, _, rfl, he, rfl, _, rfl, rfl, rfl, d, _, _, rfl, he, rfl, _, rfl, rfl, rfl, d, _, _, rfl, he, rfl, _, rfl, rfl, rfl, d, _, _, rfl, he, rfl, (by show 5 ≤ sizeLine; decide), fun T hT => ?_⟩
      exact ⟨_, rfl, k _ _ (s1.trans (same_new hT)) (by rw [outC_some hk hz, ha]; exact ⟨T, rfl, upd_same⟩)⟩
end
end K57

set_option maxRecDepth 100000
set_option maxHeartbeats 8000000
namespace K57
open PySem PySem.Spec PyProof.Rows L2 Kw
/-- x in a list and one more -/
theorem kin_q {K : PySem.W.Frag} {H : Hp} {te : Addr} {el : List Nat} {x y : Nat} {Q : VK} (hte : H te = some (.lst (el.map natV))) (e12 : el.length ≤ 12) (q : ∀ H', Same H H' → Q (.bl ((el ++ [x]).contains y)) H') :
    [natV x].length ≤ sizeLine ∧ ∀ L, H L = none → rCat (.ref te) (.ref L) (upd H L (.lst [natV x])) fun v H1 => rIn K false (natV y) v H1 Q := by
  refine ⟨(by show 1 ≤ sizeLine; decide), fun L hL => ?_⟩
  have sL := same_new (o := .lst [natV x]) hL
  refine ⟨te, L, _, _, rfl, rfl, sL _ _ hte, upd_same, (by rw [List.length_map]; show _ + 1 ≤ 2 ^ 24; omega), fun N hN => ?_⟩
  have e : el.map natV ++ [natV x] = (el ++ [x]).map natV := by rw [List.map_append]; rfl
  rw [e]
  have sN := sL.trans (same_new (o := .lst ((el ++ [x]).map natV)) hN)
  refine ⟨N, _, rfl, .inl (SqL.of upd_same), rfl, flat_nats _, ?_⟩
  show Q (.bl (inV (natV y) ((el ++ [x]).map natV))) _
  rw [inV_nat]
  exact q _ sN
theorem kin_qN {K : PySem.W.Frag} {H : Hp} {te : Addr} {el : List Nat} {x y : Nat} {Q : VK} (hte : H te = some (.lst (el.map natV))) (e12 : el.length ≤ 12) (q : ∀ H', Same H H' → Q (.bl (!(el ++ [x]).contains y)) H') :
    [natV x].length ≤ sizeLine ∧ ∀ L, H L = none → rCat (.ref te) (.ref L) (upd H L (.lst [natV x])) fun v H1 => rIn K true (natV y) v H1 Q := by
  refine ⟨(by show 1 ≤ sizeLine; decide), fun L hL => ?_⟩
  have sL := same_new (o := .lst [natV x]) hL
  refine ⟨te, L, _, _, rfl, rfl, sL _ _ hte, upd_same, (by rw [List.length_map]; show _ + 1 ≤ 2 ^ 24; omega), fun N hN => ?_⟩
  have e : el.map natV ++ [natV x] = (el ++ [x]).map natV := by rw [List.map_append]; rfl
  rw [e]
  have sN := sL.trans (same_new (o := .lst ((el ++ [x]).map natV)) hN)
  refine ⟨N, _, rfl, .inl (SqL.of upd_same), rfl, flat_nats _, ?_⟩
  show Q (.bl (!inV (natV y) ((el ++ [x]).map natV))) _
  rw [inV_nat]
  exact q _ sN
theorem eqv_nilE (l : List Nat) : PyData.eqv (.list (l.map dN)) (.list []) = l.isEmpty := by
  cases l with
  | nil => simp [PyData.eqv, PyData.eqvAll]
  | cons a r => simp [PyData.eqv, PyData.eqvAll]
/-- the entry at an index, and its place -/
def enG (ds : List Ent) (zs : List Int) (i : Nat) : (Nat × Nat) × Int := ((allE ds).getD i (0, 0), zs.getD i 0)
def knI (ds : List Ent) (zs : List Int) (view m : Nat) : List Nat := (List.range (allE ds).length).filter fun i => decide ((enG ds zs i).1.2 = m) && kinI ds view (enG ds zs i).1.1
def thI (ds : List Ent) (zs : List Int) (c : Nat) (z : Int) : List Nat := (List.range (allE ds).length).filter fun i => decide ((enG ds zs i).2 = z) && kinI ds c (enG ds zs i).1.1
def miI (ds : List Ent) (zs : List Int) (c : Nat) : List Nat := (List.range (allE ds).length).filter fun i => kinI ds c (enG ds zs i).1.1
section
variable {ds : List Ent} {zs : List Int}
theorem enG_at {i : Nat} {e : Nat × Nat} (h : (allE ds)[i]? = some e) : (enG ds zs i).1 = e := by
  unfold enG
  rw [List.getD_eq_getElem?_getD, h]
  rfl
theorem enG_z {i : Nat} {z : Int} (h : zs[i]? = some z) : (enG ds zs i).2 = z := by
  unfold enG
  rw [List.getD_eq_getElem?_getD (l := zs), h]
  rfl
theorem zip_g (zl : zs.length = (allE ds).length) : (allE ds).zip zs = (List.range (allE ds).length).map (enG ds zs) := by
  refine List.ext_getElem? fun i => ?_
  rw [List.getElem?_map]
  by_cases q : i < (allE ds).length
  · rw [List.getElem?_range q]
    have h1 : (allE ds)[i]? = some (allE ds)[i] := List.getElem?_eq_getElem q
    have h2 : zs[i]? = some zs[i] := List.getElem?_eq_getElem (by omega)
    have h3 : ((allE ds).zip zs)[i]? = some ((allE ds)[i], zs[i]) := List.getElem?_zip_eq_some.mpr ⟨h1, h2⟩
    rw [h3]
    show some ((allE ds)[i], zs[i]) = some (enG ds zs i)
    rw [← enG_at (zs := zs) h1, ← enG_z (ds := ds) h2]
  · rw [List.getElem?_eq_none (by rw [List.length_zip]; omega), List.getElem?_eq_none (by rw [List.length_range]; omega)]
    rfl
theorem min_g (zl : zs.length = (allE ds).length) {c : Nat} : minE ds zs c = (miI ds zs c).map (enG ds zs) := by
  unfold minE miI
  rw [zip_g zl, List.filter_map]
  rfl
theorem nam_g (zl : zs.length = (allE ds).length) {view m : Nat} : namZ ds zs view m = (knI ds zs view m).map (enG ds zs) := by
  unfold namZ
  rw [min_g zl, List.filter_map]
  unfold miI knI
  rw [List.filter_filter]
  rfl
theorem cel_g (zl : zs.length = (allE ds).length) {c : Nat} {z : Int} : (minE ds zs c).filter (fun e => decide (e.2 = z)) = (thI ds zs c z).map (enG ds zs) := by
  rw [min_g zl, List.filter_map]
  unfold miI thI
  rw [List.filter_filter]
  rfl
end
section
variable {P : Program} {w : World} {K : PySem.W.Frag} {mg : Str → Option Value} {base : Heap} {f C CL Cn CHo CS Cv Ct Cx : Addr} {fd : FuncData}
def spLDueC : Sp := fun vs H Q _ => ∃ (r e z : Addr) (us es : List V) (ds : List Ent) (zs : List Int) (view c m : Nat), vs = [.ref r, .ref e, .ref z, natV view, natV c, natV m] ∧ H r = some (.lst us) ∧ RwN r H us ds ∧ DsOk ds ∧ ds.length ≤ 12 ∧ H e = some (.lst es) ∧ ListsAt H es (elsOf ds) ∧ H z = some (.lst (zs.map V.int)) ∧ zs.length = (allE ds).length ∧ view < ds.length ∧ c < ds.length ∧ m < 6 ∧ ∀ v H', Same H H' → OutV H' v (outC ds zs view c m) → Q v H'
theorem sc_lDueC : FnScope ["_law_rows", "_law_elders_here", "_law_places", "_law_view", "_law_c", "_law_name", "_law_entries_here", "_law_known", "_law_at", "_law_there"] ["_law_rows", "_law_elders_here", "_law_places", "_law_view", "_law_c", "_law_name"] (defScope (top 64)) := ⟨rfl, rfl, rfl, by decide +kernel, rfl, by decide +kernel, by decide +kernel⟩
theorem ok_lDueC {f__law_entries f__law_found : Addr} {fd__law_entries fd__law_found : FuncData} (F : FnP K "_law_call_due" 64 f fd)
    (B : Fr mg)
    (F__law_entries : FnP K "_law_entries" 60 f__law_entries fd__law_entries)
    (m__law_entries : mg "_law_entries" = some (.ref f__law_entries))
    (G__law_entries : FnOk P w K mg base CX0 2 f__law_entries fd__law_entries ["_law_rows"] spLEnts)
    (F__law_found : FnP K "_law_found" 65 f__law_found fd__law_found)
    (m__law_found : mg "_law_found" = some (.ref f__law_found))
    (G__law_found : FnOk P w K mg base CX0 4 f__law_found fd__law_found ["_law_rows", "_law_elders_here", "_law_c", "_law_name"] spLFound) :
    FnOk P w K mg base CX0 5 f fd ["_law_rows", "_law_elders_here", "_law_places", "_law_view", "_law_c", "_law_name"] spLDueC := by
  have b__law_entries : L2.Binds K fd__law_entries ["_law_rows"] [] := F__law_entries.bindsN fun _ _ _ _ _ _ us hl => match us, hl with | [_], _ => rfl
  have b__law_found : L2.Binds K fd__law_found ["_law_rows", "_law_elders_here", "_law_c", "_law_name"] [] := F__law_found.bindsN fun _ _ _ _ _ _ us hl => match us, hl with | [_, _, _, _], _ => rfl
  refine F.ok sc_lDueC (fun vs H Q E h => ?_) (fun cdv A outer s H vs Q E hr h => ?_)
  · obtain ⟨r, e, z, us, es, ds, zs, view, c, m, rfl, _⟩ := h
    rfl
  · obtain ⟨r, e, z, us, es, ds, zs, view, c, m, rfl, hr0, hR, ok, h12, he, hL, hz, zl, hv, hc, hm, k⟩ := h
    refine ⟨_, PSs.nox (pss_cons (ps_if (pt_cmpR (r := (rIn K true)) op_notIn_seq (pv 3) (pe_op op_cat (pe_ix (r := rIxL K) ix_list (pv 1) (pv 4) (fun _ _ => rfl)) (pe_lst (pa_cons (pv 4) pa_nil))) (by rfl)) (pss_one (ps_ret (pe_tup (pa_cons pe_str (pa_cons (pv 3) (pa_cons (pv 4) pa_nil)))))) pss_nil)
      (pss_cons (ps_set (i := 6) sc_lDueC.nd rfl (Or.inr rfl) (pe_call G__law_entries (hr.mono (by decide)) (by rfl) m__law_entries F__law_entries.kp b__law_entries .nil pass0 (pa_cons (pv 0) pa_nil)))
      (pss_cons (ps_set (i := 7) sc_lDueC.nd rfl (Or.inr rfl) (pe_lc (own := [("_law_at", 8)]) (g := (gName 8)) (tt := (tAnd (tTest (tOp rEq (tOp (rIxT K) (tOp (rIxL K) (tVar 6) (tVar 8)) (tC (.int 1))) (tVar 5))) (tTest (tOp (rIn K false) (tOp (rIxT K) (tOp (rIxL K) (tVar 6) (tVar 8)) (tC (.int 0))) (tOp rCat (tOp (rIxL K) (tVar 1) (tVar 3)) (tLst (tCons (tVar 3) tNil))))))) (te := (tVar 8)) rfl sc_lDueC.nd (pi_range1 (by rfl) B.range (pa_cons (pe_callB (id := "len") (r := rLenS K) (call_lenS (X := _)) (by rfl) B.len PySem.boot_len (pa_cons (pv 6) pa_nil)) pa_nil)) (blkOk_by (N := ["_law_rows", "_law_elders_here", "_law_places", "_law_view", "_law_c", "_law_name", "_law_entries_here", "_law_known", "_law_at", "_law_there"]) (sc := defScope (top 64)) (by decide +kernel)) (fun _ _ _ _ _ => (pg_name (i := 8) sc_lDueC.nd rfl (Or.inl rfl))) (fun _ _ _ _ _ => ?x0) (fun _ _ _ _ _ => (pv 8))))
      (pss_cons (ps_if (pt_cmpR (r := (rEqD K)) (op_eqD hr.units) (pv 7) (pe_lst pa_nil) (nomark _)) (pss_one (ps_ret (pe_tup (pa_cons pe_str (pa_cons (pv 3) (pa_cons (pv 5) pa_nil)))))) pss_nil)
      (pss_cons (ps_setLc (i := 9) (own := [("_law_at", 8)]) (g := (gName 8)) (tt := (tAnd (tTest (tOp rEq (tOp (rIxL K) (tVar 2) (tVar 8)) (tOp (rIxL K) (tVar 2) (tOp (rIxL K) (tVar 7) (tC (.int 0)))))) (tTest (tOp (rIn K false) (tOp (rIxT K) (tOp (rIxL K) (tVar 6) (tVar 8)) (tC (.int 0))) (tOp rCat (tOp (rIxL K) (tVar 1) (tVar 4)) (tLst (tCons (tVar 4) tNil))))))) (te := (tVar 8)) rfl sc_lDueC.nd rfl rfl (sw_true rfl rfl rfl (by decide +kernel)) (pi_range1 (by rfl) B.range (pa_cons (pe_callB (id := "len") (r := rLenS K) (call_lenS (X := _)) (by rfl) B.len PySem.boot_len (pa_cons (pv 6) pa_nil)) pa_nil)) (blkOk_by (N := ["_law_rows", "_law_elders_here", "_law_places", "_law_view", "_law_c", "_law_name", "_law_entries_here", "_law_known", "_law_at", "_law_there"]) (sc := defScope (top 64)) (by decide +kernel)) (fun _ _ _ _ _ => (pg_name (i := 8) sc_lDueC.nd rfl (Or.inl rfl))) (fun _ _ _ _ _ => ?x1) (fun _ _ _ _ _ => (pv 8)))
      (pss_one (ps_ret (pe_call G__law_found (hr.mono (by decide)) (by rfl) m__law_found F__law_found.kp b__law_found .nil pass0 (pa_cons (pv 0) (pa_cons (pv 1) (pa_cons (pv 4) (pa_cons (pe_ix (r := rIxT K) ix_tup (pe_ix (r := rIxL K) ix_list (pv 6) (pe_ix (r := rIxL K) ix_list (pv 9) (pe_un un_neg pe_int) (fun _ _ => rfl)) (fun _ _ => rfl)) pe_int (fun _ _ => rfl)) pa_nil)))))))))))), ?_⟩
    case x1 => exact pts_one (PW.pt (pw_and (pt_cmpR op_eq (pe_ix (r := rIxL K) ix_list (pv 2) (pv 8) (fun _ _ => rfl)) (pe_ix (r := rIxL K) ix_list (pv 2) (pe_ix (r := rIxL K) ix_list (pv 7) pe_int (fun _ _ => rfl)) (fun _ _ => rfl)) (nomark _)) (pw_and1 (pt_cmpR (r := (rIn K false)) op_in_seq (pe_ix (r := rIxT K) ix_tup (pe_ix (r := rIxL K) ix_list (pv 6) (pv 8) (fun _ _ => rfl)) pe_int (fun _ _ => rfl)) (pe_op op_cat (pe_ix (r := rIxL K) ix_list (pv 1) (pv 4) (fun _ _ => rfl)) (pe_lst (pa_cons (pv 4) pa_nil))) (by rfl)))))
    case x0 => exact pts_one (PW.pt (pw_and (pt_cmpR op_eq (pe_ix (r := rIxT K) ix_tup (pe_ix (r := rIxL K) ix_list (pv 6) (pv 8) (fun _ _ => rfl)) pe_int (fun _ _ => rfl)) (pv 5) (nomark _)) (pw_and1 (pt_cmpR (r := (rIn K false)) op_in_seq (pe_ix (r := rIxT K) ix_tup (pe_ix (r := rIxL K) ix_list (pv 6) (pv 8) (fun _ _ => rfl)) pe_int (fun _ _ => rfl)) (pe_op op_cat (pe_ix (r := rIxL K) ix_list (pv 1) (pv 3) (fun _ _ => rfl)) (pe_lst (pa_cons (pv 3) pa_nil))) (by rfl)))))
    have al := allE_len ok
    have elx : ∀ x, x < ds.length → ∃ te, es[x]? = some (.ref te) ∧ H te = some (.lst ((elR ds x).map natV)) ∧ (elR ds x).length ≤ 12 := fun x hx => by
      obtain ⟨el, hel⟩ : ∃ el, (elsOf ds)[x]? = some el := ⟨_, List.getElem?_eq_getElem (by rw [elsOf_len]; exact hx)⟩
      have eel : elR ds x = el := by unfold elR; rw [List.getD_eq_getElem?_getD, hel]; rfl
      obtain ⟨te, h1, h2⟩ := hL.get hel
      rw [← eel] at h2
      have := nodup_lenE (m := List.range ds.length) (up_nodupE (elR_up hx)) fun y hy => List.mem_range.mpr (Nat.lt_trans (elR_lt hy) hx)
      rw [List.length_range] at this
      exact ⟨te, h1, h2, by omega⟩
    obtain ⟨tc, c1, c2, c3⟩ := elx c hc
    obtain ⟨tv, v1, v2, v3⟩ := elx view hv
    refine ⟨_, rfl, _, rfl, _, rfl, e, es, (c : Int), _, rfl, rfl, SqL.of he, atI_nat c1, _, rfl, kin_qN c2 c3 fun H1 s1 => ⟨_, rfl, ?_⟩⟩
    cases hk : (elR ds c ++ [c]).contains view with
    | false =>
      refine iteT' rfl ⟨_, rfl, _, rfl, (by show 3 ≤ sizeLine; decide), fun T hT => ?_⟩
      exact k _ _ (s1.trans (same_new hT)) (by rw [outC_view hk]; exact ⟨T, rfl, upd_same⟩)
    | true =>
    refine iteF' rfl ?_
    refine ⟨_, rfl, r, us, ds, rfl, s1 _ _ hr0, hR.keep (KeepX.of s1), ok, h12, fun t eus H2 s2 ht hP => ?_⟩
    have s12 := s1.trans s2
    have eul := hP.len
    have ent : ∀ {H' : Hp} (i : Nat), Same H2 H' → i < eus.length → ∃ f u, (allE ds)[i]? = some f ∧ (enG ds zs i).1 = f ∧ eus[i]? = some (.ref u) ∧ H' u = some (.tup [natV f.1, natV f.2]) := fun i s' hi => by
      have hv : eus[i]? = some eus[i] := List.getElem?_eq_getElem hi
      obtain ⟨f, u, hf, e2, hu⟩ := hP.get4 hv
      rw [e2] at hv
      exact ⟨f, u, hf, enG_at hf, hv, s' _ _ hu⟩
    refine ⟨_, rfl, t, eus, rfl, .inl (SqL.of ht), eus.length, rfl, by omega, by omega, fun D hD => ?_⟩
    refine lc_rangeA (n := eus.length) rel_nat ((List.range (allE ds).length).map fun i => if (decide ((enG ds zs i).1.2 = m) && kinI ds view (enG ds zs i).1.1) = true then some i else none) hD (by rw [List.length_map, List.length_range, eul]) (by omega) (fun i cc hi hcc H3 s3 N M _ hN hM => ?_) (fun H3 vs3 s3 D3 P3 => ?_)
    · rw [List.getElem?_map, List.getElem?_range (by omega)] at hcc
      have hcc := Option.some.inj hcc
      dsimp only at hcc
      obtain ⟨f, u, hf, ef, hu1, hu2⟩ := ent i s3 hi
      rw [ef] at hcc
      have ei : V.int ((0 : Int) + (i : Int)) = natV i := congrArg V.int (by omega)
      rw [ei]
      have g1 : ([natV f.1, natV f.2] : List V)[(1 : Nat)]? = some (natV f.2) := rfl
      have g0 : ([natV f.1, natV f.2] : List V)[(0 : Nat)]? = some (natV f.1) := rfl
      refine ⟨rfl, _, rfl, _, rfl, t, eus, (i : Int), _, rfl, rfl, SqL.of (s3 _ _ ht), atI_nat hu1, u, _, ((1 : Nat) : Int), _, rfl, rfl, SqT.of hu2, atI_nat g1, _, rfl, rfl, _, rfl, ?_⟩
      by_cases q : f.2 = m
      · rw [decide_eq_true q, Bool.true_and] at hcc
        have s03 := s12.trans s3
        refine iteT' (decide_eq_true (by rw [q])) ⟨_, rfl, _, rfl, t, eus, (i : Int), _, rfl, rfl, SqL.of (s3 _ _ ht), atI_nat hu1, u, _, ((0 : Nat) : Int), _, rfl, rfl, SqT.of hu2, atI_nat g0, _, rfl, _, rfl, e, es, (view : Int), _, rfl, rfl, SqL.of (s03 _ _ he), atI_nat v1, _, rfl, kin_q (s03 _ _ v2) v3 fun H5 s5 => ⟨_, rfl, ?_⟩⟩
        cases w : (elR ds view ++ [view]).contains f.1 with
        | true =>
          have hcc : (if kinI ds view f.1 = true then some i else none) = cc := hcc
          rw [show kinI ds view f.1 = true from w] at hcc
          exact iteT' rfl ⟨_, rfl, hN _ hcc.symm _ _ s5 (fun z => by cases z) rfl⟩
        | false =>
          have hcc : (if kinI ds view f.1 = true then some i else none) = cc := hcc
          rw [show kinI ds view f.1 = false from w] at hcc
          exact iteF' rfl (hM hcc.symm _ s5)
      · rw [decide_eq_false q, Bool.false_and] at hcc
        exact iteF' (decide_eq_false fun y => q (by have := V.int.inj y; omega)) (iteF' rfl (hM hcc.symm _ (Same.refl _)))
    have D3 : H3 D = some (.lst ((knI ds zs view m).map natV)) := by
      have := paired_nat (H := H3) P3
      rw [some_filters (fun i : Nat => i) (fun i : Nat => (decide ((enG ds zs i).1.2 = m) && kinI ds view (enG ds zs i).1.1)), List.map_id'] at this
      rw [this] at D3
      exact D3
    have s03 := s12.trans s3
    refine ⟨_, rfl, (by show 0 ≤ sizeLine; decide), fun L hLn => ?_⟩
    have sL := same_new (o := .lst []) hLn
    refine ⟨.list ((knI ds zs view m).map dN), .list [], .lst (SqL.of (sL _ _ D3)) (dp_nats _), .lst (SqL.of (xs := []) upd_same) .nil, (LayD.lst (n := 0) fun d hd => by obtain ⟨x, _, rfl⟩ := List.mem_map.mp hd; exact .int _).shaped (by decide), (LayD.lst (n := 0) fun d hd => by cases hd).shaped (by decide), _, rfl, ?_⟩
    rw [eqv_nilE]
    have s4 := s03.trans sL
    have s24 := s3.trans sL
    have D4 := sL _ _ D3
    have t4 := s24 _ _ ht
    generalize upd H3 L (.lst []) = H4 at sL s4 s24 D4 t4 ⊢
    have hk : kinI ds c view = true := hk
    have ng := nam_g (ds := ds) zl (view := view) (m := m)
    have knl : ∀ i ∈ knI ds zs view m, i < (allE ds).length := fun i hi => List.mem_range.mp (List.mem_filter.mp hi).1
    cases hkn : knI ds zs view m with
    | nil =>
      rw [hkn] at ng
      refine iteT' rfl ⟨_, rfl, _, rfl, (by show 3 ≤ sizeLine; decide), fun T hT => ?_⟩
      exact k _ _ (s4.trans (same_new hT)) (by rw [outC_none hk ng]; exact ⟨T, rfl, upd_same⟩)
    | cons k0 kr =>
    rw [hkn, List.map_cons] at ng
    have k0l := knl k0 (by rw [hkn]; exact List.mem_cons_self)
    have k0m := List.mem_filter.mp (show k0 ∈ knI ds zs view m by rw [hkn]; exact List.mem_cons_self)
    rw [hkn] at D4
    refine iteF' rfl ⟨_, rfl, t, eus, rfl, .inl (SqL.of t4), eus.length, rfl, by omega, by omega, fun F hF => ?_⟩
    have zg : ∀ i, i < zs.length → (zs.map V.int)[i]? = some (.int (enG ds zs i).2) := fun i hi => by
      have h : zs[i]? = some zs[i] := List.getElem?_eq_getElem hi
      rw [List.getElem?_map, h, enG_z h]
      rfl
    have kg : ((k0 :: kr).map natV)[(0 : Nat)]? = some (natV k0) := rfl
    refine lc_rangeA (n := eus.length) rel_nat ((List.range (allE ds).length).map fun i => if (decide ((enG ds zs i).2 = (enG ds zs k0).2) && kinI ds c (enG ds zs i).1.1) = true then some i else none) hF (by rw [List.length_map, List.length_range, eul]) (by omega) (fun i cc hi hcc H5 s5 N M _ hN hM => ?_) (fun H5 vs5 s5 F5 P5 => ?_)
    · rw [List.getElem?_map, List.getElem?_range (by omega)] at hcc
      have hcc := Option.some.inj hcc
      dsimp only at hcc
      have s25 := s24.trans s5
      have s05 := s4.trans s5
      obtain ⟨f, u, hf, ef, hu1, hu2⟩ := ent i s25 hi
      rw [ef] at hcc
      have ei : V.int ((0 : Int) + (i : Int)) = natV i := congrArg V.int (by omega)
      rw [ei]
      have g0 : ([natV f.1, natV f.2] : List V)[(0 : Nat)]? = some (natV f.1) := rfl
      refine ⟨rfl, _, rfl, _, rfl, z, _, (i : Int), _, rfl, rfl, SqL.of (s05 _ _ hz), atI_nat (zg i (by omega)), _, rfl, _, rfl, D, _, ((0 : Nat) : Int), _, rfl, rfl, SqL.of (s5 _ _ D4), atI_nat kg, z, _, (k0 : Int), _, rfl, rfl, SqL.of (s05 _ _ hz), atI_nat (zg k0 (by omega)), rfl, _, rfl, ?_⟩
      by_cases q : (enG ds zs i).2 = (enG ds zs k0).2
      · rw [decide_eq_true q, Bool.true_and] at hcc
        refine iteT' (decide_eq_true (by rw [q])) ⟨_, rfl, _, rfl, t, eus, (i : Int), _, rfl, rfl, SqL.of (s25 _ _ ht), atI_nat hu1, u, _, ((0 : Nat) : Int), _, rfl, rfl, SqT.of hu2, atI_nat g0, _, rfl, _, rfl, e, es, (c : Int), _, rfl, rfl, SqL.of (s05 _ _ he), atI_nat c1, _, rfl, kin_q (s05 _ _ c2) c3 fun H6 s6 => ⟨_, rfl, ?_⟩⟩
        cases w : (elR ds c ++ [c]).contains f.1 with
        | true =>
          have hcc : (if kinI ds c f.1 = true then some i else none) = cc := hcc
          rw [show kinI ds c f.1 = true from w] at hcc
          exact iteT' rfl ⟨_, rfl, hN _ hcc.symm _ _ s6 (fun z => by cases z) rfl⟩
        | false =>
          have hcc : (if kinI ds c f.1 = true then some i else none) = cc := hcc
          rw [show kinI ds c f.1 = false from w] at hcc
          exact iteF' rfl (hM hcc.symm _ s6)
      · rw [decide_eq_false q, Bool.false_and] at hcc
        exact iteF' (decide_eq_false fun y => q (V.int.inj y)) (iteF' rfl (hM hcc.symm _ (Same.refl _)))
    have F5 : H5 F = some (.lst ((thI ds zs c (enG ds zs k0).2).map natV)) := by
      have := paired_nat (H := H5) P5
      rw [some_filters (fun i : Nat => i) (fun i : Nat => (decide ((enG ds zs i).2 = (enG ds zs k0).2) && kinI ds c (enG ds zs i).1.1)), List.map_id'] at this
      rw [this] at F5
      exact F5
    have s05 := s4.trans s5
    have s25 := s24.trans s5
    have e0c : enG ds zs k0 ∈ minE ds zs c := kin_sub ok hk (zs := zs) (view := view) (e := enG ds zs k0) (by
      rw [min_g zl]
      exact List.mem_map.mpr ⟨k0, List.mem_filter.mpr ⟨k0m.1, (Bool.and_eq_true _ _ ▸ k0m.2 : _ ∧ _).2⟩, rfl⟩)
    have k0t : k0 ∈ thI ds zs c (enG ds zs k0).2 := List.mem_filter.mpr ⟨k0m.1, by
      rw [Bool.and_eq_true]
      exact ⟨decide_eq_true rfl, (List.mem_filter.mp e0c).2⟩⟩
    have cg := cel_g (ds := ds) zl (c := c) (z := (enG ds zs k0).2)
    have tne : thI ds zs c (enG ds zs k0).2 ≠ [] := List.ne_nil_of_mem k0t
    obtain ⟨ini, jl, ejl⟩ : ∃ ini j, thI ds zs c (enG ds zs k0).2 = ini ++ [j] := ⟨_, _, (List.dropLast_concat_getLast tne).symm⟩
    have jm : jl ∈ thI ds zs c (enG ds zs k0).2 := by rw [ejl]; exact List.mem_append_right _ List.mem_cons_self
    obtain ⟨j1, j2⟩ := List.mem_filter.mp jm
    rw [Bool.and_eq_true] at j2
    have jlt := List.mem_range.mp j1
    obtain ⟨f, u, hf, ef, hu1, hu2⟩ := ent jl s25 (by omega)
    have enm : nmE ds zs c (enG ds zs k0).2 = f.2 := by
      unfold nmE
      rw [cg, ejl, List.map_append, List.map_append, List.map_cons, List.map_nil, List.map_cons, List.map_nil, List.getLastD_eq_getLast?, List.getLast?_concat, ef]
      rfl
    rw [ejl, List.map_append, List.map_cons, List.map_nil] at F5
    have fm := List.mem_of_getElem? hf
    have fk : kinI ds c f.1 = true := by rw [← ef]; exact j2.2
    have g1 : ([natV f.1, natV f.2] : List V)[(1 : Nat)]? = some (natV f.2) := rfl
    refine ⟨_, rfl, _, rfl, _, rfl, _, rfl, _, rfl, _, rfl, F, _, -1, _, rfl, rfl, SqL.of F5, atI_last _ _, t, eus, (jl : Int), _, rfl, rfl, SqL.of (s25 _ _ ht), atI_nat hu1, u, _, ((1 : Nat) : Int), _, rfl, rfl, SqT.of hu2, atI_nat g1, r, e, us, es, ds, c, f.2, rfl, s05 _ _ hr0, hR.keep (KeepX.of s05), ok, h12, hc, s05 _ _ he, hL.sameN s05, name_six ok fm, ans_ne hc fm fk, fun v H6 s6 hv6 => ?_⟩
    rw [← enm, ← outC_some hk ng] at hv6
    exact k v H6 (s05.trans s6) hv6
def spLRowD : Sp := fun vs H Q _ => ∃ (r e z : Addr) (us es : List V) (ds : List Ent) (zs : List Int) (c : Nat), vs = [.ref r, .ref e, .ref z, natV c] ∧ H r = some (.lst us) ∧ RwN r H us ds ∧ DsOk ds ∧ ds.length ≤ 12 ∧ H e = some (.lst es) ∧ ListsAt H es (elsOf ds) ∧ H z = some (.lst (zs.map V.int)) ∧ zs.length = (allE ds).length ∧ c < ds.length ∧ (∀ z ∈ zs, -1000 ≤ z ∧ z ≤ 1000) ∧ ∀ t H', Same H H' → RowW H' t (rowE ds zs c) → Q (.ref t) H'
theorem sc_lRowD : FnScope ["_law_rows", "_law_elders_here", "_law_places", "_law_c", "_law_entries_here", "_law_mine", "_law_at", "_law_used", "_law_row", "_law_cell", "_law_there", "_law_entry"] ["_law_rows", "_law_elders_here", "_law_places", "_law_c"] (defScope (top 66)) := ⟨rfl, rfl, rfl, by decide +kernel, rfl, by decide +kernel, by decide +kernel⟩
theorem ok_lRowD {f__law_answers f__law_entries : Addr} {fd__law_answers fd__law_entries : FuncData} (F : FnP K "_law_row_due" 66 f fd)
    (B : Fr mg)
    (F__law_entries : FnP K "_law_entries" 60 f__law_entries fd__law_entries)
    (m__law_entries : mg "_law_entries" = some (.ref f__law_entries))
    (G__law_entries : FnOk P w K mg base CX0 2 f__law_entries fd__law_entries ["_law_rows"] spLEnts)
    (g_min : mg "min" = none)
    (g_max : mg "max" = none)
    (F__law_answers : FnP K "_law_answers" 58 f__law_answers fd__law_answers)
    (m__law_answers : mg "_law_answers" = some (.ref f__law_answers))
    (G__law_answers : FnOk P w K mg base CX0 2 f__law_answers fd__law_answers ["_law_rows", "_law_elders_here", "_law_c", "_law_name"] spLAns) :
    FnOk P w K mg base CX0 3 f fd ["_law_rows", "_law_elders_here", "_law_places", "_law_c"] spLRowD := by
  have b__law_entries : L2.Binds K fd__law_entries ["_law_rows"] [] := F__law_entries.bindsN fun _ _ _ _ _ _ us hl => match us, hl with | [_], _ => rfl
  have b__law_answers : L2.Binds K fd__law_answers ["_law_rows", "_law_elders_here", "_law_c", "_law_name"] [] := F__law_answers.bindsN fun _ _ _ _ _ _ us hl => match us, hl with | [_, _, _, _], _ => rfl
  refine F.ok sc_lRowD (fun vs H Q E h => ?_) (fun cdv A outer s H vs Q E hr h => ?_)
  · obtain ⟨r, e, z, us, es, ds, zs, c, rfl, _⟩ := h
    rfl
  · obtain ⟨r, e, z, us, es, ds, zs, c, rfl, hr0, hR, ok, h12, he, hL, hz, zl, hc, zb, k⟩ := h
    refine ⟨_, PSs.nox (pss_cons (ps_set (i := 4) sc_lRowD.nd rfl (Or.inr rfl) (pe_call G__law_entries (hr.mono (by decide)) (by rfl) m__law_entries F__law_entries.kp b__law_entries .nil pass0 (pa_cons (pv 0) pa_nil)))
      (pss_cons (ps_setLc (i := 5) (own := [("_law_at", 6)]) (g := (gName 6)) (tt := (tTest (tOp (rIn K false) (tOp (rIxT K) (tOp (rIxL K) (tVar 4) (tVar 6)) (tC (.int 0))) (tOp rCat (tOp (rIxL K) (tVar 1) (tVar 3)) (tLst (tCons (tVar 3) tNil)))))) (te := (tVar 6)) rfl sc_lRowD.nd rfl rfl (sw_true rfl rfl rfl (by decide +kernel)) (pi_range1 (by rfl) B.range (pa_cons (pe_callB (id := "len") (r := rLenS K) (call_lenS (X := _)) (by rfl) B.len PySem.boot_len (pa_cons (pv 4) pa_nil)) pa_nil)) (blkOk_by (N := ["_law_rows", "_law_elders_here", "_law_places", "_law_c", "_law_entries_here", "_law_mine", "_law_at", "_law_used", "_law_row", "_law_cell", "_law_there", "_law_entry"]) (sc := defScope (top 66)) (by decide +kernel)) (fun _ _ _ _ _ => (pg_name (i := 6) sc_lRowD.nd rfl (Or.inl rfl))) (fun _ _ _ _ _ => ?x0) (fun _ _ _ _ _ => (pv 6)))
      (pss_cons (ps_set (i := 7) sc_lRowD.nd rfl (Or.inl rfl) (pe_op op_cat (pe_lst (pa_cons pe_int pa_nil)) (pe_lc (own := [("_law_at", 6)]) (g := (gName 6)) (tt := tYes) (te := (tOp (rIxL K) (tVar 2) (tVar 6))) rfl sc_lRowD.nd (pi_list (pv 5)) (blkOk_by (N := ["_law_rows", "_law_elders_here", "_law_places", "_law_c", "_law_entries_here", "_law_mine", "_law_at", "_law_used", "_law_row", "_law_cell", "_law_there", "_law_entry"]) (sc := defScope (top 66)) (by decide +kernel)) (fun _ _ _ _ _ => (pg_name (i := 6) sc_lRowD.nd rfl (Or.inl rfl))) (fun _ _ _ _ _ => pts_nil) (fun _ _ _ _ _ => ?x1))))
      (pss_cons (ps_set (i := 8) sc_lRowD.nd rfl (Or.inl rfl) (pe_lst pa_nil))
      (pss_cons (ps_for PassesOwn.never rfl (pi_range2 (by rfl) B.range (pa_cons (pe_callB (id := "min") (r := rMin K) (cr_min rfl) (by rfl) g_min (by decide +kernel) (pa_cons (pv 7) pa_nil)) (pa_cons (pe_op op_add (pe_callB (id := "max") (r := rMax K) (cr_max rfl) (by rfl) g_max (by decide +kernel) (pa_cons (pv 7) pa_nil)) pe_int) pa_nil))) (pg_name (i := 9) sc_lRowD.nd rfl (Or.inr rfl))
        (pss_one (ps_if (pt_cmpR op_eq (pv 9) pe_int (nomark _)) (pss_one (ps_expr (pe_bm PySem.F.plainAttrs_list PySem.F.slot_list_append PySem.F.type_list_append mt_append (pv 8) (pa_cons pe_str pa_nil)))) (pss_cons (ps_setLc (i := 10) (own := [("_law_at", 6)]) (g := (gName 6)) (tt := (tTest (tOp rEq (tOp (rIxL K) (tVar 2) (tVar 6)) (tVar 9)))) (te := (tOp (rIxL K) (tVar 4) (tVar 6))) rfl sc_lRowD.nd rfl rfl (sw_true rfl rfl rfl (by decide +kernel)) (pi_list (pv 5)) (blkOk_by (N := ["_law_rows", "_law_elders_here", "_law_places", "_law_c", "_law_entries_here", "_law_mine", "_law_at", "_law_used", "_law_row", "_law_cell", "_law_there", "_law_entry"]) (sc := defScope (top 66)) (by decide +kernel)) (fun _ _ _ _ _ => (pg_name (i := 6) sc_lRowD.nd rfl (Or.inl rfl))) (fun _ _ _ _ _ => ?x2) (fun _ _ _ _ _ => ?x3))
      (pss_one (ps_expr (pe_bm PySem.F.plainAttrs_list PySem.F.slot_list_append PySem.F.type_list_append mt_append (pv 8) (pa_cons (pe_callTy (T := "tuple") (r := rTupOf K) (call_tup (X := _)) (by rfl) B.tuple (by decide +kernel) (pa_cons (pe_lc (own := [("_law_entry", 11)]) (g := (gName 11)) (tt := tYes) (te := (tTup (tCons (tVar 11) (tCons (tCB (rTupOf K) (tCons (tCall spLAns [] E0 (tCons (tVar 0) (tCons (tVar 1) (tCons (tVar 3) (tCons (tOp (rIxT K) (tVar 11) (tC (.int 1))) tNil))))) tNil)) tNil)))) rfl sc_lRowD.nd (pi_list (pv 10)) (blkOk_by (N := ["_law_rows", "_law_elders_here", "_law_places", "_law_c", "_law_entries_here", "_law_mine", "_law_at", "_law_used", "_law_row", "_law_cell", "_law_there", "_law_entry"]) (sc := defScope (top 66)) (by decide +kernel)) (fun _ _ _ _ _ => (pg_name (i := 11) sc_lRowD.nd rfl (Or.inl rfl))) (fun _ _ _ _ _ => pts_nil) (fun _ _ _ _ _ => ?x4)) pa_nil)) pa_nil))))))))
      (pss_one (ps_ret (pe_callTy (T := "tuple") (r := rTupOf K) (call_tup (X := _)) (by rfl) B.tuple (by decide +kernel) (pa_cons (pv 8) pa_nil))))))))), ?_⟩
    case x4 => exact (pe_tup (pa_cons (pv 11) (pa_cons (pe_callTy (T := "tuple") (r := rTupOf K) (call_tup (X := _)) (by rfl) B.tuple (by decide +kernel) (pa_cons (pe_call G__law_answers (hr.mono (by decide)) (by rfl) m__law_answers F__law_answers.kp b__law_answers .nil pass0 (pa_cons (pv 0) (pa_cons (pv 1) (pa_cons (pv 3) (pa_cons (pe_ix (r := rIxT K) ix_tup (pv 11) pe_int (fun _ _ => rfl)) pa_nil))))) pa_nil)) pa_nil)))
    case x3 => exact (pe_ix (r := rIxL K) ix_list (pv 4) (pv 6) (fun _ _ => rfl))
    case x2 => exact pts_one (pt_cmpR op_eq (pe_ix (r := rIxL K) ix_list (pv 2) (pv 6) (fun _ _ => rfl)) (pv 9) (nomark _))
    case x1 => exact (pe_ix (r := rIxL K) ix_list (pv 2) (pv 6) (fun _ _ => rfl))
    case x0 => exact pts_one (pt_cmpR (r := (rIn K false)) op_in_seq (pe_ix (r := rIxT K) ix_tup (pe_ix (r := rIxL K) ix_list (pv 4) (pv 6) (fun _ _ => rfl)) pe_int (fun _ _ => rfl)) (pe_op op_cat (pe_ix (r := rIxL K) ix_list (pv 1) (pv 3) (fun _ _ => rfl)) (pe_lst (pa_cons (pv 3) pa_nil))) (by rfl))
    have al := allE_len ok
    obtain ⟨tc, c1, c2, c3⟩ : ∃ te, es[c]? = some (.ref te) ∧ H te = some (.lst ((elR ds c).map natV)) ∧ (elR ds c).length ≤ 12 := by
      obtain ⟨el, hel⟩ : ∃ el, (elsOf ds)[c]? = some el := ⟨_, List.getElem?_eq_getElem (by rw [elsOf_len]; exact hc)⟩
      have eel : elR ds c = el := by unfold elR; rw [List.getD_eq_getElem?_getD, hel]; rfl
      obtain ⟨te, h1, h2⟩ := hL.get hel
      rw [← eel] at h2
      have := nodup_lenE (m := List.range ds.length) (up_nodupE (elR_up hc)) fun y hy => List.mem_range.mpr (Nat.lt_trans (elR_lt hy) hc)
      rw [List.length_range] at this
      exact ⟨te, h1, h2, by omega⟩
    refine ⟨_, rfl, r, us, ds, rfl, hr0, hR, ok, h12, fun t eus H1 s1 ht hP => ?_⟩
    have eul := hP.len
    have ent : ∀ {H' : Hp} (i : Nat), Same H1 H' → i < eus.length → ∃ f u, (allE ds)[i]? = some f ∧ (enG ds zs i).1 = f ∧ eus[i]? = some (.ref u) ∧ H' u = some (.tup [natV f.1, natV f.2]) := fun i s' hi => by
      have hv : eus[i]? = some eus[i] := List.getElem?_eq_getElem hi
      obtain ⟨f, u, hf, e2, hu⟩ := hP.get4 hv
      rw [e2] at hv
      exact ⟨f, u, hf, enG_at hf, hv, s' _ _ hu⟩
    refine ⟨_, rfl, t, eus, rfl, .inl (SqL.of ht), eus.length, rfl, by omega, by omega, fun D hD => ?_⟩
    refine lc_rangeA (n := eus.length) rel_nat ((List.range (allE ds).length).map fun i => if kinI ds c (enG ds zs i).1.1 = true then some i else none) hD (by rw [List.length_map, List.length_range, eul]) (by omega) (fun i cc hi hcc H2 s2 N M _ hN hM => ?_) (fun H2 vs2 s2 D2 P2 => ?_)
    · rw [List.getElem?_map, List.getElem?_range (by omega)] at hcc
      have hcc := Option.some.inj hcc
      dsimp only at hcc
      obtain ⟨f, u, hf, ef, hu1, hu2⟩ := ent i s2 hi
      rw [ef] at hcc
      have ei : V.int ((0 : Int) + (i : Int)) = natV i := congrArg V.int (by omega)
      rw [ei]
      have g0 : ([natV f.1, natV f.2] : List V)[(0 : Nat)]? = some (natV f.1) := rfl
      have s02 := s1.trans s2
      refine ⟨rfl, _, rfl, _, rfl, t, eus, (i : Int), _, rfl, rfl, SqL.of (s2 _ _ ht), atI_nat hu1, u, _, ((0 : Nat) : Int), _, rfl, rfl, SqT.of hu2, atI_nat g0, _, rfl, _, rfl, e, es, (c : Int), _, rfl, rfl, SqL.of (s02 _ _ he), atI_nat c1, _, rfl, kin_q (s02 _ _ c2) c3 fun H5 s5 => ⟨_, rfl, ?_⟩⟩
      cases w : (elR ds c ++ [c]).contains f.1 with
      | true =>
        rw [show kinI ds c f.1 = true from w] at hcc
        exact iteT' rfl ⟨_, rfl, hN _ hcc.symm _ _ s5 (fun z => by cases z) rfl⟩
      | false =>
        rw [show kinI ds c f.1 = false from w] at hcc
        exact iteF' rfl (hM hcc.symm _ s5)
    have D2 : H2 D = some (.lst ((miI ds zs c).map natV)) := by
      have := paired_nat (H := H2) P2
      rw [some_filters (fun i : Nat => i) (fun i : Nat => kinI ds c (enG ds zs i).1.1), List.map_id'] at this
      rw [this] at D2
      exact D2
    have ml : ∀ i ∈ miI ds zs c, i < (allE ds).length := fun i hi => List.mem_range.mp (List.mem_filter.mp hi).1
    have mle : (miI ds zs c).length ≤ 36 := by
      refine Nat.le_trans (List.length_filter_le _ _) ?_
      rw [List.length_range]
      omega
    have s02 := s1.trans s2
    have zg : ∀ i, i < zs.length → (zs.map V.int)[i]? = some (.int (enG ds zs i).2) := fun i hi => by
      have h : zs[i]? = some zs[i] := List.getElem?_eq_getElem hi
      rw [List.getElem?_map, h, enG_z h]
      rfl
    -- the places
    refine ⟨(by show 1 ≤ sizeLine; decide), fun T hT => ?_⟩
    have sT := same_new (o := .lst [.int 0]) hT
    have T1 := upd_same (H := H2) (a := T) (o := .lst [.int 0])
    generalize upd H2 T (.lst [.int 0]) = H3 at sT T1 ⊢
    have s03 := s02.trans sT
    have D3 := sT _ _ D2
    refine ⟨_, rfl, D, rfl, ⟨_, SqL.of D3⟩, fun F hF => ?_⟩
    refine lc_listA rel_int ((miI ds zs c).map fun i => some (enG ds zs i).2) hF (by rw [List.length_map, List.length_map]) (by rw [List.length_map]; omega) (fun H' s' => SqL.of (s' _ _ D3)) (fun j x cc hj hcc H4 s4 N M _ hN hM => ?_) (fun H4 vs4 s4 F4 P4 => ?_)
    · rw [List.getElem?_map] at hj hcc
      obtain ⟨i, hi, rfl⟩ := Option.map_eq_some_iff.mp hj
      rw [hi] at hcc
      have hcc := Option.some.inj hcc
      have il := ml i (List.mem_of_getElem? hi)
      exact ⟨rfl, _, rfl, _, rfl, z, _, (i : Int), _, rfl, rfl, SqL.of ((s03.trans s4) _ _ hz), atI_nat (zg i (by omega)), hN _ hcc.symm _ _ (Same.refl _) (fun z => by cases z) rfl⟩
    have pE : (minE ds zs c).map (·.2) = (miI ds zs c).map fun i => (enG ds zs i).2 := by rw [min_g zl, List.map_map]; rfl
    have F4 : H4 F = some (.lst (((minE ds zs c).map (·.2)).map V.int)) := by
      have := paired_int (H := H4) P4
      rw [some_maps (fun i => (enG ds zs i).2), ← pE] at this
      rw [this] at F4
      exact F4
    have pl : ((minE ds zs c).map (·.2)).length ≤ 36 := by rw [pE, List.length_map]; exact mle
    refine ⟨T, F, [.int 0], _, rfl, rfl, s4 _ _ T1, F4, (by rw [List.length_map]; show 1 + _ ≤ 2 ^ 24; omega), fun R hRn => ?_⟩
    have sR := same_new (o := .lst ([V.int 0] ++ ((minE ds zs c).map (·.2)).map V.int)) hRn
    have R5 : upd H4 R (.lst ([V.int 0] ++ ((minE ds zs c).map (·.2)).map V.int)) R = some (.lst (((0 : Int) :: (minE ds zs c).map (·.2)).map V.int)) := upd_same
    generalize upd H4 R (.lst ([V.int 0] ++ ((minE ds zs c).map (·.2)).map V.int)) = H5 at sR R5 ⊢
    have s05 := (s03.trans s4).trans sR
    have s15 := ((s2.trans sT).trans s4).trans sR
    have D5 := (s4.trans sR) _ _ D3
    refine ⟨(by show 0 ≤ sizeLine; decide), fun W hW => ?_⟩
    have sW := same_new (o := .lst []) hW
    have W6 := upd_same (H := H5) (a := W) (o := .lst [])
    have R6 := sW _ _ R5
    have D6 := sW _ _ D5
    have s06 := s05.trans sW
    have s16 := s15.trans sW
    have W0 : H W = none := by
      cases ee : H W with
      | none => rfl
      | some o => rw [s05 _ _ ee] at hW; cases hW
    have W1 : H1 W = none := by
      cases ee : H1 W with
      | none => rfl
      | some o => rw [s15 _ _ ee] at hW; cases hW
    have DW : D ≠ W := ne_of_none D5 hW
    generalize upd H5 W (.lst []) = H6 at sW W6 R6 D6 s06 s16 ⊢
    refine ⟨_, rfl, R, _, rfl, SqL.of R6, by simp, fun m m1 m2 => ⟨_, rfl, R, _, rfl, SqL.of R6, by simp, fun n n1 n2 => ?_⟩⟩
    have elo : loE ds zs c = m := lowZ_is m1 m2
    have ehi : highZ ((minE ds zs c).map (·.2)) = n := highZ_is n1 n2
    have pb : ∀ x ∈ (minE ds zs c).map (·.2), -1000 ≤ x ∧ x ≤ 1000 := fun x hx => by
      obtain ⟨e, he, rfl⟩ := List.mem_map.mp hx
      exact zb _ (List.of_mem_zip (List.mem_filter.mp he).1).2
    have lb := low_bound pb
    have hb := high_bound pb
    rw [ehi] at hb
    have lb : -1000 ≤ m ∧ m ≤ 0 := by rw [← elo]; exact lb
    have esp : spanE ds zs c = (n + 1 - m).toNat := by unfold spanE; rw [elo, ehi]
    refine ⟨_, _, rfl, rfl, m, n + 1, rfl, ⟨by omega, by omega, by omega, by omega⟩, ?_⟩
    refine for_range (lo := m) (n := (n + 1 - m).toNat) (fun i σ H' => ∃ (x6 x9 x10 : Option V) (vs : List V), σ = [some (.ref r), some (.ref e), some (.ref z), some (natV c), some (.ref t), some (.ref D), none, some (.ref R), some (.ref W), x9, x10, none] ∧ Oth W H6 H' ∧ H' W = some (.lst vs) ∧ Paired (CelW H') vs ((List.range i).map fun (i : Nat) => celE ds zs c (loE ds zs c + (i : Int)))) ⟨none, none, none, [], rfl, fun _ _ _ e => e, W6, .nil⟩ ?_ ?_
    · rintro i σ H7 hi ⟨x6, x9, x10, vs, rfl, O7, h7W, hC⟩
      have vl7 := Paired.length hC
      rw [List.length_map, List.length_range] at vl7
      have nxt : ∀ {H9 : Hp} {y : V}, Same H7 H9 → H9 W = some (.lst vs) → CelW H9 y (celE ds zs c (loE ds zs c + (i : Int))) → Paired (CelW (upd H9 W (.lst (vs ++ [y])))) (vs ++ [y]) ((List.range (i + 1)).map fun (i : Nat) => celE ds zs c (loE ds zs c + (i : Int))) := fun {H9 y} s9 h9W hy => by
        rw [List.range_succ, List.map_append]
        exact cels_upd h9W (paired_app (paired_imp (fun _ _ z => rel_cel.same s9 z) hC) (.cons hy .nil))
      refine ⟨_, rfl, rfl, _, rfl, ?_⟩
      by_cases q : m + (i : Int) = 0
      · refine iteT' (decide_eq_true (by rw [q])) ⟨_, rfl, .inl ⟨rfl, _, SqL.of h7W⟩, W, vs, _, rfl, rfl, h7W, (by show _ < 2 ^ 24; omega), ?_⟩
        exact ⟨none, _, _, _, rfl, O7.upd, upd_same, nxt (Same.refl _) h7W (.inl ⟨by unfold celE; rw [elo, if_pos q], rfl⟩)⟩
      · refine iteF' (decide_eq_false fun y => q (V.int.inj y)) ?_
        have s07 : Same H H7 := fun b o e => O7 _ _ (ne_of_none e W0) (s06 _ _ e)
        have s17 : Same H1 H7 := fun b o e => O7 _ _ (ne_of_none e W1) (s16 _ _ e)
        have D7 := O7 _ _ DW D6
        refine ⟨_, rfl, D, rfl, ⟨_, SqL.of D7⟩, fun G hG => ?_⟩
        refine lc_listA rel_ps ((miI ds zs c).map fun j => if decide ((enG ds zs j).2 = m + (i : Int)) = true then some (enG ds zs j).1 else none) hG (by rw [List.length_map, List.length_map]) (by rw [List.length_map]; omega) (fun H' s' => SqL.of (s' _ _ D7)) (fun j x cc hj hcc H8 s8 N M ⟨u0, hu0⟩ hN hM => ?_) (fun H8 gs s8 G8 P8 => ?_)
        · rw [List.getElem?_map] at hj hcc
          obtain ⟨ix, hi', rfl⟩ := Option.map_eq_some_iff.mp hj
          rw [hi'] at hcc
          have hcc := Option.some.inj hcc
          dsimp only at hcc
          have il := ml ix (List.mem_of_getElem? hi')
          obtain ⟨f, u, hf, ef, hu1, hu2⟩ := ent ix (s17.trans s8) (by omega)
          obtain ⟨f', u', hf', ef', hu1', hu2'⟩ := ent ix s17 (by omega)
          rw [hu1] at hu1'
          obtain rfl := V.ref.inj (Option.some.inj hu1')
          refine ⟨rfl, _, rfl, _, rfl, z, _, (ix : Int), _, rfl, rfl, SqL.of ((s07.trans s8) _ _ hz), atI_nat (zg ix (by omega)), _, rfl, rfl, _, rfl, ?_⟩
          by_cases y : (enG ds zs ix).2 = m + (i : Int)
          · rw [decide_eq_true y] at hcc
            exact iteT' (decide_eq_true (by rw [y])) ⟨_, rfl, _, rfl, t, eus, (ix : Int), _, rfl, rfl, SqL.of ((s17.trans s8) _ _ ht), atI_nat hu1, hN _ hcc.symm _ _ (Same.refl _) (fun z => by cases z; rw [hG] at hu2'; cases hu2') ⟨u, rfl, by rw [ef]; exact hu2⟩⟩
          · rw [decide_eq_false y] at hcc
            exact iteF' (decide_eq_false fun w => y (V.int.inj w)) (hM hcc.symm _ (Same.refl _))
        have P8 : PairsAt H8 gs (((miI ds zs c).filter fun j => decide ((enG ds zs j).2 = m + (i : Int))).map fun j => (enG ds zs j).1) := by
          have := P8
          rw [some_filters (fun j => (enG ds zs j).1) (fun j => decide ((enG ds zs j).2 = m + (i : Int)))] at this
          exact this
        have g8 := P8.len
        rw [List.length_map] at g8
        have fl8 := List.length_filter_le (fun j => decide ((enG ds zs j).2 = m + (i : Int))) (miI ds zs c)
        have s08 := s07.trans s8
        have h8W := s8 _ _ h7W
        refine ⟨_, rfl, .inl ⟨rfl, _, SqL.of h8W⟩, _, rfl, G, rfl, ⟨_, SqL.of G8⟩, fun NN hNN => ?_⟩
        refine lc_listA rel_ans (((miI ds zs c).filter fun j => decide ((enG ds zs j).2 = m + (i : Int))).map fun j => some ((enG ds zs j).1, ansL ds c (enG ds zs j).1.2)) hNN (by rw [List.length_map, g8]) (by omega) (fun H' s' => SqL.of (s' _ _ G8)) (fun j x cc hj hcc H9 s9 N M ⟨u0, hu0⟩ hN hM => ?_) (fun H9 ws s9 N9 P9 => ?_)
        · obtain ⟨f, u, hf, rfl, hu⟩ := P8.get4 hj
          rw [List.getElem?_map] at hf hcc
          obtain ⟨ix, hix, rfl⟩ := Option.map_eq_some_iff.mp hf
          rw [hix] at hcc
          have hcc := Option.some.inj hcc
          have s09 := s08.trans s9
          have g1 : ([natV (enG ds zs ix).1.1, natV (enG ds zs ix).1.2] : List V)[(1 : Nat)]? = some (natV (enG ds zs ix).1.2) := rfl
          refine ⟨rfl, _, rfl, _, rfl, _, rfl, _, rfl, _, rfl, u, _, ((1 : Nat) : Int), _, rfl, rfl, SqT.of (s9 _ _ hu), atI_nat g1, r, e, us, es, ds, c, (enG ds zs ix).1.2, rfl, s09 _ _ hr0, hR.keep (KeepX.of s09), ok, h12, hc, s09 _ _ he, hL.sameN s09, fun A H10 s10 hA => ?_⟩
          refine tup_q (.inl hA) fun ta H11 s11 hta => ⟨(by show 2 ≤ sizeLine; decide), fun T2 hT2 => ?_⟩
          have sT2 := same_new (o := .tup [.ref u, .ref ta]) hT2
          exact hN _ hcc.symm _ _ ((s10.trans s11).trans sT2) (fun z => by cases z; exact absurd (((s10.trans s11) _ _ hu0).symm.trans hT2) (fun z => by cases z)) ⟨T2, u, ta, rfl, upd_same, (s10.trans s11 |>.trans sT2) _ _ (s9 _ _ hu), sT2 _ _ hta⟩
        · rw [some_maps (fun j => ((enG ds zs j).1, ansL ds c (enG ds zs j).1.2))] at P9
          refine tup_q (.inl N9) fun tt H10 s10 htt => ?_
          have s7x := (s8.trans s9).trans s10
          refine ⟨W, vs, _, rfl, rfl, s7x _ _ h7W, (by show _ < 2 ^ 24; omega), ?_⟩
          refine ⟨none, _, _, _, rfl, (O7.trans (Oth.of s7x)).upd, upd_same, nxt s7x (s7x _ _ h7W) (.inr ⟨_, tt, ws, ?_, rfl, htt, paired_imp (fun _ _ z => rel_ans.same s10 z) P9⟩)⟩
          unfold celE
          rw [elo, if_neg q, min_g zl, List.filter_map, List.map_map]
          rfl
    · rintro σ H7 ⟨x6, x9, x10, vs, rfl, O7, h7W, hC⟩
      rw [← esp] at hC
      have s07 : Same H H7 := fun b o e => O7 _ _ (ne_of_none e W0) (s06 _ _ e)
      exact ⟨_, rfl, tup_q (.inl h7W) fun t H8 s8 ht => k t H8 (s07.trans s8) ⟨vs, ht, paired_imp (fun _ _ z => rel_cel.same s8 z) hC⟩⟩
theorem pairs_refsE {H : Hp} {us : List V} {ps : List (Nat × Nat)} (h : PairsAt H us ps) : ∀ v ∈ us, ∃ a, v = .ref a := fun v hv => by
  obtain ⟨i, hi⟩ := List.mem_iff_getElem?.mp hv
  obtain ⟨_, u, _, e, _⟩ := h.get4 hi
  exact ⟨u, e⟩
theorem place_pick {z : Int} (z0 : 0 ≤ z) (z1 : z < 12) : ∃ v : Int, atI [V.int (-6), .int (-5), .int (-4), .int (-3), .int (-2), .int (-1), .int 1, .int 2, .int 3, .int 4, .int 5, .int 6] z = some (.int v) ∧ v ≠ 0 ∧ -6 ≤ v ∧ v ≤ 6 := by
  obtain ⟨n, rfl⟩ := Int.eq_ofNat_of_zero_le z0
  have h : n < 12 := by omega
  match n, h with
  | 0, _ => exact ⟨_, rfl, by decide, by decide, by decide⟩
  | 1, _ => exact ⟨_, rfl, by decide, by decide, by decide⟩
  | 2, _ => exact ⟨_, rfl, by decide, by decide, by decide⟩
  | 3, _ => exact ⟨_, rfl, by decide, by decide, by decide⟩
  | 4, _ => exact ⟨_, rfl, by decide, by decide, by decide⟩
  | 5, _ => exact ⟨_, rfl, by decide, by decide, by decide⟩
  | 6, _ => exact ⟨_, rfl, by decide, by decide, by decide⟩
  | 7, _ => exact ⟨_, rfl, by decide, by decide, by decide⟩
  | 8, _ => exact ⟨_, rfl, by decide, by decide, by decide⟩
  | 9, _ => exact ⟨_, rfl, by decide, by decide, by decide⟩
  | 10, _ => exact ⟨_, rfl, by decide, by decide, by decide⟩
  | 11, _ => exact ⟨_, rfl, by decide, by decide, by decide⟩
/-- no class has two entries of unlike names in one place -/
def ApE (ds : List Ent) (zs : List Int) : Prop := ∀ i j, i < j → j < zs.length → zs.getD i 0 = zs.getD j 0 → ((allE ds).getD i (0, 0)).2 ≠ ((allE ds).getD j (0, 0)).2 → ∀ c, c < ds.length → ¬(kinI ds c ((allE ds).getD i (0, 0)).1 = true ∧ kinI ds c ((allE ds).getD j (0, 0)).1 = true)
def spLTabP : Sp := fun vs H Q _ => ∃ (p q r : Addr) (us : List V) (ds : List Ent), vs = [.ref p, .ref r] ∧ HandAt H p q ∧ H r = some (.lst us) ∧ RwN r H us ds ∧ DsOk ds ∧ ds.length ≤ 12 ∧ ∀ t zs H', Oth p H H' → HandAt H' p q → H' t = some (.lst (zs.map V.int)) → zs.length = (allE ds).length → GoodPl zs → ApE ds zs → Q (.ref t) H'
theorem sc_lTabP : FnScope ["_law_hand_here", "_law_rows", "_law_elders_here", "_law_entries_here", "_law_places", "_law_at", "_law_place", "_law_one", "_law_c"] ["_law_hand_here", "_law_rows"] (defScope (top 62)) := ⟨rfl, rfl, rfl, by decide +kernel, rfl, by decide +kernel, by decide +kernel⟩
theorem ok_lTabP {f__law_elders f__law_entries f__law_take : Addr} {fd__law_elders fd__law_entries fd__law_take : FuncData} (F : FnP K "_law_table_places" 62 f fd)
    (B : Fr mg)
    (F__law_elders : FnP K "_law_elders" 55 f__law_elders fd__law_elders)
    (m__law_elders : mg "_law_elders" = some (.ref f__law_elders))
    (G__law_elders : FnOk P w K mg base CX0 1 f__law_elders fd__law_elders ["_law_rows"] spLElders)
    (F__law_entries : FnP K "_law_entries" 60 f__law_entries fd__law_entries)
    (m__law_entries : mg "_law_entries" = some (.ref f__law_entries))
    (G__law_entries : FnOk P w K mg base CX0 2 f__law_entries fd__law_entries ["_law_rows"] spLEnts)
    (F__law_take : FnP K "_law_take" 50 f__law_take fd__law_take)
    (m__law_take : mg "_law_take" = some (.ref f__law_take))
    (G__law_take : FnOk P w K mg base CX0 2 f__law_take fd__law_take ["_law_hand_here", "_law_many"] spTake) :
    FnOk P w K mg base CX0 3 f fd ["_law_hand_here", "_law_rows"] spLTabP := by
  have b__law_elders : L2.Binds K fd__law_elders ["_law_rows"] [] := F__law_elders.bindsN fun _ _ _ _ _ _ us hl => match us, hl with | [_], _ => rfl
  have b__law_entries : L2.Binds K fd__law_entries ["_law_rows"] [] := F__law_entries.bindsN fun _ _ _ _ _ _ us hl => match us, hl with | [_], _ => rfl
  have b__law_take : L2.Binds K fd__law_take ["_law_hand_here", "_law_many"] [] := F__law_take.bindsN fun _ _ _ _ _ _ us hl => match us, hl with | [_, _], _ => rfl
  refine F.ok sc_lTabP (fun vs H Q E h => ?_) (fun cdv A outer s H vs Q E hr h => ?_)
  · obtain ⟨p, q, r, us, ds, rfl, _⟩ := h
    rfl
  · obtain ⟨p, q, r, us, ds, rfl, hh, hr0, hR, ok, h12, k⟩ := h
    refine ⟨_, PSs.nox (pss_cons (ps_set (i := 2) sc_lTabP.nd rfl (Or.inr rfl) (pe_call G__law_elders (hr.mono (by decide)) (by rfl) m__law_elders F__law_elders.kp b__law_elders .nil pass0 (pa_cons (pv 1) pa_nil)))
      (pss_cons (ps_set (i := 3) sc_lTabP.nd rfl (Or.inr rfl) (pe_call G__law_entries (hr.mono (by decide)) (by rfl) m__law_entries F__law_entries.kp b__law_entries .nil pass0 (pa_cons (pv 1) pa_nil)))
      (pss_cons (ps_set (i := 4) sc_lTabP.nd rfl (Or.inl rfl) (pe_lst pa_nil))
      (pss_cons (ps_for PassesOwn.never rfl (pi_range1 (by rfl) B.range (pa_cons (pe_callB (id := "len") (r := rLenS K) (call_lenS (X := _)) (by rfl) B.len PySem.boot_len (pa_cons (pv 3) pa_nil)) pa_nil)) (pg_name (i := 5) sc_lTabP.nd rfl (Or.inr rfl))
        (pss_cons (ps_set (i := 6) sc_lTabP.nd rfl (Or.inl rfl) (pe_ix (r := rIxT K) ix_tup (pe_tup (pa_cons (pe_un un_neg pe_int) (pa_cons (pe_un un_neg pe_int) (pa_cons (pe_un un_neg pe_int) (pa_cons (pe_un un_neg pe_int) (pa_cons (pe_un un_neg pe_int) (pa_cons (pe_un un_neg pe_int) (pa_cons pe_int (pa_cons pe_int (pa_cons pe_int (pa_cons pe_int (pa_cons pe_int (pa_cons pe_int pa_nil))))))))))))) (pe_call G__law_take (hr.mono (by decide)) (by rfl) m__law_take F__law_take.kp b__law_take .nil pass0 (pa_cons (pv 0) (pa_cons pe_int pa_nil))) (fun _ _ => rfl)))
      (pss_cons (ps_for PassesOwn.never rfl (pi_range1 (by rfl) B.range (pa_cons (pv 5) pa_nil)) (pg_name (i := 7) sc_lTabP.nd rfl (Or.inr rfl))
        (pss_one (ps_if (PW.pt (pw_and (pt_cmpR op_eq (pe_ix (r := rIxL K) ix_list (pv 4) (pv 7) (fun _ _ => rfl)) (pv 6) (nomark _)) (pw_and1 (pt_cmpR op_ne (pe_ix (r := rIxT K) ix_tup (pe_ix (r := rIxL K) ix_list (pv 3) (pv 7) (fun _ _ => rfl)) pe_int (fun _ _ => rfl)) (pe_ix (r := rIxT K) ix_tup (pe_ix (r := rIxL K) ix_list (pv 3) (pv 5) (fun _ _ => rfl)) pe_int (fun _ _ => rfl)) (nomark _))))) (pss_one (ps_if (pt_truth (pe_lc (own := [("_law_c", 8)]) (g := (gName 8)) (tt := (tAnd (tTest (tOp (rIn K false) (tOp (rIxT K) (tOp (rIxL K) (tVar 3) (tVar 7)) (tC (.int 0))) (tOp rCat (tOp (rIxL K) (tVar 2) (tVar 8)) (tLst (tCons (tVar 8) tNil))))) (tTest (tOp (rIn K false) (tOp (rIxT K) (tOp (rIxL K) (tVar 3) (tVar 5)) (tC (.int 0))) (tOp rCat (tOp (rIxL K) (tVar 2) (tVar 8)) (tLst (tCons (tVar 8) tNil))))))) (te := (tVar 8)) rfl sc_lTabP.nd (pi_range1 (by rfl) B.range (pa_cons (pe_callB (id := "len") (r := rLenS K) (call_lenS (X := _)) (by rfl) B.len PySem.boot_len (pa_cons (pv 1) pa_nil)) pa_nil)) (blkOk_by (N := ["_law_hand_here", "_law_rows", "_law_elders_here", "_law_entries_here", "_law_places", "_law_at", "_law_place", "_law_one", "_law_c"]) (sc := defScope (top 62)) (by decide +kernel)) (fun _ _ _ _ _ => (pg_name (i := 8) sc_lTabP.nd rfl (Or.inl rfl))) (fun _ _ _ _ _ => ?x0) (fun _ _ _ _ _ => (pv 8))) (by intro _; rfl)) (pss_one (ps_set (i := 6) sc_lTabP.nd rfl (Or.inl rfl) (pe_op op_add pe_int (pv 5)))) pss_nil)) pss_nil)))
      (pss_one (ps_expr (pe_bm PySem.F.plainAttrs_list PySem.F.slot_list_append PySem.F.type_list_append mt_append (pv 4) (pa_cons (pv 6) pa_nil)))))))
      (pss_one (ps_ret (pv 4))))))), ?_⟩
    case x0 => exact pts_one (PW.pt (pw_and (pt_cmpR (r := (rIn K false)) op_in_seq (pe_ix (r := rIxT K) ix_tup (pe_ix (r := rIxL K) ix_list (pv 3) (pv 7) (fun _ _ => rfl)) pe_int (fun _ _ => rfl)) (pe_op op_cat (pe_ix (r := rIxL K) ix_list (pv 2) (pv 8) (fun _ _ => rfl)) (pe_lst (pa_cons (pv 8) pa_nil))) (by rfl)) (pw_and1 (pt_cmpR (r := (rIn K false)) op_in_seq (pe_ix (r := rIxT K) ix_tup (pe_ix (r := rIxL K) ix_list (pv 3) (pv 5) (fun _ _ => rfl)) pe_int (fun _ _ => rfl)) (pe_op op_cat (pe_ix (r := rIxL K) ix_list (pv 2) (pv 8) (fun _ _ => rfl)) (pe_lst (pa_cons (pv 8) pa_nil))) (by rfl)))))
    have al := allE_len ok
    have usl := hR.len
    have elx : ∀ {es : List V} {H' : Hp}, ListsAt H' es (elsOf ds) → ∀ x, x < ds.length → ∃ te, es[x]? = some (.ref te) ∧ H' te = some (.lst ((elR ds x).map natV)) ∧ (elR ds x).length ≤ 12 := fun hL x hx => by
      obtain ⟨el, hel⟩ : ∃ el, (elsOf ds)[x]? = some el := ⟨_, List.getElem?_eq_getElem (by rw [elsOf_len]; exact hx)⟩
      have eel : elR ds x = el := by unfold elR; rw [List.getD_eq_getElem?_getD, hel]; rfl
      obtain ⟨te, h1, h2⟩ := hL.get hel
      rw [← eel] at h2
      have := nodup_lenE (m := List.range ds.length) (up_nodupE (elR_up hx)) fun y hy => List.mem_range.mpr (Nat.lt_trans (elR_lt hy) hx)
      rw [List.length_range] at this
      exact ⟨te, h1, h2, by omega⟩
    refine ⟨_, rfl, r, us, ds.map (·.1), rfl, hr0, hR.rows, ok.valid, by rw [List.length_map]; omega, fun row hw => by have := ok.short row hw; rw [List.length_map]; have : row.length * ds.length ≤ 3 * 12 := Nat.mul_le_mul (by omega) h12; omega, fun H1 E es s1 nE hE neE hL => ?_⟩
    have hL : ListsAt H1 es (elsOf ds) := hL
    refine ⟨_, rfl, r, us, ds, rfl, s1 _ _ hr0, hR.keep (KeepX.of s1), ok, h12, fun t eus H2 s2 ht hP => ?_⟩
    have eul := hP.len
    refine ⟨(by show 0 ≤ sizeLine; decide), fun R hRn => ?_⟩
    have sR := same_new (o := .lst []) hRn
    have R3 := upd_same (H := H2) (a := R) (o := .lst [])
    have s02 := s1.trans s2
    have s03 := s02.trans sR
    obtain ⟨Rp, Rq⟩ := (hh.same s02).ne hRn
    have R0 : H R = none := by
      cases ee : H R with
      | none => rfl
      | some o => rw [s02 _ _ ee] at hRn; cases hRn
    have hE3 := (s2.trans sR) _ _ hE
    have hL3 := hL.sameN (s2.trans sR)
    have ht3 := sR _ _ ht
    have hP3 := hP.same sR
    have hr3 := s03 _ _ hr0
    have h3 := hh.same s03
    generalize upd H2 R (.lst []) = H3 at sR R3 s03 hE3 hL3 ht3 hP3 hr3 h3 ⊢
    have pair3 : ∀ i, i < eus.length → ∃ f u, (allE ds)[i]? = some f ∧ eus[i]? = some (.ref u) ∧ H3 u = some (.tup [natV f.1, natV f.2]) ∧ (allE ds).getD i (0, 0) = f := fun i hi => by
      have hv : eus[i]? = some eus[i] := List.getElem?_eq_getElem hi
      obtain ⟨f, u, hf, e2, hu⟩ := hP3.get4 hv
      rw [e2] at hv
      exact ⟨f, u, hf, hv, hu, by rw [List.getD_eq_getElem?_getD, hf]; rfl⟩
    have tR : t ≠ R := fun z => by rw [z, hRn] at ht; cases ht
    have ER : E ≠ R := fun z => by rw [z] at hE; rw [s2 _ _ hE] at hRn; cases hRn
    have rR : r ≠ R := fun z => by rw [z, R0] at hr0; cases hr0
    have tP : t ≠ p := h3.ne_of ht3 (nh_refs (pairs_refsE hP3))
    have EP : E ≠ p := h3.ne_of hE3 (nh_refs hL3.refs)
    have rP : r ≠ p := h3.ne_of hr3 (nh_refs hR.refs)
    have uPR : ∀ {u : Addr} {xs : List V}, H3 u = some (.tup xs) → u ≠ p ∧ u ≠ R := fun {u xs} h => ⟨h3.ne_of h nh_tup, fun z => by rw [z, R3] at h; cases h⟩
    have lPR : ∀ {u : Addr} {l : List Nat} , H1 u = some (.lst (l.map natV)) → u ≠ p ∧ u ≠ R := fun {u l} h => ⟨h3.ne_of ((s2.trans sR) _ _ h) nh_nats, fun z => by rw [z] at h; rw [s2 _ _ h] at hRn; cases hRn⟩
    refine ⟨_, rfl, t, eus, rfl, .inl (SqL.of ht3), eus.length, rfl, by omega, by omega, ?_⟩
    refine for_range (n := eus.length) (fun i σ H' => ∃ (x5 x6 x7 : Option V) (zs : List Int), σ = [some (.ref p), some (.ref r), some (.ref E), some (.ref t), some (.ref R), x5, x6, x7, none] ∧ (∀ b o, b ≠ p → b ≠ R → H3 b = some o → H' b = some o) ∧ HandAt H' p q ∧ H' R = some (.lst (zs.map V.int)) ∧ zs.length = i ∧ GoodPl zs ∧ (∀ k, k < i → zs.getD k 0 ≤ 6 ∨ zs.getD k 0 = 10 + (k : Int)) ∧ ApE ds zs)
      ⟨none, none, none, [], rfl, fun _ _ _ _ e => e, h3, R3, rfl, (fun z hz => by cases hz), (fun k hk => by omega), fun i j _ hj => by simp at hj⟩ ?_ ?_
    · rintro i σ H4 hi ⟨x5, x6, x7, zs, rfl, k4, h4, R4, zl, gz, dom, ap⟩
      have ei : V.int ((0 : Int) + (i : Int)) = natV i := congrArg V.int (by omega)
      rw [ei]
      refine ⟨_, rfl, _, rfl, _, rfl, _, rfl, _, rfl, _, rfl, (by show 12 ≤ sizeLine; decide), fun T hT => ?_⟩
      have T0p : T ≠ p := (h4.ne hT).1
      have sT := same_new (o := .tup [V.int (-6), .int (-5), .int (-4), .int (-3), .int (-2), .int (-1), .int 1, .int 2, .int 3, .int 4, .int 5, .int 6]) hT
      have T5 := upd_same (H := H4) (a := T) (o := .tup [V.int (-6), .int (-5), .int (-4), .int (-3), .int (-2), .int (-1), .int 1, .int 2, .int 3, .int 4, .int 5, .int 6])
      refine ⟨_, rfl, p, q, 12, rfl, by decide, by decide, h4.same sT, fun z H5 z0 z1 h5 e5 => ?_⟩
      have T6 := (e5 T T0p).trans T5
      obtain ⟨pv, hpv, p0, p1, p2⟩ := place_pick z0 z1
      refine ⟨T, _, z, _, rfl, rfl, SqT.of T6, hpv, ?_⟩
      have k5 : ∀ b o, b ≠ p → b ≠ R → H3 b = some o → H5 b = some o := fun b o n1 n2 e => (e5 b n1).trans (sT _ _ (k4 b o n1 n2 e))
      have R5 : H5 R = some (.lst (zs.map V.int)) := (e5 R Rp).trans (sT _ _ R4)
      have E5 := k5 _ _ EP ER hE3
      have t5 := k5 _ _ tP tR ht3
      have r5 := k5 _ _ rP rR hr3
      have u5 : ∀ i, i < eus.length → ∃ f u, eus[i]? = some (.ref u) ∧ H5 u = some (.tup [natV f.1, natV f.2]) ∧ (allE ds).getD i (0, 0) = f := fun i hi => by
        obtain ⟨f, u, _, e2, hu, ef⟩ := pair3 i hi
        exact ⟨f, u, e2, k5 _ _ (uPR hu).1 (uPR hu).2 hu, ef⟩
      have l5 : ∀ x, x < ds.length → ∃ te, es[x]? = some (.ref te) ∧ H5 te = some (.lst ((elR ds x).map natV)) ∧ (elR ds x).length ≤ 12 := fun x hx => by
        obtain ⟨te, a1, a2, a3⟩ := elx hL x hx
        exact ⟨te, a1, k5 _ _ (lPR a2).1 (lPR a2).2 ((s2.trans sR) _ _ a2), a3⟩
      clear e5 T6 T5 sT hT k4 R4 h4
      obtain ⟨fi, ui, ui1, ui2, efi⟩ := u5 i hi
      refine ⟨_, rfl, i, rfl, by omega, by omega, ?_⟩
      refine for_range (n := i) (fun k σ H' => ∃ (pl : Int) (x7 : Option V), σ = [some (.ref p), some (.ref r), some (.ref E), some (.ref t), some (.ref R), some (natV i), some (.int pl), x7, none] ∧ Same H5 H' ∧ (pl = 10 + (i : Int) ∨ (pl = pv ∧ ∀ j, j < k → zs.getD j 0 = pv → ((allE ds).getD j (0, 0)).2 ≠ fi.2 → ∀ c, c < ds.length → ¬(kinI ds c ((allE ds).getD j (0, 0)).1 = true ∧ kinI ds c fi.1 = true))))
        ⟨pv, _, rfl, Same.refl _, .inr ⟨rfl, fun j hj => by omega⟩⟩ ?_ ?_
      · rintro k' σ H6 hk ⟨pl, x7, rfl, s6, hpl⟩
        have ek : V.int ((0 : Int) + (k' : Int)) = natV k' := congrArg V.int (by omega)
        rw [ek]
        have zk : (zs.map V.int)[k']? = some (.int (zs.getD k' 0)) := by
          have h : zs[k']? = some zs[k'] := List.getElem?_eq_getElem (by omega)
          rw [List.getElem?_map, List.getD_eq_getElem?_getD, h]
          rfl
        have R6 := s6 _ _ R5
        obtain ⟨fk, uk, uk1, uk2, efk⟩ := u5 k' (by omega)
        have g1 : ∀ f : Nat × Nat, ([natV f.1, natV f.2] : List V)[(1 : Nat)]? = some (natV f.2) := fun _ => rfl
        have g0 : ∀ f : Nat × Nat, ([natV f.1, natV f.2] : List V)[(0 : Nat)]? = some (natV f.1) := fun _ => rfl
        have step : (zs.getD k' 0 = pv → fk.2 ≠ fi.2 → ∀ c, c < ds.length → ¬(kinI ds c fk.1 = true ∧ kinI ds c fi.1 = true)) → (pl = 10 + (i : Int) ∨ (pl = pv ∧ ∀ j, j < k' + 1 → zs.getD j 0 = pv → ((allE ds).getD j (0, 0)).2 ≠ fi.2 → ∀ c, c < ds.length → ¬(kinI ds c ((allE ds).getD j (0, 0)).1 = true ∧ kinI ds c fi.1 = true))) := fun w => by
          rcases hpl with h | ⟨h, all⟩
          · exact .inl h
          · refine .inr ⟨h, fun j hj => ?_⟩
            by_cases q : j = k'
            · subst q
              rw [efk]
              exact w
            · exact all j (by omega)
        refine ⟨_, rfl, _, rfl, R, _, (k' : Int), _, rfl, rfl, SqL.of R6, atI_nat zk, _, rfl, rfl, _, rfl, ?_⟩
        by_cases q : zs.getD k' 0 = pl
        · refine iteT' (decide_eq_true (by rw [q])) ⟨_, rfl, _, rfl, t, eus, (k' : Int), _, rfl, rfl, SqL.of (s6 _ _ t5), atI_nat uk1, uk, _, ((1 : Nat) : Int), _, rfl, rfl, SqT.of (s6 _ _ uk2), atI_nat (g1 fk), _, rfl, _, rfl, t, eus, (i : Int), _, rfl, rfl, SqL.of (s6 _ _ t5), atI_nat ui1, ui, _, ((1 : Nat) : Int), _, rfl, rfl, SqT.of (s6 _ _ ui2), atI_nat (g1 fi), rfl, _, rfl, ?_⟩
          by_cases w : fk.2 = fi.2
          · exact iteF' (by rw [decide_eq_true (by rw [w])]; rfl) ⟨pl, _, rfl, s6, step fun _ n => absurd w n⟩
          · refine iteT' (by rw [decide_eq_false fun y => w (by have := V.int.inj y; omega)]; rfl) ⟨_, rfl, r, us, rfl, .inl (SqL.of (s6 _ _ r5)), us.length, rfl, by omega, by omega, fun D hD => ?_⟩
            refine lc_rangeA (n := us.length) rel_nat ((List.range us.length).map fun c => if (kinI ds c fk.1 && kinI ds c fi.1) = true then some c else none) hD (by rw [List.length_map, List.length_range]) (by omega) (fun c cc hc hcc H7 s7 N M _ hN hM => ?_) (fun H7 vs7 s7 D7 P7 => ?_)
            · rw [List.getElem?_map, List.getElem?_range hc] at hcc
              have hcc := Option.some.inj hcc
              dsimp only at hcc
              have ec : V.int ((0 : Int) + (c : Int)) = natV c := congrArg V.int (by omega)
              rw [ec]
              obtain ⟨te, a1, a2, a3⟩ := l5 c (by omega)
              have s67 := s6.trans s7
              refine ⟨rfl, _, rfl, _, rfl, t, eus, (k' : Int), _, rfl, rfl, SqL.of (s67 _ _ t5), atI_nat uk1, uk, _, ((0 : Nat) : Int), _, rfl, rfl, SqT.of (s67 _ _ uk2), atI_nat (g0 fk), _, rfl, _, rfl, E, es, (c : Int), _, rfl, rfl, SqL.of (s67 _ _ E5), atI_nat a1, _, rfl, kin_q (s67 _ _ a2) a3 fun H8 s8 => ⟨_, rfl, ?_⟩⟩
              cases y : (elR ds c ++ [c]).contains fk.1 with
              | false =>
                rw [show kinI ds c fk.1 = false from y] at hcc
                exact iteF' rfl (iteF' rfl (hM hcc.symm _ s8))
              | true =>
                rw [show kinI ds c fk.1 = true from y] at hcc
                have s68 := s67.trans s8
                refine iteT' rfl ⟨_, rfl, _, rfl, t, eus, (i : Int), _, rfl, rfl, SqL.of (s68 _ _ t5), atI_nat ui1, ui, _, ((0 : Nat) : Int), _, rfl, rfl, SqT.of (s68 _ _ ui2), atI_nat (g0 fi), _, rfl, _, rfl, E, es, (c : Int), _, rfl, rfl, SqL.of (s68 _ _ E5), atI_nat a1, _, rfl, kin_q (s68 _ _ a2) a3 fun H9 s9 => ⟨_, rfl, ?_⟩⟩
                cases y2 : (elR ds c ++ [c]).contains fi.1 with
                | false =>
                  rw [show kinI ds c fi.1 = false from y2] at hcc
                  exact iteF' rfl (hM hcc.symm _ (s8.trans s9))
                | true =>
                  rw [show kinI ds c fi.1 = true from y2] at hcc
                  exact iteT' rfl ⟨_, rfl, hN _ hcc.symm _ _ (s8.trans s9) (fun z => by cases z) rfl⟩
            · have D7 : H7 D = some (.lst (((List.range us.length).filter fun c => (kinI ds c fk.1 && kinI ds c fi.1)).map natV)) := by
                have := paired_nat (H := H7) P7
                rw [some_filters (fun c : Nat => c) (fun c : Nat => (kinI ds c fk.1 && kinI ds c fi.1)), List.map_id'] at this
                rw [this] at D7
                exact D7
              have s57 := s6.trans s7
              refine ⟨_, .inl ⟨_, SqL.of D7, rfl⟩, ?_⟩
              cases y : (List.range us.length).filter fun c => (kinI ds c fk.1 && kinI ds c fi.1) with
              | nil =>
                refine iteF' rfl ⟨pl, _, rfl, s57, step fun _ _ c hc both => ?_⟩
                have : c ∈ (List.range us.length).filter fun c => (kinI ds c fk.1 && kinI ds c fi.1) := List.mem_filter.mpr ⟨List.mem_range.mpr (by omega), by rw [Bool.and_eq_true]; exact both⟩
                rw [y] at this
                cases this
              | cons x xr =>
                exact iteT' rfl ⟨_, rfl, _, _, rfl, rfl, 10 + (i : Int), _, rfl, s57, .inl rfl⟩
        · have inv : (pl = 10 + (i : Int) ∨ (pl = pv ∧ ∀ j, j < k' + 1 → zs.getD j 0 = pv → ((allE ds).getD j (0, 0)).2 ≠ fi.2 → ∀ c, c < ds.length → ¬(kinI ds c ((allE ds).getD j (0, 0)).1 = true ∧ kinI ds c fi.1 = true))) := by
            rcases hpl with h | ⟨h, _⟩
            · exact .inl h
            · exact step fun e => absurd (e.trans h.symm) q
          exact iteF' (decide_eq_false fun y => q (V.int.inj y)) (iteF' rfl ⟨pl, _, rfl, s6, inv⟩)
      · rintro σ H6 ⟨pl, x7, rfl, s6, hpl⟩
        have R6 := s6 _ _ R5
        refine ⟨_, rfl, .inl ⟨rfl, _, SqL.of R6⟩, _, rfl, R, _, _, rfl, rfl, R6, (by rw [List.length_map]; show _ < 2 ^ 24; omega), ?_⟩
        have h6 := (h5.same s6).upd (o := .lst (zs.map V.int ++ [V.int pl])) Rp Rq
        have gl : ∀ k, k < i → (zs ++ [pl]).getD k 0 = zs.getD k 0 := fun k hk => by rw [List.getD_eq_getElem?_getD, List.getD_eq_getElem?_getD, List.getElem?_append_left (by omega)]
        have gi : (zs ++ [pl]).getD i 0 = pl := by rw [List.getD_eq_getElem?_getD, ← zl, List.getElem?_append_right (Nat.le_refl _), Nat.sub_self]; rfl
        refine ⟨_, _, _, zs ++ [pl], rfl, fun b o n1 n2 e => upB n2 (s6 _ _ (k5 b o n1 n2 e)), h6, by rw [upd_same, List.map_append]; rfl, by rw [List.length_append, zl]; rfl, fun z hz => ?_, fun k hk => ?_, fun a b ab bl eab nab => ?_⟩
        · rcases List.mem_append.mp hz with hz | hz
          · exact gz z hz
          · rw [List.mem_singleton.mp hz]
            rcases hpl with h | ⟨h, _⟩ <;> rw [h]
            · exact ⟨by omega, by omega, by omega⟩
            · exact ⟨p0, by omega, by omega⟩
        · by_cases q : k = i
          · subst q
            rw [gi]
            rcases hpl with h | ⟨h, _⟩
            · exact .inr h
            · exact .inl (by omega)
          · rw [gl k (by omega)]
            exact dom k (by omega)
        · rw [List.length_append, zl, List.length_singleton] at bl
          by_cases q : b = i
          · subst q
            rw [gi, gl a (by omega)] at eab
            rw [efi] at nab ⊢
            rcases hpl with h | ⟨h, all⟩
            · rcases dom a (by omega) with d | d <;> omega
            · exact all a (by omega) (by rw [eab, h]) nab
          · rw [gl a (by omega), gl b (by omega)] at eab
            exact ap a b ab (by omega) eab nab
    · rintro σ H4 ⟨x5, x6, x7, zs, rfl, k4, h4, R4, zl, gz, dom, ap⟩
      exact ⟨_, rfl, k R zs H4 (fun b o nb e => k4 b o nb (ne_of_none e R0) (s03 _ _ e)) h4 R4 (by omega) gz ap⟩
end
end K57

set_option maxRecDepth 100000
set_option maxHeartbeats 8000000
namespace K57
open PySem PySem.Spec PyProof.Rows L2 Kw
/-! ### what is printed -/
def dAnsE (b : (Nat × Nat) × List Nat) : PyData := .tuple [dPair b.1, dNs b.2]
def dCel : Option (List ((Nat × Nat) × List Nat)) → PyData
  | none => .str "head"
  | some l => .tuple (l.map dAnsE)
def dRow (row : List (Option (List ((Nat × Nat) × List Nat)))) : PyData := .tuple (row.map dCel)
def dOut : Nat ⊕ (Str × List Nat) → PyData
  | .inl a => .int (a : Nat)
  | .inr (s, l) => .tuple (.str s :: l.map dN)
theorem nh_intsE {zs : List Int} : ¬ HandLike (.lst (zs.map V.int)) := fun ⟨_, _, _, _, e⟩ => by
  cases zs with
  | nil => cases e
  | cons a r =>
    have := List.head_eq_of_cons_eq (HO.lst.inj e)
    cases this
theorem nh_frzE {o : Obj} {x : HO} : ¬ HandLike (.frz o x) := fun ⟨_, _, _, _, e⟩ => by cases e
theorem LayAt.kiE {H H' : Hp} {q CL : Addr} {ds : List Ent} {zs : List Int} (h : LayAt H q CL ds zs) (k : KI H H') : LayAt H' q CL ds zs := by
  obtain ⟨dq, af, ap, us, h1, ⟨o, g1, g2, g3⟩, h3, h4, h5⟩ := h
  exact ⟨dq, af, ap, us, k _ _ h1 nh_ins, ⟨o, k _ _ g1 nh_frzE, g2, g3⟩, paired_imp (fun _ _ ⟨t, e, h⟩ => ⟨t, e, k _ _ h nh_tup⟩) h3, k _ _ h4 nh_tup, h5⟩
theorem AnsW.dp {K : PySem.W.Frag} {H : Hp} {v : V} {b : (Nat × Nat) × List Nat} (h : AnsW H v b) : Dp K H v (dAnsE b) := by
  obtain ⟨t, u, a, rfl, h1, h2, h3⟩ := h
  exact .tup (SqT.of h1) (.cons (.tup (SqT.of h2) (.cons (.int _) (.cons (.int _) .nil))) (.cons (.tup (SqT.of h3) (dp_nats _)) .nil))
theorem answ_dp {K : PySem.W.Frag} {H : Hp} : ∀ {vs : List V} {l : List ((Nat × Nat) × List Nat)}, Paired (AnsW H) vs l → DpAll K H vs (l.map dAnsE)
  | [], [], _ => .nil
  | _ :: _, _ :: _, .cons h r => .cons h.dp (answ_dp r)
theorem CelW.dp {K : PySem.W.Frag} {H : Hp} {v : V} {o : Option (List ((Nat × Nat) × List Nat))} (h : CelW H v o) : Dp K H v (dCel o) := by
  rcases h with ⟨rfl, rfl⟩ | ⟨l, t, us, rfl, rfl, h1, h2⟩
  · exact .str _
  · exact .tup (SqT.of h1) (answ_dp h2)
theorem celw_dp {K : PySem.W.Frag} {H : Hp} : ∀ {vs : List V} {l : List (Option (List ((Nat × Nat) × List Nat)))}, Paired (CelW H) vs l → DpAll K H vs (l.map dCel)
  | [], [], _ => .nil
  | _ :: _, _ :: _, .cons h r => .cons h.dp (celw_dp r)
theorem RowW.dp {K : PySem.W.Frag} {H : Hp} {t : Addr} {row : List (Option (List ((Nat × Nat) × List Nat)))} (h : RowW H t row) : Dp K H (.ref t) (dRow row) := by
  obtain ⟨us, h1, h2⟩ := h
  exact .tup (SqT.of h1) (celw_dp h2)
theorem OutV.dp {K : PySem.W.Frag} {H : Hp} {v : V} {o : Nat ⊕ (Str × List Nat)} (h : OutV H v o) : Dp K H v (dOut o) := by
  cases o with
  | inl a => rw [show v = natV a from h]; exact .int _
  | inr p =>
    obtain ⟨s, l⟩ := p
    obtain ⟨t, rfl, h⟩ := h
    exact .tup (SqT.of h) (.cons (.str _) (dp_nats l))
theorem Sm.str3 : ∀ s : Str, s = "view" ∨ s = "none" ∨ s = "two" ∨ s = "head" → Sm 0 4 (.str s) := by
  rintro s (rfl | rfl | rfl | rfl)
  · exact ⟨by decide +kernel, by simp [PyData.depth], by decide +kernel, by decide +kernel, by decide +kernel⟩
  · exact ⟨by decide +kernel, by simp [PyData.depth], by decide +kernel, by decide +kernel, by decide +kernel⟩
  · exact ⟨by decide +kernel, by simp [PyData.depth], by decide +kernel, by decide +kernel, by decide +kernel⟩
  · exact ⟨by decide +kernel, by simp [PyData.depth], by decide +kernel, by decide +kernel, by decide +kernel⟩
def SmallO (o : Nat ⊕ (Str × List Nat)) : Prop := match o with
  | .inl a => a < 16
  | .inr (s, l) => (s = "view" ∨ s = "none" ∨ s = "two" ∨ s = "head") ∧ l.length ≤ 4 ∧ ∀ x ∈ l, x < 16
theorem SmallO.sm {o : Nat ⊕ (Str × List Nat)} (h : SmallO o) : Sm 1 100 (dOut o) := by
  cases o with
  | inl a => exact (Sm.nat (m := a) h).le (by decide) (by decide)
  | inr p =>
    obtain ⟨s, l⟩ := p
    obtain ⟨h1, h2, h3⟩ := h
    refine (Sm.tuple (n := 0) (b := 4) (l := 5) (fun d hd => ?_) (by rw [List.length_cons, List.length_map]; omega)).le (by decide) (by decide)
    rcases List.mem_cons.mp hd with rfl | hd
    · exact Sm.str3 s h1
    · obtain ⟨x, hx, rfl⟩ := List.mem_map.mp hd
      exact Sm.nat (h3 x hx)
theorem sm_ansE {b : (Nat × Nat) × List Nat} (h1 : b.1.1 < 16) (h2 : b.1.2 < 16) (h3 : ∀ x ∈ b.2, x < 16) (h4 : b.2.length ≤ 12) : Sm 2 122 (dAnsE b) := by
  refine Sm.tuple (n := 1) (b := 60) (l := 2) (fun d hd => ?_) (Nat.le_refl _)
  rcases List.mem_cons.mp hd with rfl | hd
  · refine (Sm.tuple (n := 0) (b := 4) (l := 2) (fun d hd => ?_) (Nat.le_refl _)).le (by decide) (by decide)
    rcases List.mem_cons.mp hd with rfl | hd
    · exact Sm.nat h1
    · rw [List.mem_singleton.mp hd]; exact Sm.nat h2
  · rw [List.mem_singleton.mp hd]
    refine (Sm.tuple (n := 0) (b := 4) (l := 12) (fun d hd => ?_) (by rw [List.length_map]; exact h4)).le (by decide) (by decide)
    obtain ⟨x, hx, rfl⟩ := List.mem_map.mp hd
    exact Sm.nat (h3 x hx)
def celLen : Option (List ((Nat × Nat) × List Nat)) → Nat
  | none => 0
  | some l => l.length
theorem sm_row {row : List (Option (List ((Nat × Nat) × List Nat)))} (hl : row.length ≤ 200) (hs : (row.map celLen).sum ≤ 36) (h : ∀ l, some l ∈ row → ∀ b ∈ l, b.1.1 < 16 ∧ b.1.2 < 16 ∧ (∀ x ∈ b.2, x < 16) ∧ b.2.length ≤ 12) : Sm 4 10000 (dRow row) := by
  have cel : ∀ o ∈ row, Sm 3 (4 + 123 * celLen o) (dCel o) := fun o ho => by
    cases o with
    | none => exact (Sm.str3 "head" (.inr (.inr (.inr rfl)))).le (by decide) (by show 4 ≤ 4 + 123 * 0; decide)
    | some l =>
      refine (Sm.tuple (n := 2) (b := 122) (l := l.length) (fun d hd => ?_) (by rw [List.length_map]; exact Nat.le_refl _)).le (by decide) (by show l.length * (122 + 1) ≤ 4 + 123 * l.length; omega)
      obtain ⟨b, hb, rfl⟩ := List.mem_map.mp hd
      obtain ⟨a1, a2, a3, a4⟩ := h l ho b hb
      exact sm_ansE a1 a2 a3 a4
  have wt : ∀ rr : List (Option (List ((Nat × Nat) × List Nat))), (∀ o ∈ rr, o ∈ row) → PyData.weightAll (rr.map dCel) ≤ 5 * rr.length + 123 * (rr.map celLen).sum := fun rr => by
    induction rr with
    | nil => exact fun _ => Nat.zero_le _
    | cons o rr ih =>
      intro ho
      have a := (cel o (ho o List.mem_cons_self)).wt
      have b := ih fun x hx => ho x (List.mem_cons_of_mem _ hx)
      rw [List.map_cons, List.map_cons, List.sum_cons, List.length_cons]
      simp only [PyData.weightAll]
      omega
  have big : ∀ d ∈ row.map dCel, Sm 3 10000 d := fun d hd => by
    obtain ⟨o, ho, rfl⟩ := List.mem_map.mp hd
    have le : celLen o ≤ (row.map celLen).sum := by
      have : ∀ rr : List (Option (List ((Nat × Nat) × List Nat))), o ∈ rr → celLen o ≤ (rr.map celLen).sum := fun rr => by
        induction rr with
        | nil => exact fun h => by cases h
        | cons x rr ih =>
          intro hx
          rw [List.map_cons, List.sum_cons]
          rcases List.mem_cons.mp hx with e | hx
          · rw [e]; omega
          · have := ih hx; omega
      exact this row ho
    exact (cel o ho).le (Nat.le_refl _) (by omega)
  obtain ⟨h1, h2, _, h4, h5⟩ := sm_all big
  have w := wt row fun _ h => h
  refine ⟨by simpa [PyData.canLay0, dRow] using h1, by unfold dRow; simp only [PyData.depth]; omega, ?_, by simpa [PyData.intsShort, dRow] using h4, by simpa [PyData.showable, dRow] using h5⟩
  unfold dRow
  simp only [PyData.weight]
  omega
/-- over all places, each entry stands in one cell at most -/
theorem cells_sum {lo : Int} : ∀ (l : List ((Nat × Nat) × Int)) (n : Nat), ((List.range n).map fun (i : Nat) => (l.filter fun e => decide (e.2 = lo + (i : Int))).length).sum ≤ l.length
  | [], n => by
    have : ∀ m : Nat, ((List.range m).map fun (i : Nat) => (([] : List ((Nat × Nat) × Int)).filter fun e => decide (e.2 = lo + (i : Int))).length).sum = 0 := fun m => by
      induction m with
      | zero => rfl
      | succ m ih => rw [List.range_succ, List.map_append, List.sum_append, ih]; rfl
    rw [this]
    exact Nat.zero_le _
  | a :: r, n => by
    have ih := cells_sum (lo := lo) r n
    have one : ∀ m : Nat, ((List.range m).map fun (i : Nat) => if a.2 = lo + (i : Int) then 1 else 0).sum ≤ if a.2 < lo + (m : Int) then 1 else 0 := fun m => by
      induction m with
      | zero => exact Nat.zero_le _
      | succ m im =>
        rw [List.range_succ, List.map_append, List.sum_append, List.map_cons, List.map_nil, List.sum_cons, List.sum_nil]
        by_cases q : a.2 = lo + (m : Int)
        · rw [if_neg (by omega)] at im
          rw [if_pos q, if_pos (by omega)]
          omega
        · rw [if_neg q]
          by_cases w : a.2 < lo + (m : Int)
          · rw [if_pos w] at im
            rw [if_pos (by omega)]
            omega
          · rw [if_neg w] at im
            omega
    have add : ∀ m : Nat, ((List.range m).map fun (i : Nat) => ((a :: r).filter fun e => decide (e.2 = lo + (i : Int))).length).sum = ((List.range m).map fun (i : Nat) => if a.2 = lo + (i : Int) then 1 else 0).sum + ((List.range m).map fun (i : Nat) => (r.filter fun e => decide (e.2 = lo + (i : Int))).length).sum := fun m => by
      induction m with
      | zero => rfl
      | succ m im =>
        rw [List.range_succ, List.map_append, List.map_append, List.map_append, List.sum_append, List.sum_append, List.sum_append, im]
        simp only [List.map_cons, List.map_nil, List.sum_cons, List.sum_nil]
        rw [List.filter_cons]
        by_cases q : a.2 = lo + (m : Int)
        · rw [if_pos (decide_eq_true q), if_pos q, List.length_cons]
          omega
        · rw [if_neg (by rw [decide_eq_true_eq]; exact q), if_neg q]
          omega
    rw [add, List.length_cons]
    have := one n
    by_cases w : a.2 < lo + (n : Int)
    · rw [if_pos w] at this; omega
    · rw [if_neg w] at this; omega
section
variable {ds : List Ent} {zs : List Int}
theorem ans_small (ok : DsOk ds) (h12 : ds.length ≤ 12) {c m : Nat} (hc : c < ds.length) : (∀ x ∈ ansL ds c m, x < 16) ∧ (ansL ds c m).length ≤ 12 := by
  refine ⟨fun x hx => ?_, Nat.le_trans (topsL_len (els := elsOf ds) (xs := defL ds c m)) (defL_len ok hc h12)⟩
  have := defL_lt ok hc x (List.mem_filter.mp hx).1
  omega
theorem rowE_sm (ok : DsOk ds) (h12 : ds.length ≤ 12) {c : Nat} (hc : c < ds.length) (zl : zs.length = (allE ds).length) (gz : GoodPl zs) : Sm 4 10000 (dRow (rowE ds zs c)) := by
  have al := allE_len ok
  have me : (minE ds zs c).length ≤ 36 := by
    refine Nat.le_trans (List.length_filter_le _ _) ?_
    rw [List.length_zip]
    omega
  refine sm_row ?_ ?_ fun l hl b hb => ?_
  · unfold rowE
    rw [List.length_map, List.length_range]
    have pb : ∀ x ∈ (minE ds zs c).map (·.2), -99 ≤ x ∧ x ≤ 99 := fun x hx => by
      obtain ⟨e, he, rfl⟩ := List.mem_map.mp hx
      exact (gz _ (List.of_mem_zip (List.mem_filter.mp he).1).2).2
    have lo : -99 ≤ loE ds zs c := by
      unfold loE
      generalize (minE ds zs c).map (·.2) = l at pb
      induction l with
      | nil => show (-99 : Int) ≤ 0; decide
      | cons a r ih =>
        show -99 ≤ min a (lowZ r)
        have := pb a List.mem_cons_self
        have := ih fun x hx => pb x (List.mem_cons_of_mem _ hx)
        omega
    have hi : highZ ((minE ds zs c).map (·.2)) ≤ 99 := by
      generalize (minE ds zs c).map (·.2) = l at pb
      induction l with
      | nil => show (0 : Int) ≤ 99; decide
      | cons a r ih =>
        show max a (highZ r) ≤ 99
        have := pb a List.mem_cons_self
        have := ih fun x hx => pb x (List.mem_cons_of_mem _ hx)
        omega
    unfold spanE
    omega
  · have e : ((rowE ds zs c).map celLen).sum ≤ ((List.range (spanE ds zs c)).map fun (i : Nat) => ((minE ds zs c).filter fun e => decide (e.2 = loE ds zs c + (i : Int))).length).sum := by
      unfold rowE
      rw [List.map_map]
      generalize List.range (spanE ds zs c) = l
      induction l with
      | nil => exact Nat.le_refl _
      | cons i r ih =>
        rw [List.map_cons, List.map_cons, List.sum_cons, List.sum_cons]
        have : celLen (celE ds zs c (loE ds zs c + (i : Int))) ≤ ((minE ds zs c).filter fun e => decide (e.2 = loE ds zs c + (i : Int))).length := by
          unfold celE
          split
          · exact Nat.zero_le _
          · show (List.map _ _).length ≤ _
            rw [List.length_map]
            exact Nat.le_refl _
        exact Nat.add_le_add this ih
    have := cells_sum (lo := loE ds zs c) (minE ds zs c) (spanE ds zs c)
    omega
  · unfold rowE at hl
    obtain ⟨i, _, hi⟩ := List.mem_map.mp hl
    unfold celE at hi
    split at hi
    · cases hi
    · obtain rfl := Option.some.inj hi
      obtain ⟨e, he, rfl⟩ := List.mem_map.mp hb
      obtain ⟨⟨j, j1, _⟩, _⟩ := minE_get (List.mem_filter.mp he).1
      have m := List.mem_of_getElem? j1
      have a := (allE_mem m).1
      have b := name_six ok m
      obtain ⟨s1, s2⟩ := ans_small ok h12 (m := e.1.2) hc
      exact ⟨by show e.1.1 < 16; omega, by show e.1.2 < 16; omega, s1, s2⟩
theorem outA_small {lot : List Nat} {c m : Nat} (hl : ∀ x ∈ lot, x < 16) (hc : c < 16) (hm : m < 16) : SmallO (outA lot c m) := by
  match lot, hl with
  | [], _ => show 0 < 16; decide
  | [a], hl => exact hl a List.mem_cons_self
  | a :: b :: r, hl =>
    refine ⟨.inr (.inr (.inl rfl)), by show 4 ≤ 4; decide, fun x hx => ?_⟩
    rcases List.mem_cons.mp hx with rfl | hx
    · exact hc
    rcases List.mem_cons.mp hx with rfl | hx
    · exact hm
    rcases List.mem_cons.mp hx with rfl | hx
    · exact hl _ List.mem_cons_self
    rw [List.mem_singleton.mp hx]
    exact hl _ (List.mem_cons_of_mem _ List.mem_cons_self)
/-- the name of the last entry in a place is one of them -/
theorem nmE_in {c : Nat} {z : Int} (h : (minE ds zs c).filter (fun e => decide (e.2 = z)) ≠ []) : ∃ e ∈ minE ds zs c, e.2 = z ∧ nmE ds zs c z = e.1.2 := by
  obtain ⟨ini, e, ee⟩ : ∃ ini e, (minE ds zs c).filter (fun e => decide (e.2 = z)) = ini ++ [e] := ⟨_, _, (List.dropLast_concat_getLast h).symm⟩
  obtain ⟨m1, m2⟩ := List.mem_filter.mp (show e ∈ (minE ds zs c).filter (fun e => decide (e.2 = z)) by rw [ee]; exact List.mem_append_right _ List.mem_cons_self)
  refine ⟨e, m1, of_decide_eq_true m2, ?_⟩
  unfold nmE
  rw [ee, List.map_append, List.map_cons, List.map_nil, List.getLastD_eq_getLast?, List.getLast?_concat]
  rfl
theorem outC_small (ok : DsOk ds) (h12 : ds.length ≤ 12) {view c m : Nat} (hv : view < ds.length) (hc : c < ds.length) (hm : m < 6) : SmallO (outC ds zs view c m) := by
  cases hk : kinI ds c view with
  | false =>
    rw [outC_view hk]
    refine ⟨.inl rfl, by show 2 ≤ 4; decide, fun x hx => ?_⟩
    rcases List.mem_cons.mp hx with rfl | hx
    · omega
    · rw [List.mem_singleton.mp hx]; omega
  | true =>
    cases hz : namZ ds zs view m with
    | nil =>
      rw [outC_none hk hz]
      refine ⟨.inr (.inl rfl), by show 2 ≤ 4; decide, fun x hx => ?_⟩
      rcases List.mem_cons.mp hx with rfl | hx
      · omega
      · rw [List.mem_singleton.mp hx]; omega
    | cons e r =>
      rw [outC_some hk hz]
      have em : e ∈ minE ds zs view := (List.mem_filter.mp (show e ∈ namZ ds zs view m by rw [hz]; exact List.mem_cons_self)).1
      have ec := kin_sub ok hk em
      obtain ⟨e2, h2, _, h3⟩ := nmE_in (c := c) (z := e.2) (List.ne_nil_of_mem (List.mem_filter.mpr ⟨ec, decide_eq_true rfl⟩))
      obtain ⟨⟨j, j1, _⟩, _⟩ := minE_get h2
      have := name_six ok (List.mem_of_getElem? j1)
      rw [h3]
      exact outA_small (ans_small ok h12 hc).1 (by omega) (by omega)
/-- where no class has two entries of unlike names in one place, the call gives what is found without a table -/
theorem apart_out (ok : DsOk ds) (zl : zs.length = (allE ds).length) (ap : ApE ds zs) {view c m : Nat} (hv : view < ds.length) (hc : c < ds.length) (hk : kinI ds c view = true) (hd : defL ds view m ≠ []) : outC ds zs view c m = outA (ansL ds c m) c m := by
  -- the first of them that has the name brings it
  have mn : ∀ n : Nat, ∀ k ∈ defL ds view m, k ≤ n → ∃ k ∈ defL ds view m, ∀ x ∈ defL ds view m, k ≤ x := fun n => by
    induction n with
    | zero => exact fun k hk h => ⟨k, hk, fun x _ => by omega⟩
    | succ n ih =>
      intro k hk h
      by_cases q : ∀ x ∈ defL ds view m, k ≤ x
      · exact ⟨k, hk, q⟩
      · have : ∃ x ∈ defL ds view m, x < k := by
          refine Classical.byContradiction fun no => q fun x hx => ?_
          have : ¬x < k := fun z => no ⟨x, hx, z⟩
          omega
        obtain ⟨x, hx, xk⟩ := this
        exact ih x hx (by omega)
  obtain ⟨k0, hk0⟩ := List.exists_mem_of_ne_nil _ hd
  obtain ⟨k, kd, kmin⟩ := mn k0 k0 hk0 (Nat.le_refl _)
  obtain ⟨kk, km⟩ := List.mem_filter.mp kd
  rw [kins_els hv] at kk
  have km := List.contains_iff_mem.mp km
  have kl : k < ds.length := defL_lt ok hv k kd
  have kin1 : kinI ds view k = true := List.contains_iff_mem.mpr kk
  have dk : defL ds k m = [k] := by
    unfold defL
    rw [kins_els kl, List.filter_append]
    have e1 : ((elsOf ds).getD k []).filter (fun x => (methsOf ds x).contains m) = [] := List.filter_eq_nil_iff.mpr fun x hx hm => by
      have xk : x ∈ elR ds k := hx
      have : x ∈ defL ds view m := by
        refine List.mem_filter.mpr ⟨?_, hm⟩
        rw [kins_els hv]
        rcases List.mem_append.mp kk with q | q
        · exact List.mem_append_left _ (elders_trans ok.valid view q xk)
        · rw [List.mem_singleton.mp q] at xk
          exact List.mem_append_left _ xk
      have := kmin x this
      have := elR_lt xk
      omega
    have e2 : [k].filter (fun x => (methsOf ds x).contains m) = [k] := by
      rw [List.filter_cons, if_pos (List.contains_iff_mem.mpr km)]
      rfl
    rw [e1, e2]
    rfl
  have ke : (k, m) ∈ allE ds := List.mem_flatMap.mpr ⟨k, List.mem_range.mpr kl, List.mem_map.mpr ⟨m, List.mem_filter.mpr ⟨km, decide_eq_true dk⟩, rfl⟩⟩
  obtain ⟨j, hj⟩ := List.mem_iff_getElem?.mp ke
  have jl := (List.getElem?_eq_some_iff.mp hj).1
  have hz : zs[j]? = some zs[j] := List.getElem?_eq_getElem (by omega)
  have hm1 : ((k, m), zs[j]) ∈ namZ ds zs view m := by
    refine List.mem_filter.mpr ⟨List.mem_filter.mpr ⟨?_, kin1⟩, decide_eq_true rfl⟩
    exact List.mem_iff_getElem?.mpr ⟨j, List.getElem?_zip_eq_some.mpr ⟨hj, hz⟩⟩
  cases en : namZ ds zs view m with
  | nil => rw [en] at hm1; cases hm1
  | cons e r =>
    rw [outC_some hk en]
    have e0 := List.mem_filter.mp (show e ∈ namZ ds zs view m by rw [en]; exact List.mem_cons_self)
    have em : e.1.2 = m := of_decide_eq_true e0.2
    have ec := kin_sub ok hk e0.1
    obtain ⟨e2, h2, z2, n2⟩ := nmE_in (c := c) (z := e.2) (List.ne_nil_of_mem (List.mem_filter.mpr ⟨ec, decide_eq_true rfl⟩))
    obtain ⟨⟨a, a1, a2⟩, ak⟩ := minE_get ec
    obtain ⟨⟨b, b1, b2⟩, bk⟩ := minE_get h2
    have ga : (allE ds).getD a (0, 0) = e.1 := by rw [List.getD_eq_getElem?_getD, a1]; rfl
    have gb : (allE ds).getD b (0, 0) = e2.1 := by rw [List.getD_eq_getElem?_getD, b1]; rfl
    have za : zs.getD a 0 = e.2 := by rw [List.getD_eq_getElem?_getD, a2]; rfl
    have zb : zs.getD b 0 = e2.2 := by rw [List.getD_eq_getElem?_getD, b2]; rfl
    have same : e2.1.2 = m := by
      refine Classical.byContradiction fun ne => ?_
      have al := (List.getElem?_eq_some_iff.mp a2).1
      have bl := (List.getElem?_eq_some_iff.mp b2).1
      rcases Nat.lt_trichotomy a b with q | q | q
      · exact ap a b q bl (by rw [za, zb, z2]) (by rw [ga, gb, em]; exact fun h => ne h.symm) c hc ⟨by rw [ga]; exact ak, by rw [gb]; exact bk⟩
      · subst q
        rw [a1] at b1
        rw [Option.some.inj b1] at em
        exact ne em
      · exact ap b a q al (by rw [za, zb, z2]) (by rw [ga, gb, em]; exact ne) c hc ⟨by rw [gb]; exact bk, by rw [ga]; exact ak⟩
    rw [n2, same]
end
section
variable {P : Program} {w : World} {K : PySem.W.Frag} {mg : Str → Option Value} {base : Heap} {f C CL Cn CHo CS Cv Ct Cx Cb : Addr} {fd : FuncData}
def spLayR (C CL : Addr) : Sp := fun vs H Q _ => ∃ (p q r z : Addr) (us : List V) (ds : List Ent) (zs : List Int) (apart : Bool), vs = [.ref p, .ref r, .ref z, .bl apart] ∧ HandAt H p q ∧ H r = some (.lst us) ∧ RwN r H us ds ∧ DsOk ds ∧ 1 ≤ ds.length ∧ ds.length ≤ 12 ∧ H z = some (.lst (zs.map V.int)) ∧ zs.length = (allE ds).length ∧ GoodPl zs ∧ (apart = true → ApE ds zs) ∧ ∀ H', KI H H' → HandAt H' p q → Q (.bl true) H'
theorem sc_layR : FnScope ["_law_hand_here", "_law_rows", "_law_places", "_law_apart", "_law_world", "_law_elders_here", "_law_laying", "_law_c", "_law_other", "_law_view", "_law_name", "_law_due", "_law_known"] ["_law_hand_here", "_law_rows", "_law_places", "_law_apart"] (defScope (top 67)) := ⟨rfl, rfl, rfl, by decide +kernel, rfl, by decide +kernel, by decide +kernel⟩
theorem ok_layR {f_Laying___init__ f_World___init__ f__law_call f__law_call_due f__law_defining f__law_elders f__law_found f__law_row_due f__law_take f_entry_world f_table_row : Addr} {fd_Laying___init__ fd_World___init__ fd__law_call fd__law_call_due fd__law_defining fd__law_elders fd__law_found fd__law_row_due fd__law_take fd_entry_world fd_table_row : FuncData} (F : FnP K "_law_laying_right" 67 f fd)
    (B : Fr mg)
    (F_World___init__ : FnM K "__init__" "World.__init__" (inClass (top 24) 0) f_World___init__ fd_World___init__)
    (G_World___init__ : FnOk P w K mg base (L2.CX P w) 4 f_World___init__ fd_World___init__ ["self", "classes"] (spWorld C Cb))
    (MK_World : Mk K C f_World___init__)
    (m_World : mg "World" = some (.ref C))
    (F__law_elders : FnP K "_law_elders" 55 f__law_elders fd__law_elders)
    (m__law_elders : mg "_law_elders" = some (.ref f__law_elders))
    (G__law_elders : FnOk P w K mg base CX0 1 f__law_elders fd__law_elders ["_law_rows"] spLElders)
    (F_Laying___init__ : FnM K "__init__" "Laying.__init__" (inClass (top 36) 0) f_Laying___init__ fd_Laying___init__)
    (G_Laying___init__ : FnOk P w K mg base CX0 3 f_Laying___init__ fd_Laying___init__ ["self", "world", "places"] (spLayI C CL))
    (MK_Laying : Mk K CL f_Laying___init__)
    (m_Laying : mg "Laying" = some (.ref CL))
    (F_entry_world : FnP K "entry_world" 43 f_entry_world fd_entry_world)
    (m_entry_world : mg "entry_world" = some (.ref f_entry_world))
    (G_entry_world : FnOk P w K mg base CX0 9 f_entry_world fd_entry_world ["world"] (spEntW C))
    (F_table_row : FnP K "table_row" 45 f_table_row fd_table_row)
    (m_table_row : mg "table_row" = some (.ref f_table_row))
    (G_table_row : FnOk P w K mg base CX0 10 f_table_row fd_table_row ["world", "laying", "c"] (spTabRow C CL))
    (gRp : mg "repr" = none)
    (F__law_row_due : FnP K "_law_row_due" 66 f__law_row_due fd__law_row_due)
    (m__law_row_due : mg "_law_row_due" = some (.ref f__law_row_due))
    (G__law_row_due : FnOk P w K mg base CX0 3 f__law_row_due fd__law_row_due ["_law_rows", "_law_elders_here", "_law_places", "_law_c"] spLRowD)
    (F__law_take : FnP K "_law_take" 50 f__law_take fd__law_take)
    (m__law_take : mg "_law_take" = some (.ref f__law_take))
    (G__law_take : FnOk P w K mg base CX0 2 f__law_take fd__law_take ["_law_hand_here", "_law_many"] spTake)
    (F__law_call_due : FnP K "_law_call_due" 64 f__law_call_due fd__law_call_due)
    (m__law_call_due : mg "_law_call_due" = some (.ref f__law_call_due))
    (G__law_call_due : FnOk P w K mg base CX0 5 f__law_call_due fd__law_call_due ["_law_rows", "_law_elders_here", "_law_places", "_law_view", "_law_c", "_law_name"] spLDueC)
    (F__law_call : FnP K "_law_call" 63 f__law_call fd__law_call)
    (m__law_call : mg "_law_call" = some (.ref f__law_call))
    (G__law_call : FnOk P w K mg base CX0 8 f__law_call fd__law_call ["_law_world", "_law_laying", "_law_view", "_law_c", "_law_name"] (spLCall C CL))
    (F__law_defining : FnP K "_law_defining" 57 f__law_defining fd__law_defining)
    (m__law_defining : mg "_law_defining" = some (.ref f__law_defining))
    (G__law_defining : FnOk P w K mg base CX0 1 f__law_defining fd__law_defining ["_law_rows", "_law_elders_here", "_law_c", "_law_name"] spLDef)
    (F__law_found : FnP K "_law_found" 65 f__law_found fd__law_found)
    (m__law_found : mg "_law_found" = some (.ref f__law_found))
    (G__law_found : FnOk P w K mg base CX0 4 f__law_found fd__law_found ["_law_rows", "_law_elders_here", "_law_c", "_law_name"] spLFound) :
    FnOkG P w K mg base CX0 13 f fd ["_law_hand_here", "_law_rows", "_law_places", "_law_apart"] (spLayR C CL) := by
  have b_World___init__ : L2.Binds K fd_World___init__ ["self", "classes"] [] := F_World___init__.bindsN fun _ _ _ _ _ _ us hl => match us, hl with | [_, _], _ => rfl
  have b__law_elders : L2.Binds K fd__law_elders ["_law_rows"] [] := F__law_elders.bindsN fun _ _ _ _ _ _ us hl => match us, hl with | [_], _ => rfl
  have b_Laying___init__ : L2.Binds K fd_Laying___init__ ["self", "world", "places"] [] := F_Laying___init__.bindsN fun _ _ _ _ _ _ us hl => match us, hl with | [_, _, _], _ => rfl
  have b_entry_world : L2.Binds K fd_entry_world ["world"] [] := F_entry_world.bindsN fun _ _ _ _ _ _ us hl => match us, hl with | [_], _ => rfl
  have b_table_row : L2.Binds K fd_table_row ["world", "laying", "c"] [] := F_table_row.bindsN fun _ _ _ _ _ _ us hl => match us, hl with | [_, _, _], _ => rfl
  have b__law_row_due : L2.Binds K fd__law_row_due ["_law_rows", "_law_elders_here", "_law_places", "_law_c"] [] := F__law_row_due.bindsN fun _ _ _ _ _ _ us hl => match us, hl with | [_, _, _, _], _ => rfl
  have b__law_take : L2.Binds K fd__law_take ["_law_hand_here", "_law_many"] [] := F__law_take.bindsN fun _ _ _ _ _ _ us hl => match us, hl with | [_, _], _ => rfl
  have b__law_call_due : L2.Binds K fd__law_call_due ["_law_rows", "_law_elders_here", "_law_places", "_law_view", "_law_c", "_law_name"] [] := F__law_call_due.bindsN fun _ _ _ _ _ _ us hl => match us, hl with | [_, _, _, _, _, _], _ => rfl
  have b__law_call : L2.Binds K fd__law_call ["_law_world", "_law_laying", "_law_view", "_law_c", "_law_name"] [] := F__law_call.bindsN fun _ _ _ _ _ _ us hl => match us, hl with | [_, _, _, _, _], _ => rfl
  have b__law_defining : L2.Binds K fd__law_defining ["_law_rows", "_law_elders_here", "_law_c", "_law_name"] [] := F__law_defining.bindsN fun _ _ _ _ _ _ us hl => match us, hl with | [_, _, _, _], _ => rfl
  have b__law_found : L2.Binds K fd__law_found ["_law_rows", "_law_elders_here", "_law_c", "_law_name"] [] := F__law_found.bindsN fun _ _ _ _ _ _ us hl => match us, hl with | [_, _, _, _], _ => rfl
  refine FunD.okG F sc_layR (fun vs H Q E h => ?_) (fun cdv A outer s H vs Q E quiet hr h => ?_)
  · obtain ⟨p, q, r, z, us, ds, zs, apart, rfl, _⟩ := h
    rfl
  · obtain ⟨p, q, r, z, us, ds, zs, apart, rfl, hh, hr0, hR, ok, d1, h12, hz, zl, gz, hap, k⟩ := h
    have hu : (A.deeper (envOfC ("_law_laying_right" : Str) (defScope (top 67)) s.heap.objs.size f cdv)).units + 65 < cLine := by
      have := hr.un
      omega
    refine ⟨_, PSs.nox (pss_cons (ps_set (i := 4) sc_layR.nd rfl (Or.inl rfl) (pe_make MK_World G_World___init__ (hr.mono (by decide)) (by rfl) m_World b_World___init__ .nil (passOut (E := fun _ _ _ => False)) (pa_cons (pv 1) pa_nil)))
      (pss_cons (ps_set (i := 5) sc_layR.nd rfl (Or.inl rfl) (pe_call G__law_elders (hr.mono (by decide)) (by rfl) m__law_elders F__law_elders.kp b__law_elders .nil pass0 (pa_cons (pv 1) pa_nil)))
      (pss_cons (ps_set (i := 6) sc_layR.nd rfl (Or.inl rfl) (pe_make MK_Laying G_Laying___init__ (hr.mono (by decide)) (by rfl) m_Laying b_Laying___init__ .nil pass0 (pa_cons (pe_call G_entry_world (hr.mono (by decide)) (by rfl) m_entry_world F_entry_world.kp b_entry_world .nil pass0 (pa_cons (pv 4) pa_nil)) (pa_cons (pv 2) pa_nil))))
      (pss_cons (ps_for PassesOwn.never rfl (pi_range1 (by rfl) B.range (pa_cons (pe_callB (id := "len") (r := rLenS K) (call_lenS (X := _)) (by rfl) B.len PySem.boot_len (pa_cons (pv 1) pa_nil)) pa_nil)) (pg_name (i := 7) sc_layR.nd rfl (Or.inl rfl))
        (pss_cons (ps_if (pt_cmpR op_ne (pe_callB (id := "repr") (r := rReprA K) (call_reprA quiet hu) (by rfl) gRp (by decide +kernel) (pa_cons (pe_call G_table_row (hr.mono (by decide)) (by rfl) m_table_row F_table_row.kp b_table_row .nil pass0 (pa_cons (pv 4) (pa_cons (pv 6) (pa_cons (pv 7) pa_nil)))) pa_nil)) (pe_callB (id := "repr") (r := rReprA K) (call_reprA quiet hu) (by rfl) gRp (by decide +kernel) (pa_cons (pe_call G__law_row_due (hr.mono (by decide)) (by rfl) m__law_row_due F__law_row_due.kp b__law_row_due .nil pass0 (pa_cons (pv 1) (pa_cons (pv 5) (pa_cons (pv 2) (pa_cons (pv 7) pa_nil))))) pa_nil)) (nomark _)) (pss_one (ps_ret pe_bl)) pss_nil)
      (pss_cons (ps_set (i := 8) sc_layR.nd rfl (Or.inl rfl) (pe_call G__law_take (hr.mono (by decide)) (by rfl) m__law_take F__law_take.kp b__law_take .nil pass0 (pa_cons (pv 0) (pa_cons (pe_callB (id := "len") (r := rLenS K) (call_lenS (X := _)) (by rfl) B.len PySem.boot_len (pa_cons (pv 1) pa_nil)) pa_nil))))
      (pss_one (ps_for PassesOwn.never rfl (pi_list (pe_op op_cat (pe_ix (r := rIxL K) ix_list (pv 5) (pv 7) (fun _ _ => rfl)) (pe_lst (pa_cons (pv 7) (pa_cons (pv 8) pa_nil))))) (pg_name (i := 9) sc_layR.nd rfl (Or.inl rfl))
        (pss_one (ps_for PassesOwn.never rfl (pi_range1 (by rfl) B.range (pa_cons pe_int pa_nil)) (pg_name (i := 10) sc_layR.nd rfl (Or.inl rfl))
        (pss_cons (ps_set (i := 11) sc_layR.nd rfl (Or.inl rfl) (pe_call G__law_call_due (hr.mono (by decide)) (by rfl) m__law_call_due F__law_call_due.kp b__law_call_due .nil pass0 (pa_cons (pv 1) (pa_cons (pv 5) (pa_cons (pv 2) (pa_cons (pv 9) (pa_cons (pv 7) (pa_cons (pv 10) pa_nil))))))))
      (pss_cons (ps_if (pt_cmpR op_ne (pe_callB (id := "repr") (r := rReprA K) (call_reprA quiet hu) (by rfl) gRp (by decide +kernel) (pa_cons (pe_call G__law_call (hr.mono (by decide)) (by rfl) m__law_call F__law_call.kp b__law_call .nil pass0 (pa_cons (pv 4) (pa_cons (pv 6) (pa_cons (pv 9) (pa_cons (pv 7) (pa_cons (pv 10) pa_nil)))))) pa_nil)) (pe_callB (id := "repr") (r := rReprA K) (call_reprA quiet hu) (by rfl) gRp (by decide +kernel) (pa_cons (pv 11) pa_nil)) (nomark _)) (pss_one (ps_ret pe_bl)) pss_nil)
      (pss_cons (ps_set (i := 12) sc_layR.nd rfl (Or.inl rfl) (pe_and (pe_cmpR (r := (rIn K false)) op_in_seq (pv 9) (pe_op op_cat (pe_ix (r := rIxL K) ix_list (pv 5) (pv 7) (fun _ _ => rfl)) (pe_lst (pa_cons (pv 7) pa_nil))) (by rfl)) (pe_one (pe_cmpR (r := (rNeD K)) (op_neD hr.units) (pe_call G__law_defining (hr.mono (by decide)) (by rfl) m__law_defining F__law_defining.kp b__law_defining .nil pass0 (pa_cons (pv 1) (pa_cons (pv 5) (pa_cons (pv 9) (pa_cons (pv 10) pa_nil))))) (pe_lst pa_nil) (nomark _)))))
      (pss_one (ps_if (PW.pt (pw_and (pt_val (pv 3)) (pw_and (pt_val (pv 12)) (pw_and1 (pt_cmpR op_ne (pe_callB (id := "repr") (r := rReprA K) (call_reprA quiet hu) (by rfl) gRp (by decide +kernel) (pa_cons (pv 11) pa_nil)) (pe_callB (id := "repr") (r := rReprA K) (call_reprA quiet hu) (by rfl) gRp (by decide +kernel) (pa_cons (pe_call G__law_found (hr.mono (by decide)) (by rfl) m__law_found F__law_found.kp b__law_found .nil pass0 (pa_cons (pv 1) (pa_cons (pv 5) (pa_cons (pv 7) (pa_cons (pv 10) pa_nil))))) pa_nil)) (nomark _)))))) (pss_one (ps_ret pe_bl)) pss_nil))))))))))))
      (pss_one (ps_ret pe_bl)))))), ?_⟩
    have usl := hR.len
    have efl := allE_fl (ds := ds)
    -- the world, the elders, the laying
    refine ⟨_, rfl, fun x dx hx hdx ne => ?_⟩
    have sX := (same_new (o := .own x) hdx).trans (same_new (o := .ins C dx []) (by rw [upd_ne (Ne.symm ne)]; exact hx))
    have hRX : RwN r _ us ds := hR.keep (KeepX.of sX)
    refine ⟨x, dx, .ref r, rfl, upd_same, .inr ⟨r, us, ds, rfl, .inl (sX _ _ hr0), by omega, by omega, by omega, hRX.entries ok, .inr ⟨usl.symm, fun H1 O1 hw1 => ⟨rfl, ?_⟩⟩⟩⟩
    have s01 : Same H H1 := same_made hx hdx ne O1
    refine ⟨_, rfl, r, us, ds.map (·.1), rfl, s01 _ _ hr0, (hR.keep (KeepX.of s01)).rows, ok.valid, by rw [List.length_map]; omega, fun row hw => by have := ok.short row hw; rw [List.length_map]; have : row.length * ds.length ≤ 3 * 12 := Nat.mul_le_mul (by omega) h12; omega, fun H2 E es s2 nE hE neE hL => ?_⟩
    have hL : ListsAt H2 es (elsOf ds) := hL
    refine ⟨_, rfl, x, ds, rfl, hw1.mono s2, ok, d1, h12, fun Lw H3 s3 hwL => ?_⟩
    have s03 := (s01.trans s2).trans s3
    refine ⟨_, rfl, fun y dy hy hdy nely => ?_⟩
    have sY := (same_new (o := .own y) hdy).trans (same_new (o := .ins CL dy []) (by rw [upd_ne (Ne.symm nely)]; exact hy))
    refine ⟨y, dy, Lw, z, entD ds, zs, rfl, upd_same, hwL.mono sY, entD_ok ok, by rw [entD_len]; exact h12, .inl (sY _ _ (s03 _ _ hz)), by omega, gz, fun H4 O4 hq4 => ⟨rfl, ?_⟩⟩
    have s34 : Same H3 H4 := same_made hy hdy nely O4
    have s04 := s03.trans s34
    have hw4 := hw1.mono ((s2.trans s3).trans s34)
    have hE4 := (s3.trans s34) _ _ hE
    have hL4 := hL.sameN (s3.trans s34)
    have hr4 := s04 _ _ hr0
    have hR4 : RwN r H4 us ds := hR.keep (KeepX.of s04)
    have hz4 := s04 _ _ hz
    have hh4 := hh.same s04
    have zb : ∀ z ∈ zs, -1000 ≤ z ∧ z ≤ 1000 := fun z hz => by have := gz z hz; omega
    clear hwL hw1 hE hL sX sY O1 O4
    refine ⟨_, rfl, r, us, rfl, .inl (SqL.of hr4), us.length, rfl, by omega, by omega, ?_⟩
    refine for_range (n := us.length) (fun i σ H' => ∃ (x7 x8 x9 x10 x11 x12 : Option V), σ = [some (.ref p), some (.ref r), some (.ref z), some (.bl apart), some (.ref x), some (.ref E), some (.ref y), x7, x8, x9, x10, x11, x12] ∧ KI H4 H' ∧ HandAt H' p q) ⟨none, none, none, none, none, none, rfl, KI.of (Same.refl _), hh4⟩ ?_ ?_
    · rintro c σ H5 hi ⟨x7, x8, x9, x10, x11, x12, rfl, k5, h5⟩
      have hc : c < ds.length := by omega
      have ec : V.int ((0 : Int) + (c : Int)) = natV c := congrArg V.int (by omega)
      rw [ec]
      have hw5 := hw4.ki k5
      have hq5 := hq4.kiE k5
      have hE5 := k5 _ _ hE4 (nh_refs hL4.refs)
      have hL5 := hL4.ki k5
      have hr5 := k5 _ _ hr4 (nh_refs hR4.refs)
      have hR5 := hR4.ki k5
      have hz5 := k5 _ _ hz4 nh_intsE
      have smr := rowE_sm (zs := zs) ok h12 hc zl gz
      -- the row of the table
      refine ⟨_, rfl, _, rfl, _, rfl, x, y, ds, zs, c, rfl, hw5, ok, d1, h12, hq5, hc, zb, fun t1 H6 s6 hW6 => ⟨_, _, _, _, rfl, hW6.dp, smr, by decide, by decide, ?_⟩⟩
      refine ⟨_, rfl, _, rfl, _, rfl, _, rfl, r, E, z, us, es, ds, zs, c, rfl, s6 _ _ hr5, hR5.keep (KeepX.of s6), ok, h12, s6 _ _ hE5, hL5.sameN s6, s6 _ _ hz5, zl, hc, zb, fun t2 H7 s7 hW7 => ⟨_, _, _, _, rfl, hW7.dp, smr, by decide, by decide, rfl, _, rfl, iteF' ne_self'' ?_⟩⟩
      have s57 := s6.trans s7
      have hr7 := s57 _ _ hr5
      refine ⟨_, rfl, _, rfl, r, us, rfl, .inl (SqL.of hr7), p, q, _, rfl, by omega, by omega, h5.same s57, fun ov H8 z0 z1 h8 e8 => ?_⟩
      obtain ⟨o, rfl⟩ := Int.eq_ofNat_of_zero_le z0
      have ol : o < ds.length := by omega
      have k58 : KI H5 H8 := (KI.of s57).trans (KI.oth (Oth.take e8) (h5.same s57))
      have k48 := k5.trans k58
      have hw8 := hw4.ki k48
      have hq8 := hq4.kiE k48
      have hE8 := k48 _ _ hE4 (nh_refs hL4.refs)
      have hL8 := hL4.ki k48
      have hr8 := k48 _ _ hr4 (nh_refs hR4.refs)
      have hR8 := hR4.ki k48
      have hz8 := k48 _ _ hz4 nh_intsE
      obtain ⟨tc, c1, c2, c3⟩ : ∃ te, es[c]? = some (.ref te) ∧ H8 te = some (.lst ((elR ds c).map natV)) ∧ (elR ds c).length ≤ 12 := by
        obtain ⟨el, hel⟩ : ∃ el, (elsOf ds)[c]? = some el := ⟨_, List.getElem?_eq_getElem (by rw [elsOf_len]; exact hc)⟩
        have eel : elR ds c = el := by unfold elR; rw [List.getD_eq_getElem?_getD, hel]; rfl
        obtain ⟨te, h1, h2⟩ := hL8.get hel
        rw [← eel] at h2
        have := nodup_lenE (m := List.range ds.length) (up_nodupE (elR_up hc)) fun y hy => List.mem_range.mpr (Nat.lt_trans (elR_lt hy) hc)
        rw [List.length_range] at this
        exact ⟨te, h1, h2, by omega⟩
      -- the views
      refine ⟨_, rfl, _, rfl, E, es, (c : Int), _, rfl, rfl, SqL.of hE8, atI_nat c1, _, rfl, _, rfl, (by show 2 ≤ sizeLine; decide), fun L hLn => ?_⟩
      have sL := same_new (o := .lst [natV c, V.int ((o : Nat) : Int)]) hLn
      refine ⟨tc, L, _, _, rfl, rfl, sL _ _ c2, upd_same, (by rw [List.length_map]; show _ + 2 ≤ 2 ^ 24; omega), fun N hN => ?_⟩
      have el2 : (elR ds c).map natV ++ [natV c, V.int ((o : Nat) : Int)] = (elR ds c ++ [c, o]).map natV := by rw [List.map_append]; rfl
      rw [el2]
      have s9 := sL.trans (same_new (o := .lst ((elR ds c ++ [c, o]).map natV)) hN)
      have N9 := upd_same (H := upd H8 L (.lst [natV c, V.int ((o : Nat) : Int)])) (a := N) (o := .lst ((elR ds c ++ [c, o]).map natV))
      generalize upd (upd H8 L (.lst [natV c, V.int ((o : Nat) : Int)])) N (.lst ((elR ds c ++ [c, o]).map natV)) = H9 at s9 N9 ⊢
      have vlt : ∀ v ∈ elR ds c ++ [c, o], v < ds.length := fun v hv => by
        rcases List.mem_append.mp hv with q | q
        · have := elR_lt q; omega
        · rcases List.mem_cons.mp q with e | q
          · omega
          · rw [List.mem_singleton.mp q]; exact ol
      refine ⟨N, rfl, ⟨_, SqL.of N9⟩, ?_⟩
      refine for_list (K := K) (a := N) (xs := (elR ds c ++ [c, o]).map natV) (fun i σ H' => ∃ (x9 x10 x11 x12 : Option V), σ = [some (.ref p), some (.ref r), some (.ref z), some (.bl apart), some (.ref x), some (.ref E), some (.ref y), some (natV c), some (natV o), x9, x10, x11, x12] ∧ Same H9 H') ⟨_, _, _, _, rfl, Same.refl _⟩ (fun i σ H' _ ⟨_, _, _, _, _, s'⟩ => SqL.of (s' _ _ N9)) ?_ ?_
      · rintro i v σ H10 hv ⟨x9, x10, x11, x12, rfl, s10⟩
        rw [List.getElem?_map] at hv
        obtain ⟨view, hview, rfl⟩ := Option.map_eq_some_iff.mp hv
        have vl := vlt view (List.mem_of_getElem? hview)
        refine ⟨6, rfl, by decide, by decide, ?_⟩
        refine for_range (n := 6) (fun i σ H' => ∃ (x10 x11 x12 : Option V), σ = [some (.ref p), some (.ref r), some (.ref z), some (.bl apart), some (.ref x), some (.ref E), some (.ref y), some (natV c), some (natV o), some (natV view), x10, x11, x12] ∧ Same H9 H') ⟨_, _, _, rfl, s10⟩ ?_ ?_
        · rintro m σ H11 hm ⟨x10, x11, x12, rfl, s11⟩
          have em : V.int ((0 : Int) + (m : Int)) = natV m := congrArg V.int (by omega)
          rw [em]
          have m6 : m < 6 := hm
          have s811 := s9.trans s11
          refine ⟨_, rfl, _, rfl, _, rfl, _, rfl, _, rfl, _, rfl, r, E, z, us, es, ds, zs, view, c, m, rfl, s811 _ _ hr8, hR8.keep (KeepX.of s811), ok, h12, s811 _ _ hE8, hL8.sameN s811, s811 _ _ hz8, zl, vl, hc, m6, fun dv H12 s12 hdv => ?_⟩
          have s812 := s811.trans s12
          have smo := (outC_small (zs := zs) ok h12 vl hc m6).sm
          refine ⟨_, rfl, _, rfl, _, rfl, _, rfl, _, rfl, x, y, ds, zs, view, c, m, rfl, hw8.mono s812, ok, h12, hq8.mono s812, vl, hc, m6, fun cv H13 s13 hcv => ⟨_, _, _, _, rfl, hcv.dp, smo, by decide, by decide, ?_⟩⟩
          refine ⟨_, rfl, _, _, _, _, rfl, (hdv.same s13).dp, smo, by decide, by decide, rfl, _, rfl, iteF' ne_self'' ?_⟩
          have s813 := s812.trans s13
          have s913 := s11.trans (s12.trans s13)
          refine ⟨_, rfl, _, rfl, _, rfl, E, es, (c : Int), _, rfl, rfl, SqL.of (s813 _ _ hE8), atI_nat c1, _, rfl, kin_q (s813 _ _ c2) c3 fun H14 s14 => ⟨_, rfl, ?_⟩⟩
          have s814 := s813.trans s14
          cases hk : (elR ds c ++ [c]).contains view with
          | false =>
            refine iteF' rfl ⟨_, rfl, _, rfl, ?_⟩
            cases apart with
            | false => exact iteF' rfl (iteF' rfl ⟨_, _, _, rfl, s913.trans s14⟩)
            | true => exact iteT' rfl ⟨_, rfl, _, rfl, iteF' rfl (iteF' rfl ⟨_, _, _, rfl, s913.trans s14⟩)⟩
          | true =>
            have hk : kinI ds c view = true := hk
            refine iteT' rfl ⟨_, rfl, _, rfl, _, rfl, _, rfl, r, E, us, es, ds, view, m, rfl, s814 _ _ hr8, hR8.keep (KeepX.of s814), ok, h12, vl, s814 _ _ hE8, hL8.sameN s814, fun D H15 s15 hD => ⟨(by show 0 ≤ sizeLine; decide), fun L2 hL2 => ?_⟩⟩
            have sL2 := same_new (o := .lst []) hL2
            refine ⟨.list ((defL ds view m).map dN), .list [], .lst (SqL.of (sL2 _ _ hD)) (dp_nats _), .lst (SqL.of (xs := []) upd_same) .nil, (LayD.lst (n := 0) fun d hd => by obtain ⟨x, _, rfl⟩ := List.mem_map.mp hd; exact .int _).shaped (by decide), (LayD.lst (n := 0) fun d hd => by cases hd).shaped (by decide), ?_⟩
            rw [eqv_nilE]
            have s816 := (s814.trans s15).trans sL2
            have s916 := (s913.trans s14).trans (s15.trans sL2)
            have s1216 := ((s13.trans s14).trans s15).trans sL2
            generalize upd H15 L2 (.lst []) = H16 at sL2 s816 s916 s1216 ⊢
            refine ⟨_, rfl, _, rfl, ?_⟩
            cases apart with
            | false => exact iteF' rfl (iteF' rfl ⟨_, _, _, rfl, s916⟩)
            | true =>
              refine iteT' rfl ⟨_, rfl, _, rfl, ?_⟩
              cases hd : defL ds view m with
              | nil => exact iteF' rfl (iteF' rfl ⟨_, _, _, rfl, s916⟩)
              | cons a0 ar =>
                have dne : defL ds view m ≠ [] := by rw [hd]; exact fun z => by cases z
                have eo := apart_out ok zl (hap rfl) vl hc hk dne
                have ane : ansL ds c m ≠ [] := by
                  refine tops_ne (List.ne_nil_of_mem (a := a0) ?_)
                  have am : a0 ∈ defL ds view m := by rw [hd]; exact List.mem_cons_self
                  obtain ⟨a1, a2⟩ := List.mem_filter.mp am
                  rw [kins_els vl] at a1
                  refine List.mem_filter.mpr ⟨?_, a2⟩
                  rw [kins_els hc]
                  have kk : view ∈ elR ds c ++ [c] := List.contains_iff_mem.mp hk
                  rcases List.mem_append.mp kk with q | q
                  · refine List.mem_append_left _ ?_
                    rcases List.mem_append.mp a1 with w | w
                    · exact elders_trans ok.valid c q w
                    · rw [List.mem_singleton.mp w]; exact q
                  · rw [List.mem_singleton.mp q] at a1
                    exact a1
                refine iteT' rfl ⟨_, rfl, _, _, _, _, rfl, (hdv.same s1216).dp, smo, by decide, by decide, ?_⟩
                refine ⟨_, rfl, _, rfl, _, rfl, _, rfl, r, E, us, es, ds, c, m, rfl, s816 _ _ hr8, hR8.keep (KeepX.of s816), ok, h12, hc, s816 _ _ hE8, hL8.sameN s816, m6, ane, fun fv H17 s17 hfv => ?_⟩
                rw [← eo] at hfv
                exact ⟨_, _, _, _, rfl, hfv.dp, smo, by decide, by decide, rfl, _, rfl, iteF' ne_self'' ⟨_, _, _, rfl, s916.trans s17⟩⟩
        · rintro σ H11 ⟨x10, x11, x12, rfl, s11⟩
          exact ⟨_, _, _, _, rfl, s11⟩
      · rintro σ H10 ⟨x9, x10, x11, x12, rfl, s10⟩
        exact ⟨_, _, _, _, _, _, rfl, k48.trans (KI.of (s9.trans s10)), (h8.same s9).same s10⟩
    · rintro σ H5 ⟨x7, x8, x9, x10, x11, x12, rfl, k5, h5⟩
      exact k H5 ((KI.of s04).trans k5) h5
end
end K57

set_option maxRecDepth 100000
set_option maxHeartbeats 8000000
namespace K57
open PySem PySem.Spec PyProof.Rows L2 Kw
def PlV (v : V) : Prop := ∃ x : Int, v = .int x ∧ x ≠ 0 ∧ -99 ≤ x ∧ x ≤ 99
theorem rel_plE {p D : Addr} : RelP p D (fun (_ : Hp) (v : V) (_ : Unit) => PlV v) := ⟨fun _ h => h, fun _ h => h⟩
theorem paired_plE : ∀ {vs : List V} {cs : List Unit}, Paired (fun (v : V) (_ : Unit) => PlV v) vs cs → ∃ zs : List Int, vs = zs.map V.int ∧ zs.length = cs.length ∧ GoodPl zs
  | [], [], _ => ⟨[], rfl, rfl, fun x hx => by cases hx⟩
  | _ :: _, _ :: _, .cons ⟨x, e, h⟩ r => by
    obtain ⟨zs, e2, l2, h2⟩ := paired_plE r
    refine ⟨x :: zs, by rw [e, e2]; rfl, by rw [List.length_cons, List.length_cons, l2], fun y hy => ?_⟩
    rcases List.mem_cons.mp hy with rfl | hy
    · exact h
    · exact h2 y hy
theorem three_pick {z : Int} (z0 : 0 ≤ z) (z1 : z < 3) : ∃ v : V, atI [V.int 1, .int 2, .int (-1)] z = some v ∧ PlV v := by
  obtain ⟨n, rfl⟩ := Int.eq_ofNat_of_zero_le z0
  have h : n < 3 := by omega
  match n, h with
  | 0, _ => exact ⟨_, rfl, 1, rfl, by decide, by decide, by decide⟩
  | 1, _ => exact ⟨_, rfl, 2, rfl, by decide, by decide, by decide⟩
  | 2, _ => exact ⟨_, rfl, -1, rfl, by decide, by decide, by decide⟩
section
variable {P : Program} {w : World} {K : PySem.W.Frag} {mg : Str → Option Value} {base : Heap} {f C CL Cn CHo CS Cv Ct Cx Cb : Addr} {fd : FuncData}
theorem sc_law : FnScope ["_law_script", "_law_hand_here", "_law_rows", "_law_few_here", "_law_entry"] ["_law_script"] (defScope (top 68)) := ⟨rfl, rfl, rfl, by decide +kernel, rfl, by decide +kernel, by decide +kernel⟩
theorem law_at {f__law_classes f__law_entries f__law_few f__law_hand f__law_laying_right f__law_table_places f__law_take : Addr} {fd__law_classes fd__law_entries fd__law_few fd__law_hand fd__law_laying_right fd__law_table_places fd__law_take : FuncData} (F : FnP K "law" 68 f fd)
    (B : Fr mg)
    (F__law_hand : FnP K "_law_hand" 48 f__law_hand fd__law_hand)
    (m__law_hand : mg "_law_hand" = some (.ref f__law_hand))
    (G__law_hand : FnOk P w K mg base CX0 1 f__law_hand fd__law_hand ["_law_script"] (spHand K))
    (F__law_few : FnP K "_law_few" 61 f__law_few fd__law_few)
    (m__law_few : mg "_law_few" = some (.ref f__law_few))
    (G__law_few : FnOk P w K mg base CX0 3 f__law_few fd__law_few ["_law_hand_here", "_law_rows"] spFew)
    (F__law_classes : FnP K "_law_classes" 54 f__law_classes fd__law_classes)
    (m__law_classes : mg "_law_classes" = some (.ref f__law_classes))
    (G__law_classes : FnOk P w K mg base CX0 5 f__law_classes fd__law_classes ["_law_hand_here", "_law_low", "_law_high", "_law_most", "_law_wanted"] spClassesM)
    (F__law_laying_right : FnP K "_law_laying_right" 67 f__law_laying_right fd__law_laying_right)
    (m__law_laying_right : mg "_law_laying_right" = some (.ref f__law_laying_right))
    (G__law_laying_right : FnOkG P w K mg base CX0 13 f__law_laying_right fd__law_laying_right ["_law_hand_here", "_law_rows", "_law_places", "_law_apart"] (spLayR C CL))
    (F__law_table_places : FnP K "_law_table_places" 62 f__law_table_places fd__law_table_places)
    (m__law_table_places : mg "_law_table_places" = some (.ref f__law_table_places))
    (G__law_table_places : FnOk P w K mg base CX0 3 f__law_table_places fd__law_table_places ["_law_hand_here", "_law_rows"] spLTabP)
    (F__law_entries : FnP K "_law_entries" 60 f__law_entries fd__law_entries)
    (m__law_entries : mg "_law_entries" = some (.ref f__law_entries))
    (G__law_entries : FnOk P w K mg base CX0 2 f__law_entries fd__law_entries ["_law_rows"] spLEnts)
    (F__law_take : FnP K "_law_take" 50 f__law_take fd__law_take)
    (m__law_take : mg "_law_take" = some (.ref f__law_take))
    (G__law_take : FnOk P w K mg base CX0 2 f__law_take fd__law_take ["_law_hand_here", "_law_many"] spTake)
    {H : Hp} {s : Shared} {a : Addr} {ns : List Int} (env0 : Env0 P w K mg base callerA [] s H) (bind : BindsTo s fd ⟨[.ref a], []⟩ ((["_law_script"] : List Str).zip [Value.ref a])) (hns : ns.length ≤ 63) (hA : SqL K H a (ns.map V.int)) :
    codeAny (model P w) callerA (.call (.ref f) ⟨[.ref a], []⟩) (CR CX0 [] P w H s (fun v _ => v = .bl true) (fun _ _ _ => False)) s := by
  have b__law_hand : L2.Binds K fd__law_hand ["_law_script"] [] := F__law_hand.bindsN fun _ _ _ _ _ _ us hl => match us, hl with | [_], _ => rfl
  have b__law_few : L2.Binds K fd__law_few ["_law_hand_here", "_law_rows"] [] := F__law_few.bindsN fun _ _ _ _ _ _ us hl => match us, hl with | [_, _], _ => rfl
  have b__law_classes : L2.Binds K fd__law_classes ["_law_hand_here", "_law_low", "_law_high", "_law_most", "_law_wanted"] [] := F__law_classes.bindsN fun _ _ _ _ _ _ us hl => match us, hl with | [_, _, _, _, _], _ => rfl
  have b__law_laying_right : L2.Binds K fd__law_laying_right ["_law_hand_here", "_law_rows", "_law_places", "_law_apart"] [] := F__law_laying_right.bindsN fun _ _ _ _ _ _ us hl => match us, hl with | [_, _, _, _], _ => rfl
  have b__law_table_places : L2.Binds K fd__law_table_places ["_law_hand_here", "_law_rows"] [] := F__law_table_places.bindsN fun _ _ _ _ _ _ us hl => match us, hl with | [_, _], _ => rfl
  have b__law_entries : L2.Binds K fd__law_entries ["_law_rows"] [] := F__law_entries.bindsN fun _ _ _ _ _ _ us hl => match us, hl with | [_], _ => rfl
  have b__law_take : L2.Binds K fd__law_take ["_law_hand_here", "_law_many"] [] := F__law_take.bindsN fun _ _ _ _ _ _ us hl => match us, hl with | [_, _], _ => rfl
  have room : Room 15 callerA := ⟨rfl, by decide, by decide⟩
  refine def_at (CX := CX0) (k := 14) (vs := [.ref a]) F sc_law rfl room env0 bind (.cons rfl .nil) fun cdv => ?_
  have hr := room.deeper (envOfC ("law" : Str) (defScope (top 68)) s.heap.objs.size f cdv)
  refine ⟨_, PSs.nox (pss_cons (ps_set (i := 1) sc_law.nd rfl (Or.inr rfl) (pe_call G__law_hand (hr.mono (by decide)) (by rfl) m__law_hand F__law_hand.kp b__law_hand .nil pass0 (pa_cons (pv 0) pa_nil)))
      (pss_cons (ps_set (i := 2) sc_law.nd rfl (Or.inl rfl) (pe_call G__law_few (hr.mono (by decide)) (by rfl) m__law_few F__law_few.kp b__law_few .nil pass0 (pa_cons (pv 1) (pa_cons (pe_call G__law_classes (hr.mono (by decide)) (by rfl) m__law_classes F__law_classes.kp b__law_classes .nil pass0 (pa_cons (pv 1) (pa_cons pe_int (pa_cons pe_int (pa_cons pe_int (pa_cons pe_bl pa_nil)))))) pa_nil))))
      (pss_cons (ps_if (pt_not (pt_val (pe_callG G__law_laying_right rfl (hr.mono (by decide)) (by rfl) m__law_laying_right F__law_laying_right.kp b__law_laying_right pass0 (pa_cons (pv 1) (pa_cons (pv 2) (pa_cons (pe_call G__law_table_places (hr.mono (by decide)) (by rfl) m__law_table_places F__law_table_places.kp b__law_table_places .nil pass0 (pa_cons (pv 1) (pa_cons (pv 2) pa_nil))) (pa_cons pe_bl pa_nil))))))) (pss_one (ps_ret pe_bl)) pss_nil)
      (pss_cons (ps_setLc (i := 3) (own := [("_law_entry", 4)]) (g := (gName 4)) (tt := tYes) (te := (tOp (rIxT K) (tTup (tCons (tC (.int 1)) (tCons (tC (.int 2)) (tCons (tUn (rU fun i => V.int (-i)) (tC (.int 1))) tNil)))) (tCall spTake [] E0 (tCons (tVar 1) (tCons (tC (.int 3)) tNil))))) rfl sc_law.nd rfl rfl (sw_true rfl rfl rfl (by decide +kernel)) (pi_list (pe_call G__law_entries (hr.mono (by decide)) (by rfl) m__law_entries F__law_entries.kp b__law_entries .nil pass0 (pa_cons (pv 2) pa_nil))) (blkOk_by (N := ["_law_script", "_law_hand_here", "_law_rows", "_law_few_here", "_law_entry"]) (sc := defScope (top 68)) (by decide +kernel)) (fun _ _ _ _ _ => (pg_name (i := 4) sc_law.nd rfl (Or.inl rfl))) (fun _ _ _ _ _ => pts_nil) (fun _ _ _ _ _ => ?x0))
      (pss_one (ps_ret (pe_callG G__law_laying_right rfl (hr.mono (by decide)) (by rfl) m__law_laying_right F__law_laying_right.kp b__law_laying_right pass0 (pa_cons (pv 1) (pa_cons (pv 2) (pa_cons (pv 3) (pa_cons pe_bl pa_nil))))))))))), ?_⟩
  case x0 => exact (pe_ix (r := rIxT K) ix_tup (pe_tup (pa_cons pe_int (pa_cons pe_int (pa_cons (pe_un un_neg pe_int) pa_nil)))) (pe_call G__law_take (hr.mono (by decide)) (by rfl) m__law_take F__law_take.kp b__law_take .nil pass0 (pa_cons (pv 1) (pa_cons pe_int pa_nil))) (fun _ _ => rfl))
  refine ⟨_, rfl, a, ns, rfl, hA, hns, fun p q H1 s1 hp hq hh => ?_⟩
  refine ⟨_, rfl, _, rfl, p, q, 1, 6, 4, true, rfl, by decide, by decide, by decide, hh, fun l H2 us ds O2 h2 hln hl hR n1 n6 ok _ => ?_⟩
  refine ⟨p, q, l, us, ds, rfl, h2, (hh.ne hln).1, hl, hR, ok, by omega, fun r H3 us2 ds2 O3 h3 rp hr hR3 dl ok2 => ?_⟩
  have d1 : 1 ≤ ds2.length := by omega
  have d12 : ds2.length ≤ 12 := by omega
  refine ⟨_, rfl, _, rfl, _, rfl, _, rfl, p, q, r, us2, ds2, rfl, h3, hr, hR3, ok2, d12, fun z zs H4 O4 h4 hz zl gz ap => ?_⟩
  have k34 := KI.oth O4 h3
  have hr4 := k34 _ _ hr (nh_refs hR3.refs)
  have hR4 := hR3.ki k34
  refine ⟨p, q, r, z, us2, ds2, zs, true, rfl, h4, hr4, hR4, ok2, d1, d12, hz, zl, gz, fun _ => ap, fun H5 k45 h5 => ⟨_, rfl, iteF' rfl ?_⟩⟩
  have hr5 := k45 _ _ hr4 (nh_refs hR4.refs)
  have hR5 := hR4.ki k45
  refine ⟨_, rfl, r, us2, ds2, rfl, hr5, hR5, ok2, d12, fun t eus H6 s6 ht hP => ⟨t, rfl, ⟨_, SqL.of ht⟩, fun D hD => ?_⟩⟩
  have h6 := h5.same s6
  have eul := hP.len
  have al := allE_len ok2
  have tp : t ≠ p := h6.ne_of ht (nh_refs (pairs_refsE hP))
  refine lc_listH (p := p) (q := q) rel_plE (List.replicate eus.length (some ())) h6 hD (by rw [List.length_replicate]) (by omega) (fun H' O => SqL.of (O _ _ tp ht)) (fun i x c H7 hi hc O7 N M hh7 _ _ hN _ => ?_) (fun H7 vs O7 h7 D7 P7 => ?_)
  · rw [List.getElem?_replicate, if_pos (List.getElem?_eq_some_iff.mp hi).1] at hc
    refine ⟨rfl, _, rfl, (by show 3 ≤ sizeLine; decide), fun T hT => ?_⟩
    have Tp : T ≠ p := (hh7.ne hT).1
    have sT := same_new (o := .tup [V.int 1, .int 2, .int (-1)]) hT
    have T8 := upd_same (H := H7) (a := T) (o := .tup [V.int 1, .int 2, .int (-1)])
    refine ⟨_, rfl, p, q, 3, rfl, by decide, by decide, hh7.same sT, fun zz H9 z0 z1 h9 e9 => ?_⟩
    obtain ⟨v, hv, pv⟩ := three_pick z0 z1
    refine ⟨T, _, zz, _, rfl, rfl, SqT.of ((e9 T Tp).trans T8), hv, ?_⟩
    exact hN () (Option.some.inj hc).symm _ _ ((Oth.of sT).trans (Oth.take e9)) h9 pv
  · have P7 := P7
    obtain ⟨zs2, rfl, zl2, gz2⟩ := paired_plE P7
    have zl2 : zs2.length = eus.length := by
      rw [zl2]
      simp [List.filterMap_replicate]
    have k67 := KI.oth O7 h6
    have hR6 : RwN r H6 us2 ds2 := hR5.keep (KeepX.of s6)
    refine ⟨_, rfl, _, rfl, _, rfl, p, q, r, D, us2, ds2, zs2, false, rfl, h7, k67 _ _ (s6 _ _ hr5) (nh_refs hR6.refs), hR6.ki k67, ok2, d1, d12, D7, by omega, gz2, (fun z => by cases z), fun H8 _ _ => rfl⟩
end
end K57

set_option maxRecDepth 100000
set_option maxHeartbeats 8000000
namespace Kw
open PySem PySem.Spec PyProof.Rows L2
end Kw

set_option maxRecDepth 100000
set_option maxHeartbeats 16000000
namespace K57
open PySem PySem.Spec PyProof.Rows L2 He Kx Kw
theorem err_x {K : PySem.W.Frag} {mg : Str → Option Value} {Kin : Addr} {d : ErrD} (h : ErrOk K Kin d) (m : mg d.name = some (.ref (ga K d.name))) : ErrX K mg d.name d.ps (ga K d.name) (ma K (ga K d.name) "__init__") := ⟨h.oex, h.ini, h.inT, h.no, m⟩
theorem facts {P : Program} {w : World} {K : PySem.W.Frag} {h : Heap} {mg : Str → Option Value} {f : Addr} (X : K.In h) (G : h.Ns mainGlobals mg) (hfa : mg ("law" : Str) = some (.ref f)) (c : SaysP fa fn pr ex K) :
    ∀ (base : Heap) (H : Hp) (s : Shared) (a : Addr) (ns : List Int), K.In base → base.Ns mainGlobals mg → ns.length ≤ 63 → Env0 P w K mg base callerA [] s H → SqL K H a (ns.map V.int) → codeAny (model P w) callerA (.call (.ref f) ⟨[.ref a], []⟩) (CR CX0 [] P w H s (fun v _ => v = .bl true) (fun _ _ _ => False)) s := by
  have e := hfa.symm.trans (glo_ok X G (c.d.fact 67 (f := .glo "law") rfl))
  cases e
  obtain ⟨x1, x2⟩ := ba c.x
  have eo : ∀ d ∈ errs, ErrOk K (ga K "KinError") d := fun d hd => ErrD.ok_ok (List.all_eq_true.mp x1 d hd)
  have B : Fr mg := ⟨(free_ok X G (c.d.fact 3 (f := .free "isinstance") rfl)), (free_ok X G (c.d.fact 9 (f := .free "list") rfl)), (free_ok X G (c.d.fact 8 (f := .free "tuple") rfl)), (free_ok X G (c.d.fact 10 (f := .free "bool") rfl)), (free_ok X G (c.d.fact 1 (f := .free "int") rfl)), (free_ok X G (c.d.fact 0 (f := .free "len") rfl)), (free_ok X G (c.d.fact 5 (f := .free "set") rfl)), (free_ok X G (c.d.fact 4 (f := .free "range") rfl)), (free_ok X G (c.d.fact 6 (f := .free "sorted") rfl)), (free_ok X G (c.d.fact 7 (f := .free "enumerate") rfl))⟩
  have Z : Cst mg := ⟨(int_ok X G (c.d.fact 20 (f := .int "MOST_FIELDS" 3) rfl)), (int_ok X G (c.d.fact 21 (f := .int "MOST_METHODS" 3) rfl)), (int_ok X G (c.d.fact 22 (f := .int "METHOD_NAMES" 6) rfl)), (int_ok X G (c.d.fact 19 (f := .int "MOST_CLASSES" 12) rfl))⟩
  obtain ⟨xa_Laying, xr_Laying⟩ := ba x2
  obtain ⟨xb_Laying, xd_Laying⟩ := ba xa_Laying
  obtain ⟨xa_World, xr_World⟩ := ba xr_Laying
  obtain ⟨xb_World, xd_World⟩ := ba xa_World
  obtain ⟨x7, x8⟩ := ba xr_World
  have I_World : IsiC K (ga K "World") := ⟨eqO_ok xb_World, of_decide_eq_true x7, of_decide_eq_true x8, of_decide_eq_true xd_World⟩
  have I_Laying : IsiC K (ga K "Laying") := ⟨eqO_ok xb_Laying, of_decide_eq_true x7, of_decide_eq_true x8, of_decide_eq_true xd_Laying⟩
  obtain ⟨fd_law, F_law⟩ := c.d.def_ 42 (d := dF 68 "law" []) rfl
  obtain ⟨fd__law_hand, F__law_hand⟩ := c.d.def_ 22 (d := dF 48 "_law_hand" []) rfl
  obtain ⟨fd__law_few, F__law_few⟩ := c.d.def_ 35 (d := dF 61 "_law_few" []) rfl
  obtain ⟨fd__law_take, F__law_take⟩ := c.d.def_ 24 (d := dF 50 "_law_take" []) rfl
  obtain ⟨fd__law_mixed, F__law_mixed⟩ := c.d.def_ 23 (d := dF 49 "_law_mixed" []) rfl
  obtain ⟨fd__law_classes, F__law_classes⟩ := c.d.def_ 28 (d := dF 54 "_law_classes" []) rfl
  obtain ⟨fd__law_bases, F__law_bases⟩ := c.d.def_ 25 (d := dF 51 "_law_bases" []) rfl
  obtain ⟨fd__law_shape, F__law_shape⟩ := c.d.def_ 27 (d := dF 53 "_law_shape" []) rfl
  obtain ⟨fd__law_methods, F__law_methods⟩ := c.d.def_ 26 (d := dF 52 "_law_methods" []) rfl
  obtain ⟨fd__law_laying_right, F__law_laying_right⟩ := c.d.def_ 41 (d := dF 67 "_law_laying_right" []) rfl
  obtain ⟨fd_World___init__, F_World___init__⟩ := c.d.def_ 51 (d := dM 24 0 "World" "__init__" "World.__init__") rfl
  have TC_World : ClsWorld K mg (ga K "World") := ⟨cls_ok (c.d.fact 89 (f := .cls "World") rfl), fun f hf => by
    rcases List.mem_cons.mp hf with rfl | hf
    · exact noat_ok (c.d.fact 91 (f := .noat "World" "classes") rfl)
    rcases List.mem_cons.mp hf with rfl | hf
    · exact noat_ok (c.d.fact 92 (f := .noat "World" "bases") rfl)
    rcases List.mem_cons.mp hf with rfl | hf
    · exact noat_ok (c.d.fact 93 (f := .noat "World" "owns") rfl)
    rcases List.mem_cons.mp hf with rfl | hf
    · exact noat_ok (c.d.fact 94 (f := .noat "World" "methods") rfl)
    rcases List.mem_cons.mp hf with rfl | hf
    · exact noat_ok (c.d.fact 95 (f := .noat "World" "elders") rfl)
    rcases List.mem_cons.mp hf with rfl | hf
    · exact noat_ok (c.d.fact 96 (f := .noat "World" "heirs") rfl)
    cases hf⟩
  obtain ⟨fd_is_sequence, F_is_sequence⟩ := c.d.def_ 0 (d := dF 12 "is_sequence" []) rfl
  obtain ⟨fd_is_whole, F_is_whole⟩ := c.d.def_ 1 (d := dF 13 "is_whole" [.non, .non]) rfl
  obtain ⟨fd_is_unlike_row, F_is_unlike_row⟩ := c.d.def_ 2 (d := dF 14 "is_unlike_row" []) rfl
  obtain ⟨fd_entry_fault, F_entry_fault⟩ := c.d.def_ 6 (d := dF 25 "entry_fault" []) rfl
  obtain ⟨fd_elder_rows, F_elder_rows⟩ := c.d.def_ 7 (d := dF 26 "elder_rows" []) rfl
  obtain ⟨fd_heir_rows, F_heir_rows⟩ := c.d.def_ 8 (d := dF 27 "heir_rows" []) rfl
  obtain ⟨fd_BadWorld___init__, F_BadWorld___init__⟩ := c.d.def_ 43 (d := dM 3 0 "BadWorld" "__init__" "BadWorld.__init__") rfl
  have E_BadWorld := eo ⟨"BadWorld", ["index", "what"]⟩ (List.mem_of_getElem? (i := 0) rfl)
  have T_BadWorld : ErrX K mg "BadWorld" ["index", "what"] (ga K "BadWorld") (ma K (ga K "BadWorld") "__init__") := err_x E_BadWorld (glo_ok X G (c.d.fact 69 (f := .glo "BadWorld") rfl))
  obtain ⟨fd__law_elders, F__law_elders⟩ := c.d.def_ 29 (d := dF 55 "_law_elders" []) rfl
  obtain ⟨fd_Laying___init__, F_Laying___init__⟩ := c.d.def_ 55 (d := dM 36 0 "Laying" "__init__" "Laying.__init__") rfl
  obtain ⟨fd_World_all_fields, F_World_all_fields⟩ := c.get 0 (d := dM 24 1 "World" "all_fields" "World.all_fields") rfl
  have TF_Laying : ClsF K (ga K "Laying") ["fields", "places"] := ⟨cls_ok (c.d.fact 101 (f := .cls "Laying") rfl), fun f hf => by
    rcases List.mem_cons.mp hf with rfl | hf
    · exact noat_ok (c.d.fact 103 (f := .noat "Laying" "fields") rfl)
    rcases List.mem_cons.mp hf with rfl | hf
    · exact noat_ok (c.d.fact 104 (f := .noat "Laying" "places") rfl)
    cases hf⟩
  obtain ⟨fd_entry_world, F_entry_world⟩ := c.d.def_ 18 (d := dF 43 "entry_world" []) rfl
  obtain ⟨fd_all_entries, F_all_entries⟩ := c.d.def_ 16 (d := dF 41 "all_entries" []) rfl
  obtain ⟨fd_defining_of, F_defining_of⟩ := c.d.def_ 10 (d := dF 30 "defining_of" []) rfl
  obtain ⟨fd_check_class, F_check_class⟩ := c.d.def_ 4 (d := dF 17 "check_class" []) rfl
  obtain ⟨fd_NoClass___init__, F_NoClass___init__⟩ := c.d.def_ 44 (d := dM 4 0 "NoClass" "__init__" "NoClass.__init__") rfl
  have E_NoClass := eo ⟨"NoClass", ["cls"]⟩ (List.mem_of_getElem? (i := 1) rfl)
  have T_NoClass : ErrX K mg "NoClass" ["cls"] (ga K "NoClass") (ma K (ga K "NoClass") "__init__") := err_x E_NoClass (glo_ok X G (c.d.fact 71 (f := .glo "NoClass") rfl))
  obtain ⟨fd_check_name, F_check_name⟩ := c.d.def_ 9 (d := dF 29 "check_name" []) rfl
  obtain ⟨fd_table_row, F_table_row⟩ := c.d.def_ 20 (d := dF 45 "table_row" []) rfl
  obtain ⟨fd_cells_of, F_cells_of⟩ := c.d.def_ 15 (d := dF 38 "cells_of" []) rfl
  obtain ⟨fd_extent_of, F_extent_of⟩ := c.d.def_ 14 (d := dF 37 "extent_of" []) rfl
  obtain ⟨fd_fields_of, F_fields_of⟩ := c.d.def_ 5 (d := dF 18 "fields_of" []) rfl
  obtain ⟨fd_Laying_place_of, F_Laying_place_of⟩ := c.d.def_ 56 (d := dM 36 1 "Laying" "place_of" "Laying.place_of") rfl
  obtain ⟨fd_is_whole_couple, F_is_whole_couple⟩ := c.d.def_ 3 (d := dF 15 "is_whole_couple" []) rfl
  obtain ⟨fd_answers_of, F_answers_of⟩ := c.d.def_ 11 (d := dF 31 "answers_of" []) rfl
  obtain ⟨fd_last_heirs, F_last_heirs⟩ := c.d.def_ 12 (d := dF 32 "last_heirs" []) rfl
  obtain ⟨fd__law_row_due, F__law_row_due⟩ := c.d.def_ 40 (d := dF 66 "_law_row_due" []) rfl
  obtain ⟨fd__law_entries, F__law_entries⟩ := c.d.def_ 34 (d := dF 60 "_law_entries" []) rfl
  obtain ⟨fd__law_brought, F__law_brought⟩ := c.d.def_ 33 (d := dF 59 "_law_brought" []) rfl
  obtain ⟨fd__law_answers, F__law_answers⟩ := c.d.def_ 32 (d := dF 58 "_law_answers" []) rfl
  obtain ⟨fd__law_tops, F__law_tops⟩ := c.d.def_ 30 (d := dF 56 "_law_tops" []) rfl
  obtain ⟨fd__law_defining, F__law_defining⟩ := c.d.def_ 31 (d := dF 57 "_law_defining" []) rfl
  obtain ⟨fd__law_call_due, F__law_call_due⟩ := c.d.def_ 38 (d := dF 64 "_law_call_due" []) rfl
  obtain ⟨fd__law_found, F__law_found⟩ := c.d.def_ 39 (d := dF 65 "_law_found" []) rfl
  obtain ⟨fd__law_call, F__law_call⟩ := c.d.def_ 37 (d := dF 63 "_law_call" []) rfl
  obtain ⟨fd_call_by_table, F_call_by_table⟩ := c.d.def_ 21 (d := dF 46 "call_by_table" []) rfl
  obtain ⟨fd_NotView___init__, F_NotView___init__⟩ := c.d.def_ 50 (d := dM 10 0 "NotView" "__init__" "NotView.__init__") rfl
  have E_NotView := eo ⟨"NotView", ["view", "cls"]⟩ (List.mem_of_getElem? (i := 7) rfl)
  have T_NotView : ErrX K mg "NotView" ["view", "cls"] (ga K "NotView") (ma K (ga K "NotView") "__init__") := err_x E_NotView (glo_ok X G (c.d.fact 83 (f := .glo "NotView") rfl))
  obtain ⟨fd_entries_of, F_entries_of⟩ := c.d.def_ 17 (d := dF 42 "entries_of" []) rfl
  obtain ⟨fd_NoMethod___init__, F_NoMethod___init__⟩ := c.d.def_ 48 (d := dM 8 0 "NoMethod" "__init__" "NoMethod.__init__") rfl
  have E_NoMethod := eo ⟨"NoMethod", ["cls", "name"]⟩ (List.mem_of_getElem? (i := 5) rfl)
  have T_NoMethod : ErrX K mg "NoMethod" ["cls", "name"] (ga K "NoMethod") (ma K (ga K "NoMethod") "__init__") := err_x E_NoMethod (glo_ok X G (c.d.fact 79 (f := .glo "NoMethod") rfl))
  obtain ⟨fd_entry_places, F_entry_places⟩ := c.d.def_ 19 (d := dF 44 "entry_places" []) rfl
  obtain ⟨fd_definer_of, F_definer_of⟩ := c.d.def_ 13 (d := dF 33 "definer_of" []) rfl
  obtain ⟨fd_TwoAnswers___init__, F_TwoAnswers___init__⟩ := c.d.def_ 49 (d := dM 9 0 "TwoAnswers" "__init__" "TwoAnswers.__init__") rfl
  have E_TwoAnswers := eo ⟨"TwoAnswers", ["cls", "name", "a", "b"]⟩ (List.mem_of_getElem? (i := 6) rfl)
  have T_TwoAnswers : ErrX K mg "TwoAnswers" ["cls", "name", "a", "b"] (ga K "TwoAnswers") (ma K (ga K "TwoAnswers") "__init__") := err_x E_TwoAnswers (glo_ok X G (c.d.fact 81 (f := .glo "TwoAnswers") rfl))
  obtain ⟨fd__law_table_places, F__law_table_places⟩ := c.d.def_ 36 (d := dF 62 "_law_table_places" []) rfl
  have b := FunD.bindsA (ps := ["_law_script"]) F_law fun _ _ _ _ _ _ us hl => match us, hl with | [_], _ => rfl
  intro base H s a ns _ _ hns env0 hS
  have G0__law_hand := ok_hand (P := P) (w := w) (mg := mg) (base := base)  F__law_hand (free_ok X G (c.d.fact 1 (f := .free "int") rfl)) (free_ok X G (c.d.fact 0 (f := .free "len") rfl)) (free_ok X G (c.d.fact 2 (f := .free "abs") rfl))
  have G1__law_few := ok_few (P := P) (w := w) (mg := mg) (base := base)  F__law_few B F__law_take (glo_ok X G (c.d.fact 49 (f := .glo "_law_take") rfl)) F__law_mixed (glo_ok X G (c.d.fact 48 (f := .glo "_law_mixed") rfl))
  have G2__law_classes := ok_classesM (P := P) (w := w) (mg := mg) (base := base)  F__law_classes B F__law_take (glo_ok X G (c.d.fact 49 (f := .glo "_law_take") rfl)) F__law_mixed (glo_ok X G (c.d.fact 48 (f := .glo "_law_mixed") rfl)) F__law_bases (glo_ok X G (c.d.fact 50 (f := .glo "_law_bases") rfl)) F__law_shape (glo_ok X G (c.d.fact 52 (f := .glo "_law_shape") rfl)) F__law_methods (glo_ok X G (c.d.fact 51 (f := .glo "_law_methods") rfl)) (free_ok X G (c.d.fact 12 (f := .free "max") rfl)) (free_ok X G (c.d.fact 13 (f := .free "min") rfl))
  have G3_World___init__ := ok_world (P := P) (w := w) (mg := mg) (base := base) (C := ga K "World") F_World___init__ B Z TC_World F_is_sequence (glo_ok X G (c.d.fact 25 (f := .glo "is_sequence") rfl)) F_is_whole (glo_ok X G (c.d.fact 26 (f := .glo "is_whole") rfl)) F_is_unlike_row (glo_ok X G (c.d.fact 27 (f := .glo "is_unlike_row") rfl)) F_entry_fault (glo_ok X G (c.d.fact 31 (f := .glo "entry_fault") rfl)) F_elder_rows (glo_ok X G (c.d.fact 32 (f := .glo "elder_rows") rfl)) F_heir_rows (glo_ok X G (c.d.fact 33 (f := .glo "heir_rows") rfl)) F_BadWorld___init__ T_BadWorld
  have G4__law_elders := ok_lelders (P := P) (w := w) (mg := mg) (base := base)  F__law_elders B
  have G5_World_all_fields := ok_allZ (P := P) (w := w) (mg := mg) (base := base) (C := ga K "World") F_World_all_fields B TC_World
  have G6_is_sequence := ok_isSeq (P := P) (w := w) (mg := mg) (base := base)  F_is_sequence B
  have G7_is_whole := ok_whole (P := P) (w := w) (mg := mg) (base := base)  F_is_whole B
  have G8_Laying___init__ := ok_layI (P := P) (w := w) (mg := mg) (base := base) (C := ga K "World") (CL := ga K "Laying") F_Laying___init__ B F_World_all_fields G5_World_all_fields TC_World (c.prop 0 (d := dM 24 1 "World" "all_fields" "World.all_fields") rfl) F_is_sequence (glo_ok X G (c.d.fact 25 (f := .glo "is_sequence") rfl)) G6_is_sequence F_is_whole (glo_ok X G (c.d.fact 26 (f := .glo "is_whole") rfl)) G7_is_whole (int_ok X G (c.d.fact 23 (f := .int "FARTHEST" 99) rfl)) TF_Laying
  have G9_defining_of := ok_defining (P := P) (w := w) (mg := mg) (base := base) (C := ga K "World") F_defining_of B TC_World F_check_class (glo_ok X G (c.d.fact 29 (f := .glo "check_class") rfl)) F_is_whole (glo_ok X G (c.d.fact 26 (f := .glo "is_whole") rfl)) F_NoClass___init__ T_NoClass F_check_name (glo_ok X G (c.d.fact 34 (f := .glo "check_name") rfl)) Z
  have G10_all_entries := ok_allE (P := P) (w := w) (mg := mg) (base := base) (C := ga K "World") F_all_entries B TC_World F_defining_of (glo_ok X G (c.d.fact 35 (f := .glo "defining_of") rfl)) G9_defining_of
  have G11_entry_world := ok_entW (P := P) (w := w) (mg := mg) (base := base) (C := ga K "World") F_entry_world B F_all_entries (glo_ok X G (c.d.fact 41 (f := .glo "all_entries") rfl)) G10_all_entries F_World___init__ G3_World___init__ (mkr_ok (c.d.fact 90 (f := .mkr "World") rfl)) (glo_ok X G (c.d.fact 88 (f := .glo "World") rfl)) TC_World
  have G12_check_class := ok_check (P := P) (w := w) (mg := mg) (base := base) (C := ga K "World") F_check_class B TC_World F_is_whole (glo_ok X G (c.d.fact 26 (f := .glo "is_whole") rfl)) F_NoClass___init__ T_NoClass
  have G13_fields_of := ok_fldOf (P := P) (w := w) (mg := mg) (base := base) (C := ga K "World") F_fields_of B TC_World F_check_class (glo_ok X G (c.d.fact 29 (f := .glo "check_class") rfl)) G12_check_class
  have G14_is_whole_couple := ok_coupB (P := P) (w := w) (mg := mg) (base := base)  F_is_whole_couple B F_is_sequence (glo_ok X G (c.d.fact 25 (f := .glo "is_sequence") rfl)) F_is_whole (glo_ok X G (c.d.fact 26 (f := .glo "is_whole") rfl))
  have G15_Laying_place_of := ok_plOf (P := P) (w := w) (mg := mg) (base := base) (CL := ga K "Laying") F_Laying_place_of B F_is_whole_couple (glo_ok X G (c.d.fact 28 (f := .glo "is_whole_couple") rfl)) G14_is_whole_couple TF_Laying
  have G16_extent_of := ok_ext (P := P) (w := w) (mg := mg) (base := base) (C := ga K "World") (CL := ga K "Laying") F_extent_of B F_fields_of (glo_ok X G (c.d.fact 30 (f := .glo "fields_of") rfl)) G13_fields_of F_Laying_place_of G15_Laying_place_of TF_Laying (meth_ok (c.d.fact 105 (f := .meth "Laying" "place_of") rfl)) (free_ok X G (c.d.fact 13 (f := .free "min") rfl)) (free_ok X G (c.d.fact 12 (f := .free "max") rfl))
  have G17_cells_of := ok_cells (P := P) (w := w) (mg := mg) (base := base) (C := ga K "World") (CL := ga K "Laying") F_cells_of B F_extent_of (glo_ok X G (c.d.fact 39 (f := .glo "extent_of") rfl)) G16_extent_of F_fields_of (glo_ok X G (c.d.fact 30 (f := .glo "fields_of") rfl)) G13_fields_of F_Laying_place_of G15_Laying_place_of TF_Laying (meth_ok (c.d.fact 105 (f := .meth "Laying" "place_of") rfl))
  have G18_last_heirs := ok_last (P := P) (w := w) (mg := mg) (base := base) (C := ga K "World") F_last_heirs B (free_ok X G (c.d.fact 15 (f := .free "any") rfl)) TC_World
  have G19_answers_of := ok_answers (P := P) (w := w) (mg := mg) (base := base) (C := ga K "World") F_answers_of F_defining_of (glo_ok X G (c.d.fact 35 (f := .glo "defining_of") rfl)) G9_defining_of F_last_heirs (glo_ok X G (c.d.fact 37 (f := .glo "last_heirs") rfl)) G18_last_heirs
  have G20_table_row := ok_tabRow (P := P) (w := w) (mg := mg) (base := base) (C := ga K "World") (CL := ga K "Laying") F_table_row B F_entry_world (glo_ok X G (c.d.fact 43 (f := .glo "entry_world") rfl)) G11_entry_world F_World_all_fields G5_World_all_fields TC_World (c.prop 0 (d := dM 24 1 "World" "all_fields" "World.all_fields") rfl) F_all_entries (glo_ok X G (c.d.fact 41 (f := .glo "all_entries") rfl)) G10_all_entries (free_ok X G (c.d.fact 18 (f := .free "zip") rfl)) F_cells_of (glo_ok X G (c.d.fact 40 (f := .glo "cells_of") rfl)) G17_cells_of (str_ok X G (c.d.fact 24 (f := .str "HEAD" "head") rfl)) F_answers_of (glo_ok X G (c.d.fact 36 (f := .glo "answers_of") rfl)) G19_answers_of
  have G21__law_brought := ok_brought (P := P) (w := w) (mg := mg) (base := base)  F__law_brought B
  have G22__law_entries := ok_lEnts (P := P) (w := w) (mg := mg) (base := base)  F__law_entries B F__law_elders (glo_ok X G (c.d.fact 54 (f := .glo "_law_elders") rfl)) G4__law_elders F__law_brought (glo_ok X G (c.d.fact 58 (f := .glo "_law_brought") rfl)) G21__law_brought
  have G23__law_answers := ok_lans (P := P) (w := w) (mg := mg) (base := base)  F__law_answers B F__law_tops (glo_ok X G (c.d.fact 55 (f := .glo "_law_tops") rfl)) F__law_defining (glo_ok X G (c.d.fact 56 (f := .glo "_law_defining") rfl))
  have G24__law_row_due := ok_lRowD (P := P) (w := w) (mg := mg) (base := base)  F__law_row_due B F__law_entries (glo_ok X G (c.d.fact 59 (f := .glo "_law_entries") rfl)) G22__law_entries (free_ok X G (c.d.fact 13 (f := .free "min") rfl)) (free_ok X G (c.d.fact 12 (f := .free "max") rfl)) F__law_answers (glo_ok X G (c.d.fact 57 (f := .glo "_law_answers") rfl)) G23__law_answers
  have G25__law_take := ok_take (P := P) (w := w) (mg := mg) (base := base)  F__law_take F__law_mixed (glo_ok X G (c.d.fact 48 (f := .glo "_law_mixed") rfl)) (free_ok X G (c.d.fact 1 (f := .free "int") rfl)) (free_ok X G (c.d.fact 0 (f := .free "len") rfl))
  have G26__law_found := ok_lFound (P := P) (w := w) (mg := mg) (base := base)  F__law_found B F__law_answers (glo_ok X G (c.d.fact 57 (f := .glo "_law_answers") rfl)) G23__law_answers
  have G27__law_call_due := ok_lDueC (P := P) (w := w) (mg := mg) (base := base)  F__law_call_due B F__law_entries (glo_ok X G (c.d.fact 59 (f := .glo "_law_entries") rfl)) G22__law_entries F__law_found (glo_ok X G (c.d.fact 64 (f := .glo "_law_found") rfl)) G26__law_found
  have G28_check_name := ok_name (P := P) (w := w) (mg := mg) (base := base)  F_check_name B Z F_is_whole (glo_ok X G (c.d.fact 26 (f := .glo "is_whole") rfl))
  have G29_entries_of := ok_entO (P := P) (w := w) (mg := mg) (base := base) (C := ga K "World") F_entries_of B TC_World F_check_class (glo_ok X G (c.d.fact 29 (f := .glo "check_class") rfl)) G12_check_class F_all_entries (glo_ok X G (c.d.fact 41 (f := .glo "all_entries") rfl)) G10_all_entries
  have G30_entry_places := ok_entP (P := P) (w := w) (mg := mg) (base := base) (C := ga K "World") F_entry_places B F_all_entries (glo_ok X G (c.d.fact 41 (f := .glo "all_entries") rfl)) G10_all_entries (free_ok X G (c.d.fact 18 (f := .free "zip") rfl))
  have G31_definer_of := ok_definer (P := P) (w := w) (mg := mg) (base := base) (C := ga K "World") (Cn := ga K "NoMethod") (Ct := ga K "TwoAnswers") F_definer_of B F_answers_of (glo_ok X G (c.d.fact 36 (f := .glo "answers_of") rfl)) G19_answers_of F_NoMethod___init__ T_NoMethod F_TwoAnswers___init__ T_TwoAnswers
  have G32_call_by_table := ok_callT (P := P) (w := w) (mg := mg) (base := base) (C := ga K "World") (CL := ga K "Laying") (Cv := ga K "NotView") (Cm := ga K "NoMethod") (Ct := ga K "TwoAnswers") F_call_by_table B F_check_class (glo_ok X G (c.d.fact 29 (f := .glo "check_class") rfl)) G12_check_class F_check_name (glo_ok X G (c.d.fact 34 (f := .glo "check_name") rfl)) G28_check_name TC_World F_NotView___init__ T_NotView F_entries_of (glo_ok X G (c.d.fact 42 (f := .glo "entries_of") rfl)) G29_entries_of F_NoMethod___init__ T_NoMethod F_entry_places (glo_ok X G (c.d.fact 44 (f := .glo "entry_places") rfl)) G30_entry_places TF_Laying F_definer_of (glo_ok X G (c.d.fact 38 (f := .glo "definer_of") rfl)) G31_definer_of
  have G33__law_call := ok_lCall (P := P) (w := w) (mg := mg) (base := base) (C := ga K "World") (CL := ga K "Laying") F__law_call B F_call_by_table (glo_ok X G (c.d.fact 46 (f := .glo "call_by_table") rfl)) G32_call_by_table T_NotView E_NotView.held.fld T_NoMethod E_NoMethod.held.fld T_TwoAnswers E_TwoAnswers.held.fld (exm_ok (c.d.fact 84 (f := .exm "NotView" "NotView" true) rfl)) (exm_ok (c.d.fact 85 (f := .exm "NoMethod" "NotView" false) rfl)) (exm_ok (c.d.fact 80 (f := .exm "NoMethod" "NoMethod" true) rfl)) (exm_ok (c.d.fact 86 (f := .exm "TwoAnswers" "NotView" false) rfl)) (exm_ok (c.d.fact 87 (f := .exm "TwoAnswers" "NoMethod" false) rfl)) (exm_ok (c.d.fact 82 (f := .exm "TwoAnswers" "TwoAnswers" true) rfl))
  have G34__law_defining := ok_ldef (P := P) (w := w) (mg := mg) (base := base)  F__law_defining B
  have G35__law_laying_right := ok_layR (P := P) (w := w) (mg := mg) (base := base) (C := ga K "World") (CL := ga K "Laying") F__law_laying_right B F_World___init__ G3_World___init__ (mkr_ok (c.d.fact 90 (f := .mkr "World") rfl)) (glo_ok X G (c.d.fact 88 (f := .glo "World") rfl)) F__law_elders (glo_ok X G (c.d.fact 54 (f := .glo "_law_elders") rfl)) G4__law_elders F_Laying___init__ G8_Laying___init__ (mkr_ok (c.d.fact 102 (f := .mkr "Laying") rfl)) (glo_ok X G (c.d.fact 100 (f := .glo "Laying") rfl)) F_entry_world (glo_ok X G (c.d.fact 43 (f := .glo "entry_world") rfl)) G11_entry_world F_table_row (glo_ok X G (c.d.fact 45 (f := .glo "table_row") rfl)) G20_table_row (free_ok X G (c.d.fact 16 (f := .free "repr") rfl)) F__law_row_due (glo_ok X G (c.d.fact 65 (f := .glo "_law_row_due") rfl)) G24__law_row_due F__law_take (glo_ok X G (c.d.fact 49 (f := .glo "_law_take") rfl)) G25__law_take F__law_call_due (glo_ok X G (c.d.fact 63 (f := .glo "_law_call_due") rfl)) G27__law_call_due F__law_call (glo_ok X G (c.d.fact 62 (f := .glo "_law_call") rfl)) G33__law_call F__law_defining (glo_ok X G (c.d.fact 56 (f := .glo "_law_defining") rfl)) G34__law_defining F__law_found (glo_ok X G (c.d.fact 64 (f := .glo "_law_found") rfl)) G26__law_found
  have G36__law_table_places := ok_lTabP (P := P) (w := w) (mg := mg) (base := base)  F__law_table_places B F__law_elders (glo_ok X G (c.d.fact 54 (f := .glo "_law_elders") rfl)) G4__law_elders F__law_entries (glo_ok X G (c.d.fact 59 (f := .glo "_law_entries") rfl)) G22__law_entries F__law_take (glo_ok X G (c.d.fact 49 (f := .glo "_law_take") rfl)) G25__law_take
  exact law_at F_law B F__law_hand (glo_ok X G (c.d.fact 47 (f := .glo "_law_hand") rfl)) G0__law_hand F__law_few (glo_ok X G (c.d.fact 60 (f := .glo "_law_few") rfl)) G1__law_few F__law_classes (glo_ok X G (c.d.fact 53 (f := .glo "_law_classes") rfl)) G2__law_classes F__law_laying_right (glo_ok X G (c.d.fact 66 (f := .glo "_law_laying_right") rfl)) G35__law_laying_right F__law_table_places (glo_ok X G (c.d.fact 61 (f := .glo "_law_table_places") rfl)) G36__law_table_places F__law_entries (glo_ok X G (c.d.fact 59 (f := .glo "_law_entries") rfl)) G22__law_entries F__law_take (glo_ok X G (c.d.fact 49 (f := .glo "_law_take") rfl)) G25__law_take env0 (b s [.ref a] rfl) hns hS
end K57
open PySem PySem.W PySem.Calls PyProof.Rows
theorem PySem.Challenge.cw_headamid_k57_whole_calls_by_table_holds : PySem.Challenge.rw_headamid_k57_whole_calls_by_table.Holds := by
  w_on; o_law
  refine HandSHeadRun.head_any (r := OpenLaw.row PySem.Challenge.rw_headamid_k57_whole_calls_by_table) (q := view (OpenLaw.row PySem.Challenge.rw_headamid_k57_whole_calls_by_table).prog [68]) (H := K57.hk) (ob := K57.ob) (M := 40000) (loose := K57.loose) (d := HandSHeadRun.topDef (OpenLaw.row PySem.Challenge.rw_headamid_k57_whole_calls_by_table).prog 68) (kwd := []) K57.ob_eq
    (by kernel_rfl) (fun s => by kernel_rfl) K57.run (by kernel_rfl) (by kernel_rfl) (by kernel_rfl) (by rfl) (by first | assumption | decide +kernel) (by decide +kernel) ⟨rfl, rfl, rfl, rfl, rfl, by decide +kernel⟩ ?hw ?hc
  case hw => w_witness2
  case hc =>
    refine Kw.walk_here (l := PySem.Challenge.rw_headamid_k57_whole_calls_by_table) (n := 63) (CX := L2.CX0) rfl (by decide) (by kernel_rfl) ?F (fun _ _ _ _ z => z)
    intro w mg fa h Y G hmg0
    obtain ⟨K, KX, c⟩ := Y
    have hmg : mg ("law" : PySem.Str) = some (.ref fa) := by
      have e : (HandSHeadRun.topDef (OpenLaw.row PySem.Challenge.rw_headamid_k57_whole_calls_by_table).prog 68).name = ("law" : PySem.Str) := by kernel_rfl
      rw [← e]
      exact hmg0
    exact ⟨K, KX, K57.facts (P := (PySem.Challenge.rw_headamid_k57_whole_calls_by_table).prog) (w := w) KX G hmg c⟩
