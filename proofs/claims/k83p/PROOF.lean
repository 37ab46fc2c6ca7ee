import PyProof.Rows.All
import Wide.All
import OpenK.AllK
import Wide.FinOn
import HandS.ForMost
import HandS.SetFor
import HandS.IsInst
import HandS.Defaults
import HandS.NoneIn
import HandS.More
import HandS.SortInts
import KE.GoesEnum
import HandS.ForExc
import HandS.ExcInit
import PyProof.TupleOfSeq
import HandS.Codes
import HandS.Strs
import HandS.TupSets
import HandS.TupAny
import HandS.OwnEq
import HandS.ExcField
import HandS.Deep
import KE.DataMinMax
import HandS.SetKeys
import HandS.SortRule
import HandS.Ends
import HandS.HeadEnd
import PyProof.ReprRoads
import PyProof.Rows.NestShow
import PyProof.ReprLen
import KE.SortKeyHeap
import HandS.Lambda
import HandS.EndTab
import HandS.SortKw
import HandS.HeadHook4
import KE.KListMore
import HandS.Property
import HandS.TryMany
import HandS.Conv
import HandS.TupLe
import KE.KExcIs
import HandS.Head2
import HandS.HeadHook2
import PySem.Challenge.RW_headamid_k83_whole_one_part_for_all_heir
set_option Elab.async false
set_option linter.all false
set_option maxRecDepth 100000
set_option maxHeartbeats 4000000
namespace Kw
open PySem PySem.Spec PyProof.Rows L2

/-! ### as many different ones as there are -/
theorem len_le_of_sub : ∀ {ks ns : List Int}, ks.Nodup → (∀ k ∈ ks, k ∈ ns) → ks.length ≤ ns.length
  | [], _, _, _ => Nat.zero_le _
  | k :: r, ns, hn, hs => by
    have hk : k ∈ ns := hs k List.mem_cons_self
    obtain ⟨h1, h2⟩ := List.nodup_cons.mp hn
    have ih := len_le_of_sub (ks := r) (ns := ns.erase k) h2 fun y hy => by
      have ne : y ≠ k := fun e => h1 (by rw [← e]; exact hy)
      exact (List.mem_erase_of_ne ne).mpr (hs y (List.mem_cons_of_mem _ hy))
    rw [List.length_erase_of_mem hk] at ih
    have := List.length_pos_of_mem hk
    show r.length + 1 ≤ ns.length
    omega
theorem nodup_of_len : ∀ {ns ks : List Int}, ks.Nodup → (∀ k ∈ ks, k ∈ ns) → ns.length ≤ ks.length → ns.Nodup
  | [], _, _, _, _ => List.nodup_nil
  | n :: r, ks, hn, hs, hl => by
    by_cases hr : n ∈ r
    · have z := len_le_of_sub (ks := ks) (ns := r) hn fun k hk => by
        rcases List.mem_cons.mp (hs k hk) with e | e
        · rw [e]; exact hr
        · exact e
      have : r.length + 1 ≤ ks.length := hl
      omega
    · refine List.nodup_cons.mpr ⟨hr, nodup_of_len (ks := ks.erase n) (hn.erase n) (fun k hk => ?_) ?_⟩
      · have h1 := (hn.mem_erase_iff).mp hk
        rcases List.mem_cons.mp (hs k h1.2) with e | e
        · exact absurd e h1.1
        · exact e
      · have h2 : r.length + 1 ≤ ks.length := hl
        by_cases hm : n ∈ ks
        · rw [List.length_erase_of_mem hm]
          omega
        · rw [List.erase_of_not_mem hm]
          omega
theorem len_nodup {ks ns : List Int} (hn : ks.Nodup) (hs : ∀ k, k ∈ ks ↔ k ∈ ns) : ks.length = ns.length ↔ ns.Nodup :=
  ⟨fun e => nodup_of_len hn (fun k hk => (hs k).mp hk) (by omega), fun h => Nat.le_antisymm (len_le_of_sub hn fun k hk => (hs k).mp hk) (len_le_of_sub h fun k hk => (hs k).mpr hk)⟩
theorem firstMet_facts (ns : List Int) : ∀ i, i ≤ ns.length → (firstMet (fun i => ns.getD i 0) i).Nodup ∧ ∀ k, k ∈ firstMet (fun i => ns.getD i 0) i ↔ k ∈ ns.take i
  | 0, _ => ⟨List.nodup_nil, fun k => by simp [firstMet_zero]⟩
  | i + 1, hi => by
    obtain ⟨h1, h2⟩ := firstMet_facts ns i (Nat.le_of_succ_le hi)
    have hlt : i < ns.length := hi
    have e : ns.getD i 0 = ns[i] := by
      rw [List.getD_eq_getElem?_getD, List.getElem?_eq_getElem hlt] <;> rfl
    have tk : ns.take (i + 1) = ns.take i ++ [ns[i]] := by
      rw [List.take_add_one, List.getElem?_eq_getElem hlt] <;> rfl
    rw [firstMet_succ, tk]
    unfold step_dedup
    rw [e]
    by_cases hb : (firstMet (fun i => ns.getD i 0) i).any (· == ns[i]) = true
    · rw [if_pos hb]
      obtain ⟨y, hy, ey⟩ := List.any_eq_true.mp hb
      have ey2 : y = ns[i] := eq_of_beq ey
      refine ⟨h1, fun k => ⟨fun hk => List.mem_append_left _ ((h2 k).mp hk), fun hk => ?_⟩⟩
      rcases List.mem_append.mp hk with z | z
      · exact (h2 k).mpr z
      · rw [List.mem_singleton.mp z, ← ey2]
        exact hy
    · rw [if_neg hb]
      have hno : ns[i] ∉ firstMet (fun i => ns.getD i 0) i := fun z => hb (List.any_eq_true.mpr ⟨_, z, beq_iff_eq.mpr rfl⟩)
      refine ⟨List.nodup_append.mpr ⟨h1, by simp, fun a ha b hb' e' => hno ?_⟩, fun k => ?_⟩
      · rw [List.mem_singleton.mp hb'] at e'
        exact e' ▸ ha
      · rw [List.mem_append, List.mem_append, h2 k]
/-! ### len(set(xs)), xs a list or a tuple of ints, whatever they are -/
def tLenSetA (K : PySem.W.Frag) (ta : TE) : TE := fun σ H Q => ta σ H fun x H1 => ∃ (l : Addr) (ns : List Int), x = .ref l ∧ (SqL K H1 l (ns.map V.int) ∨ SqT K H1 l (ns.map V.int)) ∧ ns.length ≤ 4000 ∧ ∀ n : Nat, (n = ns.length ↔ ns.Nodup) → Q (.int n) H1
theorem intsAre_of : ∀ {ns : List Int} {us : List Value}, Vals (ns.map V.int) us → IntsAre us ns
  | [], _, .nil => .nil
  | n :: r, _, .cons h t => by
    obtain ⟨k, e⟩ := h
    rw [e]
    exact .cons n k (intsAre_of t)
theorem pe_lenSetA {X : Cx} {a : Expr} {ta : TE} {p p2 q pos : Pos} (hg : Gl X "len") (hm : X.mg "len" = none) (hg2 : Gl X "set") (hm2 : X.mg "set" = none) (ha : PE X a ta) (hc : X.calm = true := by rfl)
    (na : starEach [a] X.env = (false, eval a X.env) :: starEach [] X.env := by rfl) : PE X (.Call (.Name "len" p) [.Call (.Name "set" p2) [a] [] q] [] pos) (tLenSetA X.K ta) := by
  refine ⟨fun pins s σ H Q I h => Call_ (ld_blt I hg hm PySem.boot_len ?_)⟩
  refine callWith_builtin1 (args_cons (Call_ (ld_blt I hg2 hm2 PyProof.Rows.boot_set ?_)) rfl) rfl rfl
  refine callWith_type1 (args_cons (thn (ha.run pins s σ H _ I h) fun v s1 ⟨x, H1, I1, r1, q1⟩ => args_nil ?_) na) na rfl
  obtain ⟨l, ns, ex, hq, h4, q2⟩ := q1
  subst ex
  obtain rfl : v = Value.ref l := r1
  rcases hq with hq | hq
  · obtain ⟨its, r, pl, hz⟩ := I1.list hq
    have hlen : its.toArray.size = ns.length := by rw [List.size_toArray, ← r.length, List.length_map]
    have ia : IntsAre its.toArray.toList ns := by
      have z := intsAre_of r
      simpa using z
    refine call_set_list (I1.ok.hd hc) pl.isList ia (by rw [hlen]; unfold scanBound; omega) fun h' tk hS hk => args_nil ?_
    rw [hlen] at hS
    obtain ⟨f1, f2⟩ := firstMet_facts ns ns.length (Nat.le_refl _)
    rw [List.take_length] at f2
    have key := len_nodup f1 f2
    have le := firstMet_length_le (fun i => ns.getD i 0) ns.length
    generalize hm : (firstMet (fun i => ns.getD i 0) ns.length).length = m at hS key le
    obtain ⟨o, es, ep, t, ho, hex, hd, _, _, _, hf, hn⟩ := hS
    have I2 : Inv X pins σ H1 { s1 with heap := h', toks := tk } := I1.kept fun b o e => hk b o (Heap.lt_size e) e
    exact call_len_set ho hex hd hf (by rw [hn]; omega) ⟨.int m, H1, I2.tok _, ⟨_, by rw [hn]⟩, q2 m key⟩
  · obtain ⟨its, r, pl, hz⟩ := I1.tuple hq
    have ia : IntsAre its.toArray.toList ns := by
      have z := intsAre_of r
      simpa using z
    refine call_set_tupI ns (I1.ok.hd hc) pl ia (by unfold scanBound; omega) fun h' tk c hS hc' hk => args_nil ?_
    obtain ⟨o, es, ep, t, ho, hex, hd, hg3, hnd, hmem, hbd, hf, hn, _, _⟩ := hS
    have key := len_nodup hnd (ns := ns) fun k => (hmem k).symm.trans (by simp)
    have e1 : (es.toList.map keyOf).length = es.size := by rw [List.length_map, Array.length_toList]
    rw [e1] at key
    have I2 : Inv X pins σ H1 { s1 with heap := h', toks := tk } := I1.kept fun b o e => hk b o e
    exact call_len_set ho hex hd hf (by unfold scanBound at hbd; omega) ⟨.int es.size, H1, I2.tok _, ⟨_, rfl⟩, q2 es.size key⟩
end Kw

set_option maxRecDepth 100000
set_option maxHeartbeats 4000000
namespace K83
open PySem PySem.Spec PyProof.Rows L2 Kw
def top (i : Nat) : Stmt := PySem.Challenge.pw_headamid_k83_whole_one_part_for_all_heir.main.body.getD i (.Pass ⟨0, 0, 0, 0⟩)
abbrev FnP (K : PySem.W.Frag) (x : Str) (i : Nat) (f : Addr) (fd : FuncData) : Prop := FunD K x x (defArgs (top i)) (defBody (top i)) (defScope (top i)) [] [] f fd
abbrev FnDf (K : PySem.W.Frag) (x : Str) (i : Nat) (dvs : List V) (f : Addr) (fd : FuncData) : Prop := FunD K x x (defArgs (top i)) (defBody (top i)) (defScope (top i)) dvs [] f fd
theorem same_new {H : Hp} {p : Addr} {o : HO} (hp : H p = none) : Same H (upd H p o) := fun b u e => by
  rw [upd_ne (ne_of_none e hp)]
  exact e
/-- a plain thing's type stays -/
inductive Ty0 (H : Hp) : V → String → Prop where
  | non : Ty0 H .non "NoneType"
  | bl (x : Bool) : Ty0 H (.bl x) "bool"
  | int (i : Int) : Ty0 H (.int i) "int"
  | str (x : Str) : Ty0 H (.str x) "str"
  | lst {a : Addr} {xs : List V} (e : H a = some (.lst xs)) : Ty0 H (.ref a) "list"
  | tup {a : Addr} {xs : List V} (e : H a = some (.tup xs)) : Ty0 H (.ref a) "tuple"
  | dK {a : Addr} {kvs : List (Key × V)} (e : H a = some (.dK kvs)) : Ty0 H (.ref a) "dict"
theorem Ty0.same {H H' : Hp} {x : V} {t : String} (h : Ty0 H x t) (s : Same H H') : Ty0 H' x t := by
  cases h with
  | non => exact .non
  | bl x => exact .bl x
  | int i => exact .int i
  | str x => exact .str x
  | lst e => exact .lst (s _ _ e)
  | tup e => exact .tup (s _ _ e)
  | dK e => exact .dK (s _ _ e)
theorem Ty0.x {K : PySem.W.Frag} {H : Hp} {x : V} {t : String} (h : Ty0 H x t) : TyX K H x (.type t) := by
  cases h with
  | non => exact .base .non
  | bl x => exact .base (.bl x)
  | int i => exact .base (.int i)
  | str x => exact .base (.str x)
  | lst e => exact .base (.lst e)
  | tup e => exact .base (.tup e)
  | dK e => exact .base (.dK e)
def seqT (t : String) : Bool := t == "list" || t == "tuple"
theorem Ty0.seq {K : PySem.W.Frag} {H : Hp} {x : V} {t : String} (h : Ty0 H x t) : PySem.W.kitAny K (.type t) [.type "list", .type "tuple"] = some (seqT t) := by
  have two : kitB t "list" = some (t == "list") → kitB t "tuple" = some (t == "tuple") → PySem.W.kitAny K (.type t) [.type "list", .type "tuple"] = some (seqT t) := fun hb hc => by
    unfold seqT
    refine kitAny_cons (kit_ty hb) (fun eb => ?_) fun eb => by rw [eb]; rfl
    rw [eb, Bool.false_or]
    refine kitAny_cons (kit_ty hc) (fun ec => ?_) fun ec => ec
    rw [ec]
    exact kitAny_nil
  cases h <;> exact two (by decide +kernel) (by decide +kernel)
theorem Ty0.isBool {K : PySem.W.Frag} {H : Hp} {x : V} {t : String} (h : Ty0 H x t) : PySem.W.kitOne K (.type t) (.type "bool") = some (t == "bool") := by
  cases h <;> exact kit_ty (by decide +kernel)
theorem Ty0.isInt {K : PySem.W.Frag} {H : Hp} {x : V} {t : String} (h : Ty0 H x t) : PySem.W.kitOne K (.type t) (.type "int") = some (t == "bool" || t == "int") := by
  cases h <;> exact kit_ty (by decide +kernel)
structure Fr (mg : Str → Option Value) : Prop where
  isinstance : mg "isinstance" = none
  list : mg "list" = none
  tuple : mg "tuple" = none
  bool : mg "bool" = none
  int : mg "int" = none
  len : mg "len" = none
  set : mg "set" = none
  range : mg "range" = none
  sorted : mg "sorted" = none
  enumerate : mg "enumerate" = none
section
variable {P : Program} {w : World} {K : PySem.W.Frag} {mg : Str → Option Value} {base : Heap} {f : Addr} {fd : FuncData}
/-! ### is_sequence -/
def spIsSeq : Sp := fun vs H Q _ => ∃ (x : V) (t : String), vs = [x] ∧ Ty0 H x t ∧ ∀ H', Same H H' → Q (.bl (seqT t)) H'
theorem sc_isSeq : FnScope ["thing"] ["thing"] (defScope (top 10)) := ⟨rfl, rfl, rfl, by decide +kernel, rfl, by decide +kernel, by decide +kernel⟩
theorem ok_isSeq (F : FnP K "is_sequence" 10 f fd) (B : Fr mg) : FnOk P w K mg base CX0 1 f fd ["thing"] spIsSeq := by
  refine F.ok sc_isSeq (fun vs H Q E h => ?_) (fun cdv A outer s H vs Q E hr h => ?_)
  · obtain ⟨x, t, rfl, _⟩ := h
    rfl
  · obtain ⟨x, t, rfl, ty, k⟩ := h
    refine ⟨_, PSs.nox (pss_one (ps_ret (pe_callB call_isiT (by rfl) B.isinstance PyProof.Rows.boot_isinstance (pa_cons (pv 0) (pa_cons (pe_tup (pa_cons (pe_bltn (v := .ty "list") (by rfl) B.list PyProof.Rows.boot_list rfl) (pa_cons (pe_bltn (v := .ty "tuple") (by rfl) B.tuple PyProof.Rows.boot_tuple rfl) pa_nil))) pa_nil))))), ?_⟩
    exact ⟨_, rfl, (by show 2 ≤ sizeLine; decide), fun p np => ⟨x, p, _, _, _, _, rfl, upd_same, .cons (.ty "list") (.cons (.ty "tuple") .nil), (ty.same (same_new np)).x, ty.seq, k _ (same_new np)⟩⟩
/-! ### is_whole -/
def inLo : V → Int → Bool
  | .int l, i => decide (l ≤ i)
  | _, _ => true
def inHi : V → Int → Bool
  | .int h, i => decide (i ≤ h)
  | _, _ => true
def Lim (x : V) : Prop := x = .non ∨ ∃ i, x = .int i
def wholeB (lo hi : V) : V → Bool
  | .int i => inLo lo i && inHi hi i
  | _ => false
def spWhole : Sp := fun vs H Q _ => ∃ (x lo hi : V) (t : String), vs = [x, lo, hi] ∧ Ty0 H x t ∧ Lim lo ∧ Lim hi ∧ Q (.bl (wholeB lo hi x)) H
theorem sc_whole : FnScope ["thing", "low", "high"] ["thing", "low", "high"] (defScope (top 11)) := ⟨rfl, rfl, rfl, by decide +kernel, rfl, by decide +kernel, by decide +kernel⟩
theorem ok_whole (F : FnDf K "is_whole" 11 [.non, .non] f fd) (B : Fr mg) : FnOk P w K mg base CX0 1 f fd ["thing", "low", "high"] spWhole := by
  refine F.ok sc_whole (fun vs H Q E h => ?_) (fun cdv A outer s H vs Q E hr h => ?_)
  · obtain ⟨x, lo, hi, t, rfl, _⟩ := h
    rfl
  · obtain ⟨x, lo, hi, t, rfl, ty, hlo, hhi, k⟩ := h
    refine ⟨_, PSs.nox (pss_cons (ps_if (PW.pt (pw_or (pt_val (pe_callB call_isi (by rfl) B.isinstance PyProof.Rows.boot_isinstance (pa_cons (pv 0) (pa_cons (pe_bltn (v := .ty "bool") (by rfl) B.bool PyProof.Rows.boot_bool rfl) pa_nil))))
        (pw_or1 (pt_not (pt_val (pe_callB call_isi (by rfl) B.isinstance PyProof.Rows.boot_isinstance (pa_cons (pv 0) (pa_cons (pe_bltn (v := .ty "int") (by rfl) B.int PyProof.Rows.boot_int rfl) pa_nil)))))))) (pss_one (ps_ret pe_bl)) pss_nil)
      (pss_cons (ps_if (PW.pt (pw_and (pt_cmpR op_notN (pv 1) pe_non (nomark _)) (pw_and1 (pt_cmpR op_lt (pv 0) (pv 1) (nomark _))))) (pss_one (ps_ret pe_bl)) pss_nil)
      (pss_one (ps_ret (pe_or (pe_cmpR op_isN (pv 2) pe_non (nomark _)) (pe_one (pe_cmpR op_le (pv 0) (pv 2) (nomark _)))))))), ?_⟩
    have tyx := ty.x (K := K)
    have tyb := ty.isBool (K := K)
    have tyi := ty.isInt (K := K)
    refine ⟨_, rfl, x, _, _, _, _, rfl, .ty "bool", tyx, tyb, _, rfl, ?_⟩
    cases ty with
    | bl y => exact iteT k
    | int i =>
      refine iteF ⟨_, rfl, _, _, _, _, _, rfl, .ty "int", tyx, tyi, _, rfl, iteF ?_⟩
      have go2 : inLo lo i = true → (tRet (tOrV (tOp (fun x y H Q => y = V.non ∧ Q (V.bl (decide (x = V.non))) H) (tVar 2) (tC V.non)) (tOp (rI0 fun i j => V.bl (decide (i ≤ j))) (tVar 0) (tVar 2)))) { nx := fun _ H' => Q .non H', rt := Q } [some (.int i), some lo, some hi] H := fun e => by
        refine ⟨_, rfl, rfl, _, rfl, ?_⟩
        have k' : Q (.bl (inHi hi i)) H := by
          have z : wholeB lo hi (.int i) = inHi hi i := by
            show (inLo lo i && inHi hi i) = inHi hi i
            rw [e, Bool.true_and]
          rw [← z]
          exact k
        rcases hhi with rfl | ⟨h, rfl⟩
        · exact k'
        · exact ⟨_, rfl, _, rfl, _, _, rfl, rfl, k'⟩
      rcases hlo with rfl | ⟨l, rfl⟩
      · exact ⟨_, rfl, rfl, _, rfl, go2 rfl⟩
      · refine ⟨_, rfl, rfl, _, rfl, _, rfl, _, rfl, _, _, rfl, rfl, _, rfl, ?_⟩
        by_cases hl : i < l
        · rw [decide_eq_true hl]
          refine iteT ?_
          have z : wholeB (.int l) hi (.int i) = false := by
            show (decide (l ≤ i) && inHi hi i) = false
            rw [decide_eq_false (by omega), Bool.false_and]
          rw [z] at k
          exact k
        · rw [decide_eq_false hl]
          exact iteF (go2 (decide_eq_true (by omega)))
    | non => exact iteF ⟨_, rfl, _, _, _, _, _, rfl, .ty "int", tyx, tyi, _, rfl, iteT k⟩
    | str y => exact iteF ⟨_, rfl, _, _, _, _, _, rfl, .ty "int", tyx, tyi, _, rfl, iteT k⟩
    | lst e => exact iteF ⟨_, rfl, _, _, _, _, _, rfl, .ty "int", tyx, tyi, _, rfl, iteT k⟩
    | tup e => exact iteF ⟨_, rfl, _, _, _, _, _, rfl, .ty "int", tyx, tyi, _, rfl, iteT k⟩
    | dK e => exact iteF ⟨_, rfl, _, _, _, _, _, rfl, .ty "int", tyx, tyi, _, rfl, iteT k⟩
end
end K83

set_option maxRecDepth 100000
set_option maxHeartbeats 4000000
namespace K83
open PySem PySem.Spec PyProof.Rows L2 Kw
/-- a list or a tuple of these -/
def SeqAt (H : Hp) (a : Addr) (xs : List V) : Prop := H a = some (.lst xs) ∨ H a = some (.tup xs)
theorem SeqAt.same {H H' : Hp} {a : Addr} {xs : List V} (h : SeqAt H a xs) (s : Same H H') : SeqAt H' a xs := by
  rcases h with h | h
  · exact .inl (s _ _ h)
  · exact .inr (s _ _ h)
theorem SeqAt.sq {K : PySem.W.Frag} {H : Hp} {a : Addr} {xs : List V} (h : SeqAt H a xs) : SqL K H a xs ∨ SqT K H a xs := by
  rcases h with h | h
  · exact .inl (SqL.of h)
  · exact .inr (SqT.of h)
theorem SeqAt.ty {H : Hp} {a : Addr} {xs : List V} (h : SeqAt H a xs) : ∃ t, Ty0 H (.ref a) t ∧ seqT t = true := by
  rcases h with h | h
  · exact ⟨_, .lst h, rfl⟩
  · exact ⟨_, .tup h, rfl⟩
def intOf : V → Int
  | .int i => i
  | _ => 0
theorem ints_of {lo hi : V} : ∀ {xs : List V}, (∀ x ∈ xs, wholeB lo hi x = true) → xs = (xs.map intOf).map V.int
  | [], _ => rfl
  | x :: r, h => by
    have hx := h x List.mem_cons_self
    have e : x = V.int (intOf x) := by
      cases x with
      | int i => rfl
      | _ => cases hx
    rw [List.map_cons, List.map_cons, ← e, ← ints_of (xs := r) fun y hy => h y (List.mem_cons_of_mem _ hy)]
def unlikeB (m : Int) (xs : List V) : Bool := xs.all (fun x => wholeB (.int 0) (.int (m - 1)) x) && decide ((xs.map intOf).Nodup)
section
variable {P : Program} {w : World} {K : PySem.W.Frag} {mg : Str → Option Value} {base : Heap} {f fS fW : Addr} {fd fdS fdW : FuncData}
theorem binds_whole3 (F : FnDf K "is_whole" 11 [.non, .non] f fd) : L2.Binds K fd ["thing", "low", "high"] [] := by
  obtain ⟨ds, v, b⟩ := F.binds1 (ps := ["thing", "low", "high"]) 3 2 (by simp) rfl fun T kV doc pm an cdv ct us its hu hi => match us, hu, its, hi with | [_, _, _], _, [_, _], _ => ⟨_, rfl, rfl⟩
  cases v
  exact b
theorem binds_whole1 (F : FnDf K "is_whole" 11 [.non, .non] f fd) : ∃ ds, Vals [.non, .non] ds ∧ L2.Binds K fd ["thing", "low", "high"] ds :=
  F.binds1 (ps := ["thing", "low", "high"]) 1 0 (by simp) rfl fun T kV doc pm an cdv ct us its hu hi => match us, hu, its, hi with | [_], _, [_, _], _ => ⟨_, rfl, rfl⟩
/-- what is_unlike_row says of a thing, and how long it is where it is a row -/
def UnlikeIs (H : Hp) (x : V) (m : Int) (r : Bool) (n : Nat) : Prop :=
  (∃ t, Ty0 H x t ∧ seqT t = false ∧ r = false) ∨ (∃ a xs, x = .ref a ∧ SeqAt H a xs ∧ xs.length ≤ 1000 ∧ (∀ y ∈ xs, ∃ t, Ty0 H y t) ∧ r = unlikeB m xs ∧ n = xs.length)
theorem UnlikeIs.same {H H' : Hp} {x : V} {m : Int} {r : Bool} {n : Nat} (h : UnlikeIs H x m r n) (s : Same H H') : UnlikeIs H' x m r n := by
  rcases h with ⟨t, ty, e1, e2⟩ | ⟨a, xs, e, hA, hl, hty, e1, e2⟩
  · exact .inl ⟨t, ty.same s, e1, e2⟩
  · exact .inr ⟨a, xs, e, hA.same s, hl, fun y hy => ⟨_, (hty y hy).choose_spec.same s⟩, e1, e2⟩
def spUnlike : Sp := fun vs H Q _ => ∃ (x : V) (m : Int) (r : Bool) (n : Nat), vs = [x, .int m] ∧ UnlikeIs H x m r n ∧ ∀ H', Same H H' → Q (.bl r) H'
theorem sc_unlike : FnScope ["thing", "many", "item"] ["thing", "many"] (defScope (top 12)) := ⟨rfl, rfl, rfl, by decide +kernel, rfl, by decide +kernel, by decide +kernel⟩
theorem ok_unlike (F : FnP K "is_unlike_row" 12 f fd) (B : Fr mg) (FS : FnP K "is_sequence" 10 fS fdS) (mS : mg "is_sequence" = some (.ref fS)) (FW : FnDf K "is_whole" 11 [.non, .non] fW fdW) (mW : mg "is_whole" = some (.ref fW)) :
    FnOk P w K mg base CX0 2 f fd ["thing", "many"] spUnlike := by
  have GS : FnOk P w K mg base CX0 1 fS fdS ["thing"] spIsSeq := ok_isSeq FS B
  have GW : FnOk P w K mg base CX0 1 fW fdW ["thing", "low", "high"] spWhole := ok_whole FW B
  have bS : L2.Binds K fdS ["thing"] [] := FS.bindsN fun _ _ _ _ _ _ us hl => match us, hl with | [_], _ => rfl
  have bW := binds_whole3 FW
  refine F.ok sc_unlike (fun vs H Q E h => ?_) (fun cdv A outer s H vs Q E hr h => ?_)
  · obtain ⟨x, m, r, n, rfl, _⟩ := h
    rfl
  · obtain ⟨x, m, r, n, rfl, h, k⟩ := h
    rcases h with ⟨t, ty, hs, rfl⟩ | ⟨a, xs, rfl, hA, hl, hty, rfl, rfl⟩
    · refine ⟨_, PSs.nox (pss_cons (ps_if (pt_not (pt_val (pe_call GS (hr.mono (by decide)) (by rfl) mS FS.kp bS .nil pass0 (pa_cons (pv 0) pa_nil)))) (pss_one (ps_ret pe_bl)) pss_nil)
      (pss_cons (ps_for PassesOwn.never rfl (pi_list (pv 0)) (pg_name (i := 2) sc_unlike.nd rfl (Or.inl rfl)) (pss_one (ps_if (pt_not (pt_val (pe_call GW (hr.mono (by decide)) (by rfl) mW FW.kp bW .nil pass0 (pa_cons (pv 2) (pa_cons pe_int (pa_cons (pe_op op_sub (pv 1) pe_int) pa_nil)))))) (pss_one (ps_ret pe_bl)) pss_nil)))
      (pss_one (ps_ret (pe_cmpR op_eq (pe_lenSetA (by rfl) B.len (by rfl) B.set (pv 0)) (pe_callB call_len_seq (by rfl) B.len PySem.boot_len (pa_cons (pv 0) pa_nil)) (nomark _)))))), ?_⟩
      exact ⟨_, rfl, x, t, rfl, ty, fun H1 s1 => ⟨_, rfl, by rw [hs]; exact iteT (k H1 s1)⟩⟩
    · obtain ⟨t, ty, hseq⟩ := hA.ty
      -- a turn: an item that is no such number ends it
      have turn : ∀ (i : Nat) (y : V) (H' : Hp) (v : Option V), xs[i]? = some y → Same H H' → (∀ j z, j < i → xs[j]? = some z → wholeB (.int 0) (.int (m - 1)) z = true) → ∀ (N : L2.St → Hp → Prop),
          (∀ H'', Same H H'' → (∀ j z, j < i + 1 → xs[j]? = some z → wholeB (.int 0) (.int (m - 1)) z = true) → N [some (.ref a), some (.int m), some y] H'') → ∀ D : Ends, D.rt = Q → D.nx = N →
          (tIfS (tNot (tB (tCall spWhole [] E0 (tCons (tVar 2) (tCons (tC (.int 0)) (tCons (tOp (rI0 fun i j => .int (i - j)) (tVar 1) (tC (.int 1))) tNil)))))) (tRet (tC (.bl false))) tNext) D [some (.ref a), some (.int m), some y] H' := by
        intro i y H' v hi sH hall N hN D hrt hnx
        obtain ⟨ty', hy⟩ := hty y (List.mem_of_getElem? hi)
        refine ⟨_, rfl, _, rfl, _, _, rfl, rfl, y, _, _, ty', rfl, hy.same sH, .inr ⟨_, rfl⟩, .inr ⟨_, rfl⟩, _, rfl, ?_⟩
        cases hb : wholeB (.int 0) (.int (m - 1)) y with
        | false =>
          refine iteT ?_
          show D.rt (.bl false) H'
          rw [hrt]
          have e : unlikeB m xs = false := by
            unfold unlikeB
            have z : xs.all (fun x => wholeB (.int 0) (.int (m - 1)) x) = false := List.all_eq_false.mpr ⟨y, List.mem_of_getElem? hi, by rw [hb]; decide⟩
            rw [z, Bool.false_and]
          rw [← e]
          exact k H' sH
        | true =>
          refine iteF ?_
          show D.nx _ H'
          rw [hnx]
          refine hN H' sH fun j z hj hz => ?_
          by_cases e : j = i
          · rw [e, hi] at hz
            rw [← Option.some.inj hz]
            exact hb
          · exact hall j z (by omega) hz
      have done : ∀ (H' : Hp) (v : Option V), Same H H' → (∀ j z, j < xs.length → xs[j]? = some z → wholeB (.int 0) (.int (m - 1)) z = true) →
          (tRet (tOp rEq (tLenSetA K (tVar 0)) (tCB (fun xs H Q => ∃ p ys, xs = [.ref p] ∧ (SqL K H p ys ∨ SqT K H p ys) ∧ Q (.int ys.length) H) (tCons (tVar 0) tNil)))) { nx := fun _ H' => Q .non H', rt := Q } [some (.ref a), some (.int m), v] H' := by
        intro H' v sH hall
        have hall' : ∀ z ∈ xs, wholeB (.int 0) (.int (m - 1)) z = true := fun z hz => by
          obtain ⟨j, hj, e⟩ := List.mem_iff_getElem.mp hz
          exact hall j z hj (by rw [List.getElem?_eq_getElem hj, e])
        have ei := ints_of hall'
        have sq := (hA.same sH).sq (K := K)
        have sq' : SqL K H' a ((xs.map intOf).map V.int) ∨ SqT K H' a ((xs.map intOf).map V.int) := by
          rw [← ei]
          exact sq
        refine ⟨_, rfl, a, xs.map intOf, rfl, sq', by rw [List.length_map]; omega, fun n hn => ⟨_, rfl, a, _, rfl, sq, rfl, ?_⟩⟩
        have e : decide (V.int (n : Int) = V.int (xs.length : Int)) = unlikeB m xs := by
          unfold unlikeB
          rw [List.all_eq_true.mpr hall', Bool.true_and]
          rw [List.length_map] at hn
          by_cases q : (xs.map intOf).Nodup
          · rw [decide_eq_true q, decide_eq_true (by rw [hn.mpr q])]
          · rw [decide_eq_false q, decide_eq_false fun z => q (hn.mp (by have := V.int.inj z; omega))]
        rw [e]
        exact k H' sH
      have at_ty : ∀ H1, Same H H1 → SeqAt H1 a xs := fun H1 s1 => hA.same s1
      rcases hA with hA | hA
      · refine ⟨_, PSs.nox (pss_cons (ps_if (pt_not (pt_val (pe_call GS (hr.mono (by decide)) (by rfl) mS FS.kp bS .nil pass0 (pa_cons (pv 0) pa_nil)))) (pss_one (ps_ret pe_bl)) pss_nil)
      (pss_cons (ps_for PassesOwn.never rfl (pi_list (pv 0)) (pg_name (i := 2) sc_unlike.nd rfl (Or.inl rfl)) (pss_one (ps_if (pt_not (pt_val (pe_call GW (hr.mono (by decide)) (by rfl) mW FW.kp bW .nil pass0 (pa_cons (pv 2) (pa_cons pe_int (pa_cons (pe_op op_sub (pv 1) pe_int) pa_nil)))))) (pss_one (ps_ret pe_bl)) pss_nil)))
      (pss_one (ps_ret (pe_cmpR op_eq (pe_lenSetA (by rfl) B.len (by rfl) B.set (pv 0)) (pe_callB call_len_seq (by rfl) B.len PySem.boot_len (pa_cons (pv 0) pa_nil)) (nomark _)))))), ?_⟩
        refine ⟨_, rfl, _, t, rfl, ty, fun H1 s1 => ⟨_, rfl, ?_⟩⟩
        rw [hseq]
        refine iteF ?_
        refine ⟨_, rfl, a, rfl, ⟨_, SqL.of (s1 _ _ hA)⟩, for_list (K := K) (a := a) (xs := xs) (fun i σ H' => Same H H' ∧ (∃ v, σ = [some (.ref a), some (.int m), v]) ∧ ∀ j z, j < i → xs[j]? = some z → wholeB (.int 0) (.int (m - 1)) z = true)
          ⟨s1, ⟨_, rfl⟩, fun j z hj => absurd hj (Nat.not_lt_zero j)⟩ (fun i σ H' _ h => SqL.of (h.1 _ _ hA)) ?_ ?_⟩
        · rintro i y σ H' hi ⟨sH, ⟨v, rfl⟩, hall⟩
          exact turn i y H' v hi sH hall _ (fun H'' s hh => ⟨s, ⟨_, rfl⟩, hh⟩) _ rfl rfl
        · rintro σ H' ⟨sH, ⟨v, rfl⟩, hall⟩
          exact done H' v sH hall
      · refine ⟨_, PSs.nox (pss_cons (ps_if (pt_not (pt_val (pe_call GS (hr.mono (by decide)) (by rfl) mS FS.kp bS .nil pass0 (pa_cons (pv 0) pa_nil)))) (pss_one (ps_ret pe_bl)) pss_nil)
      (pss_cons (ps_for PassesOwn.never rfl (pi_tup (pv 0)) (pg_name (i := 2) sc_unlike.nd rfl (Or.inl rfl)) (pss_one (ps_if (pt_not (pt_val (pe_call GW (hr.mono (by decide)) (by rfl) mW FW.kp bW .nil pass0 (pa_cons (pv 2) (pa_cons pe_int (pa_cons (pe_op op_sub (pv 1) pe_int) pa_nil)))))) (pss_one (ps_ret pe_bl)) pss_nil)))
      (pss_one (ps_ret (pe_cmpR op_eq (pe_lenSetA (by rfl) B.len (by rfl) B.set (pv 0)) (pe_callB call_len_seq (by rfl) B.len PySem.boot_len (pa_cons (pv 0) pa_nil)) (nomark _)))))), ?_⟩
        refine ⟨_, rfl, _, t, rfl, ty, fun H1 s1 => ⟨_, rfl, ?_⟩⟩
        rw [hseq]
        refine iteF ?_
        refine ⟨_, rfl, a, rfl, ⟨_, SqT.of (s1 _ _ hA)⟩, for_tup (K := K) (a := a) (xs := xs) (fun i σ H' => Same H H' ∧ (∃ v, σ = [some (.ref a), some (.int m), v]) ∧ ∀ j z, j < i → xs[j]? = some z → wholeB (.int 0) (.int (m - 1)) z = true)
          ⟨s1, ⟨_, rfl⟩, fun j z hj => absurd hj (Nat.not_lt_zero j)⟩ (fun i σ H' _ h => SqT.of (h.1 _ _ hA)) ?_ ?_⟩
        · rintro i y σ H' hi ⟨sH, ⟨v, rfl⟩, hall⟩
          exact turn i y H' v hi sH hall _ (fun H'' s hh => ⟨s, ⟨_, rfl⟩, hh⟩) _ rfl rfl
        · rintro σ H' ⟨sH, ⟨v, rfl⟩, hall⟩
          exact done H' v sH hall
end
end K83

set_option maxRecDepth 100000
set_option maxHeartbeats 4000000
namespace K83
open PySem PySem.Spec PyProof.Rows L2 Kw
def optV : Option Str → V
  | some z => .str z
  | none => .non
/-- the word due for an entry -/
def entryWord (rb rm : Bool) (wg : Bool) (nm : Nat) : Option Str :=
  if rb = false then some "base" else if wg = false then some "fields" else if rm = false then some "method" else if 3 < nm then some "method" else none
def EntryIs (H : Hp) (x : V) (c : Int) (what : Option Str) : Prop :=
  (∃ t, Ty0 H x t ∧ seqT t = false ∧ what = some "class") ∨ (∃ a xs, x = .ref a ∧ SeqAt H a xs ∧ xs.length ≠ 3 ∧ what = some "class") ∨
  (∃ a b g m rb nb tg rm nm, x = .ref a ∧ SeqAt H a [b, g, m] ∧ UnlikeIs H b c rb nb ∧ Ty0 H g tg ∧ UnlikeIs H m 6 rm nm ∧ what = entryWord rb rm (wholeB (.int 0) (.int 3) g) nm)
def spEntry : Sp := fun vs H Q _ => ∃ (x : V) (c : Int) (what : Option Str), vs = [x, .int c] ∧ EntryIs H x c what ∧ ∀ H', Same H H' → Q (optV what) H'
structure Cst (mg : Str → Option Value) : Prop where
  mf : ∃ t, mg "MOST_FIELDS" = some (.int 3 t)
  mm : ∃ t, mg "MOST_METHODS" = some (.int 3 t)
  mn : ∃ t, mg "METHOD_NAMES" = some (.int 6 t)
  mc : ∃ t, mg "MOST_CLASSES" = some (.int 12 t)
section
variable {P : Program} {w : World} {K : PySem.W.Frag} {mg : Str → Option Value} {base : Heap} {f fS fW fU : Addr} {fd fdS fdW fdU : FuncData}
theorem sc_entry : FnScope ["entry", "c", "bases", "fields", "methods"] ["entry", "c"] (defScope (top 34)) := ⟨rfl, rfl, rfl, by decide +kernel, rfl, by decide +kernel, by decide +kernel⟩
theorem ok_entry (F : FnP K "entry_fault" 34 f fd) (B : Fr mg) (Z : Cst mg) (FS : FnP K "is_sequence" 10 fS fdS) (mS : mg "is_sequence" = some (.ref fS)) (FW : FnDf K "is_whole" 11 [.non, .non] fW fdW) (mW : mg "is_whole" = some (.ref fW))
    (FU : FnP K "is_unlike_row" 12 fU fdU) (mU : mg "is_unlike_row" = some (.ref fU)) : FnOk P w K mg base CX0 3 f fd ["entry", "c"] spEntry := by
  have GS : FnOk P w K mg base CX0 1 fS fdS ["thing"] spIsSeq := ok_isSeq FS B
  have GW : FnOk P w K mg base CX0 1 fW fdW ["thing", "low", "high"] spWhole := ok_whole FW B
  have GU : FnOk P w K mg base CX0 2 fU fdU ["thing", "many"] spUnlike := ok_unlike FU B FS mS FW mW
  have bS : L2.Binds K fdS ["thing"] [] := FS.bindsN fun _ _ _ _ _ _ us hl => match us, hl with | [_], _ => rfl
  have bU : L2.Binds K fdU ["thing", "many"] [] := FU.bindsN fun _ _ _ _ _ _ us hl => match us, hl with | [_, _], _ => rfl
  have bW := binds_whole3 FW
  obtain ⟨tf, zf⟩ := Z.mf
  obtain ⟨tm, zm⟩ := Z.mm
  obtain ⟨tn, zn⟩ := Z.mn
  refine F.ok sc_entry (fun vs H Q E h => ?_) (fun cdv A outer s H vs Q E hr h => ?_)
  · obtain ⟨x, c, what, rfl, _⟩ := h
    rfl
  · obtain ⟨x, c, what, rfl, h, k⟩ := h
    -- what is asked of an entry of three, its parts at hand
    have parts : ∀ (H1 : Hp) (y b g m : V) (rb rm : Bool) (nb nm : Nat) (tg : String), UnlikeIs H1 b c rb nb → Ty0 H1 g tg → UnlikeIs H1 m 6 rm nm → (∀ H', Same H1 H' → Q (optV (entryWord rb rm (wholeB (.int 0) (.int 3) g) nm)) H') →
        (tSeq (tIfS (tNot (tB (tCall spUnlike [] E0 (tCons (tVar 2) (tCons (tVar 1) tNil))))) (tRet (tC (.str "base"))) tNext) (tSeq (tIfS (tNot (tB (tCall spWhole [] E0 (tCons (tVar 3) (tCons (tC (.int 0)) (tCons (tC (.int 3)) tNil)))))) (tRet (tC (.str "fields"))) tNext) (tSeq (tIfS (tOr (tNot (tB (tCall spUnlike [] E0 (tCons (tVar 4) (tCons (tC (.int 6)) tNil))))) (tTest (tOp (rI0 fun i j => .bl (decide (j < i))) (tCB (fun xs H Q => ∃ p ys, xs = [.ref p] ∧ (SqL K H p ys ∨ SqT K H p ys) ∧ Q (.int ys.length) H) (tCons (tVar 4) tNil)) (tC (.int 3))))) (tRet (tC (.str "method"))) tNext) (tRet (tC .non))))) { nx := fun _ H' => Q .non H', rt := Q } [some y, some (.int c), some b, some g, some m] H1 := by
      intro H1 y b g m rb rm nb nm tg hb hg hm k
      refine ⟨_, rfl, _, rfl, b, c, rb, nb, rfl, hb, fun H2 s2 => ⟨_, rfl, ?_⟩⟩
      cases rb with
      | false => exact iteT (k H2 s2)
      | true =>
        refine iteF ⟨_, rfl, g, _, _, tg, rfl, hg.same s2, .inr ⟨_, rfl⟩, .inr ⟨_, rfl⟩, _, rfl, ?_⟩
        cases hw : wholeB (.int 0) (.int 3) g with
        | false =>
          rw [hw] at k
          exact iteT (k H2 s2)
        | true =>
          rw [hw] at k
          refine iteF ⟨_, rfl, m, 6, rm, nm, rfl, hm.same s2, fun H3 s3 => ⟨_, rfl, ?_⟩⟩
          cases rm with
          | false => exact iteT (k H3 (s2.trans s3))
          | true =>
            refine iteF ?_
            rcases hm with ⟨t, ty, e1, e2⟩ | ⟨a, xs, rfl, hA, hl, hty, e1, e2⟩
            · cases e2
            · refine ⟨_, rfl, a, xs, rfl, ((hA.same s2).same s3).sq, _, _, rfl, rfl, _, rfl, ?_⟩
              have k3 := k H3 (s2.trans s3)
              by_cases q : (3 : Int) < (xs.length : Int)
              · have q' : 3 < nm := by omega
                unfold entryWord at k3
                rw [if_neg (by decide), if_neg (by decide), if_neg (by decide), if_pos q'] at k3
                rw [decide_eq_true q]
                exact iteT k3
              · have q' : ¬ 3 < nm := by omega
                unfold entryWord at k3
                rw [if_neg (by decide), if_neg (by decide), if_neg (by decide), if_neg q'] at k3
                rw [decide_eq_false q]
                exact iteF k3
    rcases h with ⟨t, ty, hs, e⟩ | ⟨a, xs, rfl, hA, hn, e⟩ | ⟨a, b, g, m, rb, nb, tg, rm, nm, rfl, hA, hb, hg, hm, e⟩
    · subst e
      refine ⟨_, PSs.nox (pss_cons (ps_if (PW.pt (pw_or (pt_not (pt_val (pe_call GS (hr.mono (by decide)) (by rfl) mS FS.kp bS .nil pass0 (pa_cons (pv 0) pa_nil)))) (pw_or1 (pt_cmpR op_ne (pe_callB call_len_seq (by rfl) B.len PySem.boot_len (pa_cons (pv 0) pa_nil)) pe_int (nomark _))))) (pss_one (ps_ret pe_str)) pss_nil)
        (pss_cons (ps_asg (pv 0) (pg_tup (by rfl) (pgs_cons (pg_name (i := 2) sc_entry.nd rfl (Or.inl rfl)) (pgs_cons (pg_name (i := 3) sc_entry.nd rfl (Or.inl rfl)) (pgs_cons (pg_name (i := 4) sc_entry.nd rfl (Or.inl rfl)) pgs_nil)))))
        (pss_cons (ps_if (pt_not (pt_val (pe_call GU hr (by rfl) mU FU.kp bU .nil pass0 (pa_cons (pv 2) (pa_cons (pv 1) pa_nil))))) (pss_one (ps_ret pe_str)) pss_nil)
        (pss_cons (ps_if (pt_not (pt_val (pe_call GW (hr.mono (by decide)) (by rfl) mW FW.kp bW .nil pass0 (pa_cons (pv 3) (pa_cons pe_int (pa_cons (pe_glob (v := .int 3) (by rfl) zf ⟨_, rfl⟩) pa_nil)))))) (pss_one (ps_ret pe_str)) pss_nil)
        (pss_cons (ps_if (PW.pt (pw_or (pt_not (pt_val (pe_call GU hr (by rfl) mU FU.kp bU .nil pass0 (pa_cons (pv 4) (pa_cons (pe_glob (v := .int 6) (by rfl) zn ⟨_, rfl⟩) pa_nil))))) (pw_or1 (pt_cmpR op_gt (pe_callB call_len_seq (by rfl) B.len PySem.boot_len (pa_cons (pv 4) pa_nil)) (pe_glob (v := .int 3) (by rfl) zm ⟨_, rfl⟩) (nomark _))))) (pss_one (ps_ret pe_str)) pss_nil)
        (pss_one (ps_ret pe_non))))))), ?_⟩
      refine ⟨_, rfl, x, t, rfl, ty, fun H1 s1 => ⟨_, rfl, ?_⟩⟩
      rw [hs]
      exact iteT (k H1 s1)
    · subst e
      obtain ⟨t, ty, hseq⟩ := hA.ty
      refine ⟨_, PSs.nox (pss_cons (ps_if (PW.pt (pw_or (pt_not (pt_val (pe_call GS (hr.mono (by decide)) (by rfl) mS FS.kp bS .nil pass0 (pa_cons (pv 0) pa_nil)))) (pw_or1 (pt_cmpR op_ne (pe_callB call_len_seq (by rfl) B.len PySem.boot_len (pa_cons (pv 0) pa_nil)) pe_int (nomark _))))) (pss_one (ps_ret pe_str)) pss_nil)
        (pss_cons (ps_asg (pv 0) (pg_tup (by rfl) (pgs_cons (pg_name (i := 2) sc_entry.nd rfl (Or.inl rfl)) (pgs_cons (pg_name (i := 3) sc_entry.nd rfl (Or.inl rfl)) (pgs_cons (pg_name (i := 4) sc_entry.nd rfl (Or.inl rfl)) pgs_nil)))))
        (pss_cons (ps_if (pt_not (pt_val (pe_call GU hr (by rfl) mU FU.kp bU .nil pass0 (pa_cons (pv 2) (pa_cons (pv 1) pa_nil))))) (pss_one (ps_ret pe_str)) pss_nil)
        (pss_cons (ps_if (pt_not (pt_val (pe_call GW (hr.mono (by decide)) (by rfl) mW FW.kp bW .nil pass0 (pa_cons (pv 3) (pa_cons pe_int (pa_cons (pe_glob (v := .int 3) (by rfl) zf ⟨_, rfl⟩) pa_nil)))))) (pss_one (ps_ret pe_str)) pss_nil)
        (pss_cons (ps_if (PW.pt (pw_or (pt_not (pt_val (pe_call GU hr (by rfl) mU FU.kp bU .nil pass0 (pa_cons (pv 4) (pa_cons (pe_glob (v := .int 6) (by rfl) zn ⟨_, rfl⟩) pa_nil))))) (pw_or1 (pt_cmpR op_gt (pe_callB call_len_seq (by rfl) B.len PySem.boot_len (pa_cons (pv 4) pa_nil)) (pe_glob (v := .int 3) (by rfl) zm ⟨_, rfl⟩) (nomark _))))) (pss_one (ps_ret pe_str)) pss_nil)
        (pss_one (ps_ret pe_non))))))), ?_⟩
      refine ⟨_, rfl, _, t, rfl, ty, fun H1 s1 => ⟨_, rfl, ?_⟩⟩
      rw [hseq]
      refine iteF ⟨_, rfl, a, xs, rfl, (hA.same s1).sq, rfl, _, rfl, ?_⟩
      have z : decide (V.int (xs.length : Int) = V.int 3) = false := decide_eq_false fun q => hn (by have := V.int.inj q; omega)
      rw [z]
      exact iteT (k H1 s1)
    · subst e
      obtain ⟨t, ty, hseq⟩ := hA.ty
      rcases hA with hA | hA
      · refine ⟨_, PSs.nox (pss_cons (ps_if (PW.pt (pw_or (pt_not (pt_val (pe_call GS (hr.mono (by decide)) (by rfl) mS FS.kp bS .nil pass0 (pa_cons (pv 0) pa_nil)))) (pw_or1 (pt_cmpR op_ne (pe_callB call_len_seq (by rfl) B.len PySem.boot_len (pa_cons (pv 0) pa_nil)) pe_int (nomark _))))) (pss_one (ps_ret pe_str)) pss_nil)
        (pss_cons (ps_asg (pv 0) (pg_unl (by rfl) (pgs_cons (pg_name (i := 2) sc_entry.nd rfl (Or.inl rfl)) (pgs_cons (pg_name (i := 3) sc_entry.nd rfl (Or.inl rfl)) (pgs_cons (pg_name (i := 4) sc_entry.nd rfl (Or.inl rfl)) pgs_nil)))))
        (pss_cons (ps_if (pt_not (pt_val (pe_call GU hr (by rfl) mU FU.kp bU .nil pass0 (pa_cons (pv 2) (pa_cons (pv 1) pa_nil))))) (pss_one (ps_ret pe_str)) pss_nil)
        (pss_cons (ps_if (pt_not (pt_val (pe_call GW (hr.mono (by decide)) (by rfl) mW FW.kp bW .nil pass0 (pa_cons (pv 3) (pa_cons pe_int (pa_cons (pe_glob (v := .int 3) (by rfl) zf ⟨_, rfl⟩) pa_nil)))))) (pss_one (ps_ret pe_str)) pss_nil)
        (pss_cons (ps_if (PW.pt (pw_or (pt_not (pt_val (pe_call GU hr (by rfl) mU FU.kp bU .nil pass0 (pa_cons (pv 4) (pa_cons (pe_glob (v := .int 6) (by rfl) zn ⟨_, rfl⟩) pa_nil))))) (pw_or1 (pt_cmpR op_gt (pe_callB call_len_seq (by rfl) B.len PySem.boot_len (pa_cons (pv 4) pa_nil)) (pe_glob (v := .int 3) (by rfl) zm ⟨_, rfl⟩) (nomark _))))) (pss_one (ps_ret pe_str)) pss_nil)
        (pss_one (ps_ret pe_non))))))), ?_⟩
        refine ⟨_, rfl, _, t, rfl, ty, fun H1 s1 => ⟨_, rfl, ?_⟩⟩
        rw [hseq]
        refine iteF ⟨_, rfl, a, _, rfl, .inl (SqL.of (s1 _ _ hA)), rfl, _, rfl, iteF ?_⟩
        refine ⟨_, rfl, a, _, rfl, SqL.of (s1 _ _ hA), rfl, _, _, rfl, _, _, rfl, _, _, rfl, rfl, ?_⟩
        exact parts H1 _ b g m rb rm nb nm tg (hb.same s1) (hg.same s1) (hm.same s1) fun H' s => k H' (s1.trans s)
      · refine ⟨_, PSs.nox (pss_cons (ps_if (PW.pt (pw_or (pt_not (pt_val (pe_call GS (hr.mono (by decide)) (by rfl) mS FS.kp bS .nil pass0 (pa_cons (pv 0) pa_nil)))) (pw_or1 (pt_cmpR op_ne (pe_callB call_len_seq (by rfl) B.len PySem.boot_len (pa_cons (pv 0) pa_nil)) pe_int (nomark _))))) (pss_one (ps_ret pe_str)) pss_nil)
        (pss_cons (ps_asg (pv 0) (pg_tup (by rfl) (pgs_cons (pg_name (i := 2) sc_entry.nd rfl (Or.inl rfl)) (pgs_cons (pg_name (i := 3) sc_entry.nd rfl (Or.inl rfl)) (pgs_cons (pg_name (i := 4) sc_entry.nd rfl (Or.inl rfl)) pgs_nil)))))
        (pss_cons (ps_if (pt_not (pt_val (pe_call GU hr (by rfl) mU FU.kp bU .nil pass0 (pa_cons (pv 2) (pa_cons (pv 1) pa_nil))))) (pss_one (ps_ret pe_str)) pss_nil)
        (pss_cons (ps_if (pt_not (pt_val (pe_call GW (hr.mono (by decide)) (by rfl) mW FW.kp bW .nil pass0 (pa_cons (pv 3) (pa_cons pe_int (pa_cons (pe_glob (v := .int 3) (by rfl) zf ⟨_, rfl⟩) pa_nil)))))) (pss_one (ps_ret pe_str)) pss_nil)
        (pss_cons (ps_if (PW.pt (pw_or (pt_not (pt_val (pe_call GU hr (by rfl) mU FU.kp bU .nil pass0 (pa_cons (pv 4) (pa_cons (pe_glob (v := .int 6) (by rfl) zn ⟨_, rfl⟩) pa_nil))))) (pw_or1 (pt_cmpR op_gt (pe_callB call_len_seq (by rfl) B.len PySem.boot_len (pa_cons (pv 4) pa_nil)) (pe_glob (v := .int 3) (by rfl) zm ⟨_, rfl⟩) (nomark _))))) (pss_one (ps_ret pe_str)) pss_nil)
        (pss_one (ps_ret pe_non))))))), ?_⟩
        refine ⟨_, rfl, _, t, rfl, ty, fun H1 s1 => ⟨_, rfl, ?_⟩⟩
        rw [hseq]
        refine iteF ⟨_, rfl, a, _, rfl, .inr (SqT.of (s1 _ _ hA)), rfl, _, rfl, iteF ?_⟩
        refine ⟨_, rfl, a, _, rfl, SqT.of (s1 _ _ hA), rfl, _, _, rfl, _, _, rfl, _, _, rfl, rfl, ?_⟩
        exact parts H1 _ b g m rb rm nb nm tg (hb.same s1) (hg.same s1) (hm.same s1) fun H' s => k H' (s1.trans s)
end
end K83

set_option maxRecDepth 100000
set_option maxHeartbeats 4000000
namespace Kw
open PySem PySem.Spec PyProof.Rows L2
theorem ints_at : ∀ {us : List Value} {ks : List Int}, us.length = ks.length → (∀ (j : Nat) (v : Value), us[j]? = some v → ∃ (x : Int) (t : Tok), ks[j]? = some x ∧ v = Value.int x t) → IntsAre us ks
  | [], [], _, _ => .nil
  | u :: us, k :: ks, hl, h => by
    obtain ⟨x, t, e1, e2⟩ := h 0 u rfl
    obtain rfl : k = x := Option.some.inj e1
    rw [e2]
    exact .cons _ _ (ints_at (Nat.succ.inj hl) fun j v e => h (j + 1) v e)
  | [], _ :: _, hl, _ => by cases hl
  | _ :: _, [], hl, _ => by cases hl
/-- sorted(d), d a dict whose keys are ints -/
def rSortDI : List V → Hp → VK → Prop := fun xs H Q => ∃ (a : Addr) (kvs : List (Key × V)) (ks : List Int), xs = [.ref a] ∧ Rd H a (.dK kvs) ∧ kvs.map (·.1) = ks.map Sum.inl ∧ ks.length ≤ 4000 ∧
  ∀ (ys : List Int) (p : Addr), ys.Perm ks → ys.Pairwise (· ≤ ·) → H p = none → Q (.ref p) (upd H p (.lst (ys.map V.int)))
theorem call_sortedDI {X : Cx} (hcalm : X.calm = true) : CallR X (.builtin "sorted") rSortDI := by
  intro pins s σ H xs us Q I r q
  obtain ⟨a, kvs, ks, ex, hd, hks, h64, q⟩ := q
  subst ex
  obtain ⟨u, eu, rx⟩ := vals1 r
  subst eu
  obtain rfl : u = Value.ref a := rx
  obtain ⟨z, lo, vs, rel, dd⟩ := dk_rd I.hok hd
  obtain ⟨ep, hat⟩ := dd.dictAt
  have hkeys : vs.map (·.1) = ks.map Sum.inl := rel.keys.symm.trans hks
  have hl : vs.length = ks.length := by simpa using congrArg List.length hkeys
  have h16 : vs.length ≤ sizeLine := by rw [hl]; exact Nat.le_trans h64 (by decide)
  refine Calls.call_function_entry kind_sorted plain_sorted entry_sorted (args_sorted1 _) ?_
  unfold Builtin.«sorted»
  refine wpAny_bind (m := checkCount "sorted" 1 1 _) (wpAny_pure (wpAny_bind ?_))
  refine PySem.W.kdu_collect (A := X.A.in1) (PySem.W.kdl_dict (knd := mixKind X.prog X.w) (kvs := vs) (ep := ep) lo) (I.ok.hd hcalm) hat h16 fun h' tk acc hk hacc => ?_
  have hal : acc.toList.length = ks.length := by rw [Array.length_toList, hacc.1, hl]
  have hI : IntsAre acc.toList ks := ints_at hal fun j v e => by
    obtain ⟨k, x, e1, e2⟩ := hacc.2 j v (by rw [← Array.getElem?_toList]; exact e)
    have e3 : (vs.map (·.1))[j]? = some k := by rw [List.getElem?_map, e1] <;> rfl
    rw [hkeys, List.getElem?_map] at e3
    obtain ⟨y, e4, e5⟩ := Option.map_eq_some_iff.mp e3
    subst e5
    obtain ⟨t, ev⟩ := Value.isInt_shape (k := y) (v := v) e2
    exact ⟨y, t, e4, ev⟩
  have I1 : Inv X pins σ H { s with heap := h', toks := tk } := I.kept hk
  have hZ : acc.toList.length ≤ sizeLine := by rw [hal]; exact Nat.le_trans h64 (by decide)
  refine wpAny_bind (wpAny_newList ?_ hZ)
  have hoL : (h'.push (seqObj "list" acc.toList.toArray 0)).get? h'.objs.size = some (seqObj "list" acc.toList.toArray 0) := Heap.get?_push_size _ rfl
  show wpAny _ _ _ _ _ { s with heap := h'.push (seqObj "list" acc.toList.toArray 0), toks := tk }
  refine wpAny_bind (wpAny_holding (wpAny_call_entry slot_list_sort ⟨_, hoL, rfl⟩ entry_list_sort ?_ (args_list_sort _)))
  refine SrtO.list_sort_ord SrtO.swo_int hoL hZ (fun h2 => SrtO.ints_sortable hI h2) fun out g1 g2 => ⟨_, rfl, ?_⟩
  obtain ⟨k1, k2, k3⟩ := SrtO.ints_out hI g1 g2
  obtain ⟨e', he'⟩ := sortedHeap_at (vs := acc.toList) (out := out.toArray) hoL
  have hlen : ((out.map SrtO.iv).map V.int).length ≤ sizeLine := by
    rw [List.length_map, k2.length_eq]
    exact Nat.le_trans h64 (by decide)
  refine wpAny_pure ⟨_, rfl, .ref h'.objs.size, upd H h'.objs.size (.lst ((out.map SrtO.iv).map V.int)), I1.laid (t' := tk) (fun b u e => ?_) (Nat.le_refl _)
    (show ObjOk X.prog X.w _ _ _ (.lst ((out.map SrtO.iv).map V.int)) from ⟨hlen, out, e', vals_of_ints k1, he'⟩), rfl, q _ _ k2 k3 (I1.hok.fresh (Nat.le_refl _))⟩
  have hb : b < h'.objs.size := Heap.lt_size e
  rw [sortedHeap_old (Nat.ne_of_lt hb) (by rw [size_push']; exact Nat.lt_succ_of_lt hb)]
  exact Heap.get?_push_of_some _ e
end Kw

set_option maxRecDepth 100000
set_option maxHeartbeats 4000000
namespace K83
open PySem PySem.Spec PyProof.Rows L2 Kw
/-! ### elders, as plain lists -/
def isEld (rows : List (List Nat)) (row : List Nat) (e : Nat) : Bool := row.any fun b => e == b || (rows.getD b []).contains e
def elStep (rows : List (List Nat)) (row : List Nat) : List Nat := (List.range rows.length).filter (isEld rows row)
def elders (bs : List (List Nat)) : List (List Nat) := bs.foldl (fun rows row => rows ++ [elStep rows row]) []
def validB (bs : List (List Nat)) : Prop := ∀ (c : Nat) (row : List Nat), bs[c]? = some row → ∀ b ∈ row, b < c
theorem elders_more {bs : List (List Nat)} {i : Nat} {row : List Nat} (h : bs[i]? = some row) : elders (bs.take (i + 1)) = elders (bs.take i) ++ [elStep (elders (bs.take i)) row] := by
  unfold elders
  rw [List.take_add_one, h, Option.toList_some, List.foldl_append]
  rfl
theorem elders_len : ∀ (bs : List (List Nat)), (elders bs).length = bs.length := by
  intro bs
  have key : ∀ (bs : List (List Nat)) (acc : List (List Nat)), (bs.foldl (fun rows row => rows ++ [elStep rows row]) acc).length = acc.length + bs.length := by
    intro bs
    induction bs with
    | nil => intro acc; rfl
    | cons b r ih =>
      intro acc
      rw [List.foldl_cons, ih, List.length_append]
      simp only [List.length_cons, List.length_nil]
      omega
  have z := key bs []
  rw [List.length_nil, Nat.zero_add] at z
  exact z
theorem elStep_lt {rows : List (List Nat)} {row : List Nat} {e : Nat} (h : e ∈ elStep rows row) : e < rows.length := List.mem_range.mp (List.mem_filter.mp h).1
/-- every elder of an elder row lies below -/
theorem elders_lt : ∀ (bs : List (List Nat)) (c : Nat) (l : List Nat), (elders bs)[c]? = some l → ∀ e ∈ l, e < c := by
  intro bs
  have key : ∀ (bs : List (List Nat)) (acc : List (List Nat)), (∀ (c : Nat) (l : List Nat), acc[c]? = some l → ∀ e ∈ l, e < c) → ∀ (c : Nat) (l : List Nat), (bs.foldl (fun rows row => rows ++ [elStep rows row]) acc)[c]? = some l → ∀ e ∈ l, e < c := by
    intro bs
    induction bs with
    | nil => intro acc h; exact h
    | cons b r ih =>
      intro acc h
      rw [List.foldl_cons]
      refine ih _ fun c l hc e he => ?_
      by_cases q : c < acc.length
      · rw [List.getElem?_append_left q] at hc
        exact h c l hc e he
      · rw [List.getElem?_append_right (by omega)] at hc
        by_cases q2 : c - acc.length = 0
        · rw [q2] at hc
          have e1 : elStep acc b = l := Option.some.inj hc
          rw [← e1] at he
          have := elStep_lt he
          omega
        · rw [List.getElem?_eq_none (by rw [List.length_singleton]; omega)] at hc
          cases hc
  exact key bs [] fun c l h => by simp at h
/-! ### keys of a dict, as they are put in -/
def addN (ks : List Nat) (e : Nat) : List Nat := if e ∈ ks then ks else ks ++ [e]
def KeysAre (kvs : List (Key × V)) (ks : List Nat) : Prop := kvs.map (·.1) = ks.map fun (n : Nat) => (Sum.inl (n : Int) : Key)
theorem mem_addN {ks : List Nat} {e x : Nat} : x ∈ addN ks e ↔ x ∈ ks ∨ x = e := by
  unfold addN
  by_cases h : e ∈ ks
  · rw [if_pos h]
    exact ⟨.inl, fun q => q.elim id fun z => z ▸ h⟩
  · rw [if_neg h, List.mem_append, List.mem_singleton]
theorem nodup_addN {ks : List Nat} {e : Nat} (h : ks.Nodup) : (addN ks e).Nodup := by
  unfold addN
  by_cases q : e ∈ ks
  · rw [if_pos q]
    exact h
  · rw [if_neg q]
    refine List.nodup_append.mpr ⟨h, by simp, fun a ha b hb z => q ?_⟩
    rw [List.mem_singleton.mp hb] at z
    exact z ▸ ha
theorem len_addN {ks : List Nat} {e : Nat} : (addN ks e).length ≤ ks.length + 1 := by
  unfold addN
  split
  · omega
  · rw [List.length_append, List.length_singleton]; omega
theorem keys_put {kvs : List (Key × V)} {ks : List Nat} {e : Nat} {v : V} (h : KeysAre kvs ks) : KeysAre (putK kvs (Sum.inl (e : Int)) v) (addN ks e) := by
  have hm : ∀ n : Nat, (Sum.inl (n : Int) : Key) ∈ kvs.map (·.1) ↔ n ∈ ks := fun n => by
    rw [h, List.mem_map]
    constructor
    · rintro ⟨k, hk, e⟩
      have z : (k : Int) = (n : Int) := Sum.inl.inj e
      have z2 : k = n := by omega
      subst z2
      exact hk
    · exact fun hk => ⟨n, hk, rfl⟩
  unfold putK addN
  by_cases q : e ∈ ks
  · have a : (kvs.any fun kv => decide (kv.1 = (Sum.inl (e : Int) : Key))) = true := by
      obtain ⟨kv, h1, h2⟩ := List.mem_map.mp ((hm e).mpr q)
      exact List.any_eq_true.mpr ⟨kv, h1, decide_eq_true h2⟩
    rw [if_pos a, if_pos q]
    unfold KeysAre
    rw [List.map_map, ← h]
    refine List.map_congr_left fun kv _ => ?_
    show (if kv.1 = Sum.inl (e : Int) then (kv.1, v) else kv).1 = kv.1
    split <;> rfl
  · have a : ¬ (kvs.any fun kv => decide (kv.1 = (Sum.inl (e : Int) : Key))) = true := fun z => by
      obtain ⟨kv, h1, h2⟩ := List.any_eq_true.mp z
      exact q ((hm e).mp (List.mem_map.mpr ⟨kv, h1, of_decide_eq_true h2⟩))
    rw [if_neg a, if_neg q]
    unfold KeysAre
    rw [List.map_append, List.map_append, h]
    rfl
/-! ### a list of tuples of numbers -/
def natV (n : Nat) : V := V.int (n : Int)
def TupsAt (H : Hp) : List V → List (List Nat) → Prop := Paired fun v l => ∃ t, v = .ref t ∧ H t = some (.tup (l.map natV))
theorem TupsAt.mono {H H' : Hp} (k : ∀ b xs, H b = some (.tup xs) → H' b = some (.tup xs)) : ∀ {vs : List V} {ls : List (List Nat)}, TupsAt H vs ls → TupsAt H' vs ls
  | [], [], _ => .nil
  | _ :: _, _ :: _, .cons ⟨t, e, h⟩ r => .cons ⟨t, e, k _ _ h⟩ (TupsAt.mono k r)
theorem TupsAt.same {H H' : Hp} {vs : List V} {ls : List (List Nat)} (h : TupsAt H vs ls) (s : Same H H') : TupsAt H' vs ls := h.mono fun b xs e => s b _ e
theorem TupsAt.len {H : Hp} {vs : List V} {ls : List (List Nat)} (h : TupsAt H vs ls) : vs.length = ls.length := Paired.length h
theorem TupsAt.get {H : Hp} : ∀ {vs : List V} {ls : List (List Nat)} {i : Nat} {l : List Nat}, TupsAt H vs ls → ls[i]? = some l → ∃ t, vs[i]? = some (.ref t) ∧ H t = some (.tup (l.map natV))
  | [], [], _, _, _, h => by simp at h
  | _ :: _, _ :: _, 0, _, .cons ⟨t, e1, h⟩ _, e => by
    obtain rfl := Option.some.inj e
    exact ⟨t, by rw [e1]; rfl, h⟩
  | _ :: _, _ :: _, i + 1, _, .cons _ r, e => TupsAt.get (i := i) r e
theorem TupsAt.app {H : Hp} : ∀ {vs us : List V} {ls ms : List (List Nat)}, TupsAt H vs ls → TupsAt H us ms → TupsAt H (vs ++ us) (ls ++ ms)
  | [], _, [], _, _, h => h
  | _ :: _, _, _ :: _, _, .cons h r, s => .cons h (TupsAt.app r s)
/-- a list's or a dict's place written: tuples stand -/
theorem tups_upd {H : Hp} {a : Addr} {o u : HO} (ha : H a = some o) (hn : ∀ xs, o ≠ .tup xs) : ∀ b xs, H b = some (.tup xs) → upd H a u b = some (.tup xs) := fun b xs e => by
  have ne : b ≠ a := fun z => by
    rw [z, ha] at e
    exact hn xs (Option.some.inj e)
  rw [upd_ne ne]
  exact e
theorem sorted_one {ys : List Int} {a b : List Nat} (p : ys.Perm (a.map fun (n : Nat) => (n : Int))) (hs : ys.Pairwise (· ≤ ·)) (ha : a.Nodup) (hb : b.Nodup) (hm : ∀ x, x ∈ a ↔ x ∈ b) (hbs : b.Pairwise (· < ·)) : ys.map V.int = b.map natV := by
  have p2 : ys.Perm (b.map fun (n : Nat) => (n : Int)) := p.trans (((List.perm_ext_iff_of_nodup ha hb).mpr hm).map _)
  have hb2 : (b.map fun (n : Nat) => (n : Int)).Pairwise (· ≤ ·) := List.pairwise_map.mpr (hbs.imp fun h => by omega)
  have e : ys = b.map fun (n : Nat) => (n : Int) := p2.eq_of_pairwise (fun x y _ _ h1 h2 => Int.le_antisymm h1 h2) hs hb2
  rw [e, List.map_map]
  rfl
end K83

set_option maxRecDepth 100000
set_option maxHeartbeats 4000000
namespace K83
open PySem PySem.Spec PyProof.Rows L2 Kw
theorem same_upd {H0 H1 : Hp} {p : Addr} {o : HO} (s : Same H0 H1) (hp : H0 p = none) : Same H0 (upd H1 p o) := fun b u e => by
  rw [upd_ne (ne_of_none e hp)]
  exact s b u e
/-- a dict that holds just these numbers as keys -/
def DictHas (H : Hp) (p : Addr) (P : Nat → Prop) (n : Nat) : Prop := ∃ kvs ks, H p = some (.dK kvs) ∧ KeysAre kvs ks ∧ ks.Nodup ∧ ks.length ≤ n ∧ kvs.length ≤ n ∧ ∀ x, x ∈ ks ↔ P x
theorem DictHas.put {H : Hp} {p : Addr} {P : Nat → Prop} {n e : Nat} {v : V} (h : DictHas H p P n) (hn : n < sizeLine) : ∃ H', DPut H p (.int (e : Int)) v H' ∧ (∃ o, H' = upd H p o) ∧ DictHas H' p (fun x => P x ∨ x = e) (n + 1) := by
  obtain ⟨kvs, ks, h1, h2, h3, h4, h5, h6⟩ := h
  refine ⟨_, DPut.k (k := Sum.inl (e : Int)) h1 (by omega), ⟨_, rfl⟩, _, addN ks e, upd_same, keys_put h2, nodup_addN h3, Nat.le_trans len_addN (by omega), Nat.le_trans (length_putK _ _ _) (by omega), fun x => ?_⟩
  rw [mem_addN, h6]
theorem DictHas.iff {H : Hp} {p : Addr} {P P' : Nat → Prop} {n : Nat} (h : DictHas H p P n) (k : ∀ x, P x ↔ P' x) : DictHas H p P' n := by
  obtain ⟨kvs, ks, h1, h2, h3, h4, h5, h6⟩ := h
  exact ⟨kvs, ks, h1, h2, h3, h4, h5, fun x => (h6 x).trans (k x)⟩
theorem DictHas.le {H : Hp} {p : Addr} {P : Nat → Prop} {n m : Nat} (h : DictHas H p P n) (k : n ≤ m) : DictHas H p P m := by
  obtain ⟨kvs, ks, h1, h2, h3, h4, h5, h6⟩ := h
  exact ⟨kvs, ks, h1, h2, h3, by omega, by omega, h6⟩
theorem elStep_mem {rows : List (List Nat)} {row : List Nat} (hlt : ∀ b ∈ row, b < rows.length) (hr : ∀ (c : Nat) (l : List Nat), rows[c]? = some l → ∀ e ∈ l, e < c) (x : Nat) : x ∈ elStep rows row ↔ ∃ b ∈ row, x = b ∨ x ∈ rows.getD b [] := by
  unfold elStep isEld
  rw [List.mem_filter, List.mem_range, List.any_eq_true]
  constructor
  · rintro ⟨_, b, hb, h⟩
    refine ⟨b, hb, ?_⟩
    rw [Bool.or_eq_true] at h
    exact h.imp (fun h => by simpa using h) fun h => by simpa using h
  · rintro ⟨b, hb, h⟩
    have hbl := hlt b hb
    refine ⟨?_, b, hb, ?_⟩
    · rcases h with h | h
      · omega
      · have e : rows[b]? = some (rows.getD b []) := by
          rw [List.getElem?_eq_getElem hbl, List.getD_eq_getElem?_getD, List.getElem?_eq_getElem hbl]
          rfl
        have := hr b _ e x h
        omega
    · rw [Bool.or_eq_true]
      exact h.imp (fun h => by simpa using h) fun h => by simpa using h
theorem elStep_up (rows : List (List Nat)) (row : List Nat) : (elStep rows row).Pairwise (· < ·) := List.Pairwise.filter _ List.pairwise_lt_range
theorem elStep_len (rows : List (List Nat)) (row : List Nat) : (elStep rows row).length ≤ rows.length := by
  have := List.length_filter_le (isEld rows row) (List.range rows.length)
  rw [List.length_range] at this
  exact this
theorem up_nodup {l : List Nat} (h : l.Pairwise (· < ·)) : l.Nodup := h.imp fun h => Nat.ne_of_lt h
theorem elders_len_row : ∀ (bs : List (List Nat)) (c : Nat) (l : List Nat), (elders bs)[c]? = some l → l.length ≤ bs.length := by
  intro bs
  have key : ∀ (bs : List (List Nat)) (acc : List (List Nat)), (∀ l ∈ acc, l.length ≤ acc.length) → ∀ l ∈ bs.foldl (fun rows row => rows ++ [elStep rows row]) acc, l.length ≤ acc.length + bs.length := by
    intro bs
    induction bs with
    | nil => intro acc h l hl; exact Nat.le_trans (h l hl) (Nat.le_add_right _ _)
    | cons b r ih =>
      intro acc h l hl
      rw [List.foldl_cons] at hl
      have hlen : (acc ++ [elStep acc b]).length = acc.length + 1 := by rw [List.length_append]; rfl
      have := ih (acc ++ [elStep acc b]) (fun l hl => by
        rw [hlen]
        rcases List.mem_append.mp hl with hl | hl
        · exact Nat.le_succ_of_le (h l hl)
        · rw [List.mem_singleton.mp hl]
          exact Nat.le_succ_of_le (elStep_len _ _)) l hl
      rw [hlen] at this
      rw [List.length_cons]
      omega
  intro c l h
  have := key bs [] (fun l hl => by cases hl) l (List.mem_of_getElem? h)
  rw [List.length_nil, Nat.zero_add] at this
  exact this
section
variable {P : Program} {w : World} {K : PySem.W.Frag} {mg : Str → Option Value} {base : Heap} {f : Addr} {fd : FuncData}
def spElders : Sp := fun vs H Q _ => ∃ (a : Addr) (ws : List V) (bs : List (List Nat)), vs = [.ref a] ∧ H a = some (.tup ws) ∧ TupsAt H ws bs ∧ validB bs ∧ bs.length ≤ 12 ∧ (∀ row ∈ bs, row.length ≤ 12) ∧
  ∀ H' p us, Same H H' → H' p = some (.tup us) → TupsAt H' us (elders bs) → Q (.ref p) H'
theorem sc_elders : FnScope ["bases", "rows", "row", "found", "base", "elder"] ["bases"] (defScope (top 35)) := ⟨rfl, rfl, rfl, by decide +kernel, rfl, by decide +kernel, by decide +kernel⟩
theorem ok_elders (F : FnP K "elder_rows" 35 f fd) (B : Fr mg) : FnOk P w K mg base CX0 1 f fd ["bases"] spElders := by
  refine F.ok sc_elders (fun vs H Q E h => ?_) (fun cdv A outer s H vs Q E hr h => ?_)
  · obtain ⟨a, ws, bs, rfl, _⟩ := h
    rfl
  · obtain ⟨a, ws, bs, rfl, hA, hT, hv, h12, hr12, k⟩ := h
    refine ⟨_, PSs.nox (pss_cons (ps_set (i := 1) sc_elders.nd rfl (Or.inl rfl) (pe_lst pa_nil))
      (pss_cons (ps_for PassesOwn.never rfl (pi_tup (pv 0)) (pg_name (i := 2) sc_elders.nd rfl (Or.inl rfl))
        (pss_cons (ps_set (i := 3) sc_elders.nd rfl (Or.inl rfl) pe_dnewK)
        (pss_cons (ps_for PassesOwn.never rfl (pi_tup (pv 2)) (pg_name (i := 4) sc_elders.nd rfl (Or.inl rfl))
          (pss_cons (ps_dput (hu_of hr) (pv 3) (pv 4) pe_bl rfl)
          (pss_one (ps_for PassesOwn.never rfl (pi_tup (pe_ix ix_list (pv 1) (pv 4) (fun _ _ => rfl))) (pg_name (i := 5) sc_elders.nd rfl (Or.inl rfl))
            (pss_one (ps_dput (hu_of hr) (pv 3) (pv 5) pe_bl rfl))))))
        (pss_one (ps_expr (pe_bm PySem.F.plainAttrs_list PySem.F.slot_list_append PySem.F.type_list_append mt_append (pv 1) (pa_cons (pe_callTy call_tuple_of (by rfl) B.tuple (by decide +kernel) (pa_cons (pe_callB (Kw.call_sortedDI rfl) (by rfl) B.sorted (by decide +kernel) (pa_cons (pv 3) pa_nil)) pa_nil)) pa_nil)))))))
      (pss_one (ps_ret (pe_callTy call_tuple_of (by rfl) B.tuple (by decide +kernel) (pa_cons (pv 1) pa_nil)))))), ?_⟩
    refine ⟨by decide, fun R hR => ?_⟩
    refine ⟨_, rfl, a, rfl, ⟨_, SqT.of (same_new hR _ _ hA)⟩, for_tup (K := K) (a := a) (xs := ws) (fun i σ H' => Same H H' ∧ ∃ us x y z u, σ = [some (.ref a), some (.ref R), x, y, z, u] ∧ H' R = some (.lst us) ∧ TupsAt H' us (elders (bs.take i)))
      ⟨same_new hR, [], none, none, none, none, rfl, upd_same, .nil⟩ (fun i σ H' _ h => SqT.of (h.1 _ _ hA)) ?_ ?_⟩
    · rintro i y σ H' hi ⟨sH, us, x0, y0, z0, u0, rfl, hRu, hU⟩
      have hbl : ws.length = bs.length := hT.len
      have hil : i < bs.length := by
        rw [← hbl]
        exact (List.getElem?_eq_some_iff.mp hi).1
      obtain ⟨row, hrow⟩ : ∃ row, bs[i]? = some row := ⟨_, List.getElem?_eq_getElem hil⟩
      obtain ⟨t, et, ht⟩ := hT.get hrow
      obtain rfl : V.ref t = y := Option.some.inj (et.symm.trans hi)
      have hE : (elders (bs.take i)).length = i := by rw [elders_len, List.length_take, Nat.min_eq_left (Nat.le_of_lt hil)]
      have hlt : ∀ b ∈ row, b < i := hv i row hrow
      have hrl : row.length ≤ 12 := hr12 row (List.mem_of_getElem? hrow)
      have hus : us.length = i := hU.len.trans hE
      refine fun p hp => ?_
      have sp : Same H' (upd H' p (.dK [])) := same_new hp
      refine ⟨_, rfl, t, rfl, ⟨_, SqT.of (sp _ _ (sH _ _ ht))⟩, for_tup (K := K) (a := t) (xs := row.map natV) (fun j σ H2 => Same H' H2 ∧ ∃ z u, σ = [some (.ref a), some (.ref R), some (.ref t), some (.ref p), z, u] ∧ DictHas H2 p (fun x => ∃ b ∈ row.take j, x = b ∨ x ∈ (elders (bs.take i)).getD b []) (j * 14))
        ⟨sp, z0, u0, rfl, [], [], upd_same, rfl, List.nodup_nil, Nat.zero_le _, Nat.zero_le _, fun x => by simp⟩ (fun j σ H2 _ h => SqT.of (h.1 _ _ (sH _ _ ht))) ?_ ?_⟩
      · rintro j y σ H2 hj ⟨s2, z1, u1, rfl, hD⟩
        rw [List.getElem?_map] at hj
        obtain ⟨b, hb, rfl⟩ := Option.map_eq_some_iff.mp hj
        have hjl : j < row.length := (List.getElem?_eq_some_iff.mp hb).1
        have hbi : b < i := hlt b (List.mem_of_getElem? hb)
        obtain ⟨H3, hput, ⟨o3, e3⟩, hD3⟩ := hD.put (e := b) (v := .bl true) (by show j * 14 < 2 ^ 24; omega)
        have s3 : Same H' H3 := by
          rw [e3]
          exact same_upd s2 hp
        refine ⟨_, rfl, _, rfl, p, H3, rfl, hput, ?_⟩
        obtain ⟨l, hl⟩ : ∃ l, (elders (bs.take i))[b]? = some l := ⟨_, List.getElem?_eq_getElem (by rw [hE]; exact hbi)⟩
        have hgd : (elders (bs.take i)).getD b [] = l := by
          rw [List.getD_eq_getElem?_getD, hl]
          rfl
        have hll : l.length ≤ 12 := by
          have := elders_len_row _ _ _ hl
          rw [List.length_take] at this
          omega
        obtain ⟨q, eq, hq⟩ := hU.get hl
        refine ⟨_, rfl, _, rfl, R, us, _, _, rfl, rfl, SqL.of (s3 _ _ hRu), atI_nat eq, q, rfl, ⟨_, SqT.of (s3 _ _ hq)⟩, for_tup (K := K) (a := q) (xs := l.map natV) (fun m σ H4 => Same H' H4 ∧ ∃ u, σ = [some (.ref a), some (.ref R), some (.ref t), some (.ref p), some (natV b), u] ∧ DictHas H4 p (fun x => ((∃ b ∈ row.take j, x = b ∨ x ∈ (elders (bs.take i)).getD b []) ∨ x = b) ∨ x ∈ l.take m) (j * 14 + 1 + m))
          ⟨s3, u1, rfl, hD3.iff fun x => by simp⟩ (fun m σ H4 _ h => SqT.of (h.1 _ _ hq)) ?_ ?_⟩
        · rintro m y σ H4 hm ⟨s4, u2, rfl, hD4⟩
          rw [List.getElem?_map] at hm
          obtain ⟨e, he, rfl⟩ := Option.map_eq_some_iff.mp hm
          have hml : m < l.length := (List.getElem?_eq_some_iff.mp he).1
          obtain ⟨H5, hput5, ⟨o5, e5⟩, hD5⟩ := hD4.put (e := e) (v := .bl true) (by show j * 14 + 1 + m < 2 ^ 24; omega)
          refine ⟨_, rfl, _, rfl, p, H5, rfl, hput5, by rw [e5]; exact same_upd s4 hp, _, rfl, hD5.iff fun x => ?_⟩
          rw [List.take_add_one, he, Option.toList_some, List.mem_append, List.mem_singleton, or_assoc]
        · rintro σ H4 ⟨s4, u2, rfl, hD4⟩
          rw [List.length_map] at hD4
          refine ⟨s4, _, _, rfl, (hD4.iff fun x => ?_).le (by omega)⟩
          rw [List.take_add_one, hb, Option.toList_some, List.take_length]
          constructor
          · rintro ((⟨c, hc, h⟩ | h) | h)
            · exact ⟨c, List.mem_append_left _ hc, h⟩
            · exact ⟨b, List.mem_append_right _ (List.mem_singleton.mpr rfl), .inl h⟩
            · exact ⟨b, List.mem_append_right _ (List.mem_singleton.mpr rfl), .inr (by rw [hgd]; exact h)⟩
          · rintro ⟨c, hc, h⟩
            rcases List.mem_append.mp hc with hc | hc
            · exact .inl (.inl ⟨c, hc, h⟩)
            · obtain rfl := List.mem_singleton.mp hc
              rcases h with h | h
              · exact .inl (.inr h)
              · rw [hgd] at h
                exact .inr h
      · rintro σ H2 ⟨s2, z1, u1, rfl, kvs, ks, h1, h2, h3, h4, h5, h6⟩
        rw [List.length_map, List.take_length] at h6
        rw [List.length_map] at h4
        refine ⟨_, rfl, .inl ⟨rfl, _, SqL.of (s2 _ _ hRu)⟩, _, rfl, p, kvs, ks.map fun (n : Nat) => (n : Int), rfl, .inl h1, ?_, ?_, fun ys L perm srt hL => ?_⟩
        · rw [h2, List.map_map]
          rfl
        · rw [List.length_map]
          omega
        · have sL : Same H2 (upd H2 L (.lst (ys.map V.int))) := same_new hL
          refine ⟨L, ys.map V.int, rfl, .inl ⟨SqL.of upd_same, fun T hT' => ?_⟩⟩
          have sT : Same (upd H2 L (.lst (ys.map V.int))) (upd (upd H2 L (.lst (ys.map V.int))) T (.tup (ys.map V.int))) := same_new hT'
          have sAll := (s2.trans sL).trans sT
          have eys : ys.map V.int = (elStep (elders (bs.take i)) row).map natV := sorted_one perm srt h3 (up_nodup (elStep_up _ _)) (fun x => (h6 x).trans (elStep_mem (fun b hb => by rw [hE]; exact hlt b hb) (elders_lt _) x).symm) (elStep_up _ _)
          refine ⟨R, us, _, rfl, rfl, sAll _ _ hRu, by rw [hus]; show i < 2 ^ 24; omega, same_upd ((sH.trans s2).trans (sL.trans sT)) hR, us ++ [.ref T], _, _, _, _, rfl, upd_same, ?_⟩
          have keep : ∀ b xs, upd (upd H2 L (.lst (ys.map V.int))) T (.tup (ys.map V.int)) b = some (.tup xs) → upd (upd (upd H2 L (.lst (ys.map V.int))) T (.tup (ys.map V.int))) R (.lst (us ++ [.ref T])) b = some (.tup xs) := tups_upd (sAll _ _ hRu) fun xs z => by cases z
          rw [elders_more hrow]
          refine ((hU.same sAll).mono keep).app (.cons ⟨T, rfl, ?_⟩ .nil)
          rw [← eys]
          exact keep _ _ upd_same
    · rintro σ H' ⟨sH, us, x0, y0, z0, u0, rfl, hRu, hU⟩
      have hbl : ws.length = bs.length := hT.len
      rw [hbl, List.take_length] at hU
      refine ⟨_, rfl, R, us, rfl, .inl ⟨SqL.of hRu, fun p hp => ?_⟩⟩
      exact k _ p us (sH.trans (same_new hp)) upd_same (hU.same (same_new hp))
end
end K83

set_option maxRecDepth 100000
set_option maxHeartbeats 4000000
namespace K83
open PySem PySem.Spec PyProof.Rows L2 Kw
def heirRow (es : List (List Nat)) (n c : Nat) : List Nat := (List.range n).filter fun h => (es.getD h []).contains c
def heirs (es : List (List Nat)) : List (List Nat) := (List.range es.length).map (heirRow es es.length)
theorem inV_nat (c : Nat) : ∀ l : List Nat, inV (natV c) (l.map natV) = l.contains c
  | [] => rfl
  | x :: r => by
    unfold inV
    rw [List.map_cons, List.any_cons, List.contains_cons]
    have ih := inV_nat c r
    unfold inV at ih
    rw [ih]
    congr 1
    show ((x : Int) == (c : Int)) = (c == x)
    rw [Bool.eq_iff_iff, beq_iff_eq, beq_iff_eq]
    omega
theorem flat_nats : ∀ l : List Nat, (l.map natV).all flatV = true
  | [] => rfl
  | _ :: r => by
    rw [List.map_cons, List.all_cons, flat_nats r]
    rfl
theorem heirRow_more (es : List (List Nat)) (n c i : Nat) (hi : i < n) : ((List.range n).take (i + 1)).filter (fun h => (es.getD h []).contains c) = ((List.range n).take i).filter (fun h => (es.getD h []).contains c) ++ (if (es.getD i []).contains c then [i] else []) := by
  rw [List.take_add_one, List.filter_append, List.getElem?_range hi, Option.toList_some]
  congr 1
  cases h : (es.getD i []).contains c with
  | true => rw [List.filter_cons_of_pos (by exact h)]; rfl
  | false => rw [List.filter_cons_of_neg (by show ¬ (es.getD i []).contains c = true; rw [h]; decide)]; rfl
/-- tuple(xs) -/
structure rTupOf (K : PySem.W.Frag) (xs : List V) (H : Hp) (Q : VK) : Prop where
  h : ∃ p ys, xs = [.ref p] ∧ ((SqL K H p ys ∧ ∀ l, H l = none → Q (.ref l) (upd H l (.tup ys))) ∨ (SqT K H p ys ∧ Q (.ref p) H))
theorem call_tup {X : Cx} : CallR X (.type "tuple") (rTupOf X.K) := fun pins s σ H vs us Q I r h => call_tuple_of pins s σ H vs us Q I r h.h
section
variable {P : Program} {w : World} {K : PySem.W.Frag} {mg : Str → Option Value} {base : Heap} {f : Addr} {fd : FuncData}
def spHeirs : Sp := fun vs H Q _ => ∃ (a : Addr) (ws : List V) (es : List (List Nat)), vs = [.ref a] ∧ H a = some (.tup ws) ∧ TupsAt H ws es ∧ es.length ≤ 12 ∧ ∀ H' p us, Same H H' → H' p = some (.tup us) → TupsAt H' us (heirs es) → Q (.ref p) H'
theorem sc_heirs : FnScope ["elders", "many", "c", "heir"] ["elders"] (defScope (top 36)) := ⟨rfl, rfl, rfl, by decide +kernel, rfl, by decide +kernel, by decide +kernel⟩
theorem ok_heirs (F : FnP K "heir_rows" 36 f fd) (B : Fr mg) : FnOk P w K mg base CX0 1 f fd ["elders"] spHeirs := by
  refine F.ok sc_heirs (fun vs H Q E h => ?_) (fun cdv A outer s H vs Q E hr h => ?_)
  · obtain ⟨a, ws, es, rfl, _⟩ := h
    rfl
  · obtain ⟨a, ws, es, rfl, hA, hT, h12, k⟩ := h
    refine ⟨_, PSs.nox (pss_cons (ps_set (i := 1) sc_heirs.nd rfl (Or.inr rfl) (pe_callB call_len_seq (by rfl) B.len PySem.boot_len (pa_cons (pv 0) pa_nil)))
      (pss_one (ps_ret (pe_callTy call_tuple_of (by rfl) B.tuple (by decide +kernel) (pa_cons
        (pe_lc (own := [("c", 2)]) (g := gName 2) (tt := tYes) rfl sc_heirs.nd (pi_range1 (by rfl) B.range (pa_cons (pv 1) pa_nil)) (blkOk_by (N := ["elders", "many", "c", "heir"]) (sc := defScope (top 36)) (by decide +kernel))
          (fun _ _ _ _ _ => pg_name (i := 2) sc_heirs.nd rfl (Or.inr rfl)) (fun _ _ _ _ _ => pts_nil)
          (fun _ _ _ _ _ => pe_callTy (T := "tuple") (r := rTupOf K) (call_tup (X := _)) (by rfl) B.tuple (by decide +kernel) (pa_cons
            (pe_lc (own := [("heir", 3)]) (g := gName 3) rfl sc_heirs.nd (pi_range1 (by rfl) B.range (pa_cons (pv 1) pa_nil)) (blkOk_by (by rfl))
              (fun _ _ _ _ _ => pg_name (i := 3) sc_heirs.nd rfl (Or.inl rfl)) (fun _ _ _ _ _ => pts_one (pt_cmpR (r := rIn K false) op_in_seq (pv 2) (pe_ix (r := rIxT K) ix_tup (pv 0) (pv 3) (fun _ _ => rfl)) (by rfl)))
              (fun _ _ _ _ _ => pv 3)) pa_nil))) pa_nil))))), ?_⟩
    have hbl : ws.length = es.length := hT.len
    refine ⟨_, rfl, a, ws, rfl, .inr (SqT.of hA), ?_⟩
    refine ⟨_, rfl, _, rfl, by omega, by omega, fun D hD => lc_range (n := ws.length) (fun i H2 => Same H H2 ∧ ∃ us, H2 D = some (.lst us) ∧ TupsAt H2 us ((heirs es).take i))
      ⟨same_new hD, [], upd_same, .nil⟩ ?_ ?_⟩
    · rintro i H2 hi ⟨s2, us, hDu, hU⟩
      have hlen : (heirs es).length = ws.length := by
        unfold heirs
        rw [List.length_map, List.length_range, hbl]
      have hrow : (heirs es)[i]? = some (heirRow es ws.length i) := by
        unfold heirs
        rw [List.getElem?_map, List.getElem?_range (by omega), hbl]
        rfl
      have husl : us.length = i := by
        rw [hU.len, List.length_take, hlen]
        omega
      refine ⟨rfl, _, rfl, _, rfl, by omega, by omega, fun D2 hD2 => lc_range (n := ws.length) (fun j H3 => Same H2 H3 ∧ H3 D2 = some (.lst ((((List.range ws.length).take j).filter fun h => (es.getD h []).contains i).map natV)))
        ⟨same_new hD2, upd_same⟩ ?_ ?_⟩
      · rintro j H3 hj ⟨s3, hD3⟩
        obtain ⟨l, hl⟩ : ∃ l, es[j]? = some l := ⟨_, List.getElem?_eq_getElem (by omega)⟩
        have hgd : es.getD j [] = l := by
          rw [List.getD_eq_getElem?_getD, hl]
          rfl
        obtain ⟨t, et, ht⟩ := hT.get hl
        have e0 : (0 : Int) + (i : Int) = (i : Int) := Int.zero_add _
        refine ⟨rfl, _, rfl, _, rfl, _, rfl, a, ws, (0 : Int) + (j : Int), _, rfl, rfl, SqT.of (s3 _ _ (s2 _ _ hA)), by rw [Int.zero_add]; exact atI_nat et, t, _, rfl, .inr (SqT.of (s3 _ _ (s2 _ _ ht))), rfl, flat_nats l, _, rfl, ?_⟩
        have ein : inV (.int ((0 : Int) + (i : Int))) (l.map natV) = l.contains i := by
          rw [e0]
          exact inV_nat i l
        show (if inV (.int ((0 : Int) + (i : Int))) (l.map natV) = true then _ else _)
        rw [ein]
        have hm := heirRow_more es ws.length i j hj
        rw [hgd] at hm
        cases hb : l.contains i with
        | true =>
          rw [hb, if_pos rfl] at hm
          rw [if_pos rfl]
          refine ⟨_, rfl, _, hD3, ?_, same_upd s3 hD2, ?_⟩
          · rw [List.length_map]
            refine Nat.lt_of_le_of_lt (List.length_filter_le _ _) ?_
            rw [List.length_take]
            show _ < 2 ^ 24
            omega
          · rw [hm, List.map_append, upd_same, Int.zero_add]
            rfl
        | false =>
          rw [hb, if_neg (by decide), List.append_nil] at hm
          rw [if_neg (by decide)]
          exact ⟨s3, by rw [hm]; exact hD3⟩
      · rintro H3 ⟨s3, hD3⟩
        rw [List.take_of_length_le (by rw [List.length_range]; exact Nat.le_refl _)] at hD3
        refine ⟨D2, _, rfl, .inl ⟨SqL.of hD3, fun T hT' => ?_⟩⟩
        have sT := s3.trans (same_new (o := .tup ((heirRow es ws.length i).map natV)) hT')
        refine ⟨us, sT _ _ hDu, by rw [husl]; show i < 2 ^ 24; omega, same_upd (s2.trans sT) hD, us ++ [.ref T], upd_same, ?_⟩
        have keep : ∀ b xs, upd H3 T (.tup ((heirRow es ws.length i).map natV)) b = some (.tup xs) → upd (upd H3 T (.tup ((heirRow es ws.length i).map natV))) D (.lst (us ++ [.ref T])) b = some (.tup xs) := tups_upd (sT _ _ hDu) fun xs z => by cases z
        rw [List.take_add_one, hrow, Option.toList_some]
        exact ((hU.same sT).mono keep).app (.cons ⟨T, rfl, keep _ _ upd_same⟩ .nil)
    · rintro H2 ⟨s2, us, hDu, hU⟩
      rw [List.take_of_length_le (by unfold heirs; rw [List.length_map, List.length_range, hbl]; exact Nat.le_refl _)] at hU
      refine ⟨D, us, rfl, .inl ⟨SqL.of hDu, fun p hp => ?_⟩⟩
      exact k _ p us (s2.trans (same_new hp)) upd_same (hU.same (same_new hp))
end
end K83

set_option maxRecDepth 100000
set_option maxHeartbeats 4000000
namespace PySem
open Sem (wp)
open AutoSeq1 (wpAny_loadPart')
theorem meets_enumerate_newV {v : Value} {o : Obj} {H : Heap → Prop} (B : Begins v o H) :
    Meets (Builtin.«enumerate.__new__» ⟨[.type "enumerate", v], []⟩) (fun _ R s => H s.heap ∧
      R (.ok (.ret (.ref (s.heap.push o).objs.size))) { s with heap := (s.heap.push o).push { cls := .type "enumerate", data := .fields #[.none, .bool false, .ref s.heap.objs.size, rawInt 0, .none, .none] } }) :=
  .of_wp fun prog w A R s h => by
    obtain ⟨hp, g, d, tk, os⟩ := s; obtain ⟨h1, h⟩ := h
    have hsub := sub_enumerate
    have q1 : ∀ {A' : Around} {E : Value → Shared → Prop} {Q : Value → Shared → Prop}, Q (.ref hp.objs.size) ⟨hp.push o, g, d, tk, os⟩ → wpAny (model prog w) A' (pyIter v) Q E ⟨hp, g, d, tk, os⟩ :=
      fun q => B.iter prog w _ _ ⟨hp, g, d, tk, os⟩ _ h1 q
    wp_walk using q1
    refine wpAny_stack_any fun st => wpAny_pure ?_
    split
    · rename_i c _ _ _ _ _
      cases (c == Value.type "enumerate")
      · wp_walk using q1
        exact ⟨_, rfl, h⟩
      · wp_walk using q1
        exact ⟨_, rfl, h⟩
    · wp_walk using q1
      exact ⟨_, rfl, h⟩
section
variable {prog : Program} {w : World} {A : Around} {E : Value → Shared → Prop} {s : Shared}
theorem call_enumerate_tuple {l : Addr} {items : Array Value} {Q : Value → Shared → Prop} (hL : s.heap.IsTuple l items)
    (h : ∀ h', IsEnum h' (s.heap.objs.size + 1) s.heap.objs.size 0 .none → h'.IsTupleIter s.heap.objs.size l 0 → h'.objs.size = s.heap.objs.size + 2 →
      (∀ b o, s.heap.get? b = some o → h'.get? b = some o) → Q (.ref (s.heap.objs.size + 1)) { s with heap := h' }) :
    wpAny (model prog w) A (call (.type "enumerate") [.ref l]) Q E s := by
  refine callType_new F.called_enumerate (by decide) (F.typeCall_enumerate_1 _) (F.newCall_enumerate_1 _) (fun obj => F.args_object_init_2 obj _) F.entry_enumerate_new
    (meets_enumerate_newV (begins_tuple l items)) ⟨hL, ?_⟩
  have hz : (s.heap.push { cls := .type "tuple_iterator", data := .fields #[.ref l, .int 0 0] }).objs.size = s.heap.objs.size + 1 := Heap.size_push ..
  show _ ∧ _
  rw [hz]
  have he : IsEnum ((s.heap.push { cls := .type "tuple_iterator", data := .fields #[.ref l, .int 0 0] }).push
      { cls := .type "enumerate", data := .fields #[.none, .bool false, .ref s.heap.objs.size, rawInt 0, .none, .none] }) (s.heap.objs.size + 1) s.heap.objs.size 0 .none := by
    have := Heap.get?_push_size (s.heap.push { cls := .type "tuple_iterator", data := .fields #[.ref l, .int 0 0] })
      (o := { cls := .type "enumerate", data := .fields #[.none, .bool false, .ref s.heap.objs.size, rawInt 0, .none, .none] }) rfl
    rw [hz] at this; exact this
  refine ⟨⟨_, he, rfl⟩, h _ he ⟨_, Heap.get?_push_of_some _ (Heap.get?_push_size _ rfl), rfl, rfl⟩ (by rw [Heap.size_push, hz]) fun b o x => Heap.get?_push_of_some _ (Heap.get?_push_of_some _ x)⟩
end
end PySem
namespace L2
open PySem PySem.Spec PyProof.Rows
/-- the tuple at a, each item in a new pair -/
def Itet (K : PySem.W.Frag) (a : Addr) : It :=
  ⟨fun i H => ∃ (xs : List V) (x : V), SqT K H a xs ∧ xs[i]? = some x, fun i H v H' => ∃ T x, v = .ref T ∧ H T = none ∧ H' = upd H T (.tup [.int (i : Nat), x]) ∧ ∀ xs, SqT K H a xs → xs[i]? = some x, fun i H => ∃ xs : List V, SqT K H a xs ∧ xs.length = i⟩
theorem turn_enumT {P : Program} {w : World} {K : PySem.W.Frag} {elts : List Expr} {kk : Nat} {tpos : Pos} (a e it : Addr) :
    Turn P w K (.Tuple elts kk tpos) (Itet K a) [e, it] e (fun i h => (∃ old, IsEnum h e it ((i : Nat) : Int) old) ∧ h.IsTupleIter it a i ∧ e ≠ it) where
  mem := by simp
  obj := fun i h st b hb => by
    obtain ⟨⟨old, he⟩, ⟨o, ho, hc, hd⟩, _⟩ := st
    have e' : b = e ∨ b = it := by simpa using hb
    rcases e' with z | z
    · rw [z]; exact ⟨_, he, fun v q => nomatch q⟩
    · rw [z]; exact ⟨o, ho, fun v q => by rw [hd] at q; cases q⟩
  keep := fun i h h' st k => let ⟨⟨old, he⟩, hi, hne⟩ := st; ⟨⟨old, k e (by simp) _ he⟩, hi.at fun o q => k it (by simp) o q, hne⟩
  item := by
    intro X hP hw hK hc i pins s σ H E I hf st hg
    subst hP hw hK
    obtain ⟨⟨old, he⟩, hit, hne⟩ := st
    obtain ⟨xs, x, hq, hx⟩ := hg
    obtain ⟨its, rv, p, hz⟩ := I.tuple hq
    obtain ⟨u, hu, ru⟩ := rv.get hx
    have hT0 : s.heap.IsTuple a its.toArray := p
    have hel : e < s.heap.objs.size := Heap.lt_size he
    have hil : it < s.heap.objs.size := by obtain ⟨_, q, _⟩ := hit; exact Heap.lt_size q
    have hea : e ≠ a := fun z => by
      obtain ⟨o, q1, q2, _⟩ := hT0
      rw [← z, he] at q1
      have q3 := Option.some.inj q1
      subst q3
      exact absurd (Value.type.inj q2) (by decide)
    have hai : a ≠ it := fun z => by
      obtain ⟨o, q1, q2, _⟩ := hT0
      obtain ⟨o', r1, r2, _⟩ := hit
      rw [z, r1] at q1
      have q3 := Option.some.inj q1
      subst q3
      rw [q2] at r2
      exact absurd (Value.type.inj r2) (by decide)
    have hii : i < its.toArray.size := by
      rw [List.size_toArray]
      exact (List.getElem?_eq_some_iff.mp hu).1
    refine wpAny_pyNext_enum_itemD (Draws.tuple (show X.A.in1.handled = none from I.ok.hd hc) it a hai its.toArray) he ⟨hit, hT0⟩ hii hne (by simp [hne, hea]) fun v h' tk hv ho hit' hT hsz hk => ?_
    obtain rfl : u = v := by
      have z : its.toArray[i]? = some u := by simpa using hu
      exact Option.some.inj (z.symm.trans hv)
    refine ⟨_, rfl, wpAny_letOwnedTupleGo_enum (s := { s with heap := h', toks := tk + 1 }) ho fun h'' he' sb => ?_⟩
    have hT2 : h''.get? s.heap.objs.size = some { cls := .type "tuple", data := .seq #[.int i tk, u] } := (sb.2 _ (Nat.ne_of_gt hel)).trans hT
    have new : ObjOk X.prog X.w (upd H s.heap.objs.size (.tup [.int (i : Nat), x])) h'' s.heap.objs.size (.tup [.int (i : Nat), x]) :=
      ⟨by show 2 ≤ sizeLine; decide, [.int i tk, u], .cons ⟨_, rfl⟩ (.cons ru .nil), ⟨_, hT2, rfl, _, rfl⟩⟩
    have I1 : Inv X pins σ (upd H s.heap.objs.size (.tup [.int (i : Nat), x])) { s with heap := h'', toks := tk + 1 } :=
      I.turnedNew (ch := [e, it]) (fun b ob hb q => (sb.2 b (fun z => hb (by simp [z]))).trans (hk b ob (fun z => hb (by simp [z])) (fun z => hb (by simp [z])) q)) hf (Nat.le_refl _) new
    refine ⟨.ref s.heap.objs.size, _, I1, rfl, ⟨_, x, rfl, I.hok.fresh (Nat.le_refl _), rfl, fun ys hy => by rw [I.tuple_inj hy hq]; exact hx⟩, ⟨⟨u, ?_⟩, hit'.1.at fun o q => (sb.2 it (Ne.symm hne)).trans q, hne⟩, fun b hb => ?_⟩
    · have e1 : ((i + 1 : Nat) : Int) = (i : Int) + 1 := by omega
      rw [e1]; exact he'
    · have hb' : b < s.heap.objs.size := by
        have e' : b = e ∨ b = it := by simpa using hb
        rcases e' with z | z
        · rw [z]; exact hel
        · rw [z]; exact hil
      rw [upd_ne (Nat.ne_of_lt hb')]
      exact (hf b hb).1
  done := by
    intro X hP hw hK hc i pins s σ H E I hf st hg
    subst hP hw hK
    obtain ⟨⟨old, he⟩, hit, hne⟩ := st
    obtain ⟨xs, hq, hx⟩ := hg
    obtain ⟨its, rv, p, hz⟩ := I.tuple hq
    have hT0 : s.heap.IsTuple a its.toArray := p
    obtain ⟨f0, f1, f2, f3, f4, f5⟩ := hf it (by simp)
    have hl := rv.length
    have hai : a ≠ it := fun z => by
      obtain ⟨o, q1, q2, _⟩ := hT0
      obtain ⟨o', r1, r2, _⟩ := hit
      rw [z, r1] at q1
      have q3 := Option.some.inj q1
      subst q3
      rw [q2] at r2
      exact absurd (Value.type.inj r2) (by decide)
    have hn : its.toArray.size = i := by
      rw [List.size_toArray]
      omega
    refine wpAny_pyNext_enum_endD (n := i) (it := it) (fp := [it, a]) (P := fun i v => its.toArray[i]? = some v) (St := fun i h => h.IsTupleIter it a i ∧ h.IsTuple a its.toArray) ?_ he ⟨hit, hT0⟩ fun h' eb => ⟨rfl, I.turned (t' := s.toks) (fun b o hb q => eb b o hb q) f0 f1 f3 f4 f5⟩
    have D := Draws.tuple (prog := X.prog) (w := X.w) (show X.A.in1.handled = none from I.ok.hd hc) it a hai its.toArray
    rw [hn] at D
    exact D
  self := fun A i s Q E st h => let ⟨⟨_, he⟩, _⟩ := st; wpAny_pyIter_enum he h
def iEnumT (K : PySem.W.Frag) (ta : TA) : TI := fun σ H R => ta σ H fun vs H1 => ∃ a xs, vs = [.ref a] ∧ SqT K H1 a xs ∧ R (Itet K a) H1
theorem pi_enumT {X : Cx} {e : Expr} {ta : TA} {p pos tpos : Pos} {elts : List Expr} {kk : Nat} (hg : Gl X "enumerate") (hm : X.mg "enumerate" = none) (ha : PA X [e] ta) (hs : starEach [e] X.env = [(false, eval e X.env)] := by rfl) :
    PI X (.Tuple elts kk tpos) (.Call (.Name "enumerate" p) [e] [] pos) (iEnumT X.K ta) := by
  refine ⟨fun pins s σ H R I h => ?_⟩
  refine Call_ (ld_blt I hg hm boot_enumerate (PyProof.Rows.callWith_type1 (thn (ha.run pos pins s σ H _ I h) fun us s1 ⟨vs, H1, I1, r1, q1⟩ => ?_) hs rfl))
  obtain ⟨a, xs, ex, hq, q⟩ := q1
  subst ex
  cases r1 with
  | cons r rr =>
    cases rr
    cases r
    obtain ⟨its, rv, p', hz⟩ := I1.tuple hq
    refine call_enumerate_tuple (show s1.heap.IsTuple a its.toArray from p') fun h' he hit hsz hk => wpAny_pyIter_enum he ?_
    have I2 : Inv X pins σ H1 { s1 with heap := h' } := I1.kept (t' := s1.toks) hk
    refine ⟨s1.heap.objs.size + 1, [s1.heap.objs.size + 1, s1.heap.objs.size], _, _, H1, rfl, I2, turn_enumT a (s1.heap.objs.size + 1) s1.heap.objs.size, ⟨⟨.none, he⟩, hit, Nat.succ_ne_self _⟩, fun b hb => ?_, q⟩
    have e' : b = s1.heap.objs.size + 1 ∨ b = s1.heap.objs.size := by simpa using hb
    have hle : s1.heap.objs.size ≤ b := by
      rcases e' with z | z
      · rw [z]; exact Nat.le_add_right _ _
      · rw [z]; exact Nat.le_refl _
    exact I1.fpOk hle (I1.hok.fresh hle)
/-- the turns over a tuple that stands -/
theorem for_enumT {K : PySem.W.Frag} {a : Addr} {xs : List V} {g : TG} {tb : TS} {D : Ends} {σ : St} {H : Hp} (Pv : Nat → St → Hp → Prop) (h0 : Pv 0 σ H) (hl : ∀ i σ H, i ≤ xs.length → Pv i σ H → SqT K H a xs)
    (hs : ∀ i x σ H T, xs[i]? = some x → Pv i σ H → H T = none → g (.ref T) σ (upd H T (.tup [.int (i : Nat), x])) fun σ2 H2 => tb { D with nx := Pv (i + 1), ct := Pv (i + 1), bk := D.nx } σ2 H2) (hd : ∀ σ H, Pv xs.length σ H → D.nx σ H) :
    ∃ W : Nat → Nat → St → Hp → Prop, (∃ m, W 0 m σ H) ∧ ∀ i m σ H, W i m σ H →
      ((Itet K a).stop i H ∧ D.nx σ H) ∨ ((Itet K a).go i H ∧ ∃ N : St → Hp → Prop, (∀ σ' H', N σ' H' → ∃ m', m' < m ∧ W (i + 1) m' σ' H') ∧ ∀ x H', (Itet K a).yld i H x H' → g x σ H' fun σ2 H2 => tb { D with nx := N, ct := N, bk := D.nx } σ2 H2) := by
  refine ⟨fun i m σ H => m = xs.length - i ∧ i ≤ xs.length ∧ Pv i σ H, ⟨xs.length, by simp, Nat.zero_le _, h0⟩, ?_⟩
  rintro i m σ H ⟨rfl, hi, p⟩
  have q := hl i σ H hi p
  by_cases hlt : i < xs.length
  · refine .inr ⟨⟨xs, xs[i], q, by simp [hlt]⟩, Pv (i + 1), fun σ' H' p' => ⟨xs.length - (i + 1), by omega, rfl, hlt, p'⟩, fun x H' y => ?_⟩
    obtain ⟨T, z, e1, e2, e3, e4⟩ := y
    subst e1 e3
    exact hs i z σ H T (e4 xs q) p e2
  · have e : i = xs.length := by omega
    subst e
    exact .inl ⟨⟨xs, q, rfl⟩, hd σ H p⟩
theorem for_enumL {K : PySem.W.Frag} {a : Addr} {xs : List V} {g : TG} {tb : TS} {D : Ends} {σ : St} {H : Hp} (Pv : Nat → St → Hp → Prop) (h0 : Pv 0 σ H) (hl : ∀ i σ H, i ≤ xs.length → Pv i σ H → SqL K H a xs)
    (hs : ∀ i x σ H T, xs[i]? = some x → Pv i σ H → H T = none → g (.ref T) σ (upd H T (.tup [.int (i : Nat), x])) fun σ2 H2 => tb { D with nx := Pv (i + 1), ct := Pv (i + 1), bk := D.nx } σ2 H2) (hd : ∀ σ H, Pv xs.length σ H → D.nx σ H) :
    ∃ W : Nat → Nat → St → Hp → Prop, (∃ m, W 0 m σ H) ∧ ∀ i m σ H, W i m σ H →
      ((Ite K a).stop i H ∧ D.nx σ H) ∨ ((Ite K a).go i H ∧ ∃ N : St → Hp → Prop, (∀ σ' H', N σ' H' → ∃ m', m' < m ∧ W (i + 1) m' σ' H') ∧ ∀ x H', (Ite K a).yld i H x H' → g x σ H' fun σ2 H2 => tb { D with nx := N, ct := N, bk := D.nx } σ2 H2) := by
  refine ⟨fun i m σ H => m = xs.length - i ∧ i ≤ xs.length ∧ Pv i σ H, ⟨xs.length, by simp, Nat.zero_le _, h0⟩, ?_⟩
  rintro i m σ H ⟨rfl, hi, p⟩
  have q := hl i σ H hi p
  by_cases hlt : i < xs.length
  · refine .inr ⟨⟨xs, xs[i], q, by simp [hlt]⟩, Pv (i + 1), fun σ' H' p' => ⟨xs.length - (i + 1), by omega, rfl, hlt, p'⟩, fun x H' y => ?_⟩
    obtain ⟨T, z, e1, e2, e3, e4⟩ := y
    subst e1 e3
    exact hs i z σ H T (e4 xs q) p e2
  · have e : i = xs.length := by omega
    subst e
    exact .inl ⟨⟨xs, q, Nat.le_refl _⟩, hd σ H p⟩
end L2

set_option maxRecDepth 100000
set_option maxHeartbeats 4000000
namespace Kw
open PySem PySem.Spec PyProof.Rows L2
/-- the fields that such an __init__ leaves, the last first -/
def errF (ps : List Str) (vs : List V) : List (Str × V) := (ps.zip vs).reverse
/-- an error's __init__ that keeps all its parameters, one or more, in their order -/
def spR (C : Addr) (ps : List Str) : Sp := fun vs H Q _ => ∃ (a : Addr) (xs : List V), vs = .ref a :: xs ∧ xs.length = ps.length ∧ H a = some (exo a C none) ∧
  ∀ d H', H d = none → d ≠ a → H' a = some (exo a C (some d)) → H' d = some (exd d (errF ps xs)) → (∀ b o, b ≠ a → H b = some o → H' b = some o) → Q .non H'
/-- what a raise of it asks, once its arguments are read -/
theorem raise_q {C : Addr} {ps : List Str} {H1 : Hp} {vs : List V} {Q : XK} (hl : vs.length = ps.length) (hz : ps.length ≤ 1000) (q : ∀ d H', Same H1 H' → H1 d = none → H' d = some (.xd (errF ps vs)) → Q (.ref C) (some d) H') :
    vs.length ≤ 1000 ∧ ∀ a, H1 a = none → spR C ps (.ref a :: (vs ++ [])) (upd H1 a (exo a C none))
      (fun v H2 => v = .non ∧ ∃ (d : Addr) (fs : List (Str × V)), H2 a = some (exo a C (some d)) ∧ H2 d = some (exd d fs) ∧ H1 d = none ∧ Q (.ref C) (some d) (upd (del H2 a) d (.xd fs))) (fun _ _ _ => False) := by
  refine ⟨by omega, fun a ha => ⟨a, vs, by rw [List.append_nil], hl, upd_same, fun d H' hd hda e1 e2 s => ?_⟩⟩
  rw [upd_ne hda] at hd
  refine ⟨rfl, d, _, e1, e2, hd, q d _ (fun b o e => ?_) hd upd_same⟩
  have hba : b ≠ a := ne_of_none e ha
  rw [upd_ne (ne_of_none e hd), del_ne hba]
  exact s b o hba (by rw [upd_ne hba]; exact e)
/-- the facts of an own error class -/
structure ErrX (K : PySem.W.Frag) (mg : Str → Option Value) (x : Str) (ps : List Str) (C fI : Addr) : Prop where
  oex : OexC K C
  ini : PySem.W.findIn K (.ref C) "__init__" = some (some (.ref fI))
  inT : PySem.W.typeIn K (.ref fI) = some (.type "function")
  no : ∀ p ∈ ps, PySem.W.findIn K (.ref C) p = some none
  mg : mg x = some (.ref C)
theorem upB {H : Hp} {a b : Addr} {o u : HO} (h : b ≠ a) (e : H b = some o) : upd H a u b = some o := by rw [upd_ne h]; exact e
end Kw

set_option maxRecDepth 100000
set_option maxHeartbeats 4000000
namespace K83
open PySem PySem.Spec PyProof.Rows L2 Kw
def inClass (st : Stmt) (j : Nat) : Stmt := match st with
  | .ClassDef (body := b) .. => b.getD j (.Pass ⟨0, 0, 0, 0⟩)
  | _ => .Pass ⟨0, 0, 0, 0⟩
abbrev FnM (K : PySem.W.Frag) (x qual : Str) (st : Stmt) (f : Addr) (fd : FuncData) : Prop := FunD K x qual (defArgs st) (defBody st) (defScope st) [] [] f fd
section
variable {P : Program} {w : World} {K : PySem.W.Frag} {mg : Str → Option Value} {base : Heap} {f C : Addr} {fd : FuncData}
theorem sc_badWorld : FnScope ["self", "index", "what"] ["self", "index", "what"] (defScope (inClass (top 3) 0)) := ⟨rfl, rfl, rfl, by decide +kernel, rfl, by decide +kernel, by decide +kernel⟩
theorem ok_badWorld (F : FnM K "__init__" "BadWorld.__init__" (inClass (top 3) 0) f fd) (T : ErrX K mg "BadWorld" ["index", "what"] C f) : FnOk P w K mg base CX0 1 f fd ["self", "index", "what"] (spR C ["index", "what"]) ∧ Binds K fd ["self", "index", "what"] [] := by
  refine ⟨F.ok sc_badWorld (fun vs H Q E h => ?_) (fun cdv A outer s H vs Q E hr h => ?_), F.bindsN fun _ _ _ _ _ _ us hl => match us, hl with | [_, _, _], _ => rfl⟩
  · obtain ⟨a, xs, rfl, hl, _⟩ := h
    exact congrArg Nat.succ hl
  · obtain ⟨a, xs, rfl, hl, ha, k⟩ := h
    match xs, hl with
    | [x1, x2], _ =>
      refine ⟨_, PSs.nox (pss_cons (ps_ost (pv 0) (pv 1)) (pss_one (ps_ost (pv 0) (pv 2)))), ?_⟩
      refine ⟨_, rfl, _, rfl, a, C, rfl, T.oex, T.no _ (List.mem_of_getElem? (i := 0) rfl), .inl ⟨ha, fun dx hd ne => ?_⟩⟩
      have A1 := @upd_same (upd H dx (exd dx [("index", x1)])) a (exo a C (some dx))
      have D1 : upd (upd H dx (exd dx [("index", x1)])) a (exo a C (some dx)) dx = some (exd dx [("index", x1)]) := upB ne upd_same
      have B1 : ∀ b o, b ≠ a → H b = some o → upd (upd H dx (exd dx [("index", x1)])) a (exo a C (some dx)) b = some o := fun b o hb e => upB hb (upB (ne_of_none e hd) e)
      generalize hG1 : upd (upd H dx (exd dx [("index", x1)])) a (exo a C (some dx)) = G1 at A1 D1 B1 ⊢
      refine ⟨_, rfl, _, rfl, a, C, rfl, T.oex, T.no _ (List.mem_of_getElem? (i := 1) rfl), .inr ⟨dx, [("index", x1)], A1, D1, (by show 1 ≤ 900; decide), ?_⟩⟩
      exact k dx _ hd ne (upB ne.symm A1) upd_same fun b o hb e => upB (ne_of_none e hd) (B1 b o hb e)
end
end K83

set_option maxRecDepth 100000
set_option maxHeartbeats 4000000
namespace Kw
open PySem PySem.Spec PyProof.Rows L2
/-- one rule or another, for a place where either kind of thing may stand -/
theorem pg_or {X : Cx} {tg : Expr} {t1 t2 : TG} (h1 : PG X tg t1) (h2 : PG X tg t2) : PG X tg (fun v σ H Q => t1 v σ H Q ∨ t2 v σ H Q) :=
  ⟨fun pins s σ H v u Q I r h => h.elim (h1.run pins s σ H v u Q I r) (h2.run pins s σ H v u Q I r)⟩
theorem pi_or {X : Cx} {tg e : Expr} {w1 w2 : TI} (h1 : PI X tg e w1) (h2 : PI X tg e w2) : PI X tg e (fun σ H R => w1 σ H R ∨ w2 σ H R) :=
  ⟨fun pins s σ H R I h => h.elim (h1.run pins s σ H R I) (h2.run pins s σ H R I)⟩
theorem call_or {X : Cx} {f : Value} {r1 r2 : List V → Hp → VK → Prop} (h1 : CallR X f r1) (h2 : CallR X f r2) : CallR X f (fun vs H Q => r1 vs H Q ∨ r2 vs H Q) :=
  fun pins s σ H xs us Q I r h => h.elim (h1 pins s σ H xs us Q I r) (h2 pins s σ H xs us Q I r)
theorem pe_or {X : Cx} {e : Expr} {t1 t2 : TE} (h1 : PE X e t1) (h2 : PE X e t2) : PE X e (fun σ H Q => t1 σ H Q ∨ t2 σ H Q) :=
  ⟨fun pins s σ H Q I h => h.elim (h1.run pins s σ H Q I) (h2.run pins s σ H Q I)⟩
/-- sorted(t), t a list or a tuple of whole numbers -/
def rSortSI (K : PySem.W.Frag) : List V → Hp → VK → Prop := fun xs H Q => ∃ (a : Addr) (ks : List Int), xs = [.ref a] ∧ (SqL K H a (ks.map V.int) ∨ SqT K H a (ks.map V.int)) ∧
  ∀ (ys : List Int) (p : Addr), ys.Perm ks → ys.Pairwise (· ≤ ·) → H p = none → Q (.ref p) (upd H p (.lst (ys.map V.int)))
theorem call_sortedSI {X : Cx} : CallR X (.builtin "sorted") (rSortSI X.K) := by
  intro pins s σ H xs us Q I r q
  obtain ⟨a, ks, ex, hd, q⟩ := q
  subst ex
  rcases hd with hd | hd
  · exact cr_sortedI pins s σ H _ us Q I r ⟨a, ks, rfl, hd, q⟩
  · obtain ⟨u, eu, rx⟩ := vals1 r
    subst eu
    obtain rfl : u = Value.ref a := rx
    obtain ⟨its, rv, p, hz⟩ := I.tuple hd
    have hI : IntsAre its ks := rv.ints
    obtain ⟨o, ho, hc, n, hdt⟩ : s.heap.IsTuple a its.toArray := p
    have hzi : its.toArray.size ≤ sizeLine := by
      rw [List.size_toArray, ← rv.length]
      exact hz
    refine Calls.call_function_entry kind_sorted plain_sorted entry_sorted (args_sorted1 _) ?_
    unfold Builtin.«sorted»
    refine wpAny_bind (m := checkCount "sorted" 1 1 _) (wpAny_pure (wpAny_bind ?_))
    refine wpAny_collect_seq a (T := "tuple") (.inr rfl) ho hc hdt (hsz := hzi) fun h' hk => ?_
    have ea : its.toArray.toList = its := rfl
    rw [ea]
    have I1 : Inv X pins σ H { s with heap := h' } := I.kept (t' := s.toks) hk
    have hZ : its.length ≤ sizeLine := by
      rw [← rv.length]
      exact hz
    refine wpAny_bind (wpAny_newList ?_ hZ)
    have hoL : (h'.push (seqObj "list" its.toArray 0)).get? h'.objs.size = some (seqObj "list" its.toArray 0) := Heap.get?_push_size _ rfl
    show wpAny _ _ _ _ _ { s with heap := h'.push (seqObj "list" its.toArray 0) }
    refine wpAny_bind (wpAny_holding (wpAny_call_entry slot_list_sort ⟨_, hoL, rfl⟩ entry_list_sort ?_ (args_list_sort _)))
    refine SrtO.list_sort_ord SrtO.swo_int hoL hZ (fun h2 => SrtO.ints_sortable hI h2) fun out g1 g2 => ⟨_, rfl, ?_⟩
    obtain ⟨k1, k2, k3⟩ := SrtO.ints_out hI g1 g2
    obtain ⟨e', he'⟩ := sortedHeap_at (vs := its) (out := out.toArray) hoL
    have hlen : ((out.map SrtO.iv).map V.int).length ≤ sizeLine := by
      rw [List.length_map, k2.length_eq, ← List.length_map (f := V.int)]
      exact hz
    refine wpAny_pure ⟨_, rfl, .ref h'.objs.size, upd H h'.objs.size (.lst ((out.map SrtO.iv).map V.int)), I1.laid (t' := s.toks) (fun b u e => ?_) (Nat.le_refl _)
      (show ObjOk X.prog X.w _ _ _ (.lst ((out.map SrtO.iv).map V.int)) from ⟨hlen, out, e', vals_of_ints k1, he'⟩), rfl, q _ _ k2 k3 (I1.hok.fresh (Nat.le_refl _))⟩
    have hb : b < h'.objs.size := Heap.lt_size e
    rw [sortedHeap_old (Nat.ne_of_lt hb) (by rw [size_push']; exact Nat.lt_succ_of_lt hb)]
    exact Heap.get?_push_of_some _ e
end Kw

set_option maxRecDepth 100000
set_option maxHeartbeats 4000000
namespace K83
open PySem PySem.Spec PyProof.Rows L2 Kw
/-- bases, own fields, own methods, as they were given -/
abbrev Ent := List Nat × Nat × List Nat
def sortN (l : List Nat) : List Nat := (List.range 6).filter fun m => l.contains m
/-- a right entry of class c -/
def EntryOk (H : Hp) (e : V) (c : Nat) (d : Ent) : Prop := ∃ a ab am, e = .ref a ∧ SeqAt H a [.ref ab, natV d.2.1, .ref am] ∧ SeqAt H ab (d.1.map natV) ∧ SeqAt H am (d.2.2.map natV) ∧
  (d.1.Nodup ∧ d.1.length ≤ 12 ∧ ∀ b ∈ d.1, b < c) ∧ d.2.1 ≤ 3 ∧ d.2.2.Nodup ∧ d.2.2.length ≤ 3 ∧ ∀ m ∈ d.2.2, m < 6
theorem EntryOk.same {H H' : Hp} {e : V} {c : Nat} {d : Ent} (h : EntryOk H e c d) (s : Same H H') : EntryOk H' e c d := by
  obtain ⟨a, ab, am, h1, h2, h3, h4, h5⟩ := h
  exact ⟨a, ab, am, h1, h2.same s, h3.same s, h4.same s, h5⟩
theorem EntryIs.same {H H' : Hp} {e : V} {c : Int} {o : Option Str} (h : EntryIs H e c o) (s : Same H H') : EntryIs H' e c o := by
  rcases h with ⟨t, h1, h2⟩ | ⟨a, xs, h1, h2, h3⟩ | ⟨a, b, g, m, rb, nb, tg, rm, nm, h1, h2, h3, h4, h5, h6⟩
  · exact .inl ⟨t, h1.same s, h2⟩
  · exact .inr (.inl ⟨a, xs, h1, h2.same s, h3⟩)
  · exact .inr (.inr ⟨a, b, g, m, rb, nb, tg, rm, nm, h1, h2.same s, h3.same s, h4.same s, h5.same s, h6⟩)
theorem intOf_nats (l : List Nat) : (l.map natV).map intOf = l.map fun (n : Nat) => (n : Int) := by
  rw [List.map_map]
  rfl
theorem nodup_cast {l : List Nat} (h : l.Nodup) : (l.map fun (n : Nat) => (n : Int)).Nodup := by
  refine List.pairwise_map.mpr (h.imp fun z => ?_)
  intro e
  exact z (by omega)
theorem unlike_nats {l : List Nat} {m : Nat} (hn : l.Nodup) (hb : ∀ b ∈ l, b < m) : unlikeB (m : Int) (l.map natV) = true := by
  unfold unlikeB
  rw [intOf_nats, decide_eq_true (nodup_cast hn), Bool.and_true, List.all_eq_true]
  intro x hx
  obtain ⟨b, h1, rfl⟩ := List.mem_map.mp hx
  have := hb b h1
  show wholeB (.int 0) (.int ((m : Int) - 1)) (.int (b : Int)) = true
  unfold wholeB inLo inHi
  simp only [Bool.and_eq_true, decide_eq_true_eq]
  omega
theorem nats_ty {H : Hp} (l : List Nat) : ∀ y ∈ l.map natV, ∃ t, Ty0 H y t := fun y hy => by
  obtain ⟨b, h1, rfl⟩ := List.mem_map.mp hy
  exact ⟨_, .int _⟩
theorem EntryOk.is {H : Hp} {e : V} {c : Nat} {d : Ent} (h : EntryOk H e c d) : EntryIs H e (c : Int) none := by
  obtain ⟨a, ab, am, rfl, h2, h3, h4, ⟨h5, h6, h7⟩, h8, h9, h10, h11⟩ := h
  refine .inr (.inr ⟨a, .ref ab, natV d.2.1, .ref am, true, d.1.length, _, true, d.2.2.length, rfl, h2, .inr ⟨ab, _, rfl, h3, by rw [List.length_map]; omega, nats_ty _, (unlike_nats h5 h7).symm, by rw [List.length_map]⟩, .int _, .inr ⟨am, _, rfl, h4, by rw [List.length_map]; omega, nats_ty _, (unlike_nats (m := 6) h9 h11).symm, by rw [List.length_map]⟩, ?_⟩)
  have hw : wholeB (.int 0) (.int 3) (natV d.2.1) = true := by
    show wholeB (.int 0) (.int 3) (.int (d.2.1 : Int)) = true
    unfold wholeB inLo inHi
    simp only [Bool.and_eq_true, decide_eq_true_eq]
    omega
  unfold entryWord
  rw [if_neg (by decide), hw, if_neg (by decide), if_neg (by decide), if_neg (by omega)]
theorem sortN_one {l : List Nat} (hn : l.Nodup) (hb : ∀ m ∈ l, m < 6) {ys : List Int} (p : ys.Perm (l.map fun (n : Nat) => (n : Int))) (hs : ys.Pairwise (· ≤ ·)) : ys.map V.int = (sortN l).map natV := by
  have up : (sortN l).Pairwise (· < ·) := List.Pairwise.filter _ List.pairwise_lt_range
  refine sorted_one p hs hn (up_nodup up) (fun x => ?_) up
  unfold sortN
  rw [List.mem_filter, List.mem_range]
  constructor
  · intro h
    exact ⟨hb x h, by simpa using h⟩
  · rintro ⟨_, h⟩
    simpa using h
/-- an entry as a world keeps it -/
def EntAt (H : Hp) (t : Addr) (d : Ent) : Prop := ∃ tb tm, H t = some (.tup [.ref tb, natV d.2.1, .ref tm]) ∧ H tb = some (.tup (d.1.map natV)) ∧ H tm = some (.tup ((sortN d.2.2).map natV))
def EntsAt (H : Hp) : List V → List Ent → Prop := Paired fun v d => ∃ t, v = .ref t ∧ EntAt H t d
def TupK (H H' : Hp) : Prop := ∀ b xs, H b = some (.tup xs) → H' b = some (.tup xs)
theorem EntAt.mono {H H' : Hp} {t : Addr} {d : Ent} (h : EntAt H t d) (k : TupK H H') : EntAt H' t d := by
  obtain ⟨tb, tm, h1, h2, h3⟩ := h
  exact ⟨tb, tm, k _ _ h1, k _ _ h2, k _ _ h3⟩
theorem EntsAt.mono {H H' : Hp} (k : TupK H H') : ∀ {vs : List V} {ds : List Ent}, EntsAt H vs ds → EntsAt H' vs ds
  | [], [], _ => .nil
  | _ :: _, _ :: _, .cons ⟨t, e, h⟩ r => .cons ⟨t, e, h.mono k⟩ (EntsAt.mono k r)
theorem EntsAt.len {H : Hp} {vs : List V} {ds : List Ent} (h : EntsAt H vs ds) : vs.length = ds.length := Paired.length h
theorem EntsAt.get {H : Hp} : ∀ {vs : List V} {ds : List Ent} {i : Nat} {d : Ent}, EntsAt H vs ds → ds[i]? = some d → ∃ t, vs[i]? = some (.ref t) ∧ EntAt H t d
  | [], [], _, _, _, h => by simp at h
  | _ :: _, _ :: _, 0, _, .cons ⟨t, e1, h⟩ _, e => by
    obtain rfl := Option.some.inj e
    exact ⟨t, by rw [e1]; rfl, h⟩
  | _ :: _, _ :: _, i + 1, _, .cons _ r, e => EntsAt.get (i := i) r e
theorem EntsAt.app {H : Hp} : ∀ {vs us : List V} {ls ms : List Ent}, EntsAt H vs ls → EntsAt H us ms → EntsAt H (vs ++ us) (ls ++ ms)
  | [], _, [], _, _, h => h
  | _ :: _, _, _ :: _, _, .cons h r, s => .cons h (EntsAt.app r s)
theorem Same.tupK {H H' : Hp} (s : Same H H') : TupK H H' := fun b xs e => s b _ e
/-- all but the object at p stays -/
def Oth (p : Addr) (H H' : Hp) : Prop := ∀ b o, b ≠ p → H b = some o → H' b = some o
theorem Oth.trans {p : Addr} {H H1 H2 : Hp} (a : Oth p H H1) (b : Oth p H1 H2) : Oth p H H2 := fun c o n e => b c o n (a c o n e)
theorem Oth.of {p : Addr} {H H1 : Hp} (s : Same H H1) : Oth p H H1 := fun c o _ e => s c o e
theorem Oth.upd {p : Addr} {H H1 : Hp} {o : HO} (s : Oth p H H1) : Oth p H (upd H1 p o) := fun c u n e => upB n (s c u n e)
theorem Oth.tupK {p : Addr} {H H' : Hp} {C dx : Addr} {fs : List (Str × V)} (s : Oth p H H') (h : H p = some (.ins C dx fs)) : TupK H H' := fun b xs e => s b _ (fun z => by
  rw [z, h] at e
  cases e) e
/-- a world as an object -/
def WorldFs (ac ab ao am ae ah : Addr) : List (Str × V) := [("classes", .ref ac), ("bases", .ref ab), ("owns", .ref ao), ("methods", .ref am), ("elders", .ref ae), ("heirs", .ref ah)]
def WorldAt (H : Hp) (p C : Addr) (ds : List Ent) : Prop := ∃ dx ac ab ao am ae ah cs bs ms es hs, H p = some (.ins C dx (WorldFs ac ab ao am ae ah)) ∧ H ac = some (.tup cs) ∧ EntsAt H cs ds ∧
  H ab = some (.tup bs) ∧ TupsAt H bs (ds.map (·.1)) ∧ H ao = some (.tup ((ds.map (·.2.1)).map natV)) ∧ H am = some (.tup ms) ∧ TupsAt H ms (ds.map fun d => sortN d.2.2) ∧
  H ae = some (.tup es) ∧ TupsAt H es (elders (ds.map (·.1))) ∧ H ah = some (.tup hs) ∧ TupsAt H hs (heirs (elders (ds.map (·.1))))
end K83

set_option maxRecDepth 100000
set_option maxHeartbeats 8000000
namespace K83
open PySem PySem.Spec PyProof.Rows L2 Kw
structure ClsWorld (K : PySem.W.Frag) (mg : Str → Option Value) (C : Addr) : Prop where
  cl : Cls K C
  no : ∀ f ∈ (["classes", "bases", "owns", "methods", "elders", "heirs"] : List Str), NoAttr K C f
section
variable {P : Program} {w : World} {K : PySem.W.Frag} {mg : Str → Option Value} {base : Heap} {f fS fW fU fE fL fH fB Cb C : Addr} {fd fdS fdW fdU fdE fdL fdH fdB : FuncData}
def spWorld (C Cb : Addr) : Sp := fun vs H Q E => ∃ (p dx : Addr) (x : V), vs = [.ref p, x] ∧ H p = some (.ins C dx []) ∧
  ((((∃ t, Ty0 H x t ∧ seqT t = false) ∨ ∃ a es, x = .ref a ∧ SeqAt H a es ∧ (es.length = 0 ∨ 12 < es.length)) ∧ ∀ d H', Same H H' → H' d = some (.xd (errF ["index", "what"] [.int 0, .str "many"])) → E (.ref Cb) (some d) H') ∨
   ∃ a es ds, x = .ref a ∧ SeqAt H a es ∧ es.length ≠ 0 ∧ es.length ≤ 12 ∧ ds.length ≤ es.length ∧ (∀ (i : Nat) (d : Ent), ds[i]? = some d → ∃ e, es[i]? = some e ∧ EntryOk H e i d) ∧
     ((∃ e word, es[ds.length]? = some e ∧ EntryIs H e (ds.length : Int) (some word) ∧ ∀ d H', Same H H' → H' d = some (.xd (errF ["index", "what"] [.int (ds.length : Int), .str word])) → E (.ref Cb) (some d) H') ∨
      (ds.length = es.length ∧ ∀ H', Oth p H H' → WorldAt H' p C ds → Q .non H')))
/-- enumerate over a list or a tuple that stands -/
theorem for_enumS {a : Addr} {xs : List V} {g : TG} {tb : TS} {D : Ends} {σ : L2.St} {H H0 : Hp} {j : Nat} (hj : σ[j]? = some (some (.ref a))) (hA : SeqAt H0 a xs) (s0 : Same H0 H) (Pv : Nat → L2.St → Hp → Prop) (h0 : Pv 0 σ H) (keep : ∀ i σ' H', Pv i σ' H' → Same H0 H')
    (hs : ∀ i x σ H T, xs[i]? = some x → Pv i σ H → H T = none → g (.ref T) σ (upd H T (.tup [.int (i : Nat), x])) fun σ2 H2 => tb { D with nx := Pv (i + 1), ct := Pv (i + 1), bk := D.nx } σ2 H2) (hd : ∀ σ H, Pv xs.length σ H → D.nx σ H) :
    tFor (fun σ H R => iEnum K (tCons (tVar j) tNil) σ H R ∨ iEnumT K (tCons (tVar j) tNil) σ H R) g tb D σ H := by
  rcases hA with hA | hA
  · exact .inl ⟨_, hj, a, xs, rfl, SqL.of (s0 _ _ hA), for_enumL Pv h0 (fun i σ H' _ h => SqL.of (keep i σ H' h _ _ hA)) hs hd⟩
  · exact .inr ⟨_, hj, a, xs, rfl, SqT.of (s0 _ _ hA), for_enumT Pv h0 (fun i σ H' _ h => SqT.of (keep i σ H' h _ _ hA)) hs hd⟩
theorem tup_q {H : Hp} {a : Addr} {xs : List V} {Q : VK} (hA : SeqAt H a xs) (q : ∀ p H', Same H H' → H' p = some (.tup xs) → Q (.ref p) H') :
    rTupOf K [V.ref a] H Q := by
  refine ⟨a, xs, rfl, ?_⟩
  rcases hA with hA | hA
  · exact .inl ⟨SqL.of hA, fun l hl => q l _ (same_new hl) upd_same⟩
  · exact .inr ⟨SqT.of hA, q a H (Same.refl H) hA⟩
/-- a column of the entries, as a new list -/
theorem col_q {x0 x1 x3 x4 x5 x6 x7 x8 : Option V} {R : Addr} {us : List V} {ds : List Ent} {H : Hp} {k : Int} {Q : VK} (ColP : Hp → V → Ent → Prop) (hmono : ∀ H H' v d, TupK H H' → ColP H v d → ColP H' v d)
    (hcol : ∀ H t d, EntAt H t d → ∃ xs v, H t = some (.tup xs) ∧ atI xs k = some v ∧ ColP H v d) (hR : H R = some (.lst us)) (hE : EntsAt H us ds) (h12 : ds.length ≤ 12)
    (q : ∀ D H' vs, Same H H' → H' D = some (.lst vs) → Paired (ColP H') vs ds → Q (.ref D) H') :
    tLc (iList K (tVar 2)) (gName 4) tYes (tOp (rIxT K) (tVar 4) (tC (.int k))) [4] [x0, x1, some (.ref R), x3, x4, x5, x6, x7, x8] H Q := by
  have hmonoP : ∀ {H H' : Hp}, TupK H H' → ∀ {vs : List V} {ds : List Ent}, Paired (ColP H) vs ds → Paired (ColP H') vs ds := fun kk => by
    intro vs ds h
    induction h with
    | nil => exact .nil
    | cons z _ ih => exact .cons (hmono _ _ _ _ kk z) ih
  have app1 : ∀ {H : Hp} {vs : List V} {ds : List Ent} {v : V} {d : Ent}, Paired (ColP H) vs ds → ColP H v d → Paired (ColP H) (vs ++ [v]) (ds ++ [d]) := fun h z => by
    induction h with
    | nil => exact .cons z .nil
    | cons y _ ih => exact .cons y ih
  refine ⟨_, rfl, R, rfl, ⟨_, SqL.of hR⟩, fun D hD => lc_list (K := K) (a := R) (xs := us) (fun i H2 => Same H H2 ∧ ∃ vs, H2 D = some (.lst vs) ∧ Paired (ColP H2) vs (ds.take i)) ⟨same_new hD, [], upd_same, .nil⟩ (fun i H2 _ h => SqL.of (h.1 _ _ hR)) ?_ ?_⟩
  · rintro i y H2 hi ⟨s2, vs, hDv, hP⟩
    have hil : i < ds.length := by
      rw [← hE.len]
      exact (List.getElem?_eq_some_iff.mp hi).1
    obtain ⟨d, hd⟩ : ∃ d, ds[i]? = some d := ⟨_, List.getElem?_eq_getElem hil⟩
    obtain ⟨t, et, ht⟩ := hE.get hd
    obtain rfl : V.ref t = y := Option.some.inj (et.symm.trans hi)
    obtain ⟨xs, v, h1, h2, h3⟩ := hcol H2 t d (ht.mono (Same.tupK s2))
    have hvl : vs.length = i := by
      rw [Paired.length hP, List.length_take]
      omega
    have kk : TupK H2 (upd H2 D (.lst (vs ++ [v]))) := tups_upd hDv fun xs z => by cases z
    refine ⟨rfl, _, rfl, t, xs, k, v, rfl, rfl, SqT.of h1, h2, vs, hDv, by (rw [hvl]; show i < 2 ^ 24; omega), same_upd s2 hD, vs ++ [v], upd_same, ?_⟩
    rw [List.take_add_one, hd, Option.toList_some]
    exact app1 (hmonoP kk hP) (hmono _ _ _ _ kk h3)
  · rintro H2 ⟨s2, vs, hDv, hP⟩
    rw [hE.len, List.take_length] at hP
    exact q D H2 vs s2 hDv hP
def ColB (H : Hp) (v : V) (d : Ent) : Prop := ∃ t, v = .ref t ∧ H t = some (.tup (d.1.map natV))
def ColO (_ : Hp) (v : V) (d : Ent) : Prop := v = natV d.2.1
def ColM (H : Hp) (v : V) (d : Ent) : Prop := ∃ t, v = .ref t ∧ H t = some (.tup ((sortN d.2.2).map natV))
theorem colB_tups {H : Hp} {vs : List V} {ds : List Ent} (h : Paired (ColB H) vs ds) : TupsAt H vs (ds.map (·.1)) := by
  induction h with
  | nil => exact .nil
  | cons z _ ih => exact .cons z ih
theorem colM_tups {H : Hp} {vs : List V} {ds : List Ent} (h : Paired (ColM H) vs ds) : TupsAt H vs (ds.map fun d => sortN d.2.2) := by
  induction h with
  | nil => exact .nil
  | cons z _ ih => exact .cons z ih
theorem colO_nats {H : Hp} {vs : List V} {ds : List Ent} (h : Paired (ColO H) vs ds) : vs = (ds.map (·.2.1)).map natV := by
  induction h with
  | nil => rfl
  | cons z _ ih => rw [z, ih]; rfl
/-- a reading kept as it is said -/
structure Box (p : Prop) : Prop where
  h : p
def tBox (t : TE) : TE := fun σ H Q => Box (t σ H Q)
theorem pe_box {X : Cx} {e : Expr} {t : TE} (h : PE X e t) : PE X e (tBox t) := ⟨fun pins s σ H Q I k => h.run pins s σ H Q I k.h⟩
theorem sc_world : FnScope ["self", "classes", "entries", "c", "entry", "what", "bases", "fields", "methods"] ["self", "classes"] (defScope (inClass (top 33) 0)) := ⟨rfl, rfl, rfl, by decide +kernel, rfl, by decide +kernel, by decide +kernel⟩
theorem ok_world (F : FnM K "__init__" "World.__init__" (inClass (top 33) 0) f fd) (B : Fr mg) (Z : Cst mg) (TC : ClsWorld K mg C) (FS : FnP K "is_sequence" 10 fS fdS) (mS : mg "is_sequence" = some (.ref fS)) (FW : FnDf K "is_whole" 11 [.non, .non] fW fdW) (mW : mg "is_whole" = some (.ref fW))
    (FU : FnP K "is_unlike_row" 12 fU fdU) (mU : mg "is_unlike_row" = some (.ref fU)) (FE : FnP K "entry_fault" 34 fE fdE) (mE : mg "entry_fault" = some (.ref fE)) (FL : FnP K "elder_rows" 35 fL fdL) (mL : mg "elder_rows" = some (.ref fL))
    (FH : FnP K "heir_rows" 36 fH fdH) (mH : mg "heir_rows" = some (.ref fH)) (FB : FnM K "__init__" "BadWorld.__init__" (inClass (top 3) 0) fB fdB) (TB : ErrX K mg "BadWorld" ["index", "what"] Cb fB) :
    FnOk P w K mg base (L2.CX P w) 4 f fd ["self", "classes"] (spWorld C Cb) := by
  have GS : FnOk P w K mg base CX0 1 fS fdS ["thing"] spIsSeq := ok_isSeq FS B
  have GE : FnOk P w K mg base CX0 3 fE fdE ["entry", "c"] spEntry := ok_entry FE B Z FS mS FW mW FU mU
  have GL : FnOk P w K mg base CX0 1 fL fdL ["bases"] spElders := ok_elders FL B
  have GH : FnOk P w K mg base CX0 1 fH fdH ["elders"] spHeirs := ok_heirs FH B
  obtain ⟨GB, bB⟩ : FnOk P w K mg base CX0 1 fB fdB ["self", "index", "what"] (spR Cb ["index", "what"]) ∧ Binds K fdB ["self", "index", "what"] [] := ok_badWorld FB TB
  have bS : L2.Binds K fdS ["thing"] [] := FS.bindsN fun _ _ _ _ _ _ us hl => match us, hl with | [_], _ => rfl
  have bE : L2.Binds K fdE ["entry", "c"] [] := FE.bindsN fun _ _ _ _ _ _ us hl => match us, hl with | [_, _], _ => rfl
  have bL : L2.Binds K fdL ["bases"] [] := FL.bindsN fun _ _ _ _ _ _ us hl => match us, hl with | [_], _ => rfl
  have bH : L2.Binds K fdH ["elders"] [] := FH.bindsN fun _ _ _ _ _ _ us hl => match us, hl with | [_], _ => rfl
  obtain ⟨tc, zc⟩ := Z.mc
  refine F.ok sc_world (fun vs H Q E h => ?_) (fun cdv A outer s H vs Q E hr h => ?_)
  · obtain ⟨p, dx, x, rfl, _⟩ := h
    rfl
  · obtain ⟨p, dx, x, rfl, hp, h⟩ := h
    refine ⟨_, (pss_cons (ps_if (PW.pt (pw_or (pt_not (pt_val (pe_call GS (hr.mono (by decide)) (by rfl) mS FS.kp bS .nil pass0 (pa_cons (pv 1) pa_nil)))) (pw_or (pt_cmpR op_eq (pe_callB call_len_seq (by rfl) B.len PySem.boot_len (pa_cons (pv 1) pa_nil)) pe_int (nomark _)) (pw_or1 (pt_cmpR op_gt (pe_callB call_len_seq (by rfl) B.len PySem.boot_len (pa_cons (pv 1) pa_nil)) (pe_glob (v := .int 12) (by rfl) zc ⟨_, rfl⟩) (nomark _))))))
        (pss_one (ps_raise rfl (takes_of rfl rfl rfl rfl) (pmk_oex TB.oex TB.ini TB.inT GB (hr.mono (by decide)) bB .nil pass0 (by rfl) TB.mg (pa_cons pe_int (pa_cons pe_str pa_nil))))) pss_nil)
      (pss_cons (ps_set (i := 2) sc_world.nd rfl (Or.inl rfl) (pe_lst pa_nil))
      (pss_cons (ps_for (passes_of rfl) rfl (pi_or (pi_enum (by rfl) B.enumerate (pa_cons (pv 1) pa_nil)) (pi_enumT (by rfl) B.enumerate (pa_cons (pv 1) pa_nil))) (pg_tup (by rfl) (pgs_cons (pg_name (i := 3) sc_world.nd rfl (Or.inl rfl)) (pgs_cons (pg_name (i := 4) sc_world.nd rfl (Or.inl rfl)) pgs_nil)))
        (pss_cons (ps_set (i := 5) sc_world.nd rfl (Or.inl rfl) (pe_call GE hr (by rfl) mE FE.kp bE .nil pass0 (pa_cons (pv 4) (pa_cons (pv 3) pa_nil))))
        (pss_cons (ps_if (pt_cmpR op_notN (pv 5) pe_non (nomark _)) (pss_one (ps_raise rfl (takes_of rfl rfl rfl rfl) (pmk_oex TB.oex TB.ini TB.inT GB (hr.mono (by decide)) bB .nil pass0 (by rfl) TB.mg (pa_cons (pv 3) (pa_cons (pv 5) pa_nil))))) pss_nil)
        (pss_cons (ps_asg (pv 4) (pg_or (pg_unl (by rfl) (pgs_cons (pg_name (i := 6) sc_world.nd rfl (Or.inl rfl)) (pgs_cons (pg_name (i := 7) sc_world.nd rfl (Or.inl rfl)) (pgs_cons (pg_name (i := 8) sc_world.nd rfl (Or.inl rfl)) pgs_nil)))) (pg_tup (by rfl) (pgs_cons (pg_name (i := 6) sc_world.nd rfl (Or.inl rfl)) (pgs_cons (pg_name (i := 7) sc_world.nd rfl (Or.inl rfl)) (pgs_cons (pg_name (i := 8) sc_world.nd rfl (Or.inl rfl)) pgs_nil))))))
        (pss_one (ps_expr (pe_bm PySem.F.plainAttrs_list PySem.F.slot_list_append PySem.F.type_list_append mt_append (pv 2) (pa_cons (pe_tup (pa_cons (pe_callTy (T := "tuple") (r := rTupOf K) (call_tup (X := _)) (by rfl) B.tuple (by decide +kernel) (pa_cons (pv 6) pa_nil)) (pa_cons (pv 7) (pa_cons (pe_callTy (T := "tuple") (r := rTupOf K) (call_tup (X := _)) (by rfl) B.tuple (by decide +kernel) (pa_cons (pe_callB call_sortedSI (by rfl) B.sorted (by decide +kernel) (pa_cons (pv 8) pa_nil)) pa_nil)) pa_nil)))) pa_nil))))))))
      (pss_cons (ps_fld (pv 0) (pe_callTy (T := "tuple") (r := rTupOf K) (call_tup (X := _)) (by rfl) B.tuple (by decide +kernel) (pa_cons (pv 2) pa_nil)) rfl)
      (pss_cons (ps_fld (pv 0) (pe_callTy (T := "tuple") (r := rTupOf K) (call_tup (X := _)) (by rfl) B.tuple (by decide +kernel) (pa_cons (pe_box <| pe_lc (own := [("entry", 4)]) (g := gName 4) (tt := tYes) rfl sc_world.nd (pi_list (pv 2)) (blkOk_by (by rfl)) (fun _ _ _ _ _ => pg_name (i := 4) sc_world.nd rfl (Or.inl rfl)) (fun _ _ _ _ _ => pts_nil) (fun _ _ _ _ _ => pe_ix (r := rIxT K) ix_tup (pv 4) pe_int (fun _ _ => rfl))) pa_nil)) rfl)
      (pss_cons (ps_fld (pv 0) (pe_callTy (T := "tuple") (r := rTupOf K) (call_tup (X := _)) (by rfl) B.tuple (by decide +kernel) (pa_cons (pe_box <| pe_lc (own := [("entry", 4)]) (g := gName 4) (tt := tYes) rfl sc_world.nd (pi_list (pv 2)) (blkOk_by (by rfl)) (fun _ _ _ _ _ => pg_name (i := 4) sc_world.nd rfl (Or.inl rfl)) (fun _ _ _ _ _ => pts_nil) (fun _ _ _ _ _ => pe_ix (r := rIxT K) ix_tup (pv 4) pe_int (fun _ _ => rfl))) pa_nil)) rfl)
      (pss_cons (ps_fld (pv 0) (pe_callTy (T := "tuple") (r := rTupOf K) (call_tup (X := _)) (by rfl) B.tuple (by decide +kernel) (pa_cons (pe_box <| pe_lc (own := [("entry", 4)]) (g := gName 4) (tt := tYes) rfl sc_world.nd (pi_list (pv 2)) (blkOk_by (by rfl)) (fun _ _ _ _ _ => pg_name (i := 4) sc_world.nd rfl (Or.inl rfl)) (fun _ _ _ _ _ => pts_nil) (fun _ _ _ _ _ => pe_ix (r := rIxT K) ix_tup (pv 4) pe_int (fun _ _ => rfl))) pa_nil)) rfl)
      (pss_cons (ps_fld (pv 0) (pe_call GL (hr.mono (by decide)) (by rfl) mL FL.kp bL .nil pass0 (pa_cons (pe_fld (pv 0) rfl) pa_nil)) rfl)
      (pss_one (ps_fld (pv 0) (pe_call GH (hr.mono (by decide)) (by rfl) mH FH.kp bH .nil pass0 (pa_cons (pe_fld (pv 0) rfl) pa_nil)) rfl)))))))))), ?_⟩
    rcases h with ⟨h, k⟩ | ⟨a, es, ds, rfl, hA, hn0, hn12, hdl, hok, h⟩
    · rcases h with ⟨t, ty, hs⟩ | ⟨a, es, rfl, hA, hlen⟩
      · refine ⟨_, rfl, x, t, rfl, ty, fun H1 s1 => ⟨_, rfl, ?_⟩⟩
        rw [hs]
        exact iteT (raise_q rfl (by decide) fun d H' s2 _ e => k d H' (s1.trans s2) e)
      · obtain ⟨t, ty, hseq⟩ := hA.ty
        refine ⟨_, rfl, _, t, rfl, ty, fun H1 s1 => ⟨_, rfl, ?_⟩⟩
        rw [hseq]
        refine iteF ⟨_, rfl, a, es, rfl, (hA.same s1).sq, rfl, _, rfl, ?_⟩
        by_cases q : es.length = 0
        · have z : decide (V.int (es.length : Int) = V.int 0) = true := decide_eq_true (by rw [q]; rfl)
          rw [z]
          exact iteT (raise_q rfl (by decide) fun d H' s2 _ e => k d H' (s1.trans s2) e)
        · have z : decide (V.int (es.length : Int) = V.int 0) = false := decide_eq_false fun e => q (by have := V.int.inj e; omega)
          rw [z]
          refine iteF ⟨_, rfl, a, es, rfl, (hA.same s1).sq, _, _, rfl, rfl, _, rfl, ?_⟩
          rw [decide_eq_true (show (12 : Int) < (es.length : Int) by omega)]
          exact iteT (raise_q rfl (by decide) fun d H' s2 _ e => k d H' (s1.trans s2) e)
    · obtain ⟨t, ty, hseq⟩ := hA.ty
      refine ⟨_, rfl, _, t, rfl, ty, fun H1 s1 => ⟨_, rfl, ?_⟩⟩
      rw [hseq]
      refine iteF ⟨_, rfl, a, es, rfl, (hA.same s1).sq, rfl, _, rfl, ?_⟩
      rw [decide_eq_false (show ¬ V.int (es.length : Int) = V.int 0 from fun e => hn0 (by have := V.int.inj e; omega))]
      refine iteF ⟨_, rfl, a, es, rfl, (hA.same s1).sq, _, _, rfl, rfl, _, rfl, ?_⟩
      rw [decide_eq_false (show ¬ (12 : Int) < (es.length : Int) by omega)]
      refine iteF ⟨by decide, fun R hR => ?_⟩
      have hRH : H R = none := s1.free hR
      have sR : Same H (upd H1 R (.lst [])) := s1.trans (same_new hR)
      refine for_enumS (K := K) (a := a) (xs := es) rfl hA sR (fun i σ H' => Same H H' ∧ i ≤ ds.length ∧ ∃ us x3 x4 x5 x6 x7 x8, σ = [some (.ref p), some (.ref a), some (.ref R), x3, x4, x5, x6, x7, x8] ∧ H' R = some (.lst us) ∧ EntsAt H' us (ds.take i))
        ⟨sR, Nat.zero_le _, [], none, none, none, none, none, none, rfl, upd_same, .nil⟩ (fun i σ H' h => h.1) ?_ ?_
      · rintro i e σ H' T hi ⟨sH, hid, us, x3, x4, x5, x6, x7, x8, rfl, hRu, hE⟩ hT
        have hil : i < es.length := (List.getElem?_eq_some_iff.mp hi).1
        have sT : Same H' (upd H' T (.tup [.int (i : Nat), e])) := same_new hT
        refine ⟨T, _, rfl, SqT.of upd_same, rfl, _, _, rfl, _, _, rfl, rfl, ?_⟩
        generalize hG : upd H' T (.tup [.int (i : Nat), e]) = G at sT ⊢
        by_cases hd : i < ds.length
        · obtain ⟨d, hdi⟩ : ∃ d, ds[i]? = some d := ⟨_, List.getElem?_eq_getElem hd⟩
          obtain ⟨e', he', hok1⟩ := hok i d hdi
          obtain rfl : e = e' := Option.some.inj (hi.symm.trans he')
          have hokG := hok1.same (sH.trans sT)
          refine ⟨_, rfl, _, rfl, e, (i : Int), none, rfl, hokG.is, fun H2 s2 => ?_⟩
          have hok2 := hokG.same s2
          obtain ⟨ae, ab, am, rfl, hs, hb, hm, ⟨hb1, hb2, hb3⟩, hf, hm1, hm2, hm3⟩ := hok2
          have hRu2 : H2 R = some (.lst us) := s2 _ _ (sT _ _ hRu)
          have hE2 : EntsAt H2 us (ds.take i) := hE.mono (Same.tupK (Same.trans sT s2))
          have sH2 : Same H H2 := (sH.trans sT).trans s2
          refine ⟨_, rfl, rfl, _, rfl, iteF ?_⟩
          refine ⟨_, rfl, ?_⟩
          rcases hs with hs | hs
          case' inl => refine .inl ⟨ae, _, rfl, SqL.of hs, rfl, _, _, rfl, _, _, rfl, _, _, rfl, rfl, ?_⟩
          case' inr => refine .inr ⟨ae, _, rfl, SqT.of hs, rfl, _, _, rfl, _, _, rfl, _, _, rfl, rfl, ?_⟩
          all_goals
            refine ⟨_, rfl, .inl ⟨rfl, _, SqL.of hRu2⟩, _, rfl, ?_⟩
            refine tup_q hb fun tb H3 s3 hb' => ⟨_, rfl, _, rfl, am, d.2.2.map (fun (n : Nat) => (n : Int)), rfl, ?_, fun ys L perm srt hL => ?_⟩
            · have z := (hm.same s3).sq (K := K)
              rw [List.map_map]
              exact z
            · refine tup_q (.inl upd_same) fun tm H4 s4 hm' => ⟨by (show 3 ≤ sizeLine); decide, fun tt htt => ?_⟩
              have eys := sortN_one hm1 hm3 perm srt
              rw [eys] at hm'
              have sL := same_new (o := .lst (ys.map V.int)) hL
              have s34 : Same H3 H4 := sL.trans s4
              have s24 : Same H2 H4 := s3.trans s34
              have st := same_new (o := .tup [.ref tb, natV d.2.1, .ref tm]) htt
              have sA := s24.trans st
              refine ⟨R, us, _, rfl, rfl, sA _ _ hRu2, ?_, same_upd (sH2.trans sA) hRH, by omega, us ++ [.ref tt], _, _, _, _, _, _, rfl, upd_same, ?_⟩
              · rw [hE2.len, List.length_take]
                show _ < 2 ^ 24
                omega
              · have keep : TupK (upd H4 tt (.tup [.ref tb, natV d.2.1, .ref tm])) (upd (upd H4 tt (.tup [.ref tb, natV d.2.1, .ref tm])) R (.lst (us ++ [.ref tt]))) := tups_upd (sA _ _ hRu2) fun xs z => by cases z
                rw [List.take_add_one, hdi, Option.toList_some]
                exact (((hE2.mono (Same.tupK sA)).mono keep).app (.cons ⟨tt, rfl, tb, tm, keep _ _ upd_same, keep _ _ (st _ _ (s34 _ _ hb')), keep _ _ (st _ _ hm')⟩ .nil))
        · have hid' : i = ds.length := by omega
          subst hid'
          rcases h with ⟨e', word, he', his, k⟩ | ⟨hl, _⟩
          · obtain rfl : e = e' := Option.some.inj (hi.symm.trans he')
            refine ⟨_, rfl, _, rfl, e, (ds.length : Int), some word, rfl, his.same (sH.trans sT), fun H2 s2 => ?_⟩
            refine ⟨_, rfl, rfl, _, rfl, iteT ?_⟩
            exact ⟨_, rfl, _, rfl, raise_q rfl (by decide) fun d H' s3 _ e => k d H' (((sH.trans sT).trans s2).trans s3) e⟩
          · omega
      · rintro σ H0 ⟨sH, hid, us, x3, x4, x5, x6, x7, x8, rfl, hRu, hE⟩
        have hln : ds.length = es.length := by omega
        rcases h with ⟨e', word, he', _⟩ | ⟨_, k⟩
        · rw [hln, List.getElem?_eq_none (Nat.le_refl _)] at he'
          cases he'
        rw [List.take_of_length_le (by omega)] at hE
        have h12 : ds.length ≤ 12 := by omega
        have hp0 : H0 p = some (.ins C dx []) := sH _ _ hp
        have hRp : R ≠ p := fun z => by
          rw [z, hp0] at hRu
          cases hRu
        have O0 : Oth p H H0 := Oth.of sH
        -- classes
        refine ⟨_, rfl, ?_⟩
        refine tup_q (.inl hRu) fun pc G t1 hc => ⟨_, rfl, p, C, dx, [], rfl, t1 _ _ hp0, TC.cl, TC.no _ (List.mem_of_getElem? (i := 0) rfl), by simp, ?_⟩
        have O1 : Oth p H0 (upd G p (.ins C dx (putF "classes" (.ref pc) []))) := Oth.upd (Oth.of t1)
        have P1 : upd G p (.ins C dx (putF "classes" (.ref pc) [])) p = some (.ins C dx [("classes", .ref pc)]) := upd_same
        have C1 : upd G p (.ins C dx (putF "classes" (.ref pc) [])) pc = some (.tup us) := tups_upd (t1 _ _ hp0) (fun xs z => by cases z) _ _ hc
        generalize hN : upd G p (.ins C dx (putF "classes" (.ref pc) [])) = N1 at O1 P1 C1 ⊢
        have E1 : EntsAt N1 us ds := hE.mono (O1.tupK hp0)
        have R1 : N1 R = some (.lst us) := O1 _ _ hRp hRu
        clear hN t1 hc G
        -- bases
        refine Box.mk <| col_q (k := 0) ColB (fun H H' v d kk z => ?_) (fun H t d z => ?_) R1 E1 h12 fun D G0 bs t0 hD hB => ?_
        · obtain ⟨t, e1, e2⟩ := z
          exact ⟨t, e1, kk _ _ e2⟩
        · obtain ⟨tb, tm, z1, z2, z3⟩ := z
          exact ⟨_, _, z1, rfl, tb, rfl, z2⟩
        refine tup_q (.inl hD) fun pb G t1 hx => ⟨_, rfl, p, C, dx, _, rfl, t1 _ _ (t0 _ _ P1), TC.cl, TC.no _ (List.mem_of_getElem? (i := 1) rfl), by simp, ?_⟩
        have tt : Same N1 G := Same.trans t0 t1
        have O2 : Oth p N1 (upd G p (.ins C dx (putF "bases" (.ref pb) [("classes", .ref pc)]))) := Oth.upd (Oth.of tt)
        have P2 : upd G p (.ins C dx (putF "bases" (.ref pb) [("classes", .ref pc)])) p = some (.ins C dx [("classes", .ref pc), ("bases", .ref pb)]) := upd_same
        have X2 : upd G p (.ins C dx (putF "bases" (.ref pb) [("classes", .ref pc)])) pb = some (.tup bs) := tups_upd (tt _ _ P1) (fun xs z => by cases z) _ _ hx
        have kk2 : TupK G (upd G p (.ins C dx (putF "bases" (.ref pb) [("classes", .ref pc)]))) := tups_upd (tt _ _ P1) fun xs z => by cases z
        have T1 : TupsAt (upd G p (.ins C dx (putF "bases" (.ref pb) [("classes", .ref pc)]))) bs (ds.map (·.1)) := ((colB_tups hB).mono (Same.tupK t1)).mono kk2
        generalize hN : upd G p (.ins C dx (putF "bases" (.ref pb) [("classes", .ref pc)])) = N2 at O2 P2 X2 kk2 T1 ⊢
        have E2 : EntsAt N2 us ds := E1.mono (O2.tupK P1)
        have R2 : N2 R = some (.lst us) := O2 _ _ hRp R1
        clear hN kk2 tt t1 t0 hx hD hB G G0
        -- owns
        refine Box.mk <| col_q (k := 1) ColO (fun H H' v d kk z => z) (fun H t d z => ?_) R2 E2 h12 fun D G0 os t0 hD hB => ?_
        · obtain ⟨tb, tm, z1, z2, z3⟩ := z
          exact ⟨_, _, z1, rfl, rfl⟩
        refine tup_q (.inl hD) fun po G t1 hx => ⟨_, rfl, p, C, dx, _, rfl, t1 _ _ (t0 _ _ P2), TC.cl, TC.no _ (List.mem_of_getElem? (i := 2) rfl), by simp, ?_⟩
        have tt : Same N2 G := Same.trans t0 t1
        have O3 : Oth p N2 (upd G p (.ins C dx (putF "owns" (.ref po) [("classes", .ref pc), ("bases", .ref pb)]))) := Oth.upd (Oth.of tt)
        have P3 : upd G p (.ins C dx (putF "owns" (.ref po) [("classes", .ref pc), ("bases", .ref pb)])) p = some (.ins C dx [("classes", .ref pc), ("bases", .ref pb), ("owns", .ref po)]) := upd_same
        have X3 : upd G p (.ins C dx (putF "owns" (.ref po) [("classes", .ref pc), ("bases", .ref pb)])) po = some (.tup os) := tups_upd (tt _ _ P2) (fun xs z => by cases z) _ _ hx
        have kk3 : TupK G (upd G p (.ins C dx (putF "owns" (.ref po) [("classes", .ref pc), ("bases", .ref pb)]))) := tups_upd (tt _ _ P2) fun xs z => by cases z
        have T2 : os = (ds.map (·.2.1)).map natV := colO_nats hB
        generalize hN : upd G p (.ins C dx (putF "owns" (.ref po) [("classes", .ref pc), ("bases", .ref pb)])) = N3 at O3 P3 X3 kk3 ⊢
        have E3 : EntsAt N3 us ds := E2.mono (O3.tupK P2)
        have R3 : N3 R = some (.lst us) := O3 _ _ hRp R2
        clear hN kk3 tt t1 t0 hx hD hB G G0
        -- methods
        refine Box.mk <| col_q (k := 2) ColM (fun H H' v d kk z => ?_) (fun H t d z => ?_) R3 E3 h12 fun D G0 ms t0 hD hB => ?_
        · obtain ⟨t, e1, e2⟩ := z
          exact ⟨t, e1, kk _ _ e2⟩
        · obtain ⟨tb, tm, z1, z2, z3⟩ := z
          exact ⟨_, _, z1, rfl, tm, rfl, z3⟩
        refine tup_q (.inl hD) fun pm G t1 hx => ⟨_, rfl, p, C, dx, _, rfl, t1 _ _ (t0 _ _ P3), TC.cl, TC.no _ (List.mem_of_getElem? (i := 3) rfl), by simp, ?_⟩
        have tt : Same N3 G := Same.trans t0 t1
        have O4 : Oth p N3 (upd G p (.ins C dx (putF "methods" (.ref pm) [("classes", .ref pc), ("bases", .ref pb), ("owns", .ref po)]))) := Oth.upd (Oth.of tt)
        have P4 : upd G p (.ins C dx (putF "methods" (.ref pm) [("classes", .ref pc), ("bases", .ref pb), ("owns", .ref po)])) p = some (.ins C dx [("classes", .ref pc), ("bases", .ref pb), ("owns", .ref po), ("methods", .ref pm)]) := upd_same
        have X4 : upd G p (.ins C dx (putF "methods" (.ref pm) [("classes", .ref pc), ("bases", .ref pb), ("owns", .ref po)])) pm = some (.tup ms) := tups_upd (tt _ _ P3) (fun xs z => by cases z) _ _ hx
        have kk4 : TupK G (upd G p (.ins C dx (putF "methods" (.ref pm) [("classes", .ref pc), ("bases", .ref pb), ("owns", .ref po)]))) := tups_upd (tt _ _ P3) fun xs z => by cases z
        have T3 : TupsAt (upd G p (.ins C dx (putF "methods" (.ref pm) [("classes", .ref pc), ("bases", .ref pb), ("owns", .ref po)]))) ms (ds.map fun d => sortN d.2.2) := ((colM_tups hB).mono (Same.tupK t1)).mono kk4
        generalize hN : upd G p (.ins C dx (putF "methods" (.ref pm) [("classes", .ref pc), ("bases", .ref pb), ("owns", .ref po)])) = N4 at O4 P4 X4 kk4 T3 ⊢
        have E4 : EntsAt N4 us ds := E3.mono (O4.tupK P3)
        have R4 : N4 R = some (.lst us) := O4 _ _ hRp R3
        clear hN kk4 tt t1 t0 hx hD hB G G0
        -- elders
        have hv : validB (ds.map (·.1)) := fun c row hc b hb => by
          rw [List.getElem?_map] at hc
          obtain ⟨d, hd, rfl⟩ := Option.map_eq_some_iff.mp hc
          obtain ⟨e, _, _, _, _, _, _, _, _, ⟨_, _, z⟩, _⟩ := hok c d hd
          exact z b hb
        have hr12 : ∀ row ∈ ds.map (·.1), row.length ≤ 12 := fun row hrow => by
          obtain ⟨d, hd, rfl⟩ := List.mem_map.mp hrow
          obtain ⟨c, hc⟩ := List.mem_iff_getElem?.mp hd
          obtain ⟨e, _, _, _, _, _, _, _, _, ⟨_, z, _⟩, _⟩ := hok c d hc
          exact z
        have B4 : N4 pb = some (.tup bs) := O4.tupK P3 _ _ (O3.tupK P2 _ _ X2)
        have TB4 : TupsAt N4 bs (ds.map (·.1)) := (T1.mono (O3.tupK P2)).mono (O4.tupK P3)
        refine ⟨_, rfl, p, C, dx, _, _, rfl, P4, TC.cl, TC.no _ (List.mem_of_getElem? (i := 1) rfl), rfl, pb, bs, ds.map (·.1), rfl, B4, TB4, hv, by rw [List.length_map]; exact h12, hr12, fun G pe es' tt hx hU => ⟨_, rfl, p, C, dx, _, rfl, tt _ _ P4, TC.cl, TC.no _ (List.mem_of_getElem? (i := 4) rfl), by simp, ?_⟩⟩
        have O5 : Oth p N4 (upd G p (.ins C dx (putF "elders" (.ref pe) [("classes", .ref pc), ("bases", .ref pb), ("owns", .ref po), ("methods", .ref pm)]))) := Oth.upd (Oth.of tt)
        have P5 : upd G p (.ins C dx (putF "elders" (.ref pe) [("classes", .ref pc), ("bases", .ref pb), ("owns", .ref po), ("methods", .ref pm)])) p = some (.ins C dx [("classes", .ref pc), ("bases", .ref pb), ("owns", .ref po), ("methods", .ref pm), ("elders", .ref pe)]) := upd_same
        have X5 : upd G p (.ins C dx (putF "elders" (.ref pe) [("classes", .ref pc), ("bases", .ref pb), ("owns", .ref po), ("methods", .ref pm)])) pe = some (.tup es') := tups_upd (tt _ _ P4) (fun xs z => by cases z) _ _ hx
        have kk5 : TupK G (upd G p (.ins C dx (putF "elders" (.ref pe) [("classes", .ref pc), ("bases", .ref pb), ("owns", .ref po), ("methods", .ref pm)]))) := tups_upd (tt _ _ P4) fun xs z => by cases z
        have T4 : TupsAt (upd G p (.ins C dx (putF "elders" (.ref pe) [("classes", .ref pc), ("bases", .ref pb), ("owns", .ref po), ("methods", .ref pm)]))) es' (elders (ds.map (·.1))) := hU.mono kk5
        generalize hN : upd G p (.ins C dx (putF "elders" (.ref pe) [("classes", .ref pc), ("bases", .ref pb), ("owns", .ref po), ("methods", .ref pm)])) = N5 at O5 P5 X5 kk5 T4 ⊢
        clear hN kk5 tt hx hU G
        -- heirs
        refine ⟨_, rfl, p, C, dx, _, _, rfl, P5, TC.cl, TC.no _ (List.mem_of_getElem? (i := 4) rfl), rfl, pe, es', elders (ds.map (·.1)), rfl, X5, T4, by rw [elders_len, List.length_map]; exact h12, fun G ph hs tt hx hU => ⟨_, rfl, p, C, dx, _, rfl, tt _ _ P5, TC.cl, TC.no _ (List.mem_of_getElem? (i := 5) rfl), by simp, ?_⟩⟩
        have O6 : Oth p N5 (upd G p (.ins C dx (putF "heirs" (.ref ph) [("classes", .ref pc), ("bases", .ref pb), ("owns", .ref po), ("methods", .ref pm), ("elders", .ref pe)]))) := Oth.upd (Oth.of tt)
        have P6 : upd G p (.ins C dx (putF "heirs" (.ref ph) [("classes", .ref pc), ("bases", .ref pb), ("owns", .ref po), ("methods", .ref pm), ("elders", .ref pe)])) p = some (.ins C dx [("classes", .ref pc), ("bases", .ref pb), ("owns", .ref po), ("methods", .ref pm), ("elders", .ref pe), ("heirs", .ref ph)]) := upd_same
        have X6 : upd G p (.ins C dx (putF "heirs" (.ref ph) [("classes", .ref pc), ("bases", .ref pb), ("owns", .ref po), ("methods", .ref pm), ("elders", .ref pe)])) ph = some (.tup hs) := tups_upd (tt _ _ P5) (fun xs z => by cases z) _ _ hx
        have kk6 : TupK G (upd G p (.ins C dx (putF "heirs" (.ref ph) [("classes", .ref pc), ("bases", .ref pb), ("owns", .ref po), ("methods", .ref pm), ("elders", .ref pe)]))) := tups_upd (tt _ _ P5) fun xs z => by cases z
        have T5 : TupsAt (upd G p (.ins C dx (putF "heirs" (.ref ph) [("classes", .ref pc), ("bases", .ref pb), ("owns", .ref po), ("methods", .ref pm), ("elders", .ref pe)]))) hs (heirs (elders (ds.map (·.1)))) := hU.mono kk6
        generalize hN : upd G p (.ins C dx (putF "heirs" (.ref ph) [("classes", .ref pc), ("bases", .ref pb), ("owns", .ref po), ("methods", .ref pm), ("elders", .ref pe)])) = N6 at O6 P6 X6 kk6 T5 ⊢
        have k23 := O3.tupK P2
        have k34 := O4.tupK P3
        have k45 := O5.tupK P4
        have k56 := O6.tupK P5
        have k12 := O2.tupK P1
        have k16 : TupK N1 N6 := fun b xs e => k56 _ _ (k45 _ _ (k34 _ _ (k23 _ _ (k12 _ _ e))))
        have k26 : TupK N2 N6 := fun b xs e => k56 _ _ (k45 _ _ (k34 _ _ (k23 _ _ e)))
        have k36 : TupK N3 N6 := fun b xs e => k56 _ _ (k45 _ _ (k34 _ _ e))
        have k46 : TupK N4 N6 := fun b xs e => k56 _ _ (k45 _ _ e)
        exact k N6 ((((((O0.trans O1).trans O2).trans O3).trans O4).trans O5).trans O6) ⟨dx, pc, pb, po, pm, pe, ph, us, bs, ms, es', hs, P6, k16 _ _ C1, E1.mono k16, k26 _ _ X2, T1.mono k26, by rw [← T2]; exact k36 _ _ X3, k46 _ _ X4, T3.mono k46, k56 _ _ X5, T4.mono k56, X6, T5⟩
end
end K83

set_option maxRecDepth 100000
set_option maxHeartbeats 4000000
namespace K83
open PySem PySem.Spec PyProof.Rows L2 Kw
/-- the hand at p: its cells' list at q, the place, what is left of a great cell, the total -/
def HandAt (H : Hp) (p q : Addr) : Prop := ∃ (cs : List Int) (i r t : Int), H p = some (.lst [.ref q, .int i, .int r, .int t]) ∧ H q = some (.lst (cs.map V.int)) ∧ p ≠ q ∧
  (∀ c ∈ cs, 0 ≤ c) ∧ 0 ≤ i ∧ i ≤ (cs.length : Int) ∧ cs.length ≤ 63 ∧ 0 ≤ r ∧ 0 ≤ t ∧ t < 2147483549
def spHand (K : PySem.W.Frag) : Sp := fun vs H Q _ => ∃ (a : Addr) (ns : List Int), vs = [.ref a] ∧ SqL K H a (ns.map V.int) ∧ ns.length ≤ 63 ∧ ∀ p q H', Same H H' → H p = none → H q = none → HandAt H' p q → Q (.ref p) H'
def spMixed : Sp := fun vs H Q _ => ∃ n t : Int, vs = [.int n, .int t] ∧ 0 ≤ n ∧ n < 2147483600 ∧ 0 ≤ t ∧ t < 100 ∧ ∀ r : Int, 0 ≤ r → Q (.int r) H
def spTake : Sp := fun vs H Q _ => ∃ (p q : Addr) (m : Int), vs = [.ref p, .int m] ∧ 1 ≤ m ∧ m < 1073741824 ∧ HandAt H p q ∧ ∀ (r : Int) (H' : Hp), 0 ≤ r → r < m → HandAt H' p q → (∀ b, b ≠ p → H' b = H b) → Q (.int r) H'

theorem emod_in {a m : Int} (h : 0 < m) : 0 ≤ a % m ∧ a % m < m := ⟨Int.emod_nonneg _ (by omega), Int.emod_lt_of_pos _ h⟩
section
variable {P : Program} {w : World} {K : PySem.W.Frag} {mg : Str → Option Value} {base : Heap} {f : Addr} {fd : FuncData}
theorem scM : FnScope ["_law_number", "_law_turn", "_law_once", "_law_twice"] ["_law_number", "_law_turn"] (defScope (top 44)) := ⟨rfl, rfl, rfl, by decide +kernel, rfl, by decide +kernel, by decide +kernel⟩
theorem ok_mixed (F : FnP K "_law_mixed" 44 f fd) (gI : mg "int" = none) : FnOk P w K mg base CX0 1 f fd ["_law_number", "_law_turn"] spMixed := by
  refine F.ok scM (fun vs H Q E h => ?_) (fun cdv A outer s H vs Q E hr h => ?_)
  · obtain ⟨n, t, rfl, _⟩ := h
    rfl
  · obtain ⟨n, t, rfl, n0, n1, t0, t1, k⟩ := h
    refine ⟨_, PSs.nox (pss_cons (ps_set (i := 2) scM.nd rfl (Or.inl rfl) (pe_op op_mod (pe_callTy call_int1 (by rfl) gI PyProof.Rows.boot_int (pa_cons (pe_op op_add (pe_op op_add (pe_op op_mul (pv 0) pe_int) (pe_op op_mul (pv 1) pe_int)) pe_int) pa_nil)) pe_int))
      (pss_cons (ps_set (i := 3) scM.nd rfl (Or.inl rfl) (pe_op op_mod (pe_callTy call_int1 (by rfl) gI PyProof.Rows.boot_int (pa_cons (pe_op op_add (pe_op op_add (pe_op op_mul (pv 2) (pv 2)) (pe_op op_mul (pv 1) pe_int)) (pe_op op_fdiv (pv 2) pe_int)) pa_nil)) pe_int))
      (pss_one (ps_ret (pe_op op_fdiv (pe_callTy call_int1 (by rfl) gI PyProof.Rows.boot_int (pa_cons (pe_op op_mod (pe_callTy call_int1 (by rfl) gI PyProof.Rows.boot_int (pa_cons (pe_op op_add (pe_op op_mul (pv 3) pe_int) (pe_op op_fdiv (pv 2) pe_int)) pa_nil)) pe_int) pa_nil)) pe_int))))), ?_⟩
    refine ⟨_, rfl, _, _, rfl, rfl, .inr ⟨by decide, by decide⟩, _, rfl, _, _, rfl, rfl, .inr ⟨by decide, by decide⟩, _, _, rfl, rfl, _, _, rfl, rfl, .inl ⟨_, rfl, _, _, rfl, rfl, (by show (0 : Int) < 2147483399; decide), ?_⟩⟩
    have bo := emod_in (a := n * 48271 + t * 7919 + 30011) (m := 2147483399) (by decide)
    refine ⟨_, rfl, _, rfl, _, _, rfl, rfl, .inl ⟨by show (-(2 ^ 64) : Int) < (n * 48271 + t * 7919 + 30011) % 2147483399; omega, by show (n * 48271 + t * 7919 + 30011) % 2147483399 < (2 ^ 64 : Int); omega⟩, _, rfl, _, _, rfl, rfl, .inr ⟨by decide, by decide⟩, _, _, rfl, rfl, _, rfl, _, _, rfl, rfl, ⟨by decide, by decide⟩, _, _, rfl, rfl, .inl ⟨_, rfl, _, _, rfl, rfl, (by show (0 : Int) < 2147483629; decide), ?_⟩⟩
    refine ⟨_, rfl, _, _, rfl, rfl, .inr ⟨by decide, by decide⟩, _, rfl, _, _, rfl, rfl, ⟨by decide, by decide⟩, _, _, rfl, rfl, .inl ⟨_, rfl, _, _, rfl, rfl, (by show (0 : Int) < 2147483587; decide), .inl ⟨_, rfl, _, _, rfl, rfl, ⟨by decide, by decide⟩, ?_⟩⟩⟩
    exact k _ (Int.ediv_nonneg (emod_in (by decide)).1 (by decide))

theorem scH : FnScope ["_law_script", "_law_total", "_law_cells", "_law_cell"] ["_law_script"] (defScope (top 43)) := ⟨rfl, rfl, rfl, by decide +kernel, rfl, by decide +kernel, by decide +kernel⟩
theorem ok_hand (F : FnP K "_law_hand" 43 f fd) (gI : mg "int" = none) (gL : mg "len" = none) (gA : mg "abs" = none) : FnOk P w K mg base CX0 1 f fd ["_law_script"] (spHand K) := by
  refine F.ok scH (fun vs H Q E h => ?_) (fun cdv A outer s H vs Q E hr h => ?_)
  · obtain ⟨a, ns, rfl, _⟩ := h
    rfl
  · obtain ⟨a, ns, rfl, hS, hl, k⟩ := h
    refine ⟨_, PSs.nox (pss_cons (ps_set (i := 1) scH.nd rfl (Or.inl rfl) (pe_op op_add (pe_callB call_len_seq (by rfl) gL PySem.boot_len (pa_cons (pv 0) pa_nil)) pe_int))
      (pss_cons (ps_set (i := 2) scH.nd rfl (Or.inl rfl) (pe_lst pa_nil))
      (pss_cons (ps_for PassesOwn.never rfl (pi_list (pv 0)) (pg_name (i := 3) scH.nd rfl (Or.inl rfl))
        (pss_cons (ps_set (i := 1) scH.nd rfl (Or.inl rfl) (pe_op op_mod (pe_callTy call_int1 (by rfl) gI PyProof.Rows.boot_int (pa_cons (pe_op op_add (pe_op op_mul (pv 1) pe_int) (pe_callTy call_int1 (by rfl) gI PyProof.Rows.boot_int (pa_cons (pv 3) pa_nil))) pa_nil)) pe_int))
        (pss_one (ps_expr (pe_bm PySem.F.plainAttrs_list PySem.F.slot_list_append PySem.F.type_list_append mt_append (pv 2) (pa_cons (pe_callB call_abs (by rfl) gA PyProof.Rows.boot_abs (pa_cons (pe_callTy call_int1 (by rfl) gI PyProof.Rows.boot_int (pa_cons (pv 3) pa_nil)) pa_nil)) pa_nil))))))
      (pss_one (ps_ret (pe_lst (pa_cons (pv 2) (pa_cons pe_int (pa_cons pe_int (pa_cons (pv 1) pa_nil)))))))))), ?_⟩
    refine ⟨_, rfl, a, _, rfl, .inl hS, _, _, rfl, rfl, Nat.zero_le _, fun q hq => ?_⟩
    have sq : Same H (upd H q (.lst [])) := fun b o e => by
      rw [upd_ne (ne_of_none e hq)]
      exact e
    refine ⟨_, rfl, a, rfl, ⟨_, sq.seq hS⟩, for_list (K := K) (a := a) (xs := ns.map V.int) (fun i σ H' => ∃ (t : Int) (cs : List Int) (v : Option V), σ = [some (.ref a), some (.int t), some (.ref q), v] ∧ Same H H' ∧ H q = none ∧ H' q = some (.lst (cs.map V.int)) ∧ cs.length = i ∧ (∀ c ∈ cs, 0 ≤ c) ∧ 0 ≤ t ∧ t < 2147483549)
      ⟨_, [], none, rfl, sq, hq, upd_same, rfl, (fun c hc => by cases hc), ?_, ?_⟩ (fun i σ H' _ ⟨_, _, _, _, s, _⟩ => s.seq hS) ?_ ?_⟩
    · show (0 : Int) ≤ ((ns.map V.int).length : Int) + 37
      omega
    · show ((ns.map V.int).length : Int) + 37 < 2147483549
      rw [List.length_map]
      omega
    · rintro i y σ H' hi ⟨t, cs, v, rfl, s, hq0, hc, hln, h0, t0, t1⟩
      obtain ⟨u, rfl⟩ : ∃ u, y = V.int u := by
        rw [List.getElem?_map] at hi
        cases e : ns[i]? with
        | none =>
          rw [e] at hi
          cases hi
        | some u =>
          rw [e] at hi
          exact ⟨u, (Option.some.inj hi).symm⟩
      have hi63 : i < ns.length := by
        have z := (List.getElem?_eq_some_iff.mp hi).1
        rw [List.length_map] at z
        exact z
      refine ⟨_, rfl, _, _, rfl, rfl, .inr ⟨by decide, by decide⟩, _, rfl, .inl ⟨_, rfl, _, _, rfl, rfl, .inl ⟨_, rfl, _, _, rfl, rfl, (by show (0 : Int) < 2147483549; decide), ?_⟩⟩⟩
      have bt := emod_in (a := t * 1709 + u) (m := 2147483549) (by decide)
      refine ⟨_, rfl, .inl ⟨rfl, _, SqL.of hc⟩, _, rfl, .inl ⟨_, rfl, _, rfl, q, _, _, rfl, rfl, hc, ?_, ?_⟩⟩
      · rw [List.length_map]
        exact small1000 (by omega)
      · refine ⟨_, cs ++ [if u < 0 then -u else u], _, rfl, fun b o e => ?_, hq0, ?_, ?_, ?_, bt.1, bt.2⟩
        · rw [upd_ne (ne_of_none e hq0)]
          exact s b o e
        · rw [upd_same, List.map_append]
          rfl
        · rw [List.length_append, hln]
          rfl
        · intro c hc'
          rcases List.mem_append.mp hc' with z | z
          · exact h0 c z
          · rw [List.mem_singleton.mp z]
            split <;> omega
    · rintro σ H' ⟨t, cs, v, rfl, s, hq0, hc, hln, h0, t0, t1⟩
      refine ⟨_, rfl, _, rfl, (by show 4 ≤ sizeLine; decide), fun p hp => ?_⟩
      have npq : p ≠ q := fun z => by
        rw [z, hc] at hp
        cases hp
      have hln' : cs.length = ns.length := by
        rw [hln, List.length_map]
      refine k p q _ (fun b o e => ?_) (s.free hp) hq0 ⟨cs, 0, 0, t, upd_same, by rw [upd_ne npq.symm]; exact hc, npq, h0, Int.le_refl _, by omega, by omega, Int.le_refl _, t0, t1⟩
      rw [upd_ne (ne_of_none (s b o e) hp)]
      exact s b o e
end
theorem at4 {a b c d : V} : atI [a, b, c, d] 0 = some a ∧ atI [a, b, c, d] 1 = some b ∧ atI [a, b, c, d] 2 = some c ∧ atI [a, b, c, d] 3 = some d := ⟨rfl, rfl, rfl, rfl⟩
theorem vint {a b : Int} (h : decide (V.int a = V.int b) = true) : a = b := V.int.inj (of_decide_eq_true h)
theorem dec_t {c : Prop} [Decidable c] (h : decide c = true) : c := of_decide_eq_true h
theorem dec_f {c : Prop} [Decidable c] (h : ¬ decide c = true) : ¬ c := fun z => h (decide_eq_true z)
section
variable {P : Program} {w : World} {K : PySem.W.Frag} {mg : Str → Option Value} {base : Heap} {f fM : Addr} {fd fdM : FuncData}
theorem scT : FnScope ["_law_hand_here", "_law_many", "_law_cell", "_law_rest"] ["_law_hand_here", "_law_many"] (defScope (top 45)) := ⟨rfl, rfl, rfl, by decide +kernel, rfl, by decide +kernel, by decide +kernel⟩
theorem ok_take (F : FnP K "_law_take" 45 f fd) (FM : FnP K "_law_mixed" 44 fM fdM) (mM : mg "_law_mixed" = some (.ref fM)) (gI : mg "int" = none) (gL : mg "len" = none) : FnOk P w K mg base CX0 2 f fd ["_law_hand_here", "_law_many"] spTake := by
  have GM : FnOk P w K mg base CX0 1 fM fdM ["_law_number", "_law_turn"] spMixed := ok_mixed FM gI
  have bM : Binds K fdM ["_law_number", "_law_turn"] [] := FM.bindsN fun _ _ _ _ _ _ us hl => match us, hl with | [_, _], _ => rfl
  refine F.ok scT (fun vs H Q E h => ?_) (fun cdv A outer s H vs Q E hr h => ?_)
  · obtain ⟨n, q, t, rfl, _⟩ := h
    rfl
  · obtain ⟨p, q, m, rfl, m1, m2, hh, k⟩ := h
    refine ⟨_, PSs.nox (C8.pss_cut (ps_if (PW.pt (pw_and (pt_cmpR op_eq (pe_ix ix_list (pv 0) pe_int (fun _ _ => rfl)) pe_int (nomark _)) (pw_and1 (pt_cmpR op_lt (pe_ix ix_list (pv 0) pe_int (fun _ _ => rfl)) (pe_callB call_len_seq (by rfl) gL PySem.boot_len (pa_cons (pe_ix ix_list (pv 0) pe_int (fun _ _ => rfl)) pa_nil)) (nomark _)))))
        (pss_cons (ps_set (i := 2) scT.nd rfl (Or.inl rfl) (pe_ix ix_list (pe_ix ix_list (pv 0) pe_int (fun _ _ => rfl)) (pe_ix ix_list (pv 0) pe_int (fun _ _ => rfl)) (fun _ _ => rfl)))
        (pss_cons (ps_asg (pe_op op_add (pe_ix ix_list (pv 0) pe_int (fun _ _ => rfl)) pe_int) (pg_sub (pv 0) pe_int set_list (fun _ => rfl)))
        (pss_cons (ps_if (pt_cmpR op_lt (pv 2) (pe_op op_pow pe_int pe_int) (nomark _))
            (pss_one (ps_ret (pe_op op_mod (pe_callTy call_int1 (by rfl) gI PyProof.Rows.boot_int (pa_cons (pe_call GM hr rfl mM FM.kp bM .nil pass0 (pa_cons (pe_op op_mod (pe_callTy call_int1 (by rfl) gI PyProof.Rows.boot_int (pa_cons (pv 2) pa_nil)) pe_int) (pa_cons (pe_ix ix_list (pv 0) pe_int (fun _ _ => rfl)) pa_nil))) pa_nil)) (pv 1)))) pss_nil)
        (pss_one (ps_asg (pv 2) (pg_sub (pv 0) pe_int set_list (fun _ => rfl))))))) pss_nil)
      (C8.pss_cut (ps_if (pt_cmpR op_gt (pe_ix ix_list (pv 0) pe_int (fun _ _ => rfl)) pe_int (nomark _))
        (pss_cons (ps_set (i := 3) scT.nd rfl (Or.inl rfl) (pe_ix ix_list (pv 0) pe_int (fun _ _ => rfl)))
        (pss_cons (ps_asg (pe_op op_fdiv (pe_callTy call_int1 (by rfl) gI PyProof.Rows.boot_int (pa_cons (pv 3) pa_nil)) (pv 1)) (pg_sub (pv 0) pe_int set_list (fun _ => rfl)))
        (pss_one (ps_ret (pe_op op_mod (pe_callTy call_int1 (by rfl) gI PyProof.Rows.boot_int (pa_cons (pv 3) pa_nil)) (pv 1)))))) pss_nil)
      (pss_cons (ps_asg (pe_op op_mod (pe_callTy call_int1 (by rfl) gI PyProof.Rows.boot_int (pa_cons (pe_op op_add (pe_ix ix_list (pv 0) pe_int (fun _ _ => rfl)) pe_int) pa_nil)) pe_int) (pg_sub (pv 0) pe_int set_list (fun _ => rfl)))
      (pss_one (ps_ret (pe_op op_mod (pe_callTy call_int1 (by rfl) gI PyProof.Rows.boot_int (pa_cons (pe_call GM hr rfl mM FM.kp bM .nil pass0 (pa_cons (pe_ix ix_list (pv 0) pe_int (fun _ _ => rfl)) (pa_cons (pe_ix ix_list (pv 0) pe_int (fun _ _ => rfl)) pa_nil))) pa_nil)) (pv 1))))))), ?_⟩
    -- between the statements: some hand stands at p, nothing else has changed
    let Mid : L2.St → Hp → Prop := fun σ H' => ∃ c d, σ = [some (.ref p), some (.int m), c, d] ∧ HandAt H' p q ∧ ∀ b, b ≠ p → H' b = H b
    have setH : ∀ {H' : Hp} {cs : List Int} {i r t : Int}, H' q = some (.lst (cs.map V.int)) → p ≠ q → (∀ c ∈ cs, 0 ≤ c) → 0 ≤ i → i ≤ (cs.length : Int) → cs.length ≤ 63 → 0 ≤ r → 0 ≤ t → t < 2147483549 →
        HandAt (upd H' p (.lst [.ref q, .int i, .int r, .int t])) p q := fun hq npq h0 i0 i1 l r0 t0 t1 => ⟨_, _, _, _, upd_same, by rw [upd_ne npq.symm]; exact hq, npq, h0, i0, i1, l, r0, t0, t1⟩
    have setB : ∀ {H' : Hp} {o : HO}, (∀ b, b ≠ p → H' b = H b) → ∀ b, b ≠ p → upd H' p o b = H b := fun h b hb => by rw [upd_ne hb]; exact h b hb
    refine ⟨Mid, ?_, ?_⟩
    · obtain ⟨cs, i, r, t, hp, hq, npq, h0, i0, i1, hl, r0, t0, t1⟩ := id hh
      refine ⟨_, rfl, p, _, _, _, rfl, rfl, SqL.of hp, at4.2.2.1, rfl, _, rfl, ?_⟩
      refine ite2 (fun e => ?_) (fun _ => iteF ⟨_, _, rfl, hh, fun b _ => rfl⟩)
      refine ⟨_, rfl, p, _, _, _, rfl, rfl, SqL.of hp, at4.2.1, _, rfl, p, _, _, _, rfl, rfl, SqL.of hp, at4.1, q, _, rfl, .inl (SqL.of hq), _, _, rfl, rfl, _, rfl, ?_⟩
      refine ite2 (fun e2 => ?_) (fun _ => ⟨_, _, rfl, hh, fun b _ => rfl⟩)
      have il : i < ((cs.map V.int).length : Int) := dec_t e2
      rw [List.length_map] at il
      obtain ⟨j, rfl⟩ : ∃ j : Nat, i = (j : Int) := ⟨i.toNat, by omega⟩
      have jl : j < cs.length := by omega
      have hc : (cs.map V.int)[j]? = some (V.int cs[j]) := by
        rw [List.getElem?_map, List.getElem?_eq_getElem jl]
        rfl
      have c0 := h0 _ (List.getElem_mem jl)
      generalize cs[j] = c at hc c0
      refine ⟨_, rfl, p, _, _, _, rfl, rfl, SqL.of hp, at4.1, _, rfl, p, _, _, _, rfl, rfl, SqL.of hp, at4.2.1, q, _, _, _, rfl, rfl, SqL.of hq, atI_nat hc, ?_⟩
      refine ⟨_, rfl, p, _, _, _, rfl, rfl, SqL.of hp, at4.2.1, _, _, rfl, rfl, _, rfl, p, _, _, 1, rfl, rfl, hp, rfl, ?_⟩
      have hh1 : HandAt (upd H p (.lst [.ref q, .int ((j : Int) + 1), .int r, .int t])) p q := setH hq npq h0 (by omega) (by omega) hl r0 t0 t1
      refine ⟨_, rfl, _, _, rfl, rfl, ⟨by decide, by decide, by decide⟩, _, _, rfl, rfl, _, rfl, ?_⟩
      refine ite2 (fun _ => ?_) (fun _ => ?_)
      · refine ⟨_, rfl, .inl ⟨_, rfl, _, _, rfl, rfl, (by show (0 : Int) < 2147483399; decide), _, rfl, p, _, _, _, rfl, rfl, SqL.of upd_same, at4.2.1, ?_⟩⟩
        have b := emod_in (a := c) (m := 2147483399) (by decide)
        refine ⟨_, _, rfl, b.1, by omega, by omega, by omega, fun x x0 => .inl ⟨_, rfl, _, rfl, _, _, rfl, rfl, (by show (0 : Int) < m; omega), ?_⟩⟩
        have bm := emod_in (a := x) (m := m) (by omega)
        exact k _ _ bm.1 bm.2 hh1 (setB fun b _ => rfl)
      · refine ⟨_, rfl, _, rfl, p, _, _, 2, rfl, rfl, upd_same, rfl, ?_⟩
        rw [upd_upd]
        exact ⟨_, _, rfl, setH hq npq h0 (by omega) (by omega) hl c0 t0 t1, setB fun b _ => rfl⟩
    · rintro σ H1 ⟨c, d, rfl, hh1, hb1⟩
      refine ⟨Mid, ?_, ?_⟩
      · obtain ⟨cs, i, r, t, hp, hq, npq, h0, i0, i1, hl, r0, t0, t1⟩ := id hh1
        refine ⟨_, rfl, p, _, _, _, rfl, rfl, SqL.of hp, at4.2.2.1, _, _, rfl, rfl, _, rfl, ?_⟩
        refine ite2 (fun e => ?_) (fun _ => ⟨_, _, rfl, hh1, hb1⟩)
        refine ⟨_, rfl, p, _, _, _, rfl, rfl, SqL.of hp, at4.2.2.1, _, rfl, .inl ⟨_, rfl, _, rfl, _, _, rfl, rfl, ⟨by show (0 : Int) < m; omega, m2⟩, _, rfl, p, _, _, 2, rfl, rfl, hp, rfl, _, rfl, .inl ⟨_, rfl, _, rfl, _, _, rfl, rfl, (by show (0 : Int) < m; omega), ?_⟩⟩⟩
        have bm := emod_in (a := r) (m := m) (by omega)
        exact k _ _ bm.1 bm.2 (setH hq npq h0 i0 i1 hl (Int.ediv_nonneg r0 (by omega)) t0 t1) (setB hb1)
      · rintro σ H2 ⟨c, d, rfl, hh2, hb2⟩
        obtain ⟨cs, i, r, t, hp, hq, npq, h0, i0, i1, hl, r0, t0, t1⟩ := id hh2
        refine ⟨_, rfl, p, _, _, _, rfl, rfl, SqL.of hp, at4.2.2.2, _, _, rfl, rfl, .inl ⟨_, rfl, _, _, rfl, rfl, (by show (0 : Int) < 2147483549; decide), _, rfl, p, _, _, 3, rfl, rfl, hp, rfl, ?_⟩⟩
        have bt := emod_in (a := t + 1) (m := 2147483549) (by decide)
        refine ⟨_, rfl, p, _, _, _, rfl, rfl, SqL.of upd_same, at4.2.2.2, _, rfl, p, _, _, _, rfl, rfl, SqL.of upd_same, at4.2.1, _, _, rfl, bt.1, by omega, i0, by omega, fun x x0 => .inl ⟨_, rfl, _, rfl, _, _, rfl, rfl, (by show (0 : Int) < m; omega), ?_⟩⟩
        have bm := emod_in (a := x) (m := m) (by omega)
        exact k _ _ bm.1 bm.2 (setH hq npq h0 i0 i1 hl r0 bt.1 bt.2) (setB hb2)
end
end K83

set_option maxRecDepth 100000
set_option maxHeartbeats 4000000
namespace K83
open PySem PySem.Spec PyProof.Rows L2 Kw
theorem HandAt.keep {H H' : Hp} {p q : Addr} (h : HandAt H p q) (s : ∀ b, b = p ∨ b = q → ∀ o, H b = some o → H' b = some o) : HandAt H' p q := by
  obtain ⟨cs, i, r, t, h1, h2, h3⟩ := h
  exact ⟨cs, i, r, t, s p (.inl rfl) _ h1, s q (.inr rfl) _ h2, h3⟩
theorem HandAt.same {H H' : Hp} {p q : Addr} (h : HandAt H p q) (s : Same H H') : HandAt H' p q := h.keep fun b _ o e => s b o e
theorem HandAt.ne {H : Hp} {p q l : Addr} (h : HandAt H p q) (hl : H l = none) : l ≠ p ∧ l ≠ q := by
  obtain ⟨cs, i, r, t, h1, h2, h3⟩ := h
  exact ⟨fun z => (by rw [z, h1] at hl; cases hl), fun z => (by rw [z, h2] at hl; cases hl)⟩
theorem HandAt.upd {H : Hp} {p q l : Addr} {o : HO} (h : HandAt H p q) (hp : l ≠ p) (hq : l ≠ q) : HandAt (upd H l o) p q := h.keep fun b hb u e => by
  refine upB (fun z => ?_) e
  rcases hb with hb | hb
  · exact hp (z ▸ hb)
  · exact hq (z ▸ hb)
theorem tab_at {tab : List Int} {r : Int} (h0 : 0 ≤ r) (h1 : r < (tab.length : Int)) : ∃ v, atI (tab.map V.int) r = some (V.int v) ∧ v ∈ tab := by
  obtain ⟨j, rfl⟩ : ∃ j : Nat, r = (j : Int) := ⟨r.toNat, by omega⟩
  have hj : j < tab.length := by omega
  exact ⟨tab[j], atI_nat (by rw [List.getElem?_map, List.getElem?_eq_getElem hj]; rfl), List.getElem_mem hj⟩
section
variable {P : Program} {w : World} {K : PySem.W.Frag} {mg : Str → Option Value} {base : Heap} {f fT fM : Addr} {fd fdT fdM : FuncData}
def spBases : Sp := fun vs H Q _ => ∃ (p q : Addr) (c : Nat), vs = [.ref p, .int (c : Int)] ∧ c ≤ 12 ∧ HandAt H p q ∧
  ∀ l H' (bs : List Nat), Oth p H H' → HandAt H' p q → H l = none → H' l = some (.lst (bs.map natV)) → bs.Nodup → (∀ b ∈ bs, b < c) → bs.length ≤ 3 → Q (.ref l) H'
theorem sc_bases : FnScope ["_law_hand_here", "_law_c", "_law_bases_here", "_law_step", "_law_base"] ["_law_hand_here", "_law_c"] (defScope (top 46)) := ⟨rfl, rfl, rfl, by decide +kernel, rfl, by decide +kernel, by decide +kernel⟩
theorem ok_bases (F : FnP K "_law_bases" 46 f fd) (B : Fr mg) (FT : FnP K "_law_take" 45 fT fdT) (mT : mg "_law_take" = some (.ref fT)) (FM : FnP K "_law_mixed" 44 fM fdM) (mM : mg "_law_mixed" = some (.ref fM)) :
    FnOk P w K mg base CX0 3 f fd ["_law_hand_here", "_law_c"] spBases := by
  have GT : FnOk P w K mg base CX0 2 fT fdT ["_law_hand_here", "_law_many"] spTake := ok_take FT FM mM B.int B.len
  have bT : L2.Binds K fdT ["_law_hand_here", "_law_many"] [] := FT.bindsN fun _ _ _ _ _ _ us hl => match us, hl with | [_, _], _ => rfl
  refine F.ok sc_bases (fun vs H Q E h => ?_) (fun cdv A outer s H vs Q E hr h => ?_)
  · obtain ⟨p, q, c, rfl, _⟩ := h
    rfl
  · obtain ⟨p, q, c, rfl, hc, hh, k⟩ := h
    refine ⟨_, PSs.nox (pss_cons (ps_set (i := 2) sc_bases.nd rfl (Or.inl rfl) (pe_lst pa_nil))
      (pss_cons (ps_for PassesOwn.never rfl (pi_range1 (by rfl) B.range (pa_cons (pe_ix ix_tup (pe_tup (pa_cons pe_int (pa_cons pe_int (pa_cons pe_int (pa_cons pe_int (pa_cons pe_int (pa_cons pe_int (pa_cons pe_int (pa_cons pe_int pa_nil))))))))) (pe_call GT hr (by rfl) mT FT.kp bT .nil pass0 (pa_cons (pv 0) (pa_cons pe_int pa_nil))) (fun _ _ => rfl)) pa_nil)) (pg_name (i := 3) sc_bases.nd rfl (Or.inl rfl))
        (pss_one (ps_if (pt_cmpR op_gt (pv 1) pe_int (nomark _))
          (pss_cons (ps_set (i := 4) sc_bases.nd rfl (Or.inl rfl) (pe_call GT hr (by rfl) mT FT.kp bT .nil pass0 (pa_cons (pv 0) (pa_cons (pv 1) pa_nil))))
          (pss_one (ps_if (pt_cmpR (r := rIn K true) op_notIn_seq (pv 4) (pv 2) (by rfl)) (pss_one (ps_expr (pe_bm PySem.F.plainAttrs_list PySem.F.slot_list_append PySem.F.type_list_append mt_append (pv 2) (pa_cons (pv 4) pa_nil)))) pss_nil))) pss_nil)))
      (pss_one (ps_ret (pv 2))))), ?_⟩
    refine ⟨by decide, fun l hl => ?_⟩
    obtain ⟨lp, lq⟩ := hh.ne hl
    have h1 : HandAt (upd H l (.lst [])) p q := hh.upd lp lq
    refine ⟨by (show 8 ≤ sizeLine); decide, fun t ht => ?_⟩
    obtain ⟨tp, tq⟩ := h1.ne ht
    have tl : t ≠ l := fun z => by
      rw [z, upd_same] at ht
      cases ht
    refine ⟨_, rfl, p, q, 8, rfl, by decide, by decide, h1.upd tp tq, fun r H2 r0 r1 h2 e2 => ?_⟩
    obtain ⟨v, hv, hm⟩ := tab_at (tab := [0, 1, 1, 2, 2, 2, 3, 1]) r0 r1
    have hv3 : 0 ≤ v ∧ v ≤ 3 := (by decide : ∀ v ∈ ([0, 1, 1, 2, 2, 2, 3, 1] : List Int), 0 ≤ v ∧ v ≤ 3) v hm
    have T2 : H2 t = some (.tup (([0, 1, 1, 2, 2, 2, 3, 1] : List Int).map V.int)) := by
      rw [e2 t tp]
      exact upd_same
    have O2 : Oth p H H2 := fun b o nb e => by
      rw [e2 b nb]
      exact upB (ne_of_none (upB (ne_of_none e hl) e) ht) (upB (ne_of_none e hl) e)
    have L2' : H2 l = some (.lst []) := by
      rw [e2 l lp]
      exact upB tl.symm upd_same
    refine ⟨t, _, r, _, rfl, rfl, SqT.of T2, hv, v, rfl, by omega, by omega, for_range (n := v.toNat) (fun i σ H' => ∃ (bs : List Nat) (x3 x4 : Option V), σ = [some (.ref p), some (.int (c : Int)), some (.ref l), x3, x4] ∧ HandAt H' p q ∧ Oth p H H' ∧ H' l = some (.lst (bs.map natV)) ∧ bs.Nodup ∧ (∀ b ∈ bs, b < c) ∧ bs.length ≤ i)
      ⟨[], none, none, rfl, h2, O2, L2', List.nodup_nil, fun b hb => (by cases hb), Nat.le_refl _⟩ ?_ ?_⟩
    · rintro i σ H3 hi ⟨bs, x3, x4, rfl, h3, O3, L3, nd, hb, hl3⟩
      refine ⟨_, rfl, _, _, rfl, rfl, _, rfl, ?_⟩
      refine ite2 (fun e => ?_) (fun _ => ⟨bs, _, _, rfl, h3, O3, L3, nd, hb, by omega⟩)
      have c0 : (0 : Int) < (c : Int) := of_decide_eq_true e
      refine ⟨_, rfl, _, rfl, p, q, (c : Int), rfl, by omega, by omega, h3, fun r H4 r0 r1 h4 e4 => ?_⟩
      obtain ⟨b, rfl⟩ : ∃ b : Nat, r = (b : Int) := ⟨r.toNat, by omega⟩
      have L4 : H4 l = some (.lst (bs.map natV)) := by
        rw [e4 l lp]
        exact L3
      have O4 : Oth p H H4 := fun a o na e => by
        rw [e4 a na]
        exact O3 a o na e
      refine ⟨_, rfl, _, rfl, l, _, rfl, .inl (SqL.of L4), rfl, flat_nats bs, _, rfl, ?_⟩
      have ein : inV (.int (b : Int)) (bs.map natV) = bs.contains b := inV_nat b bs
      show (if (!inV (.int (b : Int)) (bs.map natV)) = true then _ else _)
      rw [ein]
      cases hbc : bs.contains b with
      | true => exact iteF ⟨bs, _, _, rfl, h4, O4, L4, nd, hb, by omega⟩
      | false =>
        have nb : b ∉ bs := fun z => by
          rw [List.contains_iff_mem.mpr z] at hbc
          cases hbc
        refine iteT ⟨_, rfl, .inl ⟨rfl, _, SqL.of L4⟩, _, rfl, l, _, _, rfl, rfl, L4, ?_, bs ++ [b], _, _, rfl, h4.upd lp lq, fun a o na e => upB (ne_of_none e hl) (O4 a o na e), ?_, ?_, ?_, ?_⟩
        · rw [List.length_map]
          show _ < 2 ^ 24
          omega
        · rw [upd_same, List.map_append]
          rfl
        · refine List.nodup_append.mpr ⟨nd, by simp, fun a ha b' hb' z => nb ?_⟩
          rw [List.mem_singleton.mp hb'] at z
          exact z ▸ ha
        · intro a ha
          rcases List.mem_append.mp ha with ha | ha
          · exact hb a ha
          · rw [List.mem_singleton.mp ha]
            omega
        · rw [List.length_append]
          simp only [List.length_cons, List.length_nil]
          omega
    · rintro σ H3 ⟨bs, x3, x4, rfl, h3, O3, L3, nd, hb, hl3⟩
      exact ⟨_, rfl, k l H3 bs O3 h3 hl L3 nd hb (by omega)⟩
end
end K83

set_option maxRecDepth 100000
set_option maxHeartbeats 4000000
namespace K83
open PySem PySem.Spec PyProof.Rows L2 Kw
/-- list(xs) -/
def rListOf (K : PySem.W.Frag) : List V → Hp → VK → Prop := fun xs H Q => ∃ p ys, xs = [.ref p] ∧ (SqL K H p ys ∨ SqT K H p ys) ∧ ∀ l, H l = none → Q (.ref l) (upd H l (.lst ys))
theorem call_lst {X : Cx} : CallR X (.type "list") (rListOf X.K) := call_list_of
end K83

set_option maxRecDepth 100000
set_option maxHeartbeats 4000000
namespace Kw
open PySem PySem.Spec PyProof.Rows L2
/-- an empty set, as it is laid -/
abbrev mtS (w : World) : Obj := { cls := .type "set", dict := none, data := .set #[] 0 (.fresh 0 0 (!w.params.followText "set-order")) }
section
variable {P : Program} {w : World} {A : Around} {E : Value → Shared → Prop}
set_option maxHeartbeats 8000000 in
/-- set(l), l a list of whole numbers, doubles among them -/
theorem set_of_list {s : Shared} {l : Addr} {items : Array Value} (ns : List Int) {Q : Value → Shared → Prop} (hh : A.handled = none) (hl : s.heap.IsList l items) (hit : IntsAre items.toList ns) (room : ns.length + 1 < scanBound)
    (fin : ∀ (G : Heap) (tk c : Nat), SetR w G s.heap.objs.size (fun j => decide (j ∈ ns)) c → c ≤ ns.length → (∀ b o, s.heap.get? b = some o → G.get? b = some o) → Q (.ref s.heap.objs.size) { s with heap := G, toks := tk }) :
    wpAny (model P w) A (call (.type "set") [.ref l]) Q E s := by
  have size_eq : items.size = ns.length := Array.length_toList.symm.trans (IntsAre.length hit)
  have each : ∀ (i : Nat) (v : Value), items[i]? = some v → ∃ k t, ns[i]? = some k ∧ v = .int k t := by
    intro i v hv
    have lt : i < ns.length := by
      rw [← size_eq]
      exact (Array.getElem?_eq_some_iff.mp hv).1
    obtain ⟨t, e⟩ := IntsAre.int_at hit i v (by rw [Array.getElem?_toList]; exact hv)
    rw [List.getD_eq_getElem?_getD, List.getElem?_eq_getElem lt] at e
    exact ⟨ns[i], t, List.getElem?_eq_getElem lt, e⟩
  have made := F.called_set.made
  have sub := F.called_set.sub
  obtain ⟨_, _, mro⟩ := F.called_set.mro
  refine wpAny_call (codeAny_of_tree (wpAny_pure ⟨Code.quiet_builtin _ (by decide +kernel), codeAny_builtin F.entry_type_call ?_⟩))
  rw [Around.under_plain (weight_type_call_type "set" [.ref l] []) rfl]
  have nt := F.called_set.notType
  have cc := F.called_set.canCreate
  have tc := F.typeCall_set_1 (.ref l)
  repeat (any_goals (first | assumption | wp_step))
  refine codeAny_mono (code_set_led1 (.ref l) (E := E) (Q₁ := fun obj t => obj = .ref s.heap.objs.size ∧ t = { s with heap := s.heap.push (mtS w) }) ⟨rfl, rfl⟩) fun r t hr => ?_
  match r, hr with
  | .error e, hr => exact hr
  | .ok .next, hr => exact hr.elim
  | .ok .brk, hr => exact hr.elim
  | .ok .cont, hr => exact hr.elim
  | .ok (.ret obj), hr =>
    obtain ⟨rfl, rfl⟩ := hr
    have at0 : (s.heap.push (mtS w)).get? s.heap.objs.size = some (mtS w) := Heap.get?_push_size _ rfl
    have ty0 : Shared.TypeIs { s with heap := s.heap.push (mtS w) } (.ref s.heap.objs.size) "set" := ⟨_, at0, rfl⟩
    have look := F.called_set.init.lookup
    have bind := F.called_set.init.bind (.ref s.heap.objs.size)
    repeat (any_goals (first | assumption | wp_step))
    refine codeAny_mono (codeAny_call_builtin (R := wants (fun r t => r = .none ∧ ∃ G tk c, t = { s with heap := G, toks := tk } ∧ SetR w G s.heap.objs.size (fun j => decide (j ∈ ns)) c ∧ c ≤ ns.length ∧ ∀ b o, s.heap.get? b = some o → G.get? b = some o) E)
      F.called_set.init.plain F.entry_set_init (check_set_init_1 ty0 ?_)) fun r t hr => ?_
    · have lt0 : l < s.heap.objs.size := by
        obtain ⟨_, e, _⟩ := hl
        exact Heap.lt_size e
      have hl1 : (s.heap.push (mtS w)).IsList l items := hl.push _
      obtain ⟨⟨ocls, odict, odata, oslots⟩, hol, hcl, nl, hdl⟩ := hl
      simp only at hcl hdl
      subst hcl hdl
      have hol1 := Heap.get?_push_of_some (mtS w) hol
      have sub1 := F.sub_list_set
      have sub2 := F.sub_list_frozenset
      have nd : (Value.type "list" == Value.type "dict") = false := by decide
      unfold Builtin.«set.__init__» noKeywords Builtin.Frozenset.updateFrom
      generalize hPI : pyIter = PI
      wp_walk
      subst hPI
      refine wpAny_pyIter_list hl1 (wpAny_bind (wpAny_runValue ?_))
      have h3 : A.in1.in1.in1.handled = none := by simp [hh]
      have sz1 : (s.heap.push (mtS w)).objs.size = s.heap.objs.size + 1 := Heap.size_push ..
      have nIt : l ≠ (s.heap.push (mtS w)).objs.size := by
        rw [sz1]
        exact Nat.ne_of_lt (Nat.lt_succ_of_lt lt0)
      have nSet : s.heap.objs.size ∉ [(s.heap.push (mtS w)).objs.size, l] := by
        rw [sz1]
        intro z
        rcases List.mem_cons.mp z with z | z
        · exact absurd z (Nat.ne_of_lt (Nat.lt_succ_self _))
        · exact absurd (List.mem_singleton.mp z) (Nat.ne_of_gt lt0)
      have W := (Walks.list (prog := P) (w := w) h3 (s.heap.push (mtS w)).objs.size l nIt items).toS
      refine set_update_ints W s.heap.objs.size nSet ns size_eq room each (items.size - 0) 0 _ (by omega) (Nat.zero_le _) ⟨⟨_, Heap.get?_push_size _ rfl, rfl, rfl⟩, hl1.push _⟩ ⟨0, Nat.le_refl 0, setR_new_at (Heap.get?_push_of_some _ at0)⟩ ?_
      rintro ⟨G, g, d, tk, os⟩ c moved hc hS
      obtain rfl : g = s.gens := moved.gens
      obtain rfl : d = s.drawn := moved.drawn
      obtain rfl : os = s.os := moved.os
      refine wpAny_pure (wpAny_pure ⟨rfl, G, tk, c, rfl, hS, size_eq ▸ hc, fun b o e => ?_⟩)
      have ltb : b < s.heap.objs.size := Heap.lt_size e
      refine moved.heap b o (fun z => ?_) (Heap.get?_push_of_some _ (Heap.get?_push_of_some _ e))
      rcases List.mem_cons.mp z with z | z
      · exact absurd z (Nat.ne_of_lt ltb)
      · have z' := List.mem_singleton.mp z
        rw [sz1] at z'
        exact absurd z' (Nat.ne_of_lt (Nat.lt_succ_of_lt ltb))
    · match r, hr with
      | .error e, hr => exact hr
      | .ok .next, hr => exact hr.elim
      | .ok .brk, hr => exact hr.elim
      | .ok .cont, hr => exact hr.elim
      | .ok (.ret r), hr =>
        obtain ⟨rfl, G, tk, c, rfl, hS, hc, kept⟩ := hr
        repeat (any_goals (first | assumption | wp_step))
        exact fin _ _ _ hS hc kept
end
/-- set(xs), xs a list or a tuple of whole numbers -/
def rSetSI (K : PySem.W.Frag) (w : World) : List V → Hp → VK → Prop := fun vs H Q => ∃ (l : Addr) (ns : List Int), vs = [.ref l] ∧ (SqL K H l (ns.map V.int) ∨ SqT K H l (ns.map V.int)) ∧ ns.length ≤ 4000 ∧
  ∀ (p : Addr) (c : Nat), H p = none → c ≤ ns.length → Q (.ref p) (upd H p (SetO w p (fun j => decide (j ∈ ns)) c))
theorem ints_of_vals : ∀ {ns : List Int} {us : List Value}, Vals (ns.map V.int) us → IntsAre us ns
  | [], _, .nil => .nil
  | n :: r, _, .cons h t => by
    obtain ⟨k, e⟩ := h
    rw [e]
    exact .cons n k (ints_of_vals t)
theorem call_setSI {X : Cx} (hc : X.calm = true) : CallR X (.type "set") (rSetSI X.K X.w) := by
  intro pins s σ H vs us Q I r h
  obtain ⟨l, ns, rfl, hq, h4, q⟩ := h
  rw [Vals.ref1 r]
  have room : ns.length + 1 < scanBound := by
    unfold scanBound
    omega
  have fin : ∀ (G : Heap) (tk c : Nat), SetR X.w G s.heap.objs.size (fun j => decide (j ∈ ns)) c → c ≤ ns.length → (∀ b o, s.heap.get? b = some o → G.get? b = some o) → EP X pins σ Q (.ref s.heap.objs.size) { s with heap := G, toks := tk } := fun G tk c hS hcl k =>
    ⟨.ref s.heap.objs.size, _, I.laid (t' := tk) k (Nat.le_refl _) (setO_new hS), rfl, q _ c (I.hok.fresh (Nat.le_refl _)) hcl⟩
  rcases hq with hq | hq
  · obtain ⟨its, rv, pl, hz⟩ := I.list hq
    exact set_of_list ns (I.ok.hd hc) pl.isList (by simpa using ints_of_vals rv) room fin
  · obtain ⟨its, rv, pl, hz⟩ := I.tuple hq
    exact call_set_tupI ns (I.ok.hd hc) pl (by simpa using ints_of_vals rv) room fin
end Kw

set_option maxRecDepth 100000
set_option maxHeartbeats 4000000
namespace K83
open PySem PySem.Spec PyProof.Rows L2 Kw
/-- rows (bases, fields, methods) of a law's own -/
def RowsAt (H : Hp) : List V → List (List Nat) → Prop := Paired fun v bs => ∃ t b g m, v = .ref t ∧ H t = some (.tup [.ref b, g, m]) ∧ SeqAt H b (bs.map natV)
theorem RowsAt.same {H H' : Hp} (s : Same H H') : ∀ {vs : List V} {ls : List (List Nat)}, RowsAt H vs ls → RowsAt H' vs ls
  | [], [], _ => .nil
  | _ :: _, _ :: _, .cons ⟨t, b, g, m, e, h1, h2⟩ r => .cons ⟨t, b, g, m, e, s _ _ h1, h2.same s⟩ (RowsAt.same s r)
theorem RowsAt.get {H : Hp} : ∀ {vs : List V} {ls : List (List Nat)} {i : Nat} {l : List Nat}, RowsAt H vs ls → ls[i]? = some l → ∃ t b g m, vs[i]? = some (.ref t) ∧ H t = some (.tup [.ref b, g, m]) ∧ SeqAt H b (l.map natV)
  | [], [], _, _, _, h => by simp at h
  | _ :: _, _ :: _, 0, _, .cons ⟨t, b, g, m, e1, h⟩ _, e => by
    obtain rfl := Option.some.inj e
    exact ⟨t, b, g, m, by rw [e1]; rfl, h⟩
  | _ :: _, _ :: _, i + 1, _, .cons _ r, e => RowsAt.get (i := i) r e
def ListsAt (H : Hp) : List V → List (List Nat) → Prop := Paired fun v l => ∃ t, v = .ref t ∧ H t = some (.lst (l.map natV))
theorem ListsAt.mono {H H' : Hp} {R : Addr} (k : ∀ b o, b ≠ R → H b = some o → H' b = some o) : ∀ {vs : List V} {ls : List (List Nat)}, (∀ v ∈ vs, v ≠ .ref R) → ListsAt H vs ls → ListsAt H' vs ls
  | [], [], _, _ => .nil
  | v :: _, _ :: _, n, .cons ⟨t, e, h⟩ r => .cons ⟨t, e, k _ _ (fun z => n v List.mem_cons_self (by rw [e, z])) h⟩ (ListsAt.mono k (fun v hv => n v (List.mem_cons_of_mem _ hv)) r)
theorem ListsAt.get {H : Hp} : ∀ {vs : List V} {ls : List (List Nat)} {i : Nat} {l : List Nat}, ListsAt H vs ls → ls[i]? = some l → ∃ t, vs[i]? = some (.ref t) ∧ H t = some (.lst (l.map natV))
  | [], [], _, _, _, h => by simp at h
  | _ :: _, _ :: _, 0, _, .cons ⟨t, e1, h⟩ _, e => by
    obtain rfl := Option.some.inj e
    exact ⟨t, by rw [e1]; rfl, h⟩
  | _ :: _, _ :: _, i + 1, _, .cons _ r, e => ListsAt.get (i := i) r e
theorem ListsAt.app {H : Hp} : ∀ {vs us : List V} {ls ms : List (List Nat)}, ListsAt H vs ls → ListsAt H us ms → ListsAt H (vs ++ us) (ls ++ ms)
  | [], _, [], _, _, h => h
  | _ :: _, _, _ :: _, _, .cons h r, s => .cons h (ListsAt.app r s)
theorem ListsAt.len {H : Hp} {vs : List V} {ls : List (List Nat)} (h : ListsAt H vs ls) : vs.length = ls.length := Paired.length h
/-- ascending lists with the same things in them -/
theorem asc_one {a : List Int} {b : List Nat} (ha : a.Pairwise (· < ·)) (hb : b.Pairwise (· < ·)) (hm : ∀ k : Int, k ∈ a ↔ ∃ n : Nat, n ∈ b ∧ k = (n : Int)) : a.map V.int = b.map natV := by
  have hb2 : (b.map fun (n : Nat) => (n : Int)).Pairwise (· < ·) := List.pairwise_map.mpr (hb.imp fun h => by omega)
  have p : a.Perm (b.map fun (n : Nat) => (n : Int)) := (List.perm_ext_iff_of_nodup (ha.imp fun h => Int.ne_of_lt h) (hb2.imp fun h => Int.ne_of_lt h)).mpr fun k => by
    rw [hm k, List.mem_map]
    exact ⟨fun ⟨n, h, e⟩ => ⟨n, h, e.symm⟩, fun ⟨n, h, e⟩ => ⟨n, h, e.symm⟩⟩
  have e : a = b.map fun (n : Nat) => (n : Int) := p.eq_of_pairwise (fun x y _ _ h1 h2 => by omega) ha hb2
  rw [e, List.map_map]
  rfl
section
variable {P : Program} {w : World} {K : PySem.W.Frag} {mg : Str → Option Value} {base : Heap} {f : Addr} {fd : FuncData}
/-- over a list or a tuple that stands -/
theorem for_seqS {a : Addr} {xs : List V} {g : TG} {tb : TS} {D : Ends} {σ : L2.St} {H H0 : Hp} {j : Nat} (hj : σ[j]? = some (some (.ref a))) (hA : SeqAt H0 a xs) (s0 : Same H0 H) (Pv : Nat → L2.St → Hp → Prop) (h0 : Pv 0 σ H) (keep : ∀ i σ' H', Pv i σ' H' → Same H0 H')
    (hs : ∀ i x σ H, xs[i]? = some x → Pv i σ H → g x σ H fun σ2 H2 => tb { D with nx := Pv (i + 1), ct := Pv (i + 1), bk := D.nx } σ2 H2) (hd : ∀ σ H, Pv xs.length σ H → D.nx σ H) :
    tFor (fun σ H R => iList K (tVar j) σ H R ∨ iTup K (tVar j) σ H R) g tb D σ H := by
  rcases hA with hA | hA
  · exact .inl ⟨_, hj, a, rfl, ⟨_, SqL.of (s0 _ _ hA)⟩, for_list (K := K) (a := a) (xs := xs) Pv h0 (fun i σ H' _ h => SqL.of (keep i σ H' h _ _ hA)) hs hd⟩
  · exact .inr ⟨_, hj, a, rfl, ⟨_, SqT.of (s0 _ _ hA)⟩, for_tup (K := K) (a := a) (xs := xs) Pv h0 (fun i σ H' _ h => SqT.of (keep i σ H' h _ _ hA)) hs hd⟩
def spLElders : Sp := fun vs H Q _ => ∃ (a : Addr) (ws : List V) (bs : List (List Nat)), vs = [.ref a] ∧ H a = some (.lst ws) ∧ RowsAt H ws bs ∧ validB bs ∧ bs.length ≤ 64 ∧ (∀ row ∈ bs, row.length * bs.length < 64) ∧
  ∀ H' l us, Same H H' → H l = none → H' l = some (.lst us) → (∀ v ∈ us, v ≠ .ref l) → ListsAt H' us (elders bs) → Q (.ref l) H'
theorem sc_lelders : FnScope ["_law_rows", "_law_found", "_law_bases_here", "_law_fields", "_law_methods_here", "_law_mine", "_law_base"] ["_law_rows"] (defScope (top 50)) := ⟨rfl, rfl, rfl, by decide +kernel, rfl, by decide +kernel, by decide +kernel⟩
theorem ok_lelders (F : FnP K "_law_elders" 50 f fd) (B : Fr mg) : FnOk P w K mg base CX0 1 f fd ["_law_rows"] spLElders := by
  refine F.ok sc_lelders (fun vs H Q E h => ?_) (fun cdv A outer s H vs Q E hr h => ?_)
  · obtain ⟨a, ws, bs, rfl, _⟩ := h
    rfl
  · obtain ⟨a, ws, bs, rfl, hA, hT, hv, h64, hr64, k⟩ := h
    refine ⟨_, PSs.nox (pss_cons (ps_set (i := 1) sc_lelders.nd rfl (Or.inl rfl) (pe_lst pa_nil))
      (pss_cons (ps_for PassesOwn.never rfl (pi_list (pv 0)) (pg_tup (by rfl) (pgs_cons (pg_name (i := 2) sc_lelders.nd rfl (Or.inl rfl)) (pgs_cons (pg_name (i := 3) sc_lelders.nd rfl (Or.inl rfl)) (pgs_cons (pg_name (i := 4) sc_lelders.nd rfl (Or.inl rfl)) pgs_nil))))
        (pss_cons (ps_set (i := 5) sc_lelders.nd rfl (Or.inl rfl) (pe_lst pa_nil))
        (pss_cons (ps_for PassesOwn.never rfl (pi_or (pi_list (pv 2)) (pi_tup (pv 2))) (pg_name (i := 6) sc_lelders.nd rfl (Or.inl rfl))
          (pss_one (ps_set (i := 5) sc_lelders.nd rfl (Or.inl rfl) (pe_op op_cat (pe_op op_cat (pv 5) (pe_lst (pa_cons (pv 6) pa_nil))) (pe_ix ix_list (pv 1) (pv 6) (fun _ _ => rfl))))))
        (pss_one (ps_expr (pe_bm PySem.F.plainAttrs_list PySem.F.slot_list_append PySem.F.type_list_append mt_append (pv 1) (pa_cons (pe_callB (cr_sortedSet rfl) (by rfl) B.sorted (by decide +kernel) (pa_cons (pe_callTy (T := "set") (r := rSetSI K w) (call_setSI (X := _) rfl) (by rfl) B.set (by decide +kernel) (pa_cons (pv 5) pa_nil)) pa_nil)) pa_nil)))))))
      (pss_one (ps_ret (pv 1))))), ?_⟩
    refine ⟨by decide, fun R hR => ?_⟩
    refine ⟨_, rfl, a, rfl, ⟨_, SqL.of (same_new hR _ _ hA)⟩, for_list (K := K) (a := a) (xs := ws) (fun i σ H' => Same H H' ∧ ∃ us x2 x3 x4 x5 x6, σ = [some (.ref a), some (.ref R), x2, x3, x4, x5, x6] ∧ H' R = some (.lst us) ∧ (∀ v ∈ us, v ≠ .ref R) ∧ ListsAt H' us (elders (bs.take i)))
      ⟨same_new hR, [], none, none, none, none, none, rfl, upd_same, (fun v hv => by cases hv), .nil⟩ (fun i σ H' _ h => SqL.of (h.1 _ _ hA)) ?_ ?_⟩
    · rintro i y σ H' hi ⟨sH, us, x2, x3, x4, x5, x6, rfl, hRu, hne, hU⟩
      have hbl : ws.length = bs.length := Paired.length hT
      have hil : i < bs.length := by
        rw [← hbl]
        exact (List.getElem?_eq_some_iff.mp hi).1
      obtain ⟨row, hrow⟩ : ∃ row, bs[i]? = some row := ⟨_, List.getElem?_eq_getElem hil⟩
      obtain ⟨t, b, g, m, et, ht, hb⟩ := hT.get hrow
      obtain rfl : V.ref t = y := Option.some.inj (et.symm.trans hi)
      have hE : (elders (bs.take i)).length = i := by rw [elders_len, List.length_take, Nat.min_eq_left (Nat.le_of_lt hil)]
      have hlt : ∀ c ∈ row, c < i := hv i row hrow
      have hr6 : row.length * bs.length < 64 := hr64 row (List.mem_of_getElem? hrow)
      have hus : us.length = i := hU.len.trans hE
      refine ⟨t, _, rfl, SqT.of (sH _ _ ht), rfl, _, _, rfl, _, _, rfl, _, _, rfl, rfl, ?_⟩
      refine ⟨by decide, fun M hM => ?_⟩
      have sM : Same H' (upd H' M (.lst [])) := same_new hM
      refine for_seqS (K := K) (a := b) (xs := row.map natV) rfl hb (sH.trans sM) (fun j σ H3 => Same H' H3 ∧ ∃ M x6 mi, σ = [some (.ref a), some (.ref R), some (.ref b), some g, some m, some (.ref M), x6] ∧ H3 M = some (.lst (mi.map natV)) ∧ mi.length ≤ j * bs.length ∧ ∀ x, x ∈ mi ↔ ∃ c ∈ row.take j, x = c ∨ x ∈ (elders (bs.take i)).getD c [])
        ⟨sM, M, x6, [], rfl, upd_same, Nat.zero_le _, fun x => by simp⟩ (fun j σ H3 h => sH.trans h.1) ?_ ?_
      · rintro j y σ H3 hj ⟨s3, M, x6, mi, rfl, hMi, hml, hmem⟩
        rw [List.getElem?_map] at hj
        obtain ⟨c, hc, rfl⟩ := Option.map_eq_some_iff.mp hj
        have hjl : j < row.length := (List.getElem?_eq_some_iff.mp hc).1
        have hci : c < i := hlt c (List.mem_of_getElem? hc)
        obtain ⟨l, hl⟩ : ∃ l, (elders (bs.take i))[c]? = some l := ⟨_, List.getElem?_eq_getElem (by rw [hE]; exact hci)⟩
        have hgd : (elders (bs.take i)).getD c [] = l := by
          rw [List.getD_eq_getElem?_getD, hl]
          rfl
        have hll : l.length + 1 ≤ bs.length := by
          have := elders_len_row _ _ _ hl
          rw [List.length_take] at this
          omega
        have hmle : mi.length + (1 + l.length) ≤ (j + 1) * bs.length := by
          rw [Nat.succ_mul]
          omega
        have hbig : (j + 1) * bs.length < 64 := Nat.lt_of_le_of_lt (Nat.mul_le_mul_right _ hjl) hr6
        obtain ⟨q, eq, hq⟩ := hU.get hl
        refine ⟨_, rfl, _, rfl, (by show 1 ≤ 2 ^ 24; decide), fun L hL => ?_⟩
        have sL := same_new (o := .lst [natV c]) hL
        refine ⟨M, L, _, _, rfl, rfl, sL _ _ hMi, upd_same, ?_, fun N1 hN1 => ?_⟩
        · rw [List.length_map]
          show mi.length + 1 ≤ 2 ^ 24
          omega
        have s1 := same_new (o := .lst (mi.map natV ++ [natV c])) hN1
        have sA : Same H' (upd (upd H3 L (.lst [natV c])) N1 (.lst (mi.map natV ++ [natV c]))) := (s3.trans sL).trans s1
        refine ⟨_, rfl, _, rfl, R, us, _, _, rfl, rfl, SqL.of (sA _ _ hRu), atI_nat eq, ?_⟩
        refine ⟨N1, q, _, _, rfl, rfl, upd_same, sA _ _ hq, ?_, fun N2 hN2 => ?_⟩
        · rw [List.length_append, List.length_map, List.length_map]
          show mi.length + 1 + l.length ≤ 2 ^ 24
          omega
        · refine ⟨Same.trans sA (same_new hN2), N2, _, mi ++ [c] ++ l, rfl, ?_, ?_, fun x => ?_⟩
          · rw [upd_same, List.map_append, List.map_append]
            rfl
          · rw [List.length_append, List.length_append]
            show mi.length + 1 + l.length ≤ _
            omega
          · rw [List.take_add_one, hc, Option.toList_some, List.mem_append, List.mem_append, hmem, List.mem_singleton]
            constructor
            · rintro ((⟨d, hd, h⟩ | h) | h)
              · exact ⟨d, List.mem_append_left _ hd, h⟩
              · exact ⟨c, List.mem_append_right _ (List.mem_singleton.mpr rfl), .inl h⟩
              · exact ⟨c, List.mem_append_right _ (List.mem_singleton.mpr rfl), .inr (by rw [hgd]; exact h)⟩
            · rintro ⟨d, hd, h⟩
              rcases List.mem_append.mp hd with hd | hd
              · exact .inl (.inl ⟨d, hd, h⟩)
              · obtain rfl := List.mem_singleton.mp hd
                rcases h with h | h
                · exact .inl (.inr h)
                · rw [hgd] at h
                  exact .inr h
      · rintro σ H3 ⟨s3, M, x6, mi, rfl, hMi, hml, hmem⟩
        rw [List.length_map] at hml
        rw [List.length_map, List.take_length] at hmem
        refine ⟨_, rfl, .inl ⟨rfl, _, SqL.of (s3 _ _ hRu)⟩, _, rfl, M, mi.map (fun (n : Nat) => (n : Int)), rfl, .inl ?_, ?_, fun S c hS hc => ?_⟩
        · rw [List.map_map]
          exact SqL.of hMi
        · rw [List.length_map]
          omega
        · rw [List.length_map] at hc
          have sS := same_new (o := SetO w S (fun j => decide (j ∈ mi.map (fun (n : Nat) => (n : Int)))) c) hS
          refine ⟨S, _, c, rfl, upd_same, by omega, fun ns L asc hns hlen hL => ?_⟩
          have sL := same_new (o := .lst (ns.map V.int)) hL
          have sA : Same H' (upd (upd H3 S (SetO w S (fun j => decide (j ∈ mi.map (fun (n : Nat) => (n : Int)))) c)) L (.lst (ns.map V.int))) := (s3.trans sS).trans sL
          have ens : ns.map V.int = (elStep (elders (bs.take i)) row).map natV := asc_one asc (elStep_up _ _) fun k => by
            rw [hns k, decide_eq_true_iff, List.mem_map]
            constructor
            · rintro ⟨n, hn, e⟩
              exact ⟨n, (elStep_mem (fun b hb => by rw [hE]; exact hlt b hb) (elders_lt _) n).mpr ((hmem n).mp hn), e.symm⟩
            · rintro ⟨n, hn, e⟩
              exact ⟨n, (hmem n).mpr ((elStep_mem (fun b hb => by rw [hE]; exact hlt b hb) (elders_lt _) n).mp hn), e.symm⟩
          have neL : L ≠ R := fun z => by
            have y := (Same.trans s3 sS) _ _ hRu
            rw [← z, hL] at y
            cases y
          refine ⟨R, us, _, rfl, rfl, sA _ _ hRu, by rw [hus]; show i < 2 ^ 24; omega, same_upd (sH.trans sA) hR, us ++ [.ref L], _, _, _, _, _, rfl, upd_same, ?_, ?_⟩
          · intro v hv
            rcases List.mem_append.mp hv with hv | hv
            · exact hne v hv
            · rw [List.mem_singleton.mp hv]
              exact fun z => neL (V.ref.inj z)
          · rw [elders_more hrow]
            refine (ListsAt.mono (R := R) (fun b o hb e => upB hb (sA _ _ e)) hne hU).app (.cons ⟨L, rfl, ?_⟩ .nil)
            rw [← ens]
            exact upB neL upd_same
    · rintro σ H' ⟨sH, us, x2, x3, x4, x5, x6, rfl, hRu, hne, hU⟩
      have hbl : ws.length = bs.length := Paired.length hT
      rw [hbl, List.take_length] at hU
      exact ⟨_, rfl, k H' R us sH hR hRu hne hU⟩
end
end K83

set_option maxRecDepth 100000
set_option maxHeartbeats 4000000
namespace K83
open PySem PySem.Spec PyProof.Rows L2 Kw
section
variable {P : Program} {w : World} {K : PySem.W.Frag} {mg : Str → Option Value} {base : Heap} {f fT fM : Addr} {fd fdT fdM : FuncData}
def spMethods : Sp := fun vs H Q _ => ∃ (p q : Addr), vs = [.ref p] ∧ HandAt H p q ∧
  ∀ l H' (ms : List Nat), Oth p H H' → HandAt H' p q → H l = none → H' l = some (.lst (ms.map natV)) → ms.Pairwise (· < ·) → (∀ m ∈ ms, m < 6) → ms.length ≤ 3 → Q (.ref l) H'
theorem sc_methods : FnScope ["_law_hand_here", "_law_found", "_law_step"] ["_law_hand_here"] (defScope (top 47)) := ⟨rfl, rfl, rfl, by decide +kernel, rfl, by decide +kernel, by decide +kernel⟩
theorem ok_methods (F : FnP K "_law_methods" 47 f fd) (B : Fr mg) (FT : FnP K "_law_take" 45 fT fdT) (mT : mg "_law_take" = some (.ref fT)) (FM : FnP K "_law_mixed" 44 fM fdM) (mM : mg "_law_mixed" = some (.ref fM)) :
    FnOk P w K mg base CX0 3 f fd ["_law_hand_here"] spMethods := by
  have GT : FnOk P w K mg base CX0 2 fT fdT ["_law_hand_here", "_law_many"] spTake := ok_take FT FM mM B.int B.len
  have bT : L2.Binds K fdT ["_law_hand_here", "_law_many"] [] := FT.bindsN fun _ _ _ _ _ _ us hl => match us, hl with | [_, _], _ => rfl
  refine F.ok sc_methods (fun vs H Q E h => ?_) (fun cdv A outer s H vs Q E hr h => ?_)
  · obtain ⟨p, q, rfl, _⟩ := h
    rfl
  · obtain ⟨p, q, rfl, hh, k⟩ := h
    refine ⟨_, PSs.nox (pss_cons (ps_set (i := 1) sc_methods.nd rfl (Or.inl rfl) (pe_lst pa_nil))
      (pss_cons (ps_for PassesOwn.never rfl (pi_range1 (by rfl) B.range (pa_cons (pe_ix ix_tup (pe_tup (pa_cons pe_int (pa_cons pe_int (pa_cons pe_int (pa_cons pe_int (pa_cons pe_int (pa_cons pe_int pa_nil))))))) (pe_call GT hr (by rfl) mT FT.kp bT .nil pass0 (pa_cons (pv 0) (pa_cons pe_int pa_nil))) (fun _ _ => rfl)) pa_nil)) (pg_name (i := 2) sc_methods.nd rfl (Or.inl rfl))
        (pss_one (ps_expr (pe_bm PySem.F.plainAttrs_list PySem.F.slot_list_append PySem.F.type_list_append mt_append (pv 1) (pa_cons (pe_call GT hr (by rfl) mT FT.kp bT .nil pass0 (pa_cons (pv 0) (pa_cons pe_int pa_nil))) pa_nil)))))
      (pss_one (ps_ret (pe_callB (cr_sortedSet rfl) (by rfl) B.sorted (by decide +kernel) (pa_cons (pe_callTy (T := "set") (r := rSetSI K w) (call_setSI (X := _) rfl) (by rfl) B.set (by decide +kernel) (pa_cons (pv 1) pa_nil)) pa_nil)))))), ?_⟩
    refine ⟨by decide, fun l hl => ?_⟩
    obtain ⟨lp, lq⟩ := hh.ne hl
    have h1 : HandAt (upd H l (.lst [])) p q := hh.upd lp lq
    refine ⟨by (show 6 ≤ sizeLine); decide, fun t ht => ?_⟩
    obtain ⟨tp, tq⟩ := h1.ne ht
    have tl : t ≠ l := fun z => by
      rw [z, upd_same] at ht
      cases ht
    refine ⟨_, rfl, p, q, 6, rfl, by decide, by decide, h1.upd tp tq, fun r H2 r0 r1 h2 e2 => ?_⟩
    obtain ⟨v, hv, hm⟩ := tab_at (tab := [0, 1, 0, 2, 1, 3]) r0 r1
    have hv3 : 0 ≤ v ∧ v ≤ 3 := (by decide : ∀ v ∈ ([0, 1, 0, 2, 1, 3] : List Int), 0 ≤ v ∧ v ≤ 3) v hm
    have T2 : H2 t = some (.tup (([0, 1, 0, 2, 1, 3] : List Int).map V.int)) := by
      rw [e2 t tp]
      exact upd_same
    have O2 : Oth p H H2 := fun b o nb e => by
      rw [e2 b nb]
      exact upB (ne_of_none (upB (ne_of_none e hl) e) ht) (upB (ne_of_none e hl) e)
    have L2' : H2 l = some (.lst []) := by
      rw [e2 l lp]
      exact upB tl.symm upd_same
    refine ⟨t, _, r, _, rfl, rfl, SqT.of T2, hv, v, rfl, by omega, by omega, for_range (n := v.toNat) (fun i σ H' => ∃ (ms : List Nat) (x2 : Option V), σ = [some (.ref p), some (.ref l), x2] ∧ HandAt H' p q ∧ Oth p H H' ∧ H' l = some (.lst (ms.map natV)) ∧ (∀ m ∈ ms, m < 6) ∧ ms.length = i)
      ⟨[], none, rfl, h2, O2, L2', fun b hb => (by cases hb), rfl⟩ ?_ ?_⟩
    · rintro i σ H3 hi ⟨ms, x2, rfl, h3, O3, L3, hb, hl3⟩
      refine ⟨_, rfl, .inl ⟨rfl, _, SqL.of L3⟩, _, rfl, p, q, 6, rfl, by decide, by decide, h3, fun r H4 r0 r1 h4 e4 => ?_⟩
      obtain ⟨b, rfl⟩ : ∃ b : Nat, r = (b : Int) := ⟨r.toNat, by omega⟩
      have L4 : H4 l = some (.lst (ms.map natV)) := by
        rw [e4 l lp]
        exact L3
      refine ⟨l, _, _, rfl, rfl, L4, ?_, ms ++ [b], _, rfl, h4.upd lp lq, fun a o na e => upB (ne_of_none e hl) (by rw [e4 a na]; exact O3 a o na e), ?_, ?_, ?_⟩
      · rw [List.length_map]
        show _ < 2 ^ 24
        omega
      · rw [upd_same, List.map_append]
        rfl
      · intro a ha
        rcases List.mem_append.mp ha with ha | ha
        · exact hb a ha
        · rw [List.mem_singleton.mp ha]
          omega
      · rw [List.length_append, hl3]
        rfl
    · rintro σ H3 ⟨ms, x2, rfl, h3, O3, L3, hb, hl3⟩
      refine ⟨_, rfl, l, ms.map (fun (n : Nat) => (n : Int)), rfl, .inl ?_, ?_, fun S c hS hc => ?_⟩
      · rw [List.map_map]
        exact SqL.of L3
      · rw [List.length_map]
        omega
      · rw [List.length_map] at hc
        have sS := same_new (o := SetO w S (fun j => decide (j ∈ ms.map (fun (n : Nat) => (n : Int)))) c) hS
        refine ⟨S, _, c, rfl, upd_same, by omega, fun ns L asc hns hlen hL => ?_⟩
        have sL := same_new (o := .lst (ns.map V.int)) hL
        have ens : ns.map V.int = (sortN ms).map natV := asc_one asc (List.Pairwise.filter _ List.pairwise_lt_range) fun k => by
          rw [hns k, decide_eq_true_iff, List.mem_map]
          constructor
          · rintro ⟨n, hn, e⟩
            exact ⟨n, List.mem_filter.mpr ⟨List.mem_range.mpr (hb n hn), by simpa using hn⟩, e.symm⟩
          · rintro ⟨n, hn, e⟩
            exact ⟨n, by simpa using (List.mem_filter.mp hn).2, e.symm⟩
        have nl : (sortN ms).length = c := by
          have z := congrArg List.length ens
          rw [List.length_map, List.length_map] at z
          omega
        have hLn : H L = none := by
          cases e : H L with
          | none => rfl
          | some o =>
            by_cases z : L = p
            · obtain ⟨cs, i, r, t, h1, _⟩ := h3
              have y := sS _ _ h1
              rw [← z, hL] at y
              cases y
            · have y := sS _ _ (O3 L o z e)
              rw [hL] at y
              cases y
        refine k L _ (sortN ms) ((O3.trans (Oth.of sS)).trans (Oth.of sL)) ((h3.same sS).same sL) hLn (by rw [upd_same, ens]) (List.Pairwise.filter _ List.pairwise_lt_range) (fun m hm => List.mem_range.mp (List.mem_filter.mp hm).1) (by omega)
end
end K83

set_option maxRecDepth 100000
set_option maxHeartbeats 4000000
namespace Kw
open PySem PySem.Spec PyProof.Rows L2
theorem PE.weak {X : Cx} {e : Expr} {t t' : TE} (h : PE X e t) (w : ∀ σ H Q, t' σ H Q → t σ H Q) : PE X e t' := ⟨fun pins s σ H Q I k => h.run pins s σ H Q I (w σ H Q k)⟩
theorem PA.weak {X : Cx} {e : List Expr} {t t' : TA} (h : PA X e t) (w : ∀ σ H Q, t' σ H Q → t σ H Q) : PA X e t' := ⟨fun pos pins s σ H Q I k => h.run pos pins s σ H Q I (w σ H Q k)⟩
theorem same_nw {H : Hp} {p : Addr} {o : HO} (hp : H p = none) : Same H (upd H p o) := fun b u e => by
  rw [upd_ne (ne_of_none e hp)]
  exact e
/-- lists of ints -/
def ListsI (H : Hp) : List V → List (List Int) → Prop := Paired fun v l => ∃ t, v = .ref t ∧ H t = some (.lst (l.map V.int))
theorem ListsI.same {H H' : Hp} (s : Same H H') : ∀ {vs : List V} {ls : List (List Int)}, ListsI H vs ls → ListsI H' vs ls
  | [], [], _ => .nil
  | _ :: _, _ :: _, .cons ⟨t, e, h⟩ r => .cons ⟨t, e, s _ _ h⟩ (ListsI.same s r)
theorem ListsI.get {H : Hp} : ∀ {vs : List V} {ls : List (List Int)} {i : Nat} {l : List Int}, ListsI H vs ls → ls[i]? = some l → ∃ t, vs[i]? = some (.ref t) ∧ H t = some (.lst (l.map V.int))
  | [], [], _, _, _, h => by simp at h
  | _ :: _, _ :: _, 0, _, .cons ⟨t, e1, h⟩ _, e => by
    obtain rfl := Option.some.inj e
    exact ⟨t, by rw [e1]; rfl, h⟩
  | _ :: _, _ :: _, i + 1, _, .cons _ r, e => ListsI.get (i := i) r e
def TabsI (H : Hp) : List V → List (List (List Int)) → Prop := Paired fun v lss => ∃ t us, v = .ref t ∧ H t = some (.lst us) ∧ ListsI H us lss
theorem TabsI.get {H : Hp} : ∀ {vs : List V} {ls : List (List (List Int))} {i : Nat} {l : List (List Int)}, TabsI H vs ls → ls[i]? = some l → ∃ t us, vs[i]? = some (.ref t) ∧ H t = some (.lst us) ∧ ListsI H us l
  | [], [], _, _, _, h => by simp at h
  | _ :: _, _ :: _, 0, _, .cons ⟨t, us, e1, h⟩ _, e => by
    obtain rfl := Option.some.inj e
    exact ⟨t, us, by rw [e1]; rfl, h⟩
  | _ :: _, _ :: _, i + 1, _, .cons _ r, e => TabsI.get (i := i) r e
/-- a written list of ints -/
def tIntL (ns : List Int) : TE := fun σ H Q => ∀ p, H p = none → Q (.ref p) (upd H p (.lst (ns.map V.int)))
section
variable {X : Cx} {p p1 p2 : Pos}
theorem pe_il0 : PE X (.List [] p) (tIntL []) := PE.weak (pe_lst pa_nil) fun σ H Q k => ⟨by decide, k⟩
theorem pe_il1 {a : Int} {x1} {y1 : Pos} : PE X (.List [.Constant (.int a) x1 y1] p) (tIntL [a]) := PE.weak (pe_lst (pa_cons pe_int pa_nil)) fun σ H Q k => ⟨by show 1 ≤ sizeLine; decide, k⟩
theorem pe_il2 {a b : Int} {x1 x2} {y1 y2 : Pos} : PE X (.List [.Constant (.int a) x1 y1, .Constant (.int b) x2 y2] p) (tIntL [a, b]) := PE.weak (pe_lst (pa_cons pe_int (pa_cons pe_int pa_nil))) fun σ H Q k => ⟨by show 2 ≤ sizeLine; decide, k⟩
def tLits (lss : List (List Int)) : TA := fun σ H Q => ∀ vs H', Same H H' → ListsI H' vs lss → Q vs H'
theorem pa_lits_nil : PA X [] (tLits []) := PA.weak pa_nil fun σ H Q k => k [] H (Same.refl H) .nil
theorem pa_lits {e : Expr} {es : List Expr} {ns : List Int} {lss : List (List Int)} (he : PE X e (tIntL ns)) (hr : PA X es (tLits lss)) (hs : starEach (e :: es) X.env = (false, eval e X.env) :: starEach es X.env := by rfl) : PA X (e :: es) (tLits (ns :: lss)) :=
  PA.weak (pa_cons he hr hs) fun σ H Q k q hq vs H' s h => k _ H' (Same.trans (same_nw hq) s) (.cons ⟨q, rfl, s _ _ upd_same⟩ h)
def tLit2 (lss : List (List Int)) : TE := fun σ H Q => ∀ q us H', Same H H' → H' q = some (.lst us) → ListsI H' us lss → Q (.ref q) H'
theorem pe_lit2 {es : List Expr} {lss : List (List Int)} (h : PA X es (tLits lss)) (hl : lss.length ≤ sizeLine := by decide) : PE X (.List es p) (tLit2 lss) :=
  PE.weak (pe_lst h) fun σ H Q k vs H' s hv => ⟨by rw [Paired.length hv]; exact hl, fun q hq => k q vs _ (Same.trans s (same_nw hq)) upd_same (hv.same (same_nw hq))⟩
def tLits2 (lsss : List (List (List Int))) : TA := fun σ H Q => ∀ vs H', Same H H' → TabsI H' vs lsss → Q vs H'
theorem pa_lits2_nil : PA X [] (tLits2 []) := PA.weak pa_nil fun σ H Q k => k [] H (Same.refl H) .nil
theorem pa_lits2 {e : Expr} {es : List Expr} {ns : List (List Int)} {lss : List (List (List Int))} (he : PE X e (tLit2 ns)) (hr : PA X es (tLits2 lss)) (hs : starEach (e :: es) X.env = (false, eval e X.env) :: starEach es X.env := by rfl) : PA X (e :: es) (tLits2 (ns :: lss)) :=
  PA.weak (pa_cons he hr hs) fun σ H Q k q us H1 s1 h1 h2 vs H' s h => k _ H' (Same.trans s1 s) (.cons ⟨q, us, rfl, s _ _ h1, h2.same s⟩ h)
/-- a written list of lists of lists of ints -/
def tLit3 (lsss : List (List (List Int))) : TE := fun σ H Q => ∀ q us H', Same H H' → H' q = some (.lst us) → TabsI H' us lsss → Q (.ref q) H'
theorem TabsI.same {H H' : Hp} (s : Same H H') : ∀ {vs : List V} {ls : List (List (List Int))}, TabsI H vs ls → TabsI H' vs ls
  | [], [], _ => .nil
  | _ :: _, _ :: _, .cons ⟨t, us, e, h, h2⟩ r => .cons ⟨t, us, e, s _ _ h, h2.same s⟩ (TabsI.same s r)
theorem pe_lit3 {es : List Expr} {lsss : List (List (List Int))} (h : PA X es (tLits2 lsss)) (hl : lsss.length ≤ sizeLine := by decide) : PE X (.List es p) (tLit3 lsss) :=
  PE.weak (pe_lst h) fun σ H Q k vs H' s hv => ⟨by rw [Paired.length hv]; exact hl, fun q hq => k q vs _ (Same.trans s (same_nw hq)) upd_same (hv.same (same_nw hq))⟩
end
end Kw

set_option maxRecDepth 100000
set_option maxHeartbeats 4000000
namespace K83
open PySem PySem.Spec PyProof.Rows L2 Kw
/-- tuples and lists of ints stay, but for the object at R -/
def IntsO (o : HO) : Prop := (∃ xs, o = .tup xs) ∨ ∃ ns : List Int, o = .lst (ns.map V.int)
def KeepX (R : Addr) (H H' : Hp) : Prop := ∀ b o, b ≠ R → H b = some o → IntsO o → H' b = some o
theorem KeepX.trans {R : Addr} {H H1 H2 : Hp} (a : KeepX R H H1) (b : KeepX R H1 H2) : KeepX R H H2 := fun c o n e i => b c o n (a c o n e i) i
theorem KeepX.of {R : Addr} {H H1 : Hp} (s : Same H H1) : KeepX R H H1 := fun c o _ e _ => s c o e
theorem KeepX.upd {R : Addr} {H : Hp} {o : HO} : KeepX R H (upd H R o) := fun c u n e _ => by
  rw [upd_ne n]
  exact e
theorem KeepX.oth {R p q : Addr} {H H1 : Hp} (s : Oth p H H1) (h : HandAt H p q) : KeepX R H H1 := fun c o _ e i => by
  refine s c o (fun z => ?_) e
  obtain ⟨cs, i1, r, t, h1, _⟩ := h
  rw [z, h1] at e
  have e := Option.some.inj e
  rcases i with ⟨xs, rfl⟩ | ⟨ns, rfl⟩
  · cases e
  · cases ns with
    | nil => cases e
    | cons n r =>
      injection e with e
      injection e with e _
      cases e
theorem natsI (l : List Nat) : l.map natV = (l.map fun (n : Nat) => (n : Int)).map V.int := by
  rw [List.map_map]
  rfl
theorem ints_o (l : List Nat) : IntsO (.lst (l.map natV)) := .inr ⟨l.map fun (n : Nat) => (n : Int), by rw [natsI]⟩
/-- lists of numbers, none of them at R -/
def LsN (R : Addr) (H : Hp) : List V → List (List Nat) → Prop := Paired fun v l => ∃ t, v = .ref t ∧ t ≠ R ∧ H t = some (.lst (l.map natV))
theorem LsN.keep {R : Addr} {H H' : Hp} (k : KeepX R H H') : ∀ {vs : List V} {ls : List (List Nat)}, LsN R H vs ls → LsN R H' vs ls
  | [], [], _ => .nil
  | _ :: _, _ :: _, .cons ⟨t, e, n, h⟩ r => .cons ⟨t, e, n, k _ _ n h (ints_o _)⟩ (LsN.keep k r)
theorem LsN.get {R : Addr} {H : Hp} : ∀ {vs : List V} {ls : List (List Nat)} {i : Nat} {l : List Nat}, LsN R H vs ls → ls[i]? = some l → ∃ t, vs[i]? = some (.ref t) ∧ t ≠ R ∧ H t = some (.lst (l.map natV))
  | [], [], _, _, _, h => by simp at h
  | _ :: _, _ :: _, 0, _, .cons ⟨t, e1, h⟩ _, e => by
    obtain rfl := Option.some.inj e
    exact ⟨t, by rw [e1]; rfl, h⟩
  | _ :: _, _ :: _, i + 1, _, .cons _ r, e => LsN.get (i := i) r e
theorem LsN.app {R : Addr} {H : Hp} : ∀ {vs us : List V} {ls ms : List (List Nat)}, LsN R H vs ls → LsN R H us ms → LsN R H (vs ++ us) (ls ++ ms)
  | [], _, [], _, _, h => h
  | _ :: _, _, _ :: _, _, .cons h r, s => .cons h (LsN.app r s)
theorem LsN.len {R : Addr} {H : Hp} {vs : List V} {ls : List (List Nat)} (h : LsN R H vs ls) : vs.length = ls.length := Paired.length h
theorem LsN.set {R : Addr} {H : Hp} {t : Addr} {l : List Nat} (n : t ≠ R) (h : H t = some (.lst (l.map natV))) : ∀ {vs : List V} {ls : List (List Nat)} (i : Nat), LsN R H vs ls → LsN R H (vs.set i (.ref t)) (ls.set i l)
  | [], [], _, _ => .nil
  | _ :: _, _ :: _, 0, .cons _ r => .cons ⟨t, rfl, n, h⟩ r
  | _ :: _, _ :: _, i + 1, .cons z r => .cons z (LsN.set n h i r)
theorem LsN.lists {R : Addr} {H : Hp} : ∀ {vs : List V} {ls : List (List Nat)}, LsN R H vs ls → ListsAt H vs ls
  | [], [], _ => .nil
  | _ :: _, _ :: _, .cons ⟨t, e, n, h⟩ r => .cons ⟨t, e, h⟩ (LsN.lists r)
/-- rows of bases as a law draws them -/
def BOk (bs : List (List Nat)) : Prop := ∀ (i : Nat) (row : List Nat), bs[i]? = some row → row.Nodup ∧ (∀ b ∈ row, b < i) ∧ row.length ≤ 3
theorem BOk.app {bs : List (List Nat)} {row : List Nat} (h : BOk bs) (nd : row.Nodup) (hb : ∀ b ∈ row, b < bs.length) (hl : row.length ≤ 3) : BOk (bs ++ [row]) := fun i r e => by
  by_cases q : i < bs.length
  · rw [List.getElem?_append_left q] at e
    exact h i r e
  · rw [List.getElem?_append_right (by omega)] at e
    by_cases q2 : i - bs.length = 0
    · rw [q2] at e
      obtain rfl : row = r := Option.some.inj e
      have : i = bs.length := by omega
      rw [this]
      exact ⟨nd, hb, hl⟩
    · rw [List.getElem?_eq_none (by rw [List.length_singleton]; omega)] at e
      cases e
theorem BOk.set {bs : List (List Nat)} {row : List Nat} {j : Nat} (h : BOk bs) (nd : row.Nodup) (hb : ∀ b ∈ row, b < j) (hl : row.length ≤ 3) : BOk (bs.set j row) := fun i r e => by
  rw [List.getElem?_set] at e
  by_cases q : j = i
  · rw [if_pos q] at e
    split at e
    · obtain rfl : row = r := Option.some.inj e
      rw [← q]
      exact ⟨nd, hb, hl⟩
    · cases e
  · rw [if_neg q] at e
    exact h i r e
theorem BOk.take {bs : List (List Nat)} (h : BOk bs) (n : Nat) : BOk (bs.take n) := fun i r e => by
  rw [List.getElem?_take] at e
  split at e
  · exact h i r e
  · cases e
theorem oth_free {p D : Addr} {H H1 : Hp} (s : Oth p H H1) (n : D ≠ p) (h : H1 D = none) : H D = none := by
  cases e : H D with
  | none => rfl
  | some o =>
    rw [s D o n e] at h
    cases h
theorem Oth.take {p : Addr} {H H1 : Hp} (e2 : ∀ b, b ≠ p → H1 b = H b) : Oth p H H1 := fun b o nb e => (e2 b nb).trans e
/-- written again at a place that was free -/
theorem Oth.updN {p D : Addr} {H H1 : Hp} {o : HO} (s : Oth p H H1) (hD : H D = none) : Oth p H (L2.upd H1 D o) := fun b u nb e => upB (ne_of_none e hD) (s b u nb e)
end K83

set_option maxRecDepth 100000
set_option maxHeartbeats 8000000
namespace K83
open PySem PySem.Spec PyProof.Rows L2 Kw
def shapeTab : List (List (List Nat)) := [[[], [], [0, 1], [], [1, 3], [3, 0], [2, 4]], [[], [], [], [0, 1], [1, 2], [2, 0], [3, 4], [5]], [[], [0], [0], [2, 1], [0], [4, 2], [1, 4], [3, 4]], [[], [0], [0], [0], [1, 2], [2, 3], [3, 1], [4, 3]], [[], [0], [0], [1, 2], [0], [3, 4], [4], [5, 6]], [[], [], [0, 1], [], [2, 3], [0], [5, 3], [4]]]
def bokB (bs : List (List Nat)) : Bool := (List.range bs.length).all fun i => decide (bs.getD i []).Nodup && ((bs.getD i []).all (fun b => decide (b < i)) && decide ((bs.getD i []).length ≤ 3))
theorem bokB_ok {bs : List (List Nat)} (h : bokB bs = true) : BOk bs := fun i r e => by
  have hi : i < bs.length := (List.getElem?_eq_some_iff.mp e).1
  have z := List.all_eq_true.mp h i (List.mem_range.mpr hi)
  rw [List.getD_eq_getElem?_getD, e, Option.getD_some] at z
  simp only [Bool.and_eq_true, decide_eq_true_eq, List.all_eq_true] at z
  exact ⟨z.1, z.2.1, z.2.2⟩
theorem shapeTab_ok : ∀ bs ∈ shapeTab, BOk bs := fun bs h => bokB_ok ((by decide : ∀ bs ∈ shapeTab, bokB bs = true) bs h)
theorem ixN_at {n j : Nat} (hj : j < n) : ixN n (j : Int) = some j := by
  unfold ixN
  rw [if_pos (by omega), if_pos (by omega), Int.toNat_natCast]
def cz (l : List (List Nat)) : List (List Int) := l.map fun r => r.map fun (n : Nat) => (n : Int)
theorem cutV_take (xs : List V) (n : Nat) : cutV xs none (some (n : Int)) = xs.take n := by
  unfold cutV
  rw [HT.sIx_nat, HT.sIx_none, Nat.sub_zero, List.drop_zero]
  by_cases h : n ≤ xs.length
  · rw [Nat.min_eq_left h]
  · rw [Nat.min_eq_right (by omega), List.take_of_length_le (Nat.le_refl _), List.take_of_length_le (by omega)]
section
variable {P : Program} {w : World} {K : PySem.W.Frag} {mg : Str → Option Value} {base : Heap} {f fT fM fB : Addr} {fd fdT fdM fdB : FuncData}
def spShape : Sp := fun vs H Q _ => ∃ (p q : Addr) (n : Nat), vs = [.ref p, .int (n : Int)] ∧ 1 ≤ n ∧ n ≤ 12 ∧ HandAt H p q ∧
  ∀ l H' us (bs : List (List Nat)), Oth p H H' → HandAt H' p q → H l = none → H' l = some (.lst us) → LsN l H' us bs → bs.length = n → BOk bs → Q (.ref l) H'
theorem sc_shape : FnScope ["_law_hand_here", "_law_many", "_law_kind", "_law_c", "_law_rows", "_law_bases_here", "_law_row_here", "_law_at"] ["_law_hand_here", "_law_many"] (defScope (top 48)) := ⟨rfl, rfl, rfl, by decide +kernel, rfl, by decide +kernel, by decide +kernel⟩
theorem ok_shape (F : FnP K "_law_shape" 48 f fd) (B : Fr mg) (FT : FnP K "_law_take" 45 fT fdT) (mT : mg "_law_take" = some (.ref fT)) (FM : FnP K "_law_mixed" 44 fM fdM) (mM : mg "_law_mixed" = some (.ref fM)) (FB : FnP K "_law_bases" 46 fB fdB) (mB : mg "_law_bases" = some (.ref fB)) :
    FnOk P w K mg base CX0 4 f fd ["_law_hand_here", "_law_many"] spShape := by
  have GT : FnOk P w K mg base CX0 2 fT fdT ["_law_hand_here", "_law_many"] spTake := ok_take FT FM mM B.int B.len
  have bT : L2.Binds K fdT ["_law_hand_here", "_law_many"] [] := FT.bindsN fun _ _ _ _ _ _ us hl => match us, hl with | [_, _], _ => rfl
  have GB : FnOk P w K mg base CX0 3 fB fdB ["_law_hand_here", "_law_c"] spBases := ok_bases FB B FT mT FM mM
  have bB : L2.Binds K fdB ["_law_hand_here", "_law_c"] [] := FB.bindsN fun _ _ _ _ _ _ us hl => match us, hl with | [_, _], _ => rfl
  refine F.ok sc_shape (fun vs H Q E h => ?_) (fun cdv A outer s H vs Q E hr h => ?_)
  · obtain ⟨p, q, n, rfl, _⟩ := h
    rfl
  · obtain ⟨p, q, n, rfl, n1, n12, hh, k⟩ := h
    refine ⟨_, PSs.nox (pss_cons (ps_set (i := 2) sc_shape.nd rfl (Or.inl rfl) (pe_call GT (hr.mono (by decide)) (by rfl) mT FT.kp bT .nil pass0 (pa_cons (pv 0) (pa_cons pe_int pa_nil))))
      (pss_cons (ps_if (pt_cmpR op_lt (pv 2) pe_int (nomark _)) (pss_one (ps_ret
        (pe_lc (own := [("_law_c", 3)]) (g := gName 3) (tt := tYes) rfl sc_shape.nd (pi_range1 (by rfl) B.range (pa_cons (pv 1) pa_nil)) (blkOk_by (N := ["_law_hand_here", "_law_many", "_law_kind", "_law_c", "_law_rows", "_law_bases_here", "_law_row_here", "_law_at"]) (sc := defScope (top 48)) (by decide +kernel))
          (fun _ _ _ _ _ => pg_name (i := 3) sc_shape.nd rfl (Or.inl rfl)) (fun _ _ _ _ _ => pts_nil)
          (fun _ _ _ _ _ => pe_call GB hr (by rfl) mB FB.kp bB .nil pass0 (pa_cons (pv 0) (pa_cons (pv 3) pa_nil)))))) pss_nil)
      (pss_cons (ps_set (i := 4) sc_shape.nd rfl (Or.inl rfl) (pe_ix ix_list (pe_lit3 (pa_lits2 (pe_lit2 (pa_lits pe_il0 (pa_lits pe_il0 (pa_lits pe_il2 (pa_lits pe_il0 (pa_lits pe_il2 (pa_lits pe_il2 (pa_lits pe_il2 pa_lits_nil))))))))
          (pa_lits2 (pe_lit2 (pa_lits pe_il0 (pa_lits pe_il0 (pa_lits pe_il0 (pa_lits pe_il2 (pa_lits pe_il2 (pa_lits pe_il2 (pa_lits pe_il2 (pa_lits pe_il1 pa_lits_nil)))))))))
          (pa_lits2 (pe_lit2 (pa_lits pe_il0 (pa_lits pe_il1 (pa_lits pe_il1 (pa_lits pe_il2 (pa_lits pe_il1 (pa_lits pe_il2 (pa_lits pe_il2 (pa_lits pe_il2 pa_lits_nil)))))))))
          (pa_lits2 (pe_lit2 (pa_lits pe_il0 (pa_lits pe_il1 (pa_lits pe_il1 (pa_lits pe_il1 (pa_lits pe_il2 (pa_lits pe_il2 (pa_lits pe_il2 (pa_lits pe_il2 pa_lits_nil)))))))))
          (pa_lits2 (pe_lit2 (pa_lits pe_il0 (pa_lits pe_il1 (pa_lits pe_il1 (pa_lits pe_il2 (pa_lits pe_il1 (pa_lits pe_il2 (pa_lits pe_il1 (pa_lits pe_il2 pa_lits_nil)))))))))
          (pa_lits2 (pe_lit2 (pa_lits pe_il0 (pa_lits pe_il0 (pa_lits pe_il2 (pa_lits pe_il0 (pa_lits pe_il2 (pa_lits pe_il1 (pa_lits pe_il2 (pa_lits pe_il1 pa_lits_nil)))))))))
          pa_lits2_nil))))))) (pe_op op_sub (pv 2) pe_int) (fun _ _ => rfl)))
      (pss_cons (ps_setLc (i := 5) (own := [("_law_row_here", 6)]) (g := gName 6) (tt := tYes) rfl sc_shape.nd rfl rfl (sw_true rfl rfl rfl (by decide +kernel)) (pi_list (pe_slice sl_list (pv 4) po_none (po_some (pv 1)))) (blkOk_by (N := ["_law_hand_here", "_law_many", "_law_kind", "_law_c", "_law_rows", "_law_bases_here", "_law_row_here", "_law_at"]) (sc := defScope (top 48)) (by decide +kernel))
          (fun _ _ _ _ _ => pg_name (i := 6) sc_shape.nd rfl (Or.inl rfl)) (fun _ _ _ _ _ => pts_nil)
          (fun _ _ _ _ _ => pe_callTy (T := "list") (r := rListOf K) (call_lst (X := _)) (by rfl) B.list (by decide +kernel) (pa_cons (pv 6) pa_nil)))
      (pss_cons (ps_while PassesOwn.never (pt_cmpR op_lt (pe_callB call_len_seq (by rfl) B.len PySem.boot_len (pa_cons (pv 5) pa_nil)) (pv 1) (nomark _))
        (pss_one (ps_expr (pe_bm PySem.F.plainAttrs_list PySem.F.slot_list_append PySem.F.type_list_append mt_append (pv 5) (pa_cons (pe_call GB hr (by rfl) mB FB.kp bB .nil pass0 (pa_cons (pv 0) (pa_cons (pe_callB call_len_seq (by rfl) B.len PySem.boot_len (pa_cons (pv 5) pa_nil)) pa_nil))) pa_nil)))))
      (pss_cons (ps_set (i := 7) sc_shape.nd rfl (Or.inl rfl) (pe_call GT (hr.mono (by decide)) (by rfl) mT FT.kp bT .nil pass0 (pa_cons (pv 0) (pa_cons (pv 1) pa_nil))))
      (pss_cons (ps_if (pt_cmpR op_eq (pe_call GT (hr.mono (by decide)) (by rfl) mT FT.kp bT .nil pass0 (pa_cons (pv 0) (pa_cons pe_int pa_nil))) pe_int (nomark _))
        (pss_one (ps_asg (pe_call GB hr (by rfl) mB FB.kp bB .nil pass0 (pa_cons (pv 0) (pa_cons (pv 7) pa_nil))) (pg_sub (pv 5) (pv 7) set_list (fun _ => rfl)))) pss_nil)
      (pss_one (ps_ret (pv 5)))))))))), ?_⟩
    refine ⟨_, rfl, p, q, 8, rfl, by decide, by decide, hh, fun r H1 r0 r1 h1 e1 => ?_⟩
    have O1 : Oth p H H1 := Oth.take e1
    refine ⟨_, rfl, _, _, rfl, rfl, _, rfl, ?_⟩
    refine ite2 (fun _ => ?_) (fun hr2 => ?_)
    · refine ⟨_, rfl, _, rfl, by omega, by omega, fun D hD => ?_⟩
      obtain ⟨Dp, Dq⟩ := h1.ne hD
      have HD : H D = none := oth_free O1 Dp hD
      refine lc_range (n := n) (fun i H2 => Oth p H H2 ∧ HandAt H2 p q ∧ ∃ us bs, H2 D = some (.lst us) ∧ LsN D H2 us bs ∧ bs.length = i ∧ BOk bs) ⟨O1.updN HD, h1.upd Dp Dq, [], [], upd_same, .nil, rfl, fun i r e => by simp at e⟩ ?_ ?_
      · rintro i H2 hi ⟨O2, h2, us, bs, hDu, hU, hl, hb⟩
        refine ⟨rfl, _, rfl, _, rfl, p, q, i, by (show [V.ref p, V.int (0 + (i : Int))] = _; rw [Int.zero_add]), by omega, h2, fun l H3 row O3 h3 hl3 e3 nd hlt hl3' => ?_⟩
        have lD : l ≠ D := fun z => by
          rw [z, hDu] at hl3
          cases hl3
        have D3 : H3 D = some (.lst us) := O3 _ _ Dp hDu
        refine ⟨us, D3, ?_, (O2.trans O3).updN HD, h3.upd Dp Dq, us ++ [.ref l], bs ++ [row], upd_same, ?_, by rw [List.length_append, hl]; rfl, hb.app nd (by rw [hl]; exact hlt) hl3'⟩
        · rw [hU.len, hl]
          show i < 2 ^ 24
          omega
        · exact ((hU.keep (KeepX.oth O3 h2)).app (.cons ⟨l, rfl, lD, e3⟩ .nil)).keep KeepX.upd
      · rintro H2 ⟨O2, h2, us, bs, hDu, hU, hl, hb⟩
        exact k D H2 us bs O2 h2 HD hDu hU hl hb
    · have r2 : ¬ r < 2 := fun z => hr2 (decide_eq_true z)
      intro T uT H2 s2 hT hTab
      have hTab' : TabsI H2 uT (shapeTab.map cz) := hTab
      refine ⟨_, rfl, _, _, rfl, rfl, ?_⟩
      obtain ⟨j, rfl⟩ : ∃ j : Nat, r = ((j + 2 : Nat) : Int) := ⟨(r - 2).toNat, by omega⟩
      have jl : j < shapeTab.length := by
        show j < 6
        omega
      obtain ⟨tab, htab⟩ : ∃ tab, shapeTab[j]? = some tab := ⟨_, List.getElem?_eq_getElem jl⟩
      have tok := shapeTab_ok tab (List.mem_of_getElem? htab)
      obtain ⟨t, ut, et, h1t, h2t⟩ := hTab'.get (i := j) (l := cz tab) (by rw [List.getElem?_map, htab]; rfl)
      refine ⟨T, uT, _, _, rfl, rfl, SqL.of hT, by rw [show ((j + 2 : Nat) : Int) - 2 = (j : Int) by omega]; exact atI_nat et, ?_⟩
      have O2 : Oth p H H2 := O1.trans (Oth.of s2)
      have hh2 := h1.same s2
      refine ⟨_, rfl, _, rfl, _, rfl, t, ut, rfl, SqL.of h1t, fun S hS => ?_⟩
      rw [cutV_take]
      have sS : Same H2 (upd H2 S (.lst (ut.take n))) := same_new hS
      refine ⟨S, rfl, ⟨_, SqL.of upd_same⟩, fun D hD => ?_⟩
      have hD2 : H2 D = none := by
        cases e : H2 D with
        | none => rfl
        | some o =>
          rw [sS _ _ e] at hD
          cases hD
      obtain ⟨Dp, Dq⟩ := hh2.ne hD2
      have HD : H D = none := oth_free O2 Dp hD2
      have sD := same_new (o := .lst []) hD
      refine lc_list (K := K) (a := S) (xs := ut.take n) (fun i H3 => Same (upd H2 S (.lst (ut.take n))) H3 ∧ ∃ us, H3 D = some (.lst us) ∧ LsN D H3 us ((tab.take n).take i)) ⟨sD, [], upd_same, .nil⟩ (fun i H3 _ h => SqL.of (h.1 _ _ upd_same)) ?_ ?_
      · rintro i y H3 hi ⟨s3, us, hDu, hU⟩
        have lut : ut.length = tab.length := by
          have := Paired.length h2t
          unfold cz at this
          rw [List.length_map] at this
          exact this
        have hi1 : i < (tab.take n).length := by
          have := (List.getElem?_eq_some_iff.mp hi).1
          rw [List.length_take] at this ⊢
          omega
        have hin : i < n := by
          rw [List.length_take] at hi1
          omega
        obtain ⟨row, hrow⟩ : ∃ row, (tab.take n)[i]? = some row := ⟨_, List.getElem?_eq_getElem hi1⟩
        have hrow0 : tab[i]? = some row := by
          rw [List.getElem?_take, if_pos hin] at hrow
          exact hrow
        obtain ⟨a, ea, ha⟩ := h2t.get (i := i) (l := row.map fun (n : Nat) => (n : Int)) (by unfold cz; rw [List.getElem?_map, hrow0]; rfl)
        obtain rfl : V.ref a = y := by
          rw [List.getElem?_take, if_pos hin, ea] at hi
          exact Option.some.inj hi
        refine ⟨rfl, _, rfl, a, _, rfl, .inl (SqL.of (s3 _ _ (sS _ _ ha))), fun L hL => ?_⟩
        have sL := same_new (o := .lst ((row.map fun (n : Nat) => (n : Int)).map V.int)) hL
        have LD : L ≠ D := fun z => by
          rw [z, hDu] at hL
          cases hL
        refine ⟨us, sL _ _ hDu, ?_, same_upd (s3.trans sL) hD, us ++ [.ref L], upd_same, ?_⟩
        · rw [hU.len, List.length_take]
          show _ < 2 ^ 24
          omega
        · rw [List.take_add_one, hrow, Option.toList_some]
          refine ((hU.keep (KeepX.of sL)).app (.cons ⟨L, rfl, LD, ?_⟩ .nil)).keep KeepX.upd
          rw [natsI]
          exact upd_same
      · rintro H3 ⟨s3, us, hDu, hU⟩
        have lut : ut.length = tab.length := by
          have := Paired.length h2t
          unfold cz at this
          rw [List.length_map] at this
          exact this
        have O3 : Oth p H H3 := (O2.trans (Oth.of sS)).trans (Oth.of s3)
        have hh3 := (hh2.same sS).same s3
        rw [List.length_take, lut, ← List.length_take, List.take_length] at hU
        have ltab : (tab.take n).length ≤ n := by
          rw [List.length_take]
          omega
        -- from here on the list stands at D
        let Mid : L2.St → Hp → Prop := fun σ H' => ∃ (x6 x7 : Option V), σ = [some (.ref p), some (.int (n : Int)), some (.int ((j + 2 : Nat) : Int)), none, some (.ref t), some (.ref D), x6, x7] ∧ Oth p H H' ∧ HandAt H' p q ∧ ∃ us bs, H' D = some (.lst us) ∧ LsN D H' us bs ∧ bs.length ≤ n ∧ BOk bs
        refine while_by (fun σ H' => Mid σ H') (fun σ H' => match H' D with | some (.lst us) => n - us.length | _ => 0) ⟨_, _, rfl, O3, hh3, us, tab.take n, hDu, hU, ltab, tok.take n⟩ ?_ ?_
        · rintro σ H' ⟨x6, x7, rfl, O4, h4, us, bs, hDu, hU, hl, hb⟩
          refine ⟨_, rfl, D, us, rfl, .inl (SqL.of hDu), _, rfl, _, _, rfl, rfl, _, rfl, ?_⟩
          refine ite2 (fun hlt => ?_) (fun hge => ?_)
          · have hlt' : (us.length : Int) < (n : Int) := of_decide_eq_true hlt
            refine ⟨_, rfl, .inl ⟨rfl, _, SqL.of hDu⟩, _, rfl, _, rfl, D, us, rfl, .inl (SqL.of hDu), p, q, us.length, rfl, by omega, h4, fun l H5 row O5 h5 hl5 e5 nd hlt5 hl5' => ?_⟩
            have lD : l ≠ D := fun z => by
              rw [z, hDu] at hl5
              cases hl5
            have D5 : H5 D = some (.lst us) := O5 _ _ Dp hDu
            refine ⟨D, us, _, rfl, rfl, D5, by (show us.length < 2 ^ 24); omega, ⟨_, _, rfl, (O4.trans O5).updN HD, h5.upd Dp Dq, us ++ [.ref l], bs ++ [row], upd_same, ?_, ?_, hb.app nd (by rw [← hU.len]; exact hlt5) hl5'⟩, ?_⟩
            · exact ((hU.keep (KeepX.oth O5 h4)).app (.cons ⟨l, rfl, lD, e5⟩ .nil)).keep KeepX.upd
            · rw [List.length_append, ← hU.len]
              show us.length + 1 ≤ n
              omega
            · show (match upd H5 D (.lst (us ++ [.ref l])) D with | some (.lst us) => n - us.length | _ => 0) < (match H' D with | some (.lst us) => n - us.length | _ => 0)
              rw [upd_same, hDu]
              show n - (us ++ [V.ref l]).length < n - us.length
              rw [List.length_append, List.length_singleton]
              omega
          · have hge' : ¬ (us.length : Int) < (n : Int) := fun z => hge (decide_eq_true z)
            have hbn : bs.length = n := by
              have := hU.len
              omega
            refine ⟨_, rfl, _, rfl, p, q, (n : Int), rfl, by omega, by omega, h4, fun r5 H5 r50 r51 h5 e5 => ?_⟩
            obtain ⟨m, rfl⟩ : ∃ m : Nat, r5 = (m : Int) := ⟨r5.toNat, by omega⟩
            refine ⟨_, rfl, p, q, 3, rfl, by decide, by decide, h5, fun r6 H6 r60 r61 h6 e6 => ?_⟩
            have O5 : Oth p H' H5 := Oth.take e5
            have O6 : Oth p H5 H6 := Oth.take e6
            have D6 : H6 D = some (.lst us) := O6 _ _ Dp (O5 _ _ Dp hDu)
            have hU6 : LsN D H6 us bs := (hU.keep (KeepX.oth O5 h4)).keep (KeepX.oth O6 h5)
            have O46 := (O4.trans O5).trans O6
            refine ⟨rfl, _, rfl, ?_⟩
            refine ite2 (fun _ => ?_) (fun _ => ⟨_, rfl, k D H6 us bs O46 h6 HD D6 hU6 hbn hb⟩)
            refine ⟨_, rfl, _, rfl, p, q, m, rfl, by omega, h6, fun l H7 row O7 h7 hl7 e7 nd hlt7 hl7' => ?_⟩
            have lD : l ≠ D := fun z => by
              rw [z, D6] at hl7
              cases hl7
            have D7 : H7 D = some (.lst us) := O7 _ _ Dp D6
            have mus : m < us.length := by
              have := hU.len
              omega
            refine ⟨_, rfl, _, rfl, D, us, _, m, rfl, rfl, D7, ?_, ?_⟩
            · exact ixN_at mus
            · refine ⟨_, rfl, k D _ (us.set m (.ref l)) (bs.set m row) ((O46.trans O7).updN HD) (h7.upd Dp Dq) HD upd_same ?_ (by rw [List.length_set]; exact hbn) (hb.set nd hlt7 hl7')⟩
              exact ((hU6.keep (KeepX.oth O7 h6)).keep KeepX.upd).set lD (upB lD e7) m
        · intro σ H' Q Q' hq hc
          obtain ⟨v, e1, a, us, e2, sq, v2, e3, i, j, e4, e5, b, e6, q⟩ := hc
          exact ⟨v, e1, a, us, e2, sq, v2, e3, i, j, e4, e5, b, e6, hq _ _ q⟩
end
end K83

set_option maxRecDepth 100000
set_option maxHeartbeats 8000000
namespace K83
open PySem PySem.Spec PyProof.Rows L2 Kw
/-- a law's own rows (bases, fields, methods), nothing of them at R -/
def RwN (R : Addr) (H : Hp) : List V → List Ent → Prop := Paired fun v d => ∃ t b m, v = .ref t ∧ t ≠ R ∧ H t = some (.tup [.ref b, natV d.2.1, .ref m]) ∧ b ≠ R ∧ H b = some (.lst (d.1.map natV)) ∧ m ≠ R ∧ H m = some (.lst (d.2.2.map natV))
theorem RwN.keep {R : Addr} {H H' : Hp} (k : KeepX R H H') : ∀ {vs : List V} {ls : List Ent}, RwN R H vs ls → RwN R H' vs ls
  | [], [], _ => .nil
  | _ :: _, _ :: _, .cons ⟨t, b, m, e, n1, h1, n2, h2, n3, h3⟩ r => .cons ⟨t, b, m, e, n1, k _ _ n1 h1 (.inl ⟨_, rfl⟩), n2, k _ _ n2 h2 (ints_o _), n3, k _ _ n3 h3 (ints_o _)⟩ (RwN.keep k r)
theorem RwN.get {R : Addr} {H : Hp} : ∀ {vs : List V} {ls : List Ent} {i : Nat} {d : Ent}, RwN R H vs ls → ls[i]? = some d → ∃ t b m, vs[i]? = some (.ref t) ∧ H t = some (.tup [.ref b, natV d.2.1, .ref m]) ∧ H b = some (.lst (d.1.map natV)) ∧ H m = some (.lst (d.2.2.map natV))
  | [], [], _, _, _, h => by simp at h
  | _ :: _, _ :: _, 0, _, .cons ⟨t, b, m, e1, n1, h1, n2, h2, n3, h3⟩ _, e => by
    obtain rfl := Option.some.inj e
    exact ⟨t, b, m, by rw [e1]; rfl, h1, h2, h3⟩
  | _ :: _, _ :: _, i + 1, _, .cons _ r, e => RwN.get (i := i) r e
theorem RwN.app {R : Addr} {H : Hp} : ∀ {vs us : List V} {ls ms : List Ent}, RwN R H vs ls → RwN R H us ms → RwN R H (vs ++ us) (ls ++ ms)
  | [], _, [], _, _, h => h
  | _ :: _, _, _ :: _, _, .cons h r, s => .cons h (RwN.app r s)
theorem RwN.len {R : Addr} {H : Hp} {vs : List V} {ls : List Ent} (h : RwN R H vs ls) : vs.length = ls.length := Paired.length h
theorem RwN.rows {R : Addr} {H : Hp} : ∀ {vs : List V} {ls : List Ent}, RwN R H vs ls → RowsAt H vs (ls.map (·.1))
  | [], [], _ => .nil
  | _ :: _, _ :: _, .cons ⟨t, b, m, e, n1, h1, n2, h2, n3, h3⟩ r => .cons ⟨t, b, _, _, e, h1, .inl h2⟩ (RwN.rows r)
/-- right rows -/
def EOk (i : Nat) (d : Ent) : Prop := d.1.Nodup ∧ (∀ b ∈ d.1, b < i) ∧ d.1.length ≤ 3 ∧ d.2.1 ≤ 3 ∧ d.2.2.Pairwise (· < ·) ∧ (∀ m ∈ d.2.2, m < 6) ∧ d.2.2.length ≤ 3
def DsOk (ds : List Ent) : Prop := ∀ (i : Nat) (d : Ent), ds[i]? = some d → EOk i d
theorem DsOk.app {ds : List Ent} {d : Ent} (h : DsOk ds) (z : EOk ds.length d) : DsOk (ds ++ [d]) := fun i r e => by
  by_cases q : i < ds.length
  · rw [List.getElem?_append_left q] at e
    exact h i r e
  · rw [List.getElem?_append_right (by omega)] at e
    by_cases q2 : i - ds.length = 0
    · rw [q2] at e
      obtain rfl : d = r := Option.some.inj e
      have : i = ds.length := by omega
      rw [this]
      exact z
    · rw [List.getElem?_eq_none (by rw [List.length_singleton]; omega)] at e
      cases e
theorem DsOk.valid {ds : List Ent} (h : DsOk ds) : validB (ds.map (·.1)) := fun c row e b hb => by
  rw [List.getElem?_map] at e
  obtain ⟨d, hd, rfl⟩ := Option.map_eq_some_iff.mp e
  exact (h c d hd).2.1 b hb
theorem DsOk.short {ds : List Ent} (h : DsOk ds) : ∀ row ∈ ds.map (·.1), row.length ≤ 3 := fun row hr => by
  obtain ⟨d, hd, rfl⟩ := List.mem_map.mp hr
  obtain ⟨i, hi⟩ := List.mem_iff_getElem?.mp hd
  exact (h i d hi).2.2.1
/-- as World takes them -/
theorem RwN.entries {R : Addr} {H : Hp} {vs : List V} {ds : List Ent} (h : RwN R H vs ds) (ok : DsOk ds) : ∀ (i : Nat) (d : Ent), ds[i]? = some d → ∃ e, vs[i]? = some e ∧ EntryOk H e i d := fun i d hd => by
  obtain ⟨t, b, m, e, h1, h2, h3⟩ := h.get hd
  obtain ⟨o1, o2, o3, o4, o5, o6, o7⟩ := ok i d hd
  exact ⟨_, e, t, b, m, rfl, .inr h1, .inl h2, .inl h3, ⟨o1, by omega, o2⟩, o4, up_nodup o5, o7, o6⟩
section
variable {P : Program} {w : World} {K : PySem.W.Frag} {mg : Str → Option Value} {base : Heap} {f fT fM fB fS fMe : Addr} {fd fdT fdM fdB fdS fdMe : FuncData}
def spClasses : Sp := fun vs H Q _ => ∃ (p q : Addr) (lo hi most : Nat) (wanted : Bool), vs = [.ref p, .int (lo : Int), .int (hi : Int), .int (most : Int), .bl wanted] ∧ 1 ≤ lo ∧ lo ≤ hi ∧ hi ≤ 12 ∧ HandAt H p q ∧
  ∀ l H' us (ds : List Ent), Oth p H H' → HandAt H' p q → H l = none → H' l = some (.lst us) → RwN l H' us ds → lo ≤ ds.length → ds.length ≤ hi → DsOk ds → Q (.ref l) H'
theorem sc_classes : FnScope ["_law_hand_here", "_law_low", "_law_high", "_law_most", "_law_wanted", "_law_many", "_law_bases_here", "_law_rest", "_law_rows", "_law_own", "_law_fields"] ["_law_hand_here", "_law_low", "_law_high", "_law_most", "_law_wanted"] (defScope (top 49)) := ⟨rfl, rfl, rfl, by decide +kernel, rfl, by decide +kernel, by decide +kernel⟩
theorem ok_classes (F : FnP K "_law_classes" 49 f fd) (B : Fr mg) (FT : FnP K "_law_take" 45 fT fdT) (mT : mg "_law_take" = some (.ref fT)) (FM : FnP K "_law_mixed" 44 fM fdM) (mM : mg "_law_mixed" = some (.ref fM)) (FB : FnP K "_law_bases" 46 fB fdB) (mB : mg "_law_bases" = some (.ref fB))
    (FS : FnP K "_law_shape" 48 fS fdS) (mS : mg "_law_shape" = some (.ref fS)) (FMe : FnP K "_law_methods" 47 fMe fdMe) (mMe : mg "_law_methods" = some (.ref fMe)) (gMax : mg "max" = none) (gMin : mg "min" = none) :
    FnOk P w K mg base CX0 5 f fd ["_law_hand_here", "_law_low", "_law_high", "_law_most", "_law_wanted"] spClasses := by
  have GT : FnOk P w K mg base CX0 2 fT fdT ["_law_hand_here", "_law_many"] spTake := ok_take FT FM mM B.int B.len
  have bT : L2.Binds K fdT ["_law_hand_here", "_law_many"] [] := FT.bindsN fun _ _ _ _ _ _ us hl => match us, hl with | [_, _], _ => rfl
  have GS : FnOk P w K mg base CX0 4 fS fdS ["_law_hand_here", "_law_many"] spShape := ok_shape FS B FT mT FM mM FB mB
  have bS : L2.Binds K fdS ["_law_hand_here", "_law_many"] [] := FS.bindsN fun _ _ _ _ _ _ us hl => match us, hl with | [_, _], _ => rfl
  have GMe : FnOk P w K mg base CX0 3 fMe fdMe ["_law_hand_here"] spMethods := ok_methods FMe B FT mT FM mM
  have bMe : L2.Binds K fdMe ["_law_hand_here"] [] := FMe.bindsN fun _ _ _ _ _ _ us hl => match us, hl with | [_], _ => rfl
  refine F.ok sc_classes (fun vs H Q E h => ?_) (fun cdv A outer s H vs Q E hr h => ?_)
  · obtain ⟨p, q, lo, hi, most, wanted, rfl, _⟩ := h
    rfl
  · obtain ⟨p, q, lo, hi, most, wanted, rfl, l1, l2, l3, hh, k⟩ := h
    refine ⟨_, PSs.nox (pss_cons (ps_set (i := 5) sc_classes.nd rfl (Or.inl rfl) (pe_op op_add (pv 1) (pe_callB (call_max2 rfl) (by rfl) gMax (by decide +kernel)
        (pa_cons (pe_call GT (hr.mono (by decide)) (by rfl) mT FT.kp bT .nil pass0 (pa_cons (pv 0) (pa_cons (pe_op op_add (pe_op op_sub (pv 2) (pv 1)) pe_int) pa_nil)))
        (pa_cons (pe_call GT (hr.mono (by decide)) (by rfl) mT FT.kp bT .nil pass0 (pa_cons (pv 0) (pa_cons (pe_op op_add (pe_op op_sub (pv 2) (pv 1)) pe_int) pa_nil))) pa_nil)))))
      (pss_cons (ps_set (i := 6) sc_classes.nd rfl (Or.inl rfl) (pe_call GS hr (by rfl) mS FS.kp bS .nil pass0 (pa_cons (pv 0) (pa_cons (pv 5) pa_nil))))
      (pss_cons (ps_set (i := 7) sc_classes.nd rfl (Or.inl rfl) (pv 3))
      (pss_cons (ps_set (i := 8) sc_classes.nd rfl (Or.inl rfl) (pe_lst pa_nil))
      (pss_cons (ps_for PassesOwn.never rfl (pi_list (pv 6)) (pg_name (i := 9) sc_classes.nd rfl (Or.inl rfl))
        (pss_cons (ps_set (i := 10) sc_classes.nd rfl (Or.inl rfl) (pe_callB (call_min2 rfl) (by rfl) gMin (by decide +kernel) (pa_cons (pv 7)
          (pa_cons (pe_ix ix_tup (pe_tup (pa_cons pe_int (pa_cons pe_int (pa_cons pe_int (pa_cons pe_int (pa_cons pe_int (pa_cons pe_int (pa_cons pe_int (pa_cons pe_int (pa_cons pe_int (pa_cons pe_int pa_nil))))))))))) (pe_call GT (hr.mono (by decide)) (by rfl) mT FT.kp bT .nil pass0 (pa_cons (pv 0) (pa_cons pe_int pa_nil))) (fun _ _ => rfl)) pa_nil))))
        (pss_cons (ps_set (i := 7) sc_classes.nd rfl (Or.inl rfl) (pe_op op_sub (pv 7) (pv 10)))
        (pss_one (ps_expr (pe_bm PySem.F.plainAttrs_list PySem.F.slot_list_append PySem.F.type_list_append mt_append (pv 8) (pa_cons (pe_tup (pa_cons (pv 9) (pa_cons (pv 10)
          (pa_cons (pe_ifExp (pt_val (pv 4)) (pe_call GMe (hr.mono (by decide)) (by rfl) mMe FMe.kp bMe .nil pass0 (pa_cons (pv 0) pa_nil)) (pe_lst pa_nil)) pa_nil)))) pa_nil)))))))
      (pss_one (ps_ret (pv 8)))))))), ?_⟩
    have m0 : (1 : Int) ≤ (hi : Int) - (lo : Int) + 1 := by omega
    have m1 : (hi : Int) - (lo : Int) + 1 < 1073741824 := by omega
    refine ⟨_, rfl, _, rfl, _, rfl, _, rfl, _, _, rfl, rfl, _, _, rfl, rfl, p, q, _, rfl, m0, m1, hh, fun r1 H1 r10 r11 h1 e1 => ?_⟩
    refine ⟨_, rfl, _, rfl, _, rfl, _, _, rfl, rfl, _, _, rfl, rfl, p, q, _, rfl, m0, m1, h1, fun r2 H2 r20 r21 h2 e2 => ?_⟩
    have O2 : Oth p H H2 := (Oth.take e1).trans (Oth.take e2)
    refine ⟨_, _, rfl, _, _, rfl, rfl, ?_⟩
    obtain ⟨n, en, n1, n2⟩ : ∃ n : Nat, (lo : Int) + (if r2 > r1 then r2 else r1) = (n : Int) ∧ lo ≤ n ∧ n ≤ hi := by
      refine ⟨((lo : Int) + (if r2 > r1 then r2 else r1)).toNat, ?_, ?_, ?_⟩ <;> split <;> omega
    have en' : V.int ((lo : Int) + (if r2 > r1 then r2 else r1)) = natV n := by rw [en]; rfl
    show gName 5 (V.int ((lo : Int) + (if r2 > r1 then r2 else r1))) _ _ _
    rw [en']
    refine ⟨_, rfl, _, rfl, p, q, n, rfl, by omega, by omega, h2, fun l H3 ul bs O3 h3 hl3 L3 hU3 hbn hb3 => ?_⟩
    have O3' := O2.trans O3
    obtain ⟨lp, lq⟩ := h2.ne hl3
    refine ⟨_, rfl, by decide, fun D hD => ?_⟩
    obtain ⟨Dp, Dq⟩ := h3.ne hD
    have HD : H D = none := oth_free O3' Dp hD
    have sD := same_new (o := .lst []) hD
    have lD : l ≠ D := fun z => by
      rw [z, hD] at L3
      cases L3
    refine ⟨_, rfl, l, rfl, ⟨_, SqL.of (sD _ _ L3)⟩, for_list (K := K) (a := l) (xs := ul) (fun i σ H' => ∃ (rest : Nat) (x9 x10 : Option V), σ = [some (.ref p), some (.int (lo : Int)), some (.int (hi : Int)), some (.int (most : Int)), some (.bl wanted), some (natV n), some (.ref l), some (.int (rest : Int)), some (.ref D), x9, x10] ∧
        Oth p H H' ∧ HandAt H' p q ∧ H' l = some (.lst ul) ∧ LsN D H' ul bs ∧ ∃ us ds, H' D = some (.lst us) ∧ RwN D H' us ds ∧ ds.length = i ∧ DsOk ds)
      ⟨most, none, none, rfl, O3'.updN HD, h3.upd Dp Dq, sD _ _ L3, ?_, [], [], upd_same, .nil, rfl, fun i d e => by simp at e⟩ (fun i σ H' _ ⟨_, _, _, _, _, _, h, _⟩ => SqL.of h) ?_ ?_⟩
    · have key : ∀ {vs : List V} {ls : List (List Nat)}, LsN l H3 vs ls → LsN D (upd H3 D (.lst [])) vs ls := fun h => by
        induction h with
        | nil => exact .nil
        | cons z _ ih =>
          obtain ⟨t, e, n, ht⟩ := z
          exact .cons ⟨t, e, fun z => (by rw [z, hD] at ht; cases ht), sD _ _ ht⟩ ih
      exact key hU3
    · rintro i y σ H4 hi4 ⟨rest, x9, x10, rfl, O4, h4, L4, hB4, us, ds, D4, hR4, hl4, ok4⟩
      have hin : i < n := by
        have := (List.getElem?_eq_some_iff.mp hi4).1
        rw [hU3.len, hbn] at this
        exact this
      obtain ⟨row, hrow⟩ : ∃ row, bs[i]? = some row := ⟨_, List.getElem?_eq_getElem (by omega)⟩
      obtain ⟨b, eb, bD, hb⟩ := hB4.get hrow
      obtain rfl : V.ref b = y := Option.some.inj (eb.symm.trans hi4)
      obtain ⟨bo1, bo2, bo3⟩ := hb3 i row hrow
      refine ⟨_, rfl, by (show 10 ≤ sizeLine); decide, fun t ht => ?_⟩
      obtain ⟨tp, tq⟩ := h4.ne ht
      have st := same_new (o := .tup (([1, 1, 0, 1, 2, 1, 2, 1, 1, 3] : List Int).map V.int)) ht
      refine ⟨_, rfl, p, q, 10, rfl, by decide, by decide, h4.upd tp tq, fun r H5 r0 r1 h5 e5 => ?_⟩
      obtain ⟨v, hv, hm⟩ := tab_at (tab := [1, 1, 0, 1, 2, 1, 2, 1, 1, 3]) r0 r1
      have hv3 : 0 ≤ v ∧ v ≤ 3 := (by decide : ∀ v ∈ ([1, 1, 0, 1, 2, 1, 2, 1, 1, 3] : List Int), 0 ≤ v ∧ v ≤ 3) v hm
      have T5 : H5 t = some (.tup (([1, 1, 0, 1, 2, 1, 2, 1, 1, 3] : List Int).map V.int)) := by
        rw [e5 t tp]
        exact upd_same
      have O5 : Oth p H4 H5 := (Oth.of st).trans (Oth.take e5)
      refine ⟨t, _, r, _, rfl, rfl, SqT.of T5, hv, _, _, rfl, ?_⟩
      obtain ⟨g, eg, g3, gr⟩ : ∃ g : Nat, (if v < (rest : Int) then v else (rest : Int)) = (g : Int) ∧ g ≤ 3 ∧ g ≤ rest := by
        refine ⟨(if v < (rest : Int) then v else (rest : Int)).toNat, ?_, ?_, ?_⟩ <;> split <;> omega
      have eg' : V.int (if v < (rest : Int) then v else (rest : Int)) = natV g := by rw [eg]; rfl
      show gName 10 (V.int (if v < (rest : Int) then v else (rest : Int))) _ _ _
      rw [eg']
      refine ⟨_, rfl, _, rfl, _, _, rfl, rfl, ?_⟩
      have er : V.int ((rest : Int) - (g : Int)) = V.int ((rest - g : Nat) : Int) := by congr 1; omega
      show gName 7 (V.int ((rest : Int) - (g : Int))) _ _ _
      rw [er]
      have D5 : H5 D = some (.lst us) := O5 _ _ Dp D4
      -- the end of a turn, the methods' list at m
      have O45 := O4.trans O5
      have hh5 := h5
      have fin : ∀ (m : Addr) (ms : List Nat) (H6 : Hp), Oth p H5 H6 → HandAt H6 p q → H5 m = none → H6 m = some (.lst (ms.map natV)) → ms.Pairwise (· < ·) → (∀ m ∈ ms, m < 6) → ms.length ≤ 3 → ∀ (u : Addr), H6 u = none →
          ∃ (us1 : List V) (ds1 : List Ent), upd (upd H6 u (.tup [.ref b, natV g, .ref m])) D (.lst (us ++ [.ref u])) D = some (.lst us1) ∧ RwN D (upd (upd H6 u (.tup [.ref b, natV g, .ref m])) D (.lst (us ++ [.ref u]))) us1 ds1 ∧ ds1.length = i + 1 ∧ DsOk ds1 := by
        intro m ms H6 O6 h6 hm5 hm6 p1 p2 p3 u hu
        have su := same_new (o := .tup [.ref b, natV g, .ref m]) hu
        have D6 : H6 D = some (.lst us) := O6 _ _ Dp D5
        have uD : u ≠ D := fun z => by
          rw [z, D6] at hu
          cases hu
        have mD : m ≠ D := fun z => by
          rw [z, D5] at hm5
          cases hm5
        have kb : KeepX D H4 H6 := (KeepX.oth O5 h4).trans (KeepX.oth O6 h5)
        refine ⟨us ++ [.ref u], ds ++ [(row, g, ms)], upd_same, ?_, by rw [List.length_append, hl4]; rfl, ok4.app ⟨bo1, by rw [hl4]; exact bo2, bo3, g3, p1, p2, p3⟩⟩
        refine (((hR4.keep kb).keep (KeepX.of su)).app (.cons ⟨u, b, m, rfl, uD, upd_same, bD, ?_, mD, su _ _ hm6⟩ .nil)).keep KeepX.upd
        exact su _ _ (kb _ _ bD hb (ints_o _))
      have inv : ∀ (m : Addr) (ms : List Nat) (H6 : Hp), Oth p H5 H6 → HandAt H6 p q → H5 m = none → H6 m = some (.lst (ms.map natV)) → ms.Pairwise (· < ·) → (∀ m ∈ ms, m < 6) → ms.length ≤ 3 → ∀ (u : Addr), H6 u = none →
          H6 D = some (.lst us) ∧ Oth p H (upd (upd H6 u (.tup [.ref b, natV g, .ref m])) D (.lst (us ++ [.ref u]))) ∧ HandAt (upd (upd H6 u (.tup [.ref b, natV g, .ref m])) D (.lst (us ++ [.ref u]))) p q ∧
          upd (upd H6 u (.tup [.ref b, natV g, .ref m])) D (.lst (us ++ [.ref u])) l = some (.lst ul) ∧ LsN D (upd (upd H6 u (.tup [.ref b, natV g, .ref m])) D (.lst (us ++ [.ref u]))) ul bs := by
        intro m ms H6 O6 h6 hm5 hm6 p1 p2 p3 u hu
        have su := same_new (o := .tup [.ref b, natV g, .ref m]) hu
        have D6 : H6 D = some (.lst us) := O6 _ _ Dp D5
        refine ⟨D6, Oth.updN ((O45.trans O6).trans (Oth.of su)) HD, (h6.same su).upd Dp Dq, upB lD (su _ _ (O6 _ _ lp (O5 _ _ lp L4))), ?_⟩
        exact (((hB4.keep (KeepX.oth O5 h4)).keep (KeepX.oth O6 h5)).keep (KeepX.of su)).keep KeepX.upd
      have dl : us.length < 2 ^ 24 := by
        have := hR4.len
        omega
      refine ⟨_, rfl, .inl ⟨rfl, _, SqL.of D5⟩, _, rfl, _, rfl, _, rfl, wanted, rfl, ?_⟩
      cases wanted with
      | true =>
        refine iteT ⟨_, rfl, p, q, rfl, h5, fun m H6 ms O6 h6 hm5 hm6 p1 p2 p3 => ⟨by (show 3 ≤ sizeLine); decide, fun u hu => ?_⟩⟩
        obtain ⟨us1, ds1, f1, f2, f3, f4⟩ := fin m ms H6 O6 h6 hm5 hm6 p1 p2 p3 u hu
        obtain ⟨v1, v2, v3, v4, v5⟩ := inv m ms H6 O6 h6 hm5 hm6 p1 p2 p3 u hu
        exact ⟨D, us, _, rfl, rfl, same_new hu _ _ v1, dl, rest - g, _, _, rfl, v2, v3, v4, v5, us1, ds1, f1, f2, f3, f4⟩
      | false =>
        refine iteF ⟨by decide, fun m hm => ⟨by (show 3 ≤ sizeLine); decide, fun u hu => ?_⟩⟩
        have sm := same_new (o := .lst []) hm
        obtain ⟨mp, mq⟩ := h5.ne hm
        obtain ⟨us1, ds1, f1, f2, f3, f4⟩ := fin m [] _ (Oth.of sm) (h5.same sm) hm upd_same .nil (fun _ z => by cases z) (by decide) u hu
        obtain ⟨v1, v2, v3, v4, v5⟩ := inv m [] _ (Oth.of sm) (h5.same sm) hm upd_same .nil (fun _ z => by cases z) (by decide) u hu
        exact ⟨D, us, _, rfl, rfl, same_new hu _ _ v1, dl, rest - g, _, _, rfl, v2, v3, v4, v5, us1, ds1, f1, f2, f3, f4⟩
    · rintro σ H4 ⟨rest, x9, x10, rfl, O4, h4, L4, hB4, us, ds, D4, hR4, hl4, ok4⟩
      have : ul.length = n := by rw [hU3.len, hbn]
      exact ⟨_, rfl, k D H4 us ds O4 h4 HD D4 hR4 (by omega) (by omega) ok4⟩
end
end K83

set_option maxRecDepth 100000
set_option maxHeartbeats 8000000
namespace K83
open PySem PySem.Spec PyProof.Rows L2 Kw
/-! ### a law's own kin, hues and clashes -/
def kinOf (els : List (List Nat)) (c : Nat) : List Nat := els.getD c [] ++ [c]
def kins (els : List (List Nat)) : List (List Nat) := (List.range els.length).map (kinOf els)
theorem kins_len (els : List (List Nat)) : (kins els).length = els.length := by
  unfold kins
  rw [List.length_map, List.length_range]
theorem kins_at {els : List (List Nat)} {c : Nat} (h : c < els.length) : (kins els)[c]? = some (kinOf els c) := by
  unfold kins
  rw [List.getElem?_map, List.getElem?_range h]
  rfl
theorem kins_getD {els : List (List Nat)} {c : Nat} (h : c < els.length) : (kins els).getD c [] = kinOf els c := by
  rw [List.getD_eq_getElem?_getD, kins_at h]
  rfl
def hV : Option Nat → V
  | none => .non
  | some n => natV n
def hueOf (hs : List (Option Nat)) (x : Nat) : Option Nat := hs.getD x none
theorem hue_at {hs : List (Option Nat)} {x : Nat} (h : x < hs.length) : (hs.map hV)[x]? = some (hV (hueOf hs x)) := by
  unfold hueOf
  rw [List.getElem?_map, List.getElem?_eq_getElem h, List.getD_eq_getElem?_getD, List.getElem?_eq_getElem h]
  rfl
theorem hV_inj {a b : Option Nat} (h : hV a = hV b) : a = b := by
  cases a <;> cases b
  · rfl
  · cases h
  · cases h
  · exact congrArg some (by have := V.int.inj h; omega)
theorem hV_eq (a b : Option Nat) : decide (hV a = hV b) = (a == b) := by
  rw [Bool.eq_iff_iff, decide_eq_true_iff, beq_iff_eq]
  exact ⟨hV_inj, fun h => by rw [h]⟩
theorem hV_scal (a b : Option Nat) : scal (hV a) (hV b) = true := by cases a <;> cases b <;> rfl
theorem hV_non (a : Option Nat) : decide (hV a = V.non) = a.isNone := by cases a <;> rfl
def OptTup (H : Hp) (v : V) (o : Option (List Nat)) : Prop := (o = none ∧ v = .non) ∨ ∃ l t, o = some l ∧ v = .ref t ∧ H t = some (.tup (l.map natV))
theorem OptTup.same {H H' : Hp} {v : V} {o : Option (List Nat)} (h : OptTup H v o) (s : Same H H') : OptTup H' v o := by
  rcases h with h | ⟨l, t, e1, e2, h⟩
  · exact .inl h
  · exact .inr ⟨l, t, e1, e2, s _ _ h⟩
def Least (c : Nat → Nat → Bool) (xs : List Nat) (o : Option (List Nat)) : Prop :=
  (o = none ∧ ∀ a ∈ xs, ∀ b ∈ xs, c a b = false) ∨ ∃ a b, o = some [a, b] ∧ a ∈ xs ∧ b ∈ xs ∧ c a b = true ∧ ∀ a' ∈ xs, ∀ b' ∈ xs, c a' b' = true → a < a' ∨ (a = a' ∧ b ≤ b')
theorem Least.one {c : Nat → Nat → Bool} {xs : List Nat} {o o' : Option (List Nat)} (h : Least c xs o) (h' : Least c xs o') : o = o' := by
  rcases h with ⟨rfl, h⟩ | ⟨a, b, rfl, ha, hb, hc, hm⟩
  · rcases h' with ⟨rfl, _⟩ | ⟨a, b, rfl, ha, hb, hc, hm⟩
    · rfl
    · rw [h a ha b hb] at hc
      cases hc
  · rcases h' with ⟨rfl, h'⟩ | ⟨a', b', rfl, ha', hb', hc', hm'⟩
    · rw [h' a ha b hb] at hc
      cases hc
    · have z1 := hm a' ha' b' hb' hc'
      have z2 := hm' a ha b hb hc
      have : a = a' ∧ b = b' := by omega
      rw [this.1, this.2]
def condL (ks : List (List Nat)) (hs : List (Option Nat)) (a b : Nat) : Bool := decide (a < b) && ((hueOf hs a).isSome && ((hueOf hs a == hueOf hs b) && !((ks.getD b []).contains a)))
section
variable {P : Program} {w : World} {K : PySem.W.Frag} {mg : Str → Option Value} {base : Heap} {f fE fP : Addr} {fd fdE fdP : FuncData}
def spKin : Sp := fun vs H Q _ => ∃ (a : Addr) (ws : List V) (bs : List (List Nat)), vs = [.ref a] ∧ H a = some (.lst ws) ∧ RowsAt H ws bs ∧ validB bs ∧ bs.length ≤ 12 ∧ (∀ row ∈ bs, row.length ≤ 4) ∧
  ∀ H' l us, Same H H' → H l = none → H' l = some (.lst us) → (∀ v ∈ us, v ≠ .ref l) → ListsAt H' us (kins (elders bs)) → Q (.ref l) H'
theorem elders_row_up (bs : List (List Nat)) (c : Nat) (l : List Nat) (h : (elders bs)[c]? = some l) : l.Pairwise (· < ·) := by
  have key : ∀ (bs : List (List Nat)) (acc : List (List Nat)), (∀ l ∈ acc, l.Pairwise (· < ·)) → ∀ l ∈ bs.foldl (fun rows row => rows ++ [elStep rows row]) acc, l.Pairwise (· < ·) := by
    intro bs
    induction bs with
    | nil => intro acc h; exact h
    | cons b r ih =>
      intro acc h l hl
      rw [List.foldl_cons] at hl
      refine ih _ (fun l hl => ?_) l hl
      rcases List.mem_append.mp hl with hl | hl
      · exact h l hl
      · rw [List.mem_singleton.mp hl]
        exact elStep_up _ _
  exact key bs [] (fun l hl => by cases hl) l (List.mem_of_getElem? h)
theorem kin_up (bs : List (List Nat)) (c : Nat) (h : c < bs.length) : (kinOf (elders bs) c).Pairwise (· < ·) ∧ ∀ x ∈ kinOf (elders bs) c, x ≤ c := by
  obtain ⟨l, hl⟩ : ∃ l, (elders bs)[c]? = some l := ⟨_, List.getElem?_eq_getElem (by rw [elders_len]; exact h)⟩
  have e : (elders bs).getD c [] = l := by
    rw [List.getD_eq_getElem?_getD, hl]
    rfl
  unfold kinOf
  rw [e]
  have lt := elders_lt bs c l hl
  refine ⟨List.pairwise_append.mpr ⟨elders_row_up bs c l hl, List.pairwise_singleton _ _, fun a ha b hb => ?_⟩, fun x hx => ?_⟩
  · rw [List.mem_singleton.mp hb]
    exact lt a ha
  · rcases List.mem_append.mp hx with hx | hx
    · exact Nat.le_of_lt (lt x hx)
    · rw [List.mem_singleton.mp hx]
      exact Nat.le_refl _
end
end K83

set_option maxRecDepth 100000
set_option maxHeartbeats 8000000
namespace K83
open PySem PySem.Spec PyProof.Rows L2 Kw
/-! ### hues and depths: the mathematics -/
theorem elders_pre (bs : List (List Nat)) (i : Nat) : ∀ j, i ≤ j → (elders (bs.take j)).take i = elders (bs.take i) := by
  intro j
  induction j with
  | zero =>
    intro h
    obtain rfl : i = 0 := by omega
    rw [List.take_of_length_le (by rw [elders_len, List.length_take]; omega)]
  | succ j ih =>
    intro h
    by_cases e : i = j + 1
    · rw [← e, List.take_of_length_le (by rw [elders_len, List.length_take]; omega)]
    · by_cases q : j < bs.length
      · obtain ⟨row, hrow⟩ : ∃ row, bs[j]? = some row := ⟨_, List.getElem?_eq_getElem q⟩
        rw [elders_more hrow, List.take_append_of_le_length (by rw [elders_len, List.length_take]; omega)]
        exact ih (by omega)
      · rw [show bs.take (j + 1) = bs.take j by rw [List.take_of_length_le (by omega), List.take_of_length_le (by omega)]]
        exact ih (by omega)
theorem elders_pre_all (bs : List (List Nat)) (i : Nat) : (elders bs).take i = elders (bs.take i) := by
  by_cases h : i ≤ bs.length
  · have z := elders_pre bs i bs.length h
    rw [List.take_of_length_le (Nat.le_refl _)] at z
    exact z
  · rw [List.take_of_length_le (by rw [elders_len]; omega), List.take_of_length_le (by omega)]
theorem elders_row {bs : List (List Nat)} {c : Nat} {row : List Nat} (h : bs[c]? = some row) : (elders bs).getD c [] = elStep (elders (bs.take c)) row := by
  have hc := (List.getElem?_eq_some_iff.mp h).1
  have z : ((elders bs).take (c + 1))[c]? = (elders bs)[c]? := by
    rw [List.getElem?_take, if_pos (by omega)]
  rw [elders_pre_all, elders_more h, List.getElem?_append_right (by rw [elders_len, List.length_take]; omega), elders_len, List.length_take, show c - min c bs.length = 0 by omega] at z
  rw [List.getD_eq_getElem?_getD, ← z]
  rfl
theorem elders_getD_take {bs : List (List Nat)} {b c : Nat} (h : b < c) : (elders (bs.take c)).getD b [] = (elders bs).getD b [] := by
  rw [← elders_pre_all, List.getD_eq_getElem?_getD, List.getElem?_take, if_pos h, ← List.getD_eq_getElem?_getD]
theorem elders_mem {bs : List (List Nat)} (hv : validB bs) {c : Nat} {row : List Nat} (h : bs[c]? = some row) (x : Nat) : x ∈ (elders bs).getD c [] ↔ ∃ b ∈ row, x = b ∨ x ∈ (elders bs).getD b [] := by
  have hc := (List.getElem?_eq_some_iff.mp h).1
  rw [elders_row h, elStep_mem (fun b hb => by rw [elders_len, List.length_take]; have := hv c row h b hb; omega) (elders_lt _)]
  constructor
  · rintro ⟨b, hb, e⟩
    exact ⟨b, hb, e.imp id fun e => by rw [elders_getD_take (hv c row h b hb)] at e; exact e⟩
  · rintro ⟨b, hb, e⟩
    exact ⟨b, hb, e.imp id fun e => by rw [elders_getD_take (hv c row h b hb)]; exact e⟩
theorem elders_below {bs : List (List Nat)} {c x : Nat} (h : x ∈ (elders bs).getD c []) : x < c := by
  rw [List.getD_eq_getElem?_getD] at h
  cases e : (elders bs)[c]? with
  | none =>
    rw [e] at h
    cases h
  | some l =>
    rw [e] at h
    exact elders_lt bs c l e x h
theorem elders_trans {bs : List (List Nat)} (hv : validB bs) : ∀ (c : Nat) {x y : Nat}, y ∈ (elders bs).getD c [] → x ∈ (elders bs).getD y [] → x ∈ (elders bs).getD c [] := by
  intro c
  induction c using Nat.strongRecOn with
  | _ c ih =>
    intro x y hy hx
    have hc : c < bs.length := by
      apply Classical.byContradiction
      intro q
      rw [List.getD_eq_getElem?_getD, List.getElem?_eq_none (by rw [elders_len]; omega)] at hy
      cases hy
    obtain ⟨row, hrow⟩ : ∃ row, bs[c]? = some row := ⟨_, List.getElem?_eq_getElem hc⟩
    obtain ⟨b, hb, e⟩ := (elders_mem hv hrow y).mp hy
    refine (elders_mem hv hrow x).mpr ⟨b, hb, .inr ?_⟩
    rcases e with e | e
    · rw [← e]
      exact hx
    · exact ih b (hv c row hrow b hb) e hx
theorem nodup_sub_len' {ks ns : List Nat} (hn : ks.Nodup) (hs : ∀ k ∈ ks, k ∈ ns) : ks.length ≤ ns.length := by
  induction ks generalizing ns with
  | nil => exact Nat.zero_le _
  | cons k r ih =>
    have hk : k ∈ ns := hs k List.mem_cons_self
    obtain ⟨h1, h2⟩ := List.nodup_cons.mp hn
    have z := ih (ns := ns.erase k) h2 fun y hy => by
      have ne : y ≠ k := fun e => h1 (by rw [← e]; exact hy)
      exact (List.mem_erase_of_ne ne).mpr (hs y (List.mem_cons_of_mem _ hy))
    rw [List.length_erase_of_mem hk] at z
    have := List.length_pos_of_mem hk
    show r.length + 1 ≤ ns.length
    omega
/-- each row holds its own class last, the others below it, and the rows of all of them -/
structure KinsOk (ks : List (List Nat)) : Prop where
  up : ∀ c, c < ks.length → (ks.getD c []).Pairwise (· < ·)
  self : ∀ c, c < ks.length → c ∈ ks.getD c []
  le : ∀ c, c < ks.length → ∀ x ∈ ks.getD c [], x ≤ c
  tr : ∀ c, c < ks.length → ∀ y ∈ ks.getD c [], ∀ x ∈ ks.getD y [], x ∈ ks.getD c []
theorem kins_ok {bs : List (List Nat)} (hv : validB bs) : KinsOk (kins (elders bs)) := by
  have hl : ∀ {c}, c < (kins (elders bs)).length → c < bs.length := fun h => by
    rw [kins_len, elders_len] at h
    exact h
  have g : ∀ {c}, c < bs.length → (kins (elders bs)).getD c [] = (elders bs).getD c [] ++ [c] := fun h => kins_getD (by rw [elders_len]; exact h)
  refine ⟨fun c h => ?_, fun c h => ?_, fun c h x hx => ?_, fun c h y hy x hx => ?_⟩
  · rw [g (hl h)]
    exact (kin_up bs c (hl h)).1
  · rw [g (hl h)]
    exact List.mem_append_right _ (List.mem_singleton.mpr rfl)
  · rw [g (hl h)] at hx
    exact (kin_up bs c (hl h)).2 x hx
  · rw [g (hl h)] at hy ⊢
    have yc := (kin_up bs c (hl h)).2 y hy
    rw [g (by have := hl h; omega)] at hx
    rcases List.mem_append.mp hy with hy | hy
    · rcases List.mem_append.mp hx with hx | hx
      · exact List.mem_append_left _ (elders_trans hv c hy hx)
      · rw [List.mem_singleton.mp hx]
        exact List.mem_append_left _ hy
    · obtain rfl := List.mem_singleton.mp hy
      exact hx
/-- those of a row that have the hue of x -/
def likeH (hs : List (Option Nat)) (row : List Nat) (x : Nat) : List Nat := row.filter fun k => hueOf hs k == hueOf hs x
def depthI (ks : List (List Nat)) (hs : List (Option Nat)) (x : Nat) : Int := ((likeH hs (ks.getD x []) x).length : Int) - 1
def huedR (hs : List (Option Nat)) (row : List Nat) : List Nat := row.filter fun k => (hueOf hs k).isSome
def metOf (ks : List (List Nat)) (hs : List (Option Nat)) (k : Nat) : List Int := [(((hueOf hs k).getD 0 : Nat) : Int), depthI ks hs k]
def metR (ks : List (List Nat)) (hs : List (Option Nat)) (row : List Nat) : List (List Int) := (huedR hs row).map (metOf ks hs)
theorem mem_like {hs : List (Option Nat)} {row : List Nat} {x k : Nat} : k ∈ likeH hs row x ↔ k ∈ row ∧ hueOf hs k = hueOf hs x := by
  unfold likeH
  rw [List.mem_filter, beq_iff_eq]
theorem mem_hued {hs : List (Option Nat)} {row : List Nat} {k : Nat} : k ∈ huedR hs row ↔ k ∈ row ∧ (hueOf hs k).isSome = true := by
  unfold huedR
  rw [List.mem_filter]
theorem like_nodup {hs : List (Option Nat)} {row : List Nat} {x : Nat} (h : row.Pairwise (· < ·)) : (likeH hs row x).Nodup := up_nodup (List.Pairwise.filter _ h)
theorem met_inj {ks : List (List Nat)} {hs : List (Option Nat)} {a b : Nat} (ha : (hueOf hs a).isSome = true) (hb : (hueOf hs b).isSome = true) (h : metOf ks hs a = metOf ks hs b) : hueOf hs a = hueOf hs b ∧ depthI ks hs a = depthI ks hs b := by
  unfold metOf at h
  injection h with h1 h2
  injection h2 with h2 _
  refine ⟨?_, h2⟩
  cases ea : hueOf hs a with
  | none =>
    rw [ea] at ha
    cases ha
  | some x =>
    cases eb : hueOf hs b with
    | none =>
      rw [eb] at hb
      cases hb
    | some y =>
      rw [ea, eb] at h1
      have : x = y := by
        have h1 : (x : Int) = (y : Int) := h1
        omega
      rw [this]
/-- below in the same row and of the same hue: less deep -/
theorem depth_lt {ks : List (List Nat)} (ok : KinsOk ks) {hs : List (Option Nat)} {a b : Nat} (hb : b < ks.length) (hab : a ∈ ks.getD b []) (ne : a ≠ b) (he : hueOf hs a = hueOf hs b) : depthI ks hs a < depthI ks hs b := by
  have alt : a < b := by
    have := ok.le b hb a hab
    omega
  have z := nodup_sub_len' (ks := b :: likeH hs (ks.getD a []) a) (ns := likeH hs (ks.getD b []) b) (List.nodup_cons.mpr ⟨fun h => ?_, like_nodup (ok.up a (by omega))⟩) (fun k hk => ?_)
  · unfold depthI
    rw [List.length_cons] at z
    omega
  · have := ok.le a (by omega) b (mem_like.mp h).1
    omega
  · rcases List.mem_cons.mp hk with rfl | hk
    · exact mem_like.mpr ⟨ok.self _ hb, rfl⟩
    · obtain ⟨h1, h2⟩ := mem_like.mp hk
      exact mem_like.mpr ⟨ok.tr b hb a hab k h1, h2.trans he⟩
theorem nodup_map {α β : Type} {f : α → β} : ∀ {l : List α}, l.Nodup → (∀ a ∈ l, ∀ b ∈ l, f a = f b → a = b) → (l.map f).Nodup
  | [], _, _ => List.nodup_nil
  | x :: r, hn, hi => by
    obtain ⟨h1, h2⟩ := List.nodup_cons.mp hn
    refine List.nodup_cons.mpr ⟨fun h => ?_, nodup_map h2 fun a ha b hb => hi a (List.mem_cons_of_mem _ ha) b (List.mem_cons_of_mem _ hb)⟩
    obtain ⟨y, hy, e⟩ := List.mem_map.mp h
    have := hi y (List.mem_cons_of_mem _ hy) x List.mem_cons_self e
    rw [this] at hy
    exact h1 hy
theorem inj_of_nodup_map {α β : Type} {f : α → β} : ∀ {l : List α}, (l.map f).Nodup → ∀ a ∈ l, ∀ b ∈ l, f a = f b → a = b
  | [], _, a, ha, _, _, _ => by cases ha
  | x :: r, hn, a, ha, b, hb, e => by
    obtain ⟨h1, h2⟩ := List.nodup_cons.mp hn
    rcases List.mem_cons.mp ha with ea | ha'
    · rcases List.mem_cons.mp hb with eb | hb'
      · rw [ea, eb]
      · rw [ea] at e
        exact absurd (e ▸ List.mem_map_of_mem hb') h1
    · rcases List.mem_cons.mp hb with eb | hb'
      · rw [eb] at e
        exact absurd (e ▸ List.mem_map_of_mem ha') h1
      · exact inj_of_nodup_map h2 a ha' b hb' e
theorem condL_iff {ks : List (List Nat)} {hs : List (Option Nat)} {a b : Nat} : condL ks hs a b = true ↔ a < b ∧ (hueOf hs a).isSome = true ∧ hueOf hs a = hueOf hs b ∧ a ∉ ks.getD b [] := by
  unfold condL
  rw [Bool.and_eq_true, Bool.and_eq_true, Bool.and_eq_true, decide_eq_true_eq, beq_iff_eq, Bool.not_eq_true', ← Bool.not_eq_true, List.contains_iff_mem]
/-- unlike depths: where u is not below v it is no less deep -/
theorem depth_ge {ks : List (List Nat)} (ok : KinsOk ks) {hs : List (Option Nat)} {c : Nat} (hc : c < ks.length) (hn : (metR ks hs (ks.getD c [])).Nodup) {u v : Nat} (hu : u ∈ ks.getD c []) (hv : v ∈ ks.getD c []) (hs1 : (hueOf hs u).isSome = true) (he : hueOf hs u = hueOf hs v) (hno : u ∉ ks.getD v []) : ¬ depthI ks hs u < depthI ks hs v := by
  intro hlt
  have vc := ok.le c hc v hv
  have inj : ∀ x ∈ likeH hs (ks.getD c []) v, ∀ y ∈ likeH hs (ks.getD c []) v, depthI ks hs x = depthI ks hs y → x = y := fun x hx y hy e => by
    obtain ⟨x1, x2⟩ := mem_like.mp hx
    obtain ⟨y1, y2⟩ := mem_like.mp hy
    have hxs : (hueOf hs x).isSome = true := by rw [x2, ← he]; exact hs1
    have hys : (hueOf hs y).isSome = true := by rw [y2, ← he]; exact hs1
    refine inj_of_nodup_map hn x (mem_hued.mpr ⟨x1, hxs⟩) y (mem_hued.mpr ⟨y1, hys⟩) ?_
    unfold metOf
    rw [x2, y2, e]
  -- the less deep ones of this row
  let T := (likeH hs (ks.getD c []) v).filter fun x => decide (depthI ks hs x < depthI ks hs v)
  have memT : ∀ x, x ∈ T ↔ (x ∈ ks.getD c [] ∧ hueOf hs x = hueOf hs v) ∧ depthI ks hs x < depthI ks hs v := fun x => by
    show x ∈ List.filter _ _ ↔ _
    rw [List.mem_filter, mem_like, decide_eq_true_eq]
  have d0 : ∀ x, x ∈ ks.getD c [] → 0 ≤ depthI ks hs x := fun x hx => by
    have xc := ok.le c hc x hx
    have : 0 < (likeH hs (ks.getD x []) x).length := List.length_pos_of_mem (mem_like.mpr ⟨ok.self x (by omega), rfl⟩)
    unfold depthI
    omega
  have nT : T.Nodup := List.Pairwise.filter _ (like_nodup (ok.up c hc))
  have small : T.length ≤ (depthI ks hs v).toNat := by
    have z := nodup_sub_len' (ks := T.map fun x => (depthI ks hs x).toNat) (ns := List.range (depthI ks hs v).toNat) (nodup_map nT fun x hx y hy e => ?_) (fun k hk => ?_)
    · rw [List.length_map, List.length_range] at z
      exact z
    · obtain ⟨⟨x1, x2⟩, _⟩ := (memT x).mp hx
      obtain ⟨⟨y1, y2⟩, _⟩ := (memT y).mp hy
      have q1 := d0 x x1
      have q2 := d0 y y1
      exact inj x (mem_like.mpr ⟨x1, x2⟩) y (mem_like.mpr ⟨y1, y2⟩) (by have e : (depthI ks hs x).toNat = (depthI ks hs y).toNat := e; omega)
    · obtain ⟨x, hx, rfl⟩ := List.mem_map.mp hk
      obtain ⟨⟨x1, _⟩, x3⟩ := (memT x).mp hx
      have q1 := d0 x x1
      rw [List.mem_range]
      omega
  have lv : (likeH hs (ks.getD v []) v).Nodup := like_nodup (ok.up v (by omega))
  have vin : v ∈ likeH hs (ks.getD v []) v := mem_like.mpr ⟨ok.self v (by omega), rfl⟩
  have big := nodup_sub_len' (ks := u :: (likeH hs (ks.getD v []) v).erase v) (ns := T) (List.nodup_cons.mpr ⟨fun h => hno (mem_like.mp (List.mem_of_mem_erase h)).1, lv.erase v⟩) (fun k hk => ?_)
  · rw [List.length_cons, List.length_erase_of_mem vin] at big
    have := List.length_pos_of_mem vin
    unfold depthI at small
    omega
  · rcases List.mem_cons.mp hk with rfl | hk
    · exact (memT _).mpr ⟨⟨hu, he⟩, hlt⟩
    · obtain ⟨ne, hk⟩ := (lv.mem_erase_iff).mp hk
      obtain ⟨k1, k2⟩ := mem_like.mp hk
      exact (memT k).mpr ⟨⟨ok.tr c hc v hv k k1, k2⟩, depth_lt ok (by omega) k1 ne k2⟩
/-- no clash exactly if no row has two of one hue at one depth -/
theorem clash_iff {ks : List (List Nat)} (ok : KinsOk ks) (hs : List (Option Nat)) (c : Nat) (hc : c < ks.length) : (∀ a ∈ ks.getD c [], ∀ b ∈ ks.getD c [], condL ks hs a b = false) ↔ (metR ks hs (ks.getD c [])).Nodup := by
  constructor
  · intro h
    have main : ∀ a b, a ∈ ks.getD c [] → b ∈ ks.getD c [] → (hueOf hs a).isSome = true → (hueOf hs b).isSome = true → metOf ks hs a = metOf ks hs b → ¬ a < b := fun a b ha hb sa sb e lt => by
      obtain ⟨e1, e2⟩ := met_inj sa sb e
      have bc := ok.le c hc b hb
      have inb : a ∈ ks.getD b [] := by
        apply Classical.byContradiction
        intro q
        have z := h a ha b hb
        rw [condL_iff.mpr ⟨lt, sa, e1, q⟩] at z
        cases z
      have := depth_lt ok (by omega) inb (by omega) e1
      omega
    refine nodup_map (up_nodup (List.Pairwise.filter _ (ok.up c hc))) fun a ha b hb e => ?_
    obtain ⟨a1, a2⟩ := mem_hued.mp ha
    obtain ⟨b1, b2⟩ := mem_hued.mp hb
    have z1 := main a b a1 b1 a2 b2 e
    have z2 := main b a b1 a1 b2 a2 e.symm
    omega
  · intro h a ha b hb
    apply Classical.byContradiction
    intro q
    have q : condL ks hs a b = true := by
      cases e : condL ks hs a b with
      | false => exact absurd e q
      | true => rfl
    obtain ⟨lt, sa, e, no⟩ := condL_iff.mp q
    have bc := ok.le c hc b hb
    have n1 := depth_ge ok hc h ha hb sa e no
    have n2 := depth_ge ok hc h hb ha (by rw [← e]; exact sa) e.symm (fun z => by have := ok.le a (by omega) b z; omega)
    have : metOf ks hs a = metOf ks hs b := by
      unfold metOf
      rw [e, show depthI ks hs a = depthI ks hs b by omega]
    have := inj_of_nodup_map h a (mem_hued.mpr ⟨ha, sa⟩) b (mem_hued.mpr ⟨hb, by rw [← e]; exact sa⟩) this
    omega
/-- the first clash of all rows -/
def FirstC (ks : List (List Nat)) (hs : List (Option Nat)) (o : Option (List Nat)) : Prop :=
  (o = none ∧ ∀ c < ks.length, Least (condL ks hs) (ks.getD c []) none) ∨ ∃ c a b, o = some [c, a, b] ∧ c < ks.length ∧ (∀ c' < c, Least (condL ks hs) (ks.getD c' []) none) ∧ Least (condL ks hs) (ks.getD c []) (some [a, b])
theorem FirstC.one {ks : List (List Nat)} {hs : List (Option Nat)} {o o' : Option (List Nat)} (h : FirstC ks hs o) (h' : FirstC ks hs o') : o = o' := by
  rcases h with ⟨rfl, h⟩ | ⟨c, a, b, rfl, h1, h2, h3⟩
  · rcases h' with ⟨rfl, _⟩ | ⟨c, a, b, rfl, h1, h2, h3⟩
    · rfl
    · cases (h c h1).one h3
  · rcases h' with ⟨rfl, h⟩ | ⟨c', a', b', rfl, h1', h2', h3'⟩
    · cases (h c h1).one h3
    · have e : c = c' := by
        apply Classical.byContradiction
        intro q
        by_cases l : c < c'
        · cases (h2' c l).one h3
        · cases (h2 c' (by omega)).one h3'
      subst e
      have z := h3.one h3'
      injection z with z
      rw [z]
theorem FirstC.none_iff {ks : List (List Nat)} (ok : KinsOk ks) {hs : List (Option Nat)} {o : Option (List Nat)} (h : FirstC ks hs o) : o = none ↔ ∀ row ∈ ks, (metR ks hs row).Nodup := by
  have none_of : ∀ c, Least (condL ks hs) (ks.getD c []) none ↔ ∀ a ∈ ks.getD c [], ∀ b ∈ ks.getD c [], condL ks hs a b = false := fun c => by
    constructor
    · rintro (⟨_, h⟩ | ⟨a, b, h, _⟩)
      · exact h
      · cases h
    · intro h
      exact .inl ⟨rfl, h⟩
  constructor
  · rintro rfl row hr
    obtain ⟨c, hc⟩ := List.mem_iff_getElem?.mp hr
    have hl := (List.getElem?_eq_some_iff.mp hc).1
    have e : ks.getD c [] = row := by
      rw [List.getD_eq_getElem?_getD, hc]
      rfl
    rcases h with ⟨_, h⟩ | ⟨_, _, _, z, _⟩
    · have z := (clash_iff ok hs c hl).mp ((none_of c).mp (h c hl))
      rw [e] at z
      exact z
    · cases z
  · intro hm
    rcases h with ⟨rfl, _⟩ | ⟨c, a, b, rfl, h1, h2, h3⟩
    · rfl
    · have e : ks.getD c [] ∈ ks := by
        rw [List.getD_eq_getElem?_getD, List.getElem?_eq_getElem h1]
        exact List.getElem_mem h1
      have z := (none_of c).mpr ((clash_iff ok hs c h1).mpr (hm _ e))
      cases z.one h3
end K83

set_option maxRecDepth 100000
set_option maxHeartbeats 4000000
namespace K83
open PySem PySem.Spec PyProof.Rows L2 Kw
/-- the facts of a world that others read: the object's fields -/
theorem WorldAt.mono {H H' : Hp} {p C : Addr} {ds : List Ent} (h : WorldAt H p C ds) (s : Same H H') : WorldAt H' p C ds := by
  obtain ⟨dx, ac, ab, ao, am, ae, ah, cs, bs, ms, es, hs, h1, h2, h3, h4, h5, h6, h7, h8, h9, h10, h11, h12⟩ := h
  exact ⟨dx, ac, ab, ao, am, ae, ah, cs, bs, ms, es, hs, s _ _ h1, s _ _ h2, h3.mono (Same.tupK s), s _ _ h4, h5.mono (Same.tupK s), s _ _ h6, s _ _ h7, h8.mono (Same.tupK s), s _ _ h9, h10.mono (Same.tupK s), s _ _ h11, h12.mono (Same.tupK s)⟩
section
variable {P : Program} {w : World} {K : PySem.W.Frag} {mg : Str → Option Value} {base : Heap} {f fW fN fC C Cn : Addr} {fd fdW fdN fdC : FuncData}
theorem sc_noClass : FnScope ["self", "cls"] ["self", "cls"] (defScope (inClass (top 5) 0)) := ⟨rfl, rfl, rfl, by decide +kernel, rfl, by decide +kernel, by decide +kernel⟩
theorem ok_noClass (F : FnM K "__init__" "NoClass.__init__" (inClass (top 5) 0) f fd) (T : ErrX K mg "NoClass" ["cls"] C f) : FnOk P w K mg base CX0 1 f fd ["self", "cls"] (spR C ["cls"]) ∧ Binds K fd ["self", "cls"] [] := by
  refine ⟨F.ok sc_noClass (fun vs H Q E h => ?_) (fun cdv A outer s H vs Q E hr h => ?_), F.bindsN fun _ _ _ _ _ _ us hl => match us, hl with | [_, _], _ => rfl⟩
  · obtain ⟨a, xs, rfl, hl, _⟩ := h
    exact congrArg Nat.succ hl
  · obtain ⟨a, xs, rfl, hl, ha, k⟩ := h
    match xs, hl with
    | [x1], _ =>
      refine ⟨_, PSs.nox (pss_one (ps_ost (pv 0) (pv 1))), ?_⟩
      refine ⟨_, rfl, _, rfl, a, C, rfl, T.oex, T.no _ (List.mem_of_getElem? (i := 0) rfl), .inl ⟨ha, fun dx hd ne => ?_⟩⟩
      exact k dx _ hd ne upd_same (upB ne upd_same) fun b o hb e => upB hb (upB (ne_of_none e hd) e)
/-- a class is told, or NoClass -/
def spCheck (C Cn : Addr) : Sp := fun vs H Q E => ∃ (p : Addr) (c : V) (t : String) (ds : List Ent), vs = [.ref p, c] ∧ WorldAt H p C ds ∧ Ty0 H c t ∧
  ((wholeB (.int 0) (.int ((ds.length : Int) - 1)) c = true ∧ ∀ H', Same H H' → Q c H') ∨
   (wholeB (.int 0) (.int ((ds.length : Int) - 1)) c = false ∧ ∀ d H', Same H H' → H' d = some (.xd (errF ["cls"] [c])) → E (.ref Cn) (some d) H'))
theorem sc_check : FnScope ["world", "c"] ["world", "c"] (defScope (top 15)) := ⟨rfl, rfl, rfl, by decide +kernel, rfl, by decide +kernel, by decide +kernel⟩
theorem ok_check (F : FnP K "check_class" 15 f fd) (B : Fr mg) (TC : ClsWorld K mg C) (FW : FnDf K "is_whole" 11 [.non, .non] fW fdW) (mW : mg "is_whole" = some (.ref fW)) (FN : FnM K "__init__" "NoClass.__init__" (inClass (top 5) 0) fN fdN) (TN : ErrX K mg "NoClass" ["cls"] Cn fN) :
    FnOk P w K mg base (L2.CX P w) 3 f fd ["world", "c"] (spCheck C Cn) := by
  have GW : FnOk P w K mg base CX0 1 fW fdW ["thing", "low", "high"] spWhole := ok_whole FW B
  obtain ⟨GN, bN⟩ : FnOk P w K mg base CX0 1 fN fdN ["self", "cls"] (spR Cn ["cls"]) ∧ Binds K fdN ["self", "cls"] [] := ok_noClass FN TN
  have bW := binds_whole3 FW
  refine F.ok sc_check (fun vs H Q E h => ?_) (fun cdv A outer s H vs Q E hr h => ?_)
  · obtain ⟨p, c, t, ds, rfl, _⟩ := h
    rfl
  · obtain ⟨p, c, t, ds, rfl, hw, ty, h⟩ := h
    have hw0 := hw
    obtain ⟨dx, ac, ab, ao, am, ae, ah, cs, bs, ms, es, hs, h1, h2, h3, _⟩ := hw
    refine ⟨_, (pss_cons (ps_if (pt_not (pt_val (pe_call GW (hr.mono (by decide)) (by rfl) mW FW.kp bW .nil pass0 (pa_cons (pv 1) (pa_cons pe_int (pa_cons (pe_op op_sub (pe_callB call_len_seq (by rfl) B.len PySem.boot_len (pa_cons (pe_fld (pv 0) rfl) pa_nil)) pe_int) pa_nil))))))
        (pss_one (ps_raise rfl (takes_of rfl rfl rfl rfl) (pmk_oex TN.oex TN.ini TN.inT GN (hr.mono (by decide)) bN .nil pass0 (by rfl) TN.mg (pa_cons (pv 1) pa_nil)))) pss_nil)
      (pss_one (ps_ret (pv 1)))), ?_⟩
    refine ⟨_, rfl, _, rfl, p, C, dx, _, _, rfl, h1, TC.cl, TC.no _ (List.mem_of_getElem? (i := 0) rfl), rfl, ac, cs, rfl, .inr (SqT.of h2), _, _, rfl, rfl, c, _, _, t, rfl, ty, .inr ⟨_, rfl⟩, .inr ⟨_, rfl⟩, _, rfl, ?_⟩
    rw [h3.len]
    rcases h with ⟨e, k⟩ | ⟨e, k⟩
    · rw [e]
      exact iteF ⟨_, rfl, k H (Same.refl H)⟩
    · rw [e]
      exact iteT ⟨_, rfl, raise_q rfl (by decide) fun d H' s1 _ e => k d H' s1 e⟩
end
end K83

set_option maxRecDepth 100000
set_option maxHeartbeats 4000000
namespace K83
open PySem PySem.Spec PyProof.Rows L2 Kw
section
variable {P : Program} {w : World} {K : PySem.W.Frag} {mg : Str → Option Value} {base : Heap} {f fT fM : Addr} {fd fdT fdM : FuncData}
def spRow : Sp := fun vs H Q _ => ∃ (p q a : Addr) (xs : List V), vs = [.ref p, .ref a] ∧ HandAt H p q ∧ a ≠ p ∧ SeqAt H a xs ∧
  ∀ l H', Oth p H H' → HandAt H' p q → ((H l = none ∧ H' l = some (.lst xs)) ∨ H' l = some (.tup xs)) → Q (.ref l) H'
theorem sc_row : FnScope ["_law_hand_here", "_law_items"] ["_law_hand_here", "_law_items"] (defScope (top 51)) := ⟨rfl, rfl, rfl, by decide +kernel, rfl, by decide +kernel, by decide +kernel⟩
theorem ok_row (F : FnP K "_law_row" 51 f fd) (B : Fr mg) (FT : FnP K "_law_take" 45 fT fdT) (mT : mg "_law_take" = some (.ref fT)) (FM : FnP K "_law_mixed" 44 fM fdM) (mM : mg "_law_mixed" = some (.ref fM)) :
    FnOk P w K mg base CX0 3 f fd ["_law_hand_here", "_law_items"] spRow := by
  have GT : FnOk P w K mg base CX0 2 fT fdT ["_law_hand_here", "_law_many"] spTake := ok_take FT FM mM B.int B.len
  have bT : L2.Binds K fdT ["_law_hand_here", "_law_many"] [] := FT.bindsN fun _ _ _ _ _ _ us hl => match us, hl with | [_, _], _ => rfl
  refine F.ok sc_row (fun vs H Q E h => ?_) (fun cdv A outer s H vs Q E hr h => ?_)
  · obtain ⟨p, q, a, xs, rfl, _⟩ := h
    rfl
  · obtain ⟨p, q, a, xs, rfl, hh, hap, hA, k⟩ := h
    refine ⟨_, PSs.nox (pss_one (ps_ret (pe_ifExp (pt_truth (pe_call GT hr (by rfl) mT FT.kp bT .nil pass0 (pa_cons (pv 0) (pa_cons pe_int pa_nil))) (by intro _; rfl))
      (pe_callTy (T := "list") (r := rListOf K) (call_lst (X := _)) (by rfl) B.list (by decide +kernel) (pa_cons (pv 1) pa_nil))
      (pe_callTy (T := "tuple") (r := rTupOf K) (call_tup (X := _)) (by rfl) B.tuple (by decide +kernel) (pa_cons (pv 1) pa_nil))))), ?_⟩
    refine ⟨_, rfl, p, q, 2, rfl, by decide, by decide, hh, fun r H2 r0 r1 h2 e2 => ?_⟩
    have A2 : SeqAt H2 a xs := by
      rcases hA with hA | hA
      · exact .inl ((e2 a hap).trans hA)
      · exact .inr ((e2 a hap).trans hA)
    have O2 : Oth p H H2 := fun b o nb e => (e2 b nb).trans e
    refine ⟨r != 0, rfl, ?_⟩
    cases hr0 : (r != 0) with
    | true =>
      refine iteT ⟨_, rfl, a, xs, rfl, A2.sq, fun l hl => ?_⟩
      obtain ⟨lp, lq⟩ := h2.ne hl
      refine k l _ (O2.trans (Oth.of (same_new hl))) (h2.upd lp lq) (.inl ⟨?_, upd_same⟩)
      rw [← e2 l lp]
      exact hl
    | false =>
      refine iteF ⟨_, rfl, ?_⟩
      refine tup_q A2 fun l H3 s3 hl => k l _ (O2.trans (Oth.of s3)) (h2.same s3) (.inr hl)
end
end K83

set_option maxRecDepth 100000
set_option maxHeartbeats 4000000
namespace Kw
open PySem PySem.Spec PyProof.Rows L2
section
variable {X : Cx} {CX : CXT} {k : Nat} {fI C : Addr} {fd : FuncData} {ps : List Str} {sp : Sp} {x : Str} {p pos : Pos} {e : Expr} {es : List Expr} {ta : TA}
/-- C(e, ..), an own class whose __init__ may raise, where σ tells what the raising asks -/
theorem made_at {W : XK} {pins : List (Addr × Obj)} {σ : L2.St} {H : Hp} {s : Shared} {Q : VK} {us : List Value} {vs : List V} (M : Mk X.K C fI) (G : FnOk X.prog X.w X.K X.mg X.base CX k fI fd ps sp)
    (room : Room (k + 1) X.A) (bd : Binds X.K fd ps []) (out : PassesAt CX X σ W) (I : Inv X pins σ H s) (rel : Vals vs us)
    (q : ∀ o dx, H o = none → H dx = none → dx ≠ o → sp (.ref o :: vs) (upd (upd H dx (.own o)) o (.ins C dx [])) (fun v H2 => v = .non ∧ Q (.ref o) H2) W) :
    wpAny (model X.prog X.w) X.A (call (.ref C) us) (EP X pins σ Q) X.xe s := by
  generalize en : s.heap.objs.size = n at *
  have J := Inv.made (C := C) I
  rw [en] at J
  have f1 : H (n + 1) = none := I.hok.fresh (by rw [en]; exact Nat.le_succ _)
  have f2 : H n = none := I.hok.fresh (by rw [en]; exact Nat.le_refl _)
  have go := q (n + 1) n f1 f2 (Nat.ne_of_lt (Nat.lt_succ_self _))
  have rel2 : Vals (V.ref (n + 1) :: vs) (Value.ref (n + 1) :: us) := .cons rfl rel
  have len : (Value.ref (n + 1) :: us ++ []).length = ps.length := by
    rw [List.append_nil, ← rel2.length]
    exact G.len _ _ _ _ go
  have b2 := bd _ (Value.ref (n + 1) :: us) J.kIn len
  rw [List.append_nil] at b2
  have ran := G.run _ X.stack _ _ ⟨Value.ref (n + 1) :: us, []⟩ (Value.ref (n + 1) :: us) _ _ W (room.make C us []) (J.env0.make C us []) b2 rel2 go
  refine wpAny_call (make_map (f := fI) I.kIn M.makes M.init (beq_iff_eq.mp M.fn) ?_)
  rw [en]
  refine codeAny_mono ran fun r s' z => ?_
  cases r with
  | error er => exact out pins _ _ er s' J z
  | ok fl =>
    cases fl with
    | ret u =>
      obtain ⟨v, H3, I3, rv, ev, q3⟩ := J.after z
      subst ev
      exact ⟨rv, .ref (n + 1), H3, I3, rfl, q3⟩
    | next => exact False.elim z
    | brk => exact False.elim z
    | cont => exact False.elim z
def tMadeS (C : Addr) (sp : Sp) (W : L2.St → XK) (ta : TA) : TE := fun σ H Q => ta σ H fun vs H1 => ∀ o dx, H1 o = none → H1 dx = none → dx ≠ o → sp (.ref o :: vs) (upd (upd H1 dx (.own o)) o (.ins C dx [])) (fun v H2 => v = .non ∧ Q (.ref o) H2) (W σ)
theorem pe_madeS {W : L2.St → XK} (M : Mk X.K C fI) (G : FnOk X.prog X.w X.K X.mg X.base CX k fI fd ps sp) (room : Room (k + 1) X.A) (hg : Gl X x) (hm : X.mg x = some (.ref C)) (bd : Binds X.K fd ps []) (out : ∀ σ, PassesAt CX X σ (W σ))
    (ha : PA X (e :: es) ta) (hdb : (x == ("__debug__" : Str)) = false := by decide) (he : starEach (e :: es) X.env = (false, eval e X.env) :: starEach es X.env := by rfl) (hpl : (backTo pos (starEach es X.env)).any (·.1) = false := by rfl) :
    PE X (.Call (.Name x p) (e :: es) [] pos) (tMadeS C sp W ta) := by
  refine ⟨fun pins s σ H Q I h => wpAny_Call_Name_kw (ld_glob I hg hm ?_ hdb)⟩
  refine PySem.W.callWith_K (h₀ := X.base) I.ok.mod.kin M.kp (thn (ha.run pos pins s σ H _ I h) fun us s1 ⟨vs, H1, I1, r1, q1⟩ => ?_) he hpl
  exact ⟨I1.kIn, made_at M G room bd (out σ) I1 r1 q1⟩
variable {o : Expr} {to : TE} {m : Str} {apos : Pos}
/-- o.m(e, ..), a method that may raise, where σ tells what the raising asks -/
def tMethU (C : Addr) (m : Str) (sp : Sp) (W : L2.St → XK) (to : TE) (ta : TA) : TE := fun σ H Q => to σ H fun x H1 => ∃ a dx fs, x = .ref a ∧ H1 a = some (.ins C dx fs) ∧ fs.lookup m = none ∧ ta σ H1 fun vs H2 => sp (.ref a :: vs) H2 Q (W σ)
theorem pe_methU {W : L2.St → XK} {pl : Sem Bool} (ho : PE X o to) (cl : Cls X.K C) (mt : Meth X.K C m fI) (G : FnOk X.prog X.w X.K X.mg X.base CX k fI fd ps sp) (room : Room k X.A) (bd : Binds X.K fd ps []) (out : ∀ σ, PassesAt CX X σ (W σ)) (args : PA X (e :: es) ta)
    (h1 : starEach (e :: es) X.env = (false, eval e X.env) :: starEach es X.env := by rfl) (h2 : (backTo pos (starEach es X.env)).any (·.1) = false := by rfl)
    (way : eval (.Call (.Attribute o m apos) (e :: es) [] pos) X.env = (do let ov ← eval o X.env; standAt apos.atName; let (f, first) ← holding [ov] (getMethod ov m pl); callWith pos f first (backTo pos (starEach (e :: es) X.env)) (backToKw pos (keywordEach [] X.env))) := by rfl) :
    PE X (.Call (.Attribute o m apos) (e :: es) [] pos) (tMethU C m sp W to ta) := by
  refine ⟨fun pins s σ H Q I h => PySem.W.methodCall_KW (pl := pl) (thn (ho.run pins s σ H _ I h) fun u s1 z => ?_) way⟩
  obtain ⟨x, H1, I1, rx, a, dx, fs, rfl, ea, l, q⟩ := z
  obtain rfl : u = Value.ref a := rx
  refine getmeth_ok I1 ea cl mt l (PySem.W.callWith_K (first := [.ref a]) (h₀ := X.base) I.ok.mod.kin mt.kp (thn (args.run pos pins s1 σ H1 _ I1 q) fun us s2 z => ?_) h1 h2)
  obtain ⟨vs, H2, I2, r, q2⟩ := z
  exact ⟨I2.kIn, run_fnS (us := .ref a :: us) (vs := .ref a :: vs) G room bd (out σ) I2 (.cons rfl r) q2⟩
end
end Kw

set_option maxRecDepth 100000
set_option maxHeartbeats 4000000
namespace Kw
open PySem PySem.Spec PyProof.Rows L2
/-- len(set(xs)), xs a list of tuples of ints: as many as unlike ones -/
def tLenSetT (K : PySem.W.Frag) (ta : TE) : TE := fun σ H Q => ta σ H fun x H1 => ∃ (l : Addr) (ks : List (Addr × List Int)), x = V.ref l ∧ SqL K H1 l (ks.map fun p => V.ref p.1) ∧ (∀ p ∈ ks, SqT K H1 p.1 (p.2.map V.int)) ∧ ks.length < 64 ∧
  ∀ n : Nat, (n = ks.length ↔ (ks.map (·.2)).Nodup) → Q (.int n) H1
theorem nodup_sub_len {α : Type} [DecidableEq α] : ∀ {ks ns : List α}, ks.Nodup → (∀ k ∈ ks, k ∈ ns) → ks.length ≤ ns.length
  | [], _, _, _ => Nat.zero_le _
  | k :: r, ns, hn, hs => by
    have hk : k ∈ ns := hs k List.mem_cons_self
    obtain ⟨h1, h2⟩ := List.nodup_cons.mp hn
    have ih := nodup_sub_len (ks := r) (ns := ns.erase k) h2 fun y hy => by
      have ne : y ≠ k := fun e => h1 (by rw [← e]; exact hy)
      exact (List.mem_erase_of_ne ne).mpr (hs y (List.mem_cons_of_mem _ hy))
    rw [List.length_erase_of_mem hk] at ih
    have := List.length_pos_of_mem hk
    show r.length + 1 ≤ ns.length
    omega
theorem nodup_of_sub_len {α : Type} [DecidableEq α] : ∀ {ns ks : List α}, ks.Nodup → (∀ k ∈ ks, k ∈ ns) → ns.length ≤ ks.length → ns.Nodup
  | [], _, _, _, _ => List.nodup_nil
  | n :: r, ks, hn, hs, hl => by
    by_cases hr : n ∈ r
    · have z := nodup_sub_len (ks := ks) (ns := r) hn fun k hk => by
        rcases List.mem_cons.mp (hs k hk) with e | e
        · rw [e]; exact hr
        · exact e
      have : r.length + 1 ≤ ks.length := hl
      omega
    · refine List.nodup_cons.mpr ⟨hr, nodup_of_sub_len (ks := ks.erase n) (hn.erase n) (fun k hk => ?_) ?_⟩
      · have h1 := (hn.mem_erase_iff).mp hk
        rcases List.mem_cons.mp (hs k h1.2) with e | e
        · exact absurd e h1.1
        · exact e
      · have h2 : r.length + 1 ≤ ks.length := hl
        by_cases hm : n ∈ ks
        · rw [List.length_erase_of_mem hm]
          omega
        · rw [List.erase_of_not_mem hm]
          omega
theorem pe_lenSetT {X : Cx} {a : Expr} {ta : TE} {p p2 q pos : Pos} (hu : X.A.units + 64 < cLine) (hg : Gl X "len") (hm : X.mg "len" = none) (hg2 : Gl X "set") (hm2 : X.mg "set" = none) (ha : PE X a ta) (hc : X.calm = true := by rfl)
    (na : starEach [a] X.env = (false, eval a X.env) :: starEach [] X.env := by rfl) : PE X (.Call (.Name "len" p) [.Call (.Name "set" p2) [a] [] q] [] pos) (tLenSetT X.K ta) := by
  refine ⟨fun pins s σ H Q I h => Call_ (ld_blt I hg hm PySem.boot_len ?_)⟩
  refine callWith_builtin1 (args_cons (Call_ (ld_blt I hg2 hm2 PyProof.Rows.boot_set ?_)) rfl) rfl rfl
  refine callWith_type1 (args_cons (thn (ha.run pins s σ H _ I h) fun v s1 ⟨x, H1, I1, r1, q1⟩ => args_nil ?_) na) na rfl
  obtain ⟨l, ks, ex, hq, hk, hf, q2⟩ := q1
  subst ex
  obtain rfl : v = Value.ref l := r1
  obtain ⟨its, rv, pl, hz⟩ := I1.list hq
  refine call_set_tups (P := X.prog) (w := X.w) ks (I1.ok.hd hc) pl.isList (by simpa using refs_of_vals rv) (fun p hp => I1.isT (hk p hp)) hf (by omega) fun h' tk L es ep t R g k => args_nil ?_
  obtain ⟨o, ho, hex, hd⟩ := R.ob
  have sz := SetTR.size (s := { s1 with heap := h', toks := tk }) R
  have I2 : Inv X pins σ H1 { s1 with heap := h', toks := tk } := I1.kept fun b o e => k b o e
  have key : L.length = ks.length ↔ (ks.map (·.2)).Nodup := by
    have sub : ∀ x ∈ L.map (·.2), x ∈ ks.map (·.2) := fun x hx => by
      obtain ⟨p, hp, rfl⟩ := List.mem_map.mp hx
      exact List.mem_map_of_mem (List.mem_of_mem_take (g.sub p hp))
    have all : ∀ x ∈ ks.map (·.2), x ∈ L.map (·.2) := fun x hx => by
      obtain ⟨p, hp, rfl⟩ := List.mem_map.mp hx
      exact g.all p (by rw [List.take_length]; exact hp)
    have l1 := nodup_sub_len R.nd sub
    rw [List.length_map, List.length_map] at l1
    constructor
    · intro e
      refine nodup_of_sub_len R.nd sub ?_
      rw [List.length_map, List.length_map, e]
      exact Nat.le_refl _
    · intro hn
      have l2 := nodup_sub_len hn all
      rw [List.length_map, List.length_map] at l2
      omega
  exact call_len_set ho hex hd (SetTR.fits (s := { s1 with heap := h', toks := tk }) R) (by have := R.few; rw [sz]; omega) ⟨.int es.size, H1, I2.tok _, ⟨_, rfl⟩, q2 es.size (by rw [sz]; exact key)⟩
end Kw

set_option maxRecDepth 100000
set_option maxHeartbeats 8000000
namespace K83
open PySem PySem.Spec PyProof.Rows L2 Kw
/-! the general parts of e2, s4, s6, s8, s9, s10, t1, t3, v4, t5, u1, u2, u5, u7, v8, u11: for laws that have no hues (made by a script out of those) -/
def onLine (els : List (List Nat)) (x y : Nat) : Bool := decide (x = y) || ((els.getD y []).contains x || (els.getD x []).contains y)
def elsOf (ds : List Ent) : List (List Nat) := elders (ds.map (·.1))
theorem elsOf_len (ds : List Ent) : (elsOf ds).length = ds.length := by
  unfold elsOf
  rw [elders_len, List.length_map]
theorem WorldAt.elder {H : Hp} {p C : Addr} {ds : List Ent} (h : WorldAt H p C ds) {x : Nat} (hx : x < ds.length) : ∃ (dx : Addr) (fs : List (Str × V)) (ae : Addr) (es : List V) (t : Addr), H p = some (.ins C dx fs) ∧ List.lookup ("elders" : Str) fs = some (V.ref ae) ∧ H ae = some (.tup es) ∧ es[x]? = some (.ref t) ∧ H t = some (.tup (((elsOf ds).getD x []).map natV)) := by
  obtain ⟨dx, ac, ab, ao, am, ae, ah, cs, bs, ms, es, hs, h1, h2, h3, h4, h5, h6, h7, h8, h9, h10, h11, h12⟩ := h
  obtain ⟨l, hl⟩ : ∃ l, (elsOf ds)[x]? = some l := ⟨_, List.getElem?_eq_getElem (by rw [elsOf_len]; exact hx)⟩
  obtain ⟨t, e1, e2⟩ := h10.get hl
  refine ⟨dx, _, ae, es, t, h1, rfl, h9, e1, ?_⟩
  rw [List.getD_eq_getElem?_getD, hl]
  exact e2
theorem whole_nat {n : Nat} {c : V} (h : wholeB (.int 0) (.int ((n : Int) - 1)) c = true) : ∃ x : Nat, c = natV x ∧ x < n := by
  cases c with
  | int i =>
    unfold wholeB inLo inHi at h
    simp only [Bool.and_eq_true, decide_eq_true_eq] at h
    exact ⟨i.toNat, by (show V.int i = V.int _); congr 1; omega, by omega⟩
  | _ => cases h
theorem iteT' {c : Bool} {A B : Prop} (h : c = true) (a : A) : if c = true then A else B := by
  rw [if_pos h]
  exact a
theorem iteF' {c : Bool} {A B : Prop} (h : c = false) (b : B) : if c = true then A else B := by
  rw [if_neg (by rw [h]; decide)]
  exact b
theorem whole_of {n x : Nat} (h : x < n) : wholeB (.int 0) (.int ((n : Int) - 1)) (natV x) = true := by
  show wholeB (.int 0) (.int ((n : Int) - 1)) (.int (x : Int)) = true
  unfold wholeB inLo inHi
  simp only [Bool.and_eq_true, decide_eq_true_eq]
  omega
/-- a class of one's own, by the fields it keeps -/
structure ClsF (K : PySem.W.Frag) (C : Addr) (fs : List Str) : Prop where
  cl : Cls K C
  no : ∀ f ∈ fs, NoAttr K C f
theorem cut_tail (xs : List V) (i : Nat) (h : i < xs.length) : ¬ (HT.sIx xs.length 0 (some ((i : Int) + 1)) = 0 ∧ HT.sIx xs.length xs.length none = xs.length) ∧ cutV xs (some ((i : Int) + 1)) none = xs.drop (i + 1) := by
  have e : ((i : Int) + 1) = ((i + 1 : Nat) : Int) := by omega
  rw [e]
  constructor
  · rw [HT.sIx_nat]
    omega
  · unfold cutV
    rw [HT.sIx_nat, HT.sIx_none, Nat.min_eq_left (by omega), List.take_of_length_le (by rw [List.length_drop]; exact Nat.le_refl _)]
theorem kins_els {ds : List Ent} {x : Nat} (h : x < ds.length) : (kins (elsOf ds)).getD x [] = (elsOf ds).getD x [] ++ [x] := kins_getD (by rw [elsOf_len]; exact h)
theorem line_kin {ds : List Ent} {a b : Nat} (hab : a < b) (hb : b < ds.length) : onLine (elsOf ds) a b = ((kins (elsOf ds)).getD b []).contains a := by
  rw [kins_els hb]
  unfold onLine
  have e1 : decide (a = b) = false := decide_eq_false (by omega)
  have e2 : ((elsOf ds).getD a []).contains b = false := by
    cases e : ((elsOf ds).getD a []).contains b with
    | false => rfl
    | true =>
      have := elders_below (List.contains_iff_mem.mp e)
      omega
  rw [e1, e2, Bool.false_or, Bool.or_false, Bool.eq_iff_iff, List.contains_iff_mem, List.contains_iff_mem, List.mem_append, List.mem_singleton]
  exact ⟨.inl, fun h => h.resolve_right (by omega)⟩
def LayD (n : Nat) (d : PyData) : Prop := d.canLay0 = true ∧ d.depth ≤ n
theorem lay_all {n : Nat} : ∀ {ds : List PyData}, (∀ d ∈ ds, LayD n d) → PyData.canLayAll0 ds = true ∧ PyData.depthAll ds ≤ n
  | [], _ => ⟨by simp [PyData.canLayAll0], by simp [PyData.depthAll]⟩
  | d :: r, h => by
    obtain ⟨h1, h2⟩ := h d List.mem_cons_self
    obtain ⟨h3, h4⟩ := lay_all (ds := r) fun x hx => h x (List.mem_cons_of_mem _ hx)
    refine ⟨by simp [PyData.canLayAll0, h1, h3], ?_⟩
    simp only [PyData.depthAll]
    omega
theorem LayD.tup {n : Nat} {ds : List PyData} (h : ∀ d ∈ ds, LayD n d) : LayD (n + 1) (.tuple ds) := by
  obtain ⟨h1, h2⟩ := lay_all h
  refine ⟨by simp [PyData.canLay0, h1], ?_⟩
  simp only [PyData.depth]
  omega
theorem LayD.int {n : Nat} (i : Int) : LayD n (.int i) := ⟨by simp [PyData.canLay0], by simp [PyData.depth]⟩
theorem LayD.shaped {n : Nat} {d : PyData} (h : LayD n d) (hn : n ≤ 64) : SeqAt.shaped d = true := by
  show (d.canLay0 && decide (d.depth ≤ 64)) = true
  rw [Bool.and_eq_true]
  exact ⟨h.1, decide_eq_true (Nat.le_trans h.2 hn)⟩
theorem LayD.refl {n : Nat} {d : PyData} (h : LayD n d) : PyData.eqv d d = true := SeqAt.eqv_refl d h.1
def dN (n : Nat) : PyData := .int (n : Int)
def dNs (l : List Nat) : PyData := .tuple (l.map dN)
def dNss (ls : List (List Nat)) : PyData := .tuple (ls.map dNs)
def dEnt (d : Ent) : PyData := .tuple [dNs d.1, dN d.2.1, dNs (sortN d.2.2)]
def dEnts (ds : List Ent) : PyData := .tuple (ds.map dEnt)
theorem lay_ns (l : List Nat) : LayD 1 (dNs l) := LayD.tup fun d hd => by
  obtain ⟨n, _, rfl⟩ := List.mem_map.mp hd
  exact .int _
theorem LayD.le {n m : Nat} {d : PyData} (h : LayD n d) (k : n ≤ m) : LayD m d := ⟨h.1, Nat.le_trans h.2 k⟩
theorem lay_nss (ls : List (List Nat)) : LayD 2 (dNss ls) := LayD.tup fun d hd => by
  obtain ⟨n, _, rfl⟩ := List.mem_map.mp hd
  exact lay_ns n
theorem lay_ent (e : Ent) : LayD 2 (dEnt e) := LayD.tup fun d hd => by
  rcases List.mem_cons.mp hd with rfl | hd
  · exact lay_ns _
  · rcases List.mem_cons.mp hd with rfl | hd
    · exact .int _
    · rw [List.mem_singleton.mp hd]
      exact lay_ns _
theorem lay_ents (es : List Ent) : LayD 3 (dEnts es) := LayD.tup fun d hd => by
  obtain ⟨n, _, rfl⟩ := List.mem_map.mp hd
  exact lay_ent n
theorem dp_nats {K : PySem.W.Frag} {H : Hp} : ∀ (l : List Nat), DpAll K H (l.map natV) (l.map dN)
  | [] => .nil
  | n :: r => .cons (.int _) (dp_nats r)
theorem dp_ns {K : PySem.W.Frag} {H : Hp} {t : Addr} {l : List Nat} (h : H t = some (.tup (l.map natV))) : Dp K H (.ref t) (dNs l) := .tup (SqT.of h) (dp_nats l)
theorem dp_tups {K : PySem.W.Frag} {H : Hp} : ∀ {vs : List V} {ls : List (List Nat)}, TupsAt H vs ls → DpAll K H vs (ls.map dNs)
  | [], [], _ => .nil
  | _ :: _, _ :: _, .cons ⟨t, e, h⟩ r => by
    rw [e]
    exact .cons (dp_ns h) (dp_tups r)
theorem dp_ents {K : PySem.W.Frag} {H : Hp} : ∀ {vs : List V} {ds : List Ent}, EntsAt H vs ds → DpAll K H vs (ds.map dEnt)
  | [], [], _ => .nil
  | _ :: _, _ :: _, .cons ⟨t, e, tb, tm, h1, h2, h3⟩ r => by
    rw [e]
    exact .cons (.tup (SqT.of h1) (.cons (dp_ns h2) (.cons (.int _) (.cons (dp_ns h3) .nil)))) (dp_ents r)
/-- what isinstance asks of a class of one's own -/
structure IsiC (K : PySem.W.Frag) (C : Addr) : Prop where
  cla : PySem.W.findIn K (.ref C) "__class__" = some (some (.builtin "object.__class__"))
  get : PySem.W.specialIn K (.builtin "object.__class__") "__get__" = some (some (.builtin "getset_descriptor.__get__"))
  takes : PySem.W.takesIn K (.builtin "object.__class__") = some true
  obj : PySem.W.mroIn K C (.type "object") = some true
theorem kit_self {K : PySem.W.Frag} {C : Addr} : PySem.W.kitOne K (.ref C) (.ref C) = some true := by
  unfold PySem.W.kitOne
  rw [if_pos (beq_iff_eq.mpr rfl)]
/-- t + u of tuples, kept as it is said -/
structure rCatQ (K : PySem.W.Frag) (x y : V) (H : Hp) (Q : VK) : Prop where
  h : rCatA K x y H Q
theorem op_catQ {X : Cx} : OpR X (binaryOp .Add) (rCatQ X.K) := fun pins s σ H x y v u Q I rx ry h => op_catA pins s σ H x y v u Q I rx ry h.h
/-- t + u of tuples, whatever of them is empty -/
theorem cat_q {K : PySem.W.Frag} {H0 H : Hp} {a b : Addr} {xs ys : List V} {Q : VK} (ha : H0 a = some (.tup xs)) (hb : H b = some (.tup ys)) (hl : xs.length + ys.length ≤ sizeLine) (s : Same H0 H) (q : ∀ t H', Same H0 H' → H' t = some (.tup (xs ++ ys)) → Q (.ref t) H') : rCatQ K (.ref a) (.ref b) H Q := by
  refine ⟨a, b, xs, ys, rfl, rfl, SqT.of (s _ _ ha), SqT.of hb, hl, fun e => ?_, fun _ e => ?_, fun _ _ p hp => q p _ (s.trans (same_new hp)) upd_same⟩
  · exact q b H s (by rw [hb, e]; rfl)
  · exact q a H s (by rw [s _ _ ha, e, List.append_nil])
section
variable {P : Program} {w : World} {K : PySem.W.Frag} {mg : Str → Option Value} {base : Heap} {f fS fW fN fC fL fI fU fH fA fK C Cn Cc Cl Cnl : Addr} {fd fdS fdW fdN fdC fdL fdI fdU fdH fdA fdK : FuncData}
/-! ### World.__eq__ -/
def REq (C : Addr) : Addr → Addr → Hp → Prop := fun a b H => ∃ ds, WorldAt H a C ds ∧ WorldAt H b C ds
theorem sc_worldEq : FnScope ["self", "other"] ["self", "other"] (defScope (inClass (top 33) 8)) := ⟨rfl, rfl, rfl, by decide +kernel, rfl, by decide +kernel, by decide +kernel⟩
theorem ok_worldEq (F : FnM K "__eq__" "World.__eq__" (inClass (top 33) 8) f fd) (B : Fr mg) (TC : ClsWorld K mg C) (TI : IsiC K C) (mC : mg "World" = some (.ref C)) : FnOk P w K mg base CX0 1 f fd ["self", "other"] (spEq (REq C)) ∧ Binds K fd ["self", "other"] [] := by
  refine ⟨F.ok sc_worldEq (fun vs H Q E h => ?_) (fun cdv A outer s H vs Q E hr h => ?_), F.bindsN fun _ _ _ _ _ _ us hl => match us, hl with | [_, _], _ => rfl⟩
  · obtain ⟨a, b, rfl, _⟩ := h
    rfl
  · obtain ⟨a, b, rfl, ⟨ds, ha, hb⟩, k⟩ := h
    obtain ⟨dx, ac, _, _, _, _, _, cs, _, _, _, _, h1, h2, h3, _⟩ := ha
    obtain ⟨dy, bc, _, _, _, _, _, cs', _, _, _, _, g1, g2, g3, _⟩ := hb
    refine ⟨_, PSs.nox (pss_one (ps_ret (pe_and (pe_callB call_isi (by rfl) B.isinstance PyProof.Rows.boot_isinstance (pa_cons (pv 1) (pa_cons (pe_glob (v := .ref C) (by rfl) mC rfl) pa_nil)))
      (pe_one (pe_cmpR (op_eqD hr.units) (pe_fld (pv 0) rfl) (pe_fld (pv 1) rfl) (nomark _)))))), ?_⟩
    refine ⟨_, rfl, .ref b, .ref C, .ref C, .ref C, true, rfl, .own C, .base (.ins g1 TC.cl TI.cla TI.get TI.takes TI.obj), kit_self, _, rfl, iteT' rfl ?_⟩
    refine ⟨_, rfl, a, C, dx, _, _, rfl, h1, TC.cl, TC.no _ (List.mem_of_getElem? (i := 0) rfl), rfl, _, rfl, b, C, dy, _, _, rfl, g1, TC.cl, TC.no _ (List.mem_of_getElem? (i := 0) rfl), rfl, dEnts ds, dEnts ds, .tup (SqT.of h2) (dp_ents h3), .tup (SqT.of g2) (dp_ents g3), (lay_ents ds).shaped (by decide), (lay_ents ds).shaped (by decide), ?_⟩
    rw [(lay_ents ds).refl]
    exact k H Ext.rfl'
/-! ### hue_fault -/
theorem worldEld {H : Hp} {p C : Addr} {ds : List Ent} (h : WorldAt H p C ds) {x : Nat} (hx : x < ds.length) : ∃ (dx : Addr) (fs : List (Str × V)) (ae : Addr) (es : List V) (t : Addr), H p = some (.ins C dx fs) ∧ List.lookup ("elders" : Str) fs = some (V.ref ae) ∧ H ae = some (.tup es) ∧ es[x]? = some (.ref t) ∧ H t = some (.tup (((elsOf ds).getD x []).map natV)) := h.elder hx
end
theorem ListsAt.sameAll {H H' : Hp} (s : Same H H') : ∀ {vs : List V} {ls : List (List Nat)}, ListsAt H vs ls → ListsAt H' vs ls
  | [], [], _ => .nil
  | _ :: _, _ :: _, .cons ⟨t, e, h⟩ r => .cons ⟨t, e, s _ _ h⟩ (ListsAt.sameAll s r)
def rLenS (K : PySem.W.Frag) : List V → Hp → VK → Prop := fun xs H Q => ∃ p ys, xs = [.ref p] ∧ (SqL K H p ys ∨ SqT K H p ys) ∧ Q (.int ys.length) H
theorem call_lenS {X : Cx} : CallR X (.builtin "len") (rLenS X.K) := call_len_seq
theorem Ty0.isTup {K : PySem.W.Frag} {H : Hp} {x : V} {t : String} (h : Ty0 H x t) : PySem.W.kitOne K (.type t) (.type "tuple") = some (t == "tuple") := by
  cases h <;> exact kit_ty (by decide +kernel)
theorem Ty0.isStr {K : PySem.W.Frag} {H : Hp} {x : V} {t : String} (h : Ty0 H x t) : PySem.W.kitOne K (.type t) (.type "str") = some (t == "str") := by
  cases h <;> exact kit_ty (by decide +kernel)
/-- a plain thing: None, a bool, a number, a text -/
def Flat : V → Prop
  | .non => True
  | .bl _ => True
  | .int _ => True
  | .str _ => True
  | _ => False
/-- the thing is just what is due: plain, or tuples of such, n deep -/
def TupR (H : Hp) (a : Addr) (xs : List V) : Prop := Rd H a (.tup xs)
theorem TupR.of {H : Hp} {a : Addr} {xs : List V} (h : H a = some (.tup xs)) : TupR H a xs := .inl h
theorem TupR.same {H H' : Hp} {a : Addr} {xs : List V} (h : TupR H a xs) (s : Same H H') : TupR H' a xs := by
  rcases h with h | ⟨o, h⟩
  · exact .inl (s _ _ h)
  · exact .inr ⟨o, s _ _ h⟩
theorem TupR.sq {K : PySem.W.Frag} {H : Hp} {a : Addr} {xs : List V} (h : TupR H a xs) : SqT K H a xs := .inl h
theorem TupR.ty {K : PySem.W.Frag} {H : Hp} {a : Addr} {xs : List V} (h : TupR H a xs) : TyX K H (.ref a) (.type "tuple") := by
  rcases h with h | ⟨o, h⟩
  · exact .base (.tup h)
  · exact .fTuple h
theorem kit_tup {K : PySem.W.Frag} : PySem.W.kitOne K (.type "tuple") (.type "tuple") = some true := kit_ty (by decide +kernel)
def Exact (H : Hp) : Nat → V → V → Prop
  | 0, x, d => x = d ∧ Flat d
  | n + 1, x, d => (x = d ∧ Flat d) ∨ ∃ a b xs ys, x = .ref a ∧ d = .ref b ∧ TupR H a xs ∧ TupR H b ys ∧ xs.length = ys.length ∧ ys.length ≤ 1000 ∧ ∀ (i : Nat) (u v : V), xs[i]? = some u → ys[i]? = some v → Exact H n u v
theorem Exact.same {H H' : Hp} (s : Same H H') : ∀ {n : Nat} {x d : V}, Exact H n x d → Exact H' n x d
  | 0, _, _, h => h
  | n + 1, _, _, .inl h => .inl h
  | n + 1, _, _, .inr ⟨a, b, xs, ys, e1, e2, h1, h2, h3, h5, h4⟩ => .inr ⟨a, b, xs, ys, e1, e2, h1.same s, h2.same s, h3, h5, fun i u v hu hv => (h4 i u v hu hv).same s⟩
def spExact (n : Nat) : Sp := fun vs H Q _ => ∃ x d, vs = [x, d] ∧ Exact H n x d ∧ ∀ H', Same H H' → Q (.bl true) H'
section
variable {P : Program} {w : World} {K : PySem.W.Frag} {mg : Str → Option Value} {base : Heap} {f fI : Addr} {fd fdI : FuncData}
def spInt : Sp := fun vs H Q _ => ∃ i, vs = [.int i] ∧ Q (.bl true) H
end
theorem flat_hV (o : Option Nat) : Flat (hV o) := by cases o <;> exact True.intro
theorem Exact.flat {H : Hp} {x : V} (n : Nat) (h : Flat x) : Exact H n x x := by
  cases n with
  | zero => exact ⟨rfl, h⟩
  | succ n => exact .inl ⟨rfl, h⟩
theorem Exact.tup {H : Hp} {a b : Addr} {xs : List V} (n : Nat) (ha : H a = some (.tup xs)) (hb : H b = some (.tup xs)) (hf : ∀ x ∈ xs, Flat x) (hz : xs.length ≤ 1000) : Exact H (n + 1) (.ref a) (.ref b) :=
  .inr ⟨a, b, xs, xs, rfl, rfl, .inl ha, .inl hb, rfl, hz, fun i u v hu hv => by
    rw [hu] at hv
    rw [← Option.some.inj hv]
    exact Exact.flat n (hf u (List.mem_of_getElem? hu))⟩
theorem passOut {X : Cx} {E : XK} : Passes (L2.CX X.prog X.w) X (fun _ _ _ => False) := fun _ _ _ _ _ _ _ h => by
  obtain ⟨_, _, _, _, _, _, _, _, _, _, _, _, h⟩ := h
  exact h.elim
theorem kin_props {ds : List Ent} (ok : DsOk ds) {x : Nat} (h : x < ds.length) : ((kins (elsOf ds)).getD x []).Pairwise (· < ·) ∧ (∀ k ∈ (kins (elsOf ds)).getD x [], k ≤ x) := by
  have z := kin_up (ds.map (·.1)) x (by rw [List.length_map]; exact h)
  rw [← kins_getD (by rw [elders_len, List.length_map]; exact h)] at z
  exact z
theorem kin_len {ds : List Ent} (ok : DsOk ds) {x : Nat} (h : x < ds.length) (h12 : ds.length ≤ 12) : ((kins (elsOf ds)).getD x []).length ≤ 12 := by
  obtain ⟨u, l⟩ := kin_props ok h
  have h1 := nodup_sub_len' (ns := List.range 12) (up_nodup u) fun k hk => List.mem_range.mpr (by have := l k hk; omega)
  rw [List.length_range] at h1
  exact h1
theorem sortN_nat {l : List Nat} (up : l.Pairwise (· < ·)) (h6 : ∀ m ∈ l, m < 6) : (sortN l).map natV = l.map natV := by
  have e : ((sortN l).map fun (n : Nat) => (n : Int)).map V.int = (sortN l).map natV := by
    rw [List.map_map]
    rfl
  rw [← e]
  refine asc_one ?_ up fun k => ?_
  · have u : (sortN l).Pairwise (· < ·) := List.Pairwise.filter _ List.pairwise_lt_range
    exact List.pairwise_map.mpr (u.imp fun z => by omega)
  · rw [List.mem_map]
    constructor
    · rintro ⟨n, hn, rfl⟩
      unfold sortN at hn
      rw [List.mem_filter] at hn
      exact ⟨n, by simpa using hn.2, rfl⟩
    · rintro ⟨n, hn, rfl⟩
      refine ⟨n, ?_, rfl⟩
      unfold sortN
      rw [List.mem_filter, List.mem_range]
      exact ⟨h6 n hn, by simpa using hn⟩
section
variable {P : Program} {w : World} {K : PySem.W.Frag} {mg : Str → Option Value} {base : Heap} {f fS fW fN fC fL fI fU fH fA fWW fWI C Cn Cc Cl Cnl Ck Cb : Addr} {fd fdS fdW fdN fdC fdL fdI fdU fdH fdA fdWW fdWI : FuncData}
def spWithC (C : Addr) : Sp := fun vs H Q _ => ∃ (p ab am : Addr) (ds : List Ent) (d : Ent), vs = [.ref p, .ref ab, natV d.2.1, .ref am] ∧ WorldAt H p C ds ∧ DsOk ds ∧ ds.length + 1 ≤ 12 ∧ SeqAt H ab (d.1.map natV) ∧ SeqAt H am (d.2.2.map natV) ∧ EOk ds.length d ∧
  ∀ p' H', Same H H' → H p' = none → WorldAt H' p' C (ds ++ [d]) → Q (.ref p') H'
theorem sc_withC : FnScope ["self", "bases", "fields", "methods"] ["self", "bases", "fields", "methods"] (defScope (inClass (top 33) 2)) := ⟨rfl, rfl, rfl, by decide +kernel, rfl, by decide +kernel, by decide +kernel⟩
theorem ok_withC (F : FnM K "with_class" "World.with_class" (inClass (top 33) 2) f fd) (TC : ClsWorld K mg C) (FWW : FnM K "__init__" "World.__init__" (inClass (top 33) 0) fWW fdWW) (MW : Mk K C fWW) (mW : mg "World" = some (.ref C)) (GW : FnOk P w K mg base (L2.CX P w) 4 fWW fdWW ["self", "classes"] (spWorld C Cb)) :
    FnOk P w K mg base CX0 6 f fd ["self", "bases", "fields", "methods"] (spWithC C) ∧ Binds K fd ["self", "bases", "fields", "methods"] [] := by
  have bW : L2.Binds K fdWW ["self", "classes"] [] := FWW.bindsN fun _ _ _ _ _ _ us hl => match us, hl with | [_, _], _ => rfl
  refine ⟨F.ok sc_withC (fun vs H Q E h => ?_) (fun cdv A outer s H vs Q E hr h => ?_), F.bindsN fun _ _ _ _ _ _ us hl => match us, hl with | [_, _, _, _], _ => rfl⟩
  · obtain ⟨p, ab, am, ds, d, rfl, _⟩ := h
    rfl
  · obtain ⟨p, ab, am, ds, d, rfl, hw, ok, h12, hb, hm, eok, k⟩ := h
    refine ⟨_, PSs.nox (pss_one (ps_ret (pe_make MW GW hr (by rfl) mW bW .nil (passOut (E := fun _ _ _ => False)) (pa_cons (pe_op (r := rCatQ K) op_catQ (pe_fld (pv 0) rfl) (pe_tup (pa_cons (pe_tup (pa_cons (pv 1) (pa_cons (pv 2) (pa_cons (pv 3) pa_nil)))) pa_nil))) pa_nil)))), ?_⟩
    obtain ⟨dx, ac, _, _, _, _, _, cs, _, _, _, _, h1, h2, h3, _⟩ := hw
    refine ⟨_, rfl, p, C, dx, _, _, rfl, h1, TC.cl, TC.no _ (List.mem_of_getElem? (i := 0) rfl), rfl, _, rfl, _, rfl, _, rfl, (by show 3 ≤ sizeLine; decide), fun T hT => ⟨(by show 1 ≤ sizeLine; decide), fun U hU => ?_⟩⟩
    have sT := same_new (o := .tup [.ref ab, natV d.2.1, .ref am]) hT
    have sU := same_new (o := .tup [.ref T]) hU
    have size13 : 13 ≤ sizeLine := by decide
    have lcs : cs.length = ds.length := h3.len
    refine cat_q (ys := [.ref T]) (sT _ _ h2) upd_same (by rw [lcs]; show _ + 1 ≤ sizeLine; omega) sU fun t H3 s3' ht x dx' hx hdx ne => ?_
    have s3 := sT.trans s3'
    have sX := (same_new (o := .own x) hdx).trans (same_new (o := .ins C dx' []) (by rw [upd_ne (Ne.symm ne)]; exact hx))
    have X1 : upd (upd H3 dx' (.own x)) x (.ins C dx' []) x = some (.ins C dx' []) := upd_same
    have sHX := s3.trans sX
    have htX := sX _ _ ht
    have hT3 : H3 T = some (.tup [.ref ab, natV d.2.1, .ref am]) := s3' _ _ upd_same
    generalize upd (upd H3 dx' (.own x)) x (.ins C dx' []) = G at sX X1 sHX htX ⊢
    have hTG := sX _ _ hT3
    refine ⟨x, dx', .ref t, rfl, X1, .inr ⟨t, _, ds ++ [d], rfl, .inr htX, by rw [List.length_append, lcs]; show _ + 1 ≠ 0; omega, by rw [List.length_append, lcs]; exact h12, by rw [List.length_append, List.length_append, lcs]; exact Nat.le_refl _, fun i e he => ?_, .inr ⟨by rw [List.length_append, List.length_append, lcs]; rfl, fun H4 O4 hW => ⟨rfl, ?_⟩⟩⟩⟩
    · by_cases q : i < ds.length
      · rw [List.getElem?_append_left q] at he
        obtain ⟨te, e1, tb, tm, e2, e3, e4⟩ := h3.get he
        obtain ⟨o1, o2, o3, o4, o5, o6, o7⟩ := ok i e he
        refine ⟨.ref te, by rw [List.getElem?_append_left (by omega)]; exact e1, te, tb, tm, rfl, .inr (sHX _ _ e2), .inr (sHX _ _ e3), .inr ?_, ⟨o1, by omega, o2⟩, o4, up_nodup o5, o7, o6⟩
        rw [← sortN_nat o5 o6]
        exact sHX _ _ e4
      · rw [List.getElem?_append_right (by omega)] at he
        by_cases q2 : i - ds.length = 0
        · rw [q2] at he
          obtain rfl : d = e := Option.some.inj he
          have ei : i = ds.length := by omega
          subst ei
          obtain ⟨o1, o2, o3, o4, o5, o6, o7⟩ := eok
          refine ⟨.ref T, by rw [List.getElem?_append_right (by omega), lcs, Nat.sub_self]; rfl, T, ab, am, rfl, .inr hTG, hb.same sHX, hm.same sHX, ⟨o1, by omega, o2⟩, o4, up_nodup o5, o7, o6⟩
        · rw [List.getElem?_eq_none (by rw [List.length_singleton]; omega)] at he
          cases he
    · have hx0 : H x = none := by
        cases e : H x with
        | none => rfl
        | some o =>
          rw [s3 _ _ e] at hx
          cases hx
      exact k x H4 (fun b u e => O4 b u (ne_of_none e hx0) (sHX _ _ e)) hx0 hW
end
theorem els_app {ds : List Ent} {d : Ent} {c : Nat} (h : c < ds.length) : (elsOf (ds ++ [d])).getD c [] = (elsOf ds).getD c [] := by
  unfold elsOf
  have e : (List.map (·.1) (ds ++ [d])).take ds.length = ds.map (·.1) := by
    rw [List.map_append, List.take_append_of_le_length (by rw [List.length_map]; exact Nat.le_refl _), List.take_of_length_le (by rw [List.length_map]; exact Nat.le_refl _)]
  rw [← elders_getD_take (c := ds.length) h, e]
theorem els_fst {ds : List Ent} {d e : Ent} (h : d.1 = e.1) : elsOf (ds ++ [d]) = elsOf (ds ++ [e]) := by
  unfold elsOf
  rw [List.map_append, List.map_append, List.map_cons, List.map_cons, h]
theorem kins_app {ds : List Ent} {d : Ent} {c : Nat} (h : c < ds.length) : (kins (elsOf (ds ++ [d]))).getD c [] = (kins (elsOf ds)).getD c [] := by
  rw [kins_els (by rw [List.length_append]; omega), kins_els h, els_app h]
theorem kinsL {ds : List Ent} : (kins (elsOf ds)).length = ds.length := by rw [kins_len, elsOf_len]
theorem DsOk.kins {ds : List Ent} (ok : DsOk ds) : KinsOk (kins (elsOf ds)) := kins_ok ok.valid
def PairsAt (H : Hp) : List V → List (Nat × Nat) → Prop := Paired fun v p => ∃ t, v = .ref t ∧ H t = some (.tup [natV p.1, natV p.2])
theorem PairsAt.keep {H H' : Hp} {R : Addr} {us0 : List V} (hR : H R = some (.lst us0)) (s : Oth R H H') : ∀ {us : List V} {ps : List (Nat × Nat)}, PairsAt H us ps → PairsAt H' us ps
  | [], [], _ => .nil
  | _ :: _, _ :: _, .cons ⟨t, e, h⟩ r => .cons ⟨t, e, s _ _ (fun z => by rw [z, hR] at h; cases h) h⟩ (PairsAt.keep hR s r)
theorem PairsAt.same {H H' : Hp} (s : Same H H') : ∀ {us : List V} {ps : List (Nat × Nat)}, PairsAt H us ps → PairsAt H' us ps
  | [], [], _ => .nil
  | _ :: _, _ :: _, .cons ⟨t, e, h⟩ r => .cons ⟨t, e, s _ _ h⟩ (PairsAt.same s r)
theorem PairsAt.app {H : Hp} : ∀ {vs us : List V} {ls ms : List (Nat × Nat)}, PairsAt H vs ls → PairsAt H us ms → PairsAt H (vs ++ us) (ls ++ ms)
  | [], _, [], _, _, h => h
  | _ :: _, _, _ :: _, _, .cons h r, s => .cons h (PairsAt.app r s)
theorem PairsAt.len {H : Hp} {vs : List V} {ls : List (Nat × Nat)} (h : PairsAt H vs ls) : vs.length = ls.length := Paired.length h
def dPair (p : Nat × Nat) : PyData := .tuple [.int (p.1 : Int), .int (p.2 : Int)]
theorem dp_pairs {K : PySem.W.Frag} {H : Hp} : ∀ {us : List V} {ps : List (Nat × Nat)}, PairsAt H us ps → DpAll K H us (ps.map dPair)
  | [], [], _ => .nil
  | _ :: _, _ :: _, .cons ⟨t, e, h⟩ r => by
    rw [e]
    exact .cons (.tup (SqT.of h) (.cons (.int _) (.cons (.int _) .nil))) (dp_pairs r)
theorem lay_pair (p : Nat × Nat) : LayD 1 (dPair p) := LayD.tup fun d hd => by
  rcases List.mem_cons.mp hd with rfl | hd
  · exact .int _
  · rw [List.mem_singleton.mp hd]
    exact .int _
theorem LayD.lst {n : Nat} {ds : List PyData} (h : ∀ d ∈ ds, LayD n d) : LayD (n + 1) (.list ds) := by
  obtain ⟨h1, h2⟩ := lay_all h
  refine ⟨by simp [PyData.canLay0, h1], ?_⟩
  simp only [PyData.depth]
  omega
theorem lay_pairs (ps : List (Nat × Nat)) : LayD 2 (.list (ps.map dPair)) := LayD.lst fun d hd => by
  obtain ⟨p, _, rfl⟩ := List.mem_map.mp hd
  exact lay_pair p
theorem eqv_pair (p q : Nat × Nat) : PyData.eqv (dPair p) (dPair q) = decide (p = q) := by
  obtain ⟨a, b⟩ := p
  obtain ⟨c, d⟩ := q
  have e : PyData.eqv (dPair (a, b)) (dPair (c, d)) = (((a : Int) == (c : Int)) && (((b : Int) == (d : Int)) && true)) := by simp only [dPair, PyData.eqv, PyData.eqvAll]
  rw [e, Bool.eq_iff_iff, Bool.and_eq_true, Bool.and_true, beq_iff_eq, beq_iff_eq, decide_eq_true_eq]
  constructor
  · rintro ⟨h1, h2⟩
    rw [show a = c by omega, show b = d by omega]
  · intro h
    cases h
    exact ⟨rfl, rfl⟩
theorem any_pair (ps : List (Nat × Nat)) (q : Nat × Nat) : ((ps.map dPair).any fun z => PyData.eqv z (dPair q)) = decide (q ∈ ps) := by
  rw [Bool.eq_iff_iff, List.any_eq_true, decide_eq_true_eq]
  constructor
  · rintro ⟨z, hz, e⟩
    obtain ⟨p, hp, rfl⟩ := List.mem_map.mp hz
    rw [eqv_pair, decide_eq_true_eq] at e
    rw [← e]
    exact hp
  · intro h
    exact ⟨_, List.mem_map_of_mem h, by rw [eqv_pair, decide_eq_true_eq]⟩
def SortP (ps : List (Nat × Nat)) : Prop := ps.Pairwise fun p q => p.1 < q.1 ∨ (p.1 = q.1 ∧ p.2 < q.2)
theorem SortP.snoc {ps : List (Nat × Nat)} {a b : Nat} (h : SortP ps) (z : ∀ p ∈ ps, p.1 < a ∨ (p.1 = a ∧ p.2 < b)) : SortP (ps ++ [(a, b)]) := by
  unfold SortP
  rw [List.pairwise_append]
  refine ⟨h, List.pairwise_singleton _ _, fun p hp q hq => ?_⟩
  rw [List.mem_singleton.mp hq]
  exact z p hp
theorem sortP_one : ∀ {ps qs : List (Nat × Nat)}, SortP ps → SortP qs → (∀ p, p ∈ ps ↔ p ∈ qs) → ps = qs
  | [], [], _, _, _ => rfl
  | [], q :: _, _, _, h => by have := (h q).mpr List.mem_cons_self; cases this
  | p :: _, [], _, _, h => by have := (h p).mp List.mem_cons_self; cases this
  | p :: ps, q :: qs, hp, hq, h => by
    obtain ⟨p1, p2⟩ := List.pairwise_cons.mp hp
    obtain ⟨q1, q2⟩ := List.pairwise_cons.mp hq
    have e : p = q := by
      have a := (h p).mp List.mem_cons_self
      have b := (h q).mpr List.mem_cons_self
      rcases List.mem_cons.mp a with a | a
      · exact a
      · rcases List.mem_cons.mp b with b | b
        · exact b.symm
        · have x := q1 p a
          have y := p1 q b
          omega
    subst e
    have np : p ∉ ps := fun z => by have := p1 p z; omega
    have nq : p ∉ qs := fun z => by have := q1 p z; omega
    rw [sortP_one p2 q2 fun r => ⟨fun hr => ?_, fun hr => ?_⟩]
    · rcases List.mem_cons.mp ((h r).mp (List.mem_cons_of_mem _ hr)) with e | e
      · rw [e] at hr
        exact (np hr).elim
      · exact e
    · rcases List.mem_cons.mp ((h r).mpr (List.mem_cons_of_mem _ hr)) with e | e
      · rw [e] at hr
        exact (nq hr).elim
      · exact e
theorem room65 {k : Nat} {A : Around} (r : Room k A) : A.units + 65 < cLine := by
  have := r.un
  omega
theorem nodup_sub_len'' {α : Type} [DecidableEq α] {ks ns : List α} (hn : ks.Nodup) (hs : ∀ k ∈ ks, k ∈ ns) : ks.length ≤ ns.length := Kw.nodup_sub_len hn hs
def lx : List Nat → List Nat → Bool
  | [], [] => false
  | [], _ :: _ => true
  | _ :: _, [] => false
  | a :: as, b :: bs => decide (a < b) || (decide (a = b) && lx as bs)
theorem lx_cons {a b : Nat} {as bs : List Nat} : lx (a :: as) (b :: bs) = true ↔ a < b ∨ (a = b ∧ lx as bs = true) := by
  simp [lx]
theorem lx_refl : ∀ l, lx l l = false
  | [] => rfl
  | a :: as => by
    simp [lx, lx_refl as]
theorem lx_anti : ∀ {l m : List Nat}, lx l m = false → lx m l = false → l = m
  | [], [], _, _ => rfl
  | [], _ :: _, h, _ => by simp [lx] at h
  | _ :: _, [], _, h => by simp [lx] at h
  | a :: as, b :: bs, h1, h2 => by
    have e1 : (a < b ∨ (a = b ∧ lx as bs = true)) → False := fun z => by
      have := lx_cons.mpr z
      rw [h1] at this
      cases this
    have e2 : (b < a ∨ (b = a ∧ lx bs as = true)) → False := fun z => by
      have := lx_cons.mpr z
      rw [h2] at this
      cases this
    have : a = b := by
      apply Classical.byContradiction
      intro q
      rcases Nat.lt_or_gt_of_ne q with z | z
      · exact e1 (.inl z)
      · exact e2 (.inl z)
    subst this
    have t1 : lx as bs = false := by
      cases c : lx as bs with
      | false => rfl
      | true => exact (e1 (.inr ⟨rfl, c⟩)).elim
    have t2 : lx bs as = false := by
      cases c : lx bs as with
      | false => rfl
      | true => exact (e2 (.inr ⟨rfl, c⟩)).elim
    rw [lx_anti t1 t2]
theorem lx_trans : ∀ {l m k : List Nat}, lx l m = true → lx m k = true → lx l k = true
  | [], [], _, h, _ => by simp [lx] at h
  | [], _ :: _, [], _, h => by simp [lx] at h
  | [], _ :: _, _ :: _, _, _ => rfl
  | _ :: _, [], _, h, _ => by simp [lx] at h
  | _ :: _, _ :: _, [], _, h => by simp [lx] at h
  | a :: as, b :: bs, c :: cs, h1, h2 => by
    rw [lx_cons] at *
    rcases h1 with h1 | ⟨rfl, h1⟩
    · rcases h2 with h2 | ⟨rfl, h2⟩
      · exact .inl (by omega)
      · exact .inl h1
    · rcases h2 with h2 | ⟨rfl, h2⟩
      · exact .inl h2
      · exact .inr ⟨rfl, lx_trans h1 h2⟩
theorem lx_pre : ∀ (p : List Nat) {a b : Nat} (as bs : List Nat), a < b → lx (p ++ a :: as) (p ++ b :: bs) = true
  | [], _, _, _, _, h => lx_cons.mpr (.inl h)
  | _ :: p, _, _, as, bs, h => lx_cons.mpr (.inr ⟨rfl, lx_pre p as bs h⟩)
theorem lx_pre_same : ∀ (p l m : List Nat), lx (p ++ l) (p ++ m) = lx l m
  | [], _, _ => rfl
  | a :: p, l, m => by
    show lx (a :: (p ++ l)) (a :: (p ++ m)) = _
    rw [← lx_pre_same p l m]
    simp [lx]
theorem lx_app : ∀ {l m : List Nat} (p q : List Nat), l.length = m.length → lx l m = true → lx (l ++ p) (m ++ q) = true
  | [], [], _, _, _, h => by simp [lx] at h
  | [], _ :: _, _, _, e, _ => by simp at e
  | _ :: _, [], _, _, e, _ => by simp at e
  | a :: as, b :: bs, p, q, e, h => by
    rw [lx_cons] at h
    show lx (a :: (as ++ p)) (b :: (bs ++ q)) = true
    rw [lx_cons]
    rcases h with h | ⟨rfl, h⟩
    · exact .inl h
    · exact .inr ⟨rfl, lx_app p q (by simpa using e) h⟩
theorem getD_snoc (r : List Nat) (h i : Nat) : (r ++ [h]).getD i 0 = if i < r.length then r.getD i 0 else if i = r.length then h else 0 := by
  by_cases c : i < r.length
  · rw [if_pos c, List.getD_eq_getElem?_getD, List.getElem?_append_left c, ← List.getD_eq_getElem?_getD]
  · rw [if_neg c, List.getD_eq_getElem?_getD, List.getElem?_append_right (by omega)]
    by_cases q : i = r.length
    · rw [if_pos q, q, Nat.sub_self]
      rfl
    · rw [if_neg q, List.getElem?_eq_none (by rw [List.length_singleton]; omega)]
      rfl
def firstS {α : Type} (k : Nat) (f : Nat → Option α) : Option α := (List.range k).findSome? f
theorem firstS_succ {α : Type} {k : Nat} {f : Nat → Option α} : firstS (k + 1) f = (firstS k f).or (f k) := by
  unfold firstS
  rw [List.range_succ, List.findSome?_append]
  congr 1
  simp [List.findSome?]
  cases f k <;> rfl
theorem firstS_none {α : Type} {f : Nat → Option α} : ∀ {k : Nat}, firstS k f = none ↔ ∀ h, h < k → f h = none
  | 0 => ⟨fun _ _ h => absurd h (Nat.not_lt_zero _), fun _ => rfl⟩
  | k + 1 => by
    rw [firstS_succ, Option.or_eq_none_iff, firstS_none (k := k)]
    constructor
    · rintro ⟨h1, h2⟩ h hh
      by_cases q : h < k
      · exact h1 h q
      · rw [show h = k by omega]
        exact h2
    · intro h
      exact ⟨fun j hj => h j (by omega), h k (by omega)⟩
theorem firstS_some {α : Type} {f : Nat → Option α} {r : α} : ∀ {k : Nat}, firstS k f = some r ↔ ∃ h, h < k ∧ f h = some r ∧ ∀ j, j < h → f j = none
  | 0 => ⟨(fun h => by cases h), fun ⟨_, h, _⟩ => absurd h (Nat.not_lt_zero _)⟩
  | k + 1 => by
    rw [firstS_succ]
    constructor
    · intro h
      cases e : firstS k f with
      | some z =>
        rw [e] at h
        obtain rfl := Option.some.inj h
        obtain ⟨j, hj, h2, h3⟩ := firstS_some.mp e
        exact ⟨j, by omega, h2, h3⟩
      | none =>
        rw [e] at h
        exact ⟨k, by omega, h, fun j hj => firstS_none.mp e j hj⟩
    · rintro ⟨h, hh, h2, h3⟩
      by_cases q : h < k
      · rw [firstS_some.mpr ⟨h, q, h2, h3⟩]
        rfl
      · have : h = k := by omega
        subst this
        rw [firstS_none.mpr h3]
        exact h2
/-! ### min of a list of lists or tuples of numbers -/
def dR (tup : Bool) (r : List Nat) : PyData := if tup = true then .tuple (r.map fun (n : Nat) => .int (n : Int)) else .list (r.map fun (n : Nat) => .int (n : Int))
def toksN (r : List Nat) : List (Int ⊕ List Nat) := PySem.W.keyToksAll (r.map fun (n : Nat) => .int (n : Int))
theorem keyToks_dR (tup : Bool) (r : List Nat) : PySem.W.keyToks (dR tup r) = toksN r := by
  unfold dR toksN
  cases tup <;> simp [PySem.W.keyToks]
theorem alike_ints : ∀ (r s : List Nat), PySem.W.alikeAll (r.map fun (n : Nat) => PyData.int (n : Int)) (s.map fun (n : Nat) => PyData.int (n : Int)) = true
  | [], [] => by simp [PySem.W.alikeAll]
  | [], _ :: _ => by simp [PySem.W.alikeAll]
  | _ :: _, [] => by simp [PySem.W.alikeAll]
  | a :: r, b :: s => by
    rw [List.map_cons, List.map_cons, PySem.W.alikeAll, alike_ints r s]
    simp [PySem.W.alike]
theorem alike_dR (tup : Bool) (r s : List Nat) : PySem.W.alike (dR tup r) (dR tup s) = true := by
  unfold dR
  cases tup
  · show PySem.W.alike (.list _) (.list _) = true
    rw [PySem.W.alike]
    exact alike_ints r s
  · show PySem.W.alike (.tuple _) (.tuple _) = true
    rw [PySem.W.alike]
    exact alike_ints r s
theorem dR_inj {tup : Bool} : ∀ {r s : List Nat}, dR tup r = dR tup s → r = s := by
  intro r s h
  have e : (r.map fun (n : Nat) => PyData.int (n : Int)) = s.map fun (n : Nat) => PyData.int (n : Int) := by
    unfold dR at h
    cases tup
    · exact PyData.list.inj h
    · exact PyData.tuple.inj h
  refine List.map_inj_right (f := fun (n : Nat) => PyData.int (n : Int)) (fun a b h => ?_) |>.mp e
  have := PyData.int.inj h
  omega
theorem lt_toks : ∀ (r s : List Nat), PyProof.Rows.lexLt itemOrd (toksN r) (toksN s) = lx r s
  | [], [] => by
    unfold toksN
    simp only [List.map_nil]
    rw [PySem.W.keyToksAll]
    decide
  | [], b :: s => by
    unfold toksN
    rw [List.map_nil, List.map_cons, PySem.W.toks_all_cons, PySem.W.keyToksAll, PySem.W.lex_atom (by simp)]
    show _ = true
    decide
  | a :: r, [] => by
    unfold toksN
    rw [List.map_nil, List.map_cons, PySem.W.toks_all_cons, PySem.W.keyToksAll, PySem.W.lex_atom (by simp)]
    show _ = false
    decide
  | a :: r, b :: s => by
    have ha : PySem.W.alike (.int (a : Int)) (.int (b : Int)) = true := by simp [PySem.W.alike]
    unfold toksN
    rw [List.map_cons, List.map_cons]
    cases e : PyData.eqv (.int (a : Int)) (.int (b : Int)) with
    | true =>
      rw [PySem.W.dataLt_all_yes ha e]
      have z : a = b := by
        have : ((a : Int) == (b : Int)) = true := by simpa only [PyData.eqv] using e
        have := beq_iff_eq.mp this
        omega
      have ih := lt_toks r s
      unfold toksN at ih
      rw [ih, z]
      simp [lx]
    | false =>
      rw [PySem.W.dataLt_all_no ha e, PySem.W.dataLt_int]
      have z : a ≠ b := by
        intro z
        have : ((a : Int) == (b : Int)) = false := by simpa only [PyData.eqv] using e
        rw [z] at this
        simp at this
      rw [Bool.eq_iff_iff, lx_cons, decide_eq_true_eq]
      constructor
      · intro h
        exact .inl (by omega)
      · rintro (h | h)
        · omega
        · exact (z h.1).elim
theorem lt_dR (tup : Bool) (r s : List Nat) : PySem.W.dataLt (dR tup r) (dR tup s) = lx r s := by
  unfold PySem.W.dataLt
  rw [keyToks_dR, keyToks_dR, lt_toks]
def minL (r : List Nat) (rs : List (List Nat)) : List Nat := rs.foldl (fun a y => if lx y a = true then y else a) r
theorem minD_dR (tup : Bool) : ∀ (rs : List (List Nat)) (r : List Nat), PySem.W.minD (dR tup r) (rs.map (dR tup)) = dR tup (minL r rs)
  | [], r => rfl
  | s :: rs, r => by
    show PySem.W.minD (if PySem.W.dataLt (dR tup s) (dR tup r) = true then dR tup s else dR tup r) (rs.map (dR tup)) = dR tup (minL (if lx s r = true then s else r) rs)
    rw [lt_dR]
    cases c : lx s r with
    | true => exact minD_dR tup rs s
    | false => exact minD_dR tup rs r
theorem minL_spec : ∀ (rs : List (List Nat)) (r : List Nat), minL r rs ∈ r :: rs ∧ ∀ y ∈ r :: rs, lx y (minL r rs) = false
  | [], r => ⟨List.mem_cons_self, fun y hy => by rw [List.mem_singleton.mp hy]; exact lx_refl _⟩
  | s :: rs, r => by
    show minL (if lx s r = true then s else r) rs ∈ _ ∧ ∀ y ∈ _, lx y (minL (if lx s r = true then s else r) rs) = false
    cases c : lx s r with
    | true =>
      rw [if_pos rfl]
      obtain ⟨h1, h2⟩ := minL_spec rs s
      refine ⟨List.mem_cons_of_mem _ h1, fun y hy => ?_⟩
      rcases List.mem_cons.mp hy with rfl | hy
      · cases d : lx y (minL s rs) with
        | false => rfl
        | true =>
          have := lx_trans c d
          rw [h2 s List.mem_cons_self] at this
          cases this
      · exact h2 y hy
    | false =>
      rw [if_neg (by decide)]
      obtain ⟨h1, h2⟩ := minL_spec rs r
      refine ⟨?_, fun y hy => ?_⟩
      · rcases List.mem_cons.mp h1 with h1 | h1
        · rw [h1]
          exact List.mem_cons_self
        · exact List.mem_cons_of_mem _ (List.mem_cons_of_mem _ h1)
      · rcases List.mem_cons.mp hy with rfl | hy
        · exact h2 y List.mem_cons_self
        · rcases List.mem_cons.mp hy with rfl | hy
          · cases d : lx y (minL r rs) with
            | false => rfl
            | true =>
              -- y before the least, r not behind y
              have q : lx r (minL r rs) = false := h2 r List.mem_cons_self
              by_cases e : r = y
              · rw [← e, q] at d
                cases d
              · cases x : lx r y with
                | true =>
                  have := lx_trans x d
                  rw [q] at this
                  cases this
                | false => exact (e (lx_anti x c)).elim
          · exact h2 y (List.mem_cons_of_mem _ hy)
theorem depth_ints : ∀ r : List Nat, PyData.depthAll (r.map fun (n : Nat) => PyData.int (n : Int)) = 0
  | [] => by simp [PyData.depthAll]
  | a :: r => by
    rw [List.map_cons, PyData.depthAll, depth_ints r]
    simp [PyData.depth]
theorem depth_dR (tup : Bool) (r : List Nat) : (dR tup r).depth ≤ 1 := by
  unfold dR
  cases tup
  · show (PyData.list _).depth ≤ 1
    rw [PyData.depth, depth_ints]
    exact Nat.le_refl _
  · show (PyData.tuple _).depth ≤ 1
    rw [PyData.depth, depth_ints]
    exact Nat.le_refl _
theorem depthAll_dR (tup : Bool) : ∀ rs : List (List Nat), PyData.depthAll (rs.map (dR tup)) ≤ 1
  | [] => by simp [PyData.depthAll]
  | r :: rs => by
    rw [List.map_cons, PyData.depthAll]
    have := depth_dR tup r
    have := depthAll_dR tup rs
    omega
theorem vals_at {us : List V} {its : List Value} (h : Vals us its) (i : Nat) (v : Value) (hv : its[i]? = some v) : ∃ u, us[i]? = some u ∧ RelV u v := by
  have h : Paired RelV us its := h
  induction h generalizing i with
  | nil => cases hv
  | cons r _ ih =>
    cases i with
    | zero =>
      obtain rfl := Option.some.inj hv
      exact ⟨_, rfl, r⟩
    | succ i => exact ih (by assumption) i hv
/-- min(xs), xs a list of lists (or of tuples) of whole numbers: one that none stands before -/
def rMinN (K : PySem.W.Frag) (tup : Bool) : List V → Hp → VK → Prop := fun vs H Q => ∃ (a : Addr) (us : List V) (rows : List (List Nat)), vs = [.ref a] ∧ SqL K H a us ∧ DpAll K H us (rows.map (dR tup)) ∧ rows ≠ [] ∧
  ∀ (i : Nat) (u : V) (r : List Nat), us[i]? = some u → rows[i]? = some r → (∀ s ∈ rows, lx s r = false) → Q u H
theorem cr_minN {X : Cx} (tup : Bool) (hc : X.calm = true) (hu : X.A.units + 65 < cLine) : CallR X (.builtin "min") (rMinN X.K tup) := by
  intro pins s σ H vs us Q I r h
  obtain ⟨a, ws, rows, rfl, hs, hd, hne, q⟩ := h
  obtain ⟨its, rv, hl, _⟩ := I.list hs
  rw [Vals.ref1 r]
  obtain ⟨as, hr⟩ := Dp.readsAll I _ _ _ hd rv
  match rows, hne with
  | r0 :: rows, _ =>
    have ha : PySem.W.AlikeAll ((r0 :: rows).map (dR tup)) := by
      refine ⟨fun x hx y hy => ?_, fun x hx => ?_⟩
      · obtain ⟨p, _, rfl⟩ := List.mem_map.mp hx
        obtain ⟨p', _, rfl⟩ := List.mem_map.mp hy
        exact alike_dR tup _ _
      · obtain ⟨p, _, rfl⟩ := List.mem_map.mp hx
        unfold dR
        cases tup <;> simp
    have hdep := depthAll_dR tup (r0 :: rows)
    refine PySem.W.min_list_data (x := dR tup r0) (xs := rows.map (dR tup)) (I.ok.hd hc) hl.isList hr ha (by have : PyData.depthAll (dR tup r0 :: rows.map (dR tup)) ≤ 1 := hdep; omega) fun i v h' tk bs hv rd hk => ?_
    have hv' : its[i]? = some v := by
      rw [← hv]
      simp
    obtain ⟨u, hu1, hu2⟩ := vals_at rv i v hv'
    have hr' : ReadsAll s.heap its ((r0 :: rows).map (dR tup)) as := hr
    obtain ⟨bs2, rd2, hi, _, _⟩ := PySem.W.readsAll_at hr' i v hv'
    rw [List.length_map] at hi
    obtain ⟨ri, hri⟩ : ∃ ri, (r0 :: rows)[i]? = some ri := ⟨_, List.getElem?_eq_getElem hi⟩
    have e1 : ((r0 :: rows).map (dR tup)).getD i .none = dR tup ri := by
      rw [List.getD_eq_getElem?_getD, List.getElem?_map, hri]
      rfl
    rw [e1] at rd2
    rw [minD_dR] at rd
    have e2 := PySem.W.alike_unique _ _ _ _ _ (alike_dR tup ri (minL r0 rows)) (PySem.W.reads_keeps hk rd2) rd
    have e3 := dR_inj e2
    exact ⟨u, H, I.kept hk, hu2, q i u ri hu1 hri fun y hy => by rw [e3]; exact (minL_spec rows r0).2 y hy⟩
/-- the inner walk of a comprehension over two ranges -/
theorem lc2_in {m : Nat} {lo : Int} {g1 : TG} {tt1 : TT} {te : TE} {vs1 : List Nat} {σ2 : L2.St} {H4 : Hp} {D : Addr} {Nx : Hp → Prop} (Pw : Nat → Hp → Prop) (h0 : Pw 0 H4)
    (hs : ∀ j H, j < m → Pw j H → g1 (.int (lo + (j : Int))) (wipe σ2 vs1) H fun σ3 H5 => wipe σ3 vs1 = wipe σ2 vs1 ∧ tt1 σ3 H5 fun b H6 =>
        if b = true then te σ3 H6 fun y H7 => ∃ acc, H7 D = some (.lst acc) ∧ acc.length < sizeLine ∧ Pw (j + 1) (upd H7 D (.lst (acc ++ [y]))) else Pw (j + 1) H6)
    (hd : ∀ H, Pw m H → Nx H) :
    ∃ W1 : Nat → Nat → Hp → Prop, (∃ m, W1 0 m H4) ∧ ∀ j k H, W1 j k H →
        ((Itr lo m).stop j H ∧ Nx H) ∨ ((Itr lo m).go j H ∧ ∃ Nx1 : Hp → Prop, (∀ H', Nx1 H' → ∃ k', k' < k ∧ W1 (j + 1) k' H') ∧ ∀ x H', (Itr lo m).yld j H x H' → g1 x (wipe σ2 vs1) H' fun σ3 H5 => wipe σ3 vs1 = wipe σ2 vs1 ∧ tt1 σ3 H5 fun b H6 =>
          if b = true then te σ3 H6 fun y H7 => ∃ acc, H7 D = some (.lst acc) ∧ acc.length < sizeLine ∧ Nx1 (upd H7 D (.lst (acc ++ [y]))) else Nx1 H6) := by
  refine ⟨fun i k H => k = m - i ∧ i ≤ m ∧ Pw i H, ⟨m, by simp, Nat.zero_le _, h0⟩, ?_⟩
  rintro i k H ⟨rfl, hi, p⟩
  by_cases hlt : i < m
  · refine .inr ⟨hlt, Pw (i + 1), fun H' p' => ⟨m - (i + 1), by omega, rfl, hlt, p'⟩, fun x H' y => ?_⟩
    obtain ⟨e, y⟩ := y
    subst e y
    exact hs i _ hlt p
  · have e : i = m := by omega
    subst e
    exact .inl ⟨Nat.le_refl _, hd _ p⟩
/-- the outer walk, over a range -/
theorem lc2_out {n : Nat} {lo : Int} {wi1 : TI} {g g1 : TG} {tt tt1 : TT} {te : TE} {vs vs1 : List Nat} {σ : L2.St} {H1 : Hp} {D : Addr} {Qd : Hp → Prop} (Pv : Nat → Hp → Prop) (h0 : Pv 0 (upd H1 D (.lst [])))
    (hs : ∀ i H, i < n → Pv i H → ∀ Nx : Hp → Prop, (∀ H', Pv (i + 1) H' → Nx H') → g (.int (lo + (i : Int))) (wipe σ vs) H fun σ2 H2 => wipe σ2 vs = wipe σ vs ∧ tt σ2 H2 fun b H3 => if b = true then wi1 σ2 H3 fun J1 H4 => ∃ W1 : Nat → Nat → Hp → Prop, (∃ m, W1 0 m H4) ∧ ∀ j k H, W1 j k H →
        (J1.stop j H ∧ Nx H) ∨ (J1.go j H ∧ ∃ Nx1 : Hp → Prop, (∀ H', Nx1 H' → ∃ k', k' < k ∧ W1 (j + 1) k' H') ∧ ∀ x H', J1.yld j H x H' → g1 x (wipe σ2 vs1) H' fun σ3 H5 => wipe σ3 vs1 = wipe σ2 vs1 ∧ tt1 σ3 H5 fun b H6 =>
          if b = true then te σ3 H6 fun y H7 => ∃ acc, H7 D = some (.lst acc) ∧ acc.length < sizeLine ∧ Nx1 (upd H7 D (.lst (acc ++ [y]))) else Nx1 H6) else Nx H3)
    (hd : ∀ H, Pv n H → Qd H) :
    ∃ W : Nat → Nat → Hp → Prop, (∃ m, W 0 m (upd H1 D (.lst []))) ∧ ∀ i m H, W i m H →
  ((Itr lo n).stop i H ∧ Qd H) ∨ ((Itr lo n).go i H ∧ ∃ Nx : Hp → Prop, (∀ H', Nx H' → ∃ m', m' < m ∧ W (i + 1) m' H') ∧ ∀ x H', (Itr lo n).yld i H x H' → g x (wipe σ vs) H' fun σ2 H2 => wipe σ2 vs = wipe σ vs ∧ tt σ2 H2 fun b H3 =>
    if b = true then wi1 σ2 H3 fun J1 H4 => ∃ W1 : Nat → Nat → Hp → Prop, (∃ m, W1 0 m H4) ∧ ∀ j k H, W1 j k H →
        (J1.stop j H ∧ Nx H) ∨ (J1.go j H ∧ ∃ Nx1 : Hp → Prop, (∀ H', Nx1 H' → ∃ k', k' < k ∧ W1 (j + 1) k' H') ∧ ∀ x H', J1.yld j H x H' → g1 x (wipe σ2 vs1) H' fun σ3 H5 => wipe σ3 vs1 = wipe σ2 vs1 ∧ tt1 σ3 H5 fun b H6 =>
          if b = true then te σ3 H6 fun y H7 => ∃ acc, H7 D = some (.lst acc) ∧ acc.length < sizeLine ∧ Nx1 (upd H7 D (.lst (acc ++ [y]))) else Nx1 H6) else Nx H3) := by
  refine ⟨fun i k H => k = n - i ∧ i ≤ n ∧ Pv i H, ⟨n, by simp, Nat.zero_le _, h0⟩, ?_⟩
  rintro i k H ⟨rfl, hi, p⟩
  by_cases hlt : i < n
  · refine .inr ⟨hlt, Pv (i + 1), fun H' p' => ⟨n - (i + 1), by omega, rfl, hlt, p'⟩, fun x H' y => ?_⟩
    obtain ⟨e, y⟩ := y
    subst e y
    exact hs i _ hlt p _ fun _ z => z
  · have e : i = n := by omega
    subst e
    exact .inl ⟨Nat.le_refl _, hd _ p⟩
/-- the outer walk, over a list that stands still -/
theorem lc2_outL {K : PySem.W.Frag} {a : Addr} {xs : List V} {wi1 : TI} {g g1 : TG} {tt tt1 : TT} {te : TE} {vs vs1 : List Nat} {σ : L2.St} {H1 : Hp} {D : Addr} {Qd : Hp → Prop} (Pv : Nat → Hp → Prop) (h0 : Pv 0 (upd H1 D (.lst []))) (hl : ∀ i H, i ≤ xs.length → Pv i H → SqL K H a xs)
    (hs : ∀ i x H, xs[i]? = some x → Pv i H → ∀ Nx : Hp → Prop, (∀ H', Pv (i + 1) H' → Nx H') → g x (wipe σ vs) H fun σ2 H2 => wipe σ2 vs = wipe σ vs ∧ tt σ2 H2 fun b H3 => if b = true then wi1 σ2 H3 fun J1 H4 => ∃ W1 : Nat → Nat → Hp → Prop, (∃ m, W1 0 m H4) ∧ ∀ j k H, W1 j k H →
        (J1.stop j H ∧ Nx H) ∨ (J1.go j H ∧ ∃ Nx1 : Hp → Prop, (∀ H', Nx1 H' → ∃ k', k' < k ∧ W1 (j + 1) k' H') ∧ ∀ x H', J1.yld j H x H' → g1 x (wipe σ2 vs1) H' fun σ3 H5 => wipe σ3 vs1 = wipe σ2 vs1 ∧ tt1 σ3 H5 fun b H6 =>
          if b = true then te σ3 H6 fun y H7 => ∃ acc, H7 D = some (.lst acc) ∧ acc.length < sizeLine ∧ Nx1 (upd H7 D (.lst (acc ++ [y]))) else Nx1 H6) else Nx H3)
    (hd : ∀ H, Pv xs.length H → Qd H) :
    ∃ W : Nat → Nat → Hp → Prop, (∃ m, W 0 m (upd H1 D (.lst []))) ∧ ∀ i m H, W i m H →
  ((Itl K a).stop i H ∧ Qd H) ∨ ((Itl K a).go i H ∧ ∃ Nx : Hp → Prop, (∀ H', Nx H' → ∃ m', m' < m ∧ W (i + 1) m' H') ∧ ∀ x H', (Itl K a).yld i H x H' → g x (wipe σ vs) H' fun σ2 H2 => wipe σ2 vs = wipe σ vs ∧ tt σ2 H2 fun b H3 =>
    if b = true then wi1 σ2 H3 fun J1 H4 => ∃ W1 : Nat → Nat → Hp → Prop, (∃ m, W1 0 m H4) ∧ ∀ j k H, W1 j k H →
        (J1.stop j H ∧ Nx H) ∨ (J1.go j H ∧ ∃ Nx1 : Hp → Prop, (∀ H', Nx1 H' → ∃ k', k' < k ∧ W1 (j + 1) k' H') ∧ ∀ x H', J1.yld j H x H' → g1 x (wipe σ2 vs1) H' fun σ3 H5 => wipe σ3 vs1 = wipe σ2 vs1 ∧ tt1 σ3 H5 fun b H6 =>
          if b = true then te σ3 H6 fun y H7 => ∃ acc, H7 D = some (.lst acc) ∧ acc.length < sizeLine ∧ Nx1 (upd H7 D (.lst (acc ++ [y]))) else Nx1 H6) else Nx H3) := by
  refine ⟨fun i m H => m = xs.length - i ∧ i ≤ xs.length ∧ Pv i H, ⟨xs.length, by simp, Nat.zero_le _, h0⟩, ?_⟩
  rintro i m H ⟨rfl, hi, p⟩
  have q := hl i H hi p
  by_cases hlt : i < xs.length
  · refine .inr ⟨⟨xs, xs[i], q, by simp [hlt]⟩, Pv (i + 1), fun H' p' => ⟨xs.length - (i + 1), by omega, rfl, hlt, p'⟩, fun x H' y => ?_⟩
    obtain ⟨e, y⟩ := y
    subst e
    exact hs i x _ (y xs q) p _ fun _ z => z
  · have e : i = xs.length := by omega
    subst e
    exact .inl ⟨⟨xs, q, Nat.le_refl _⟩, hd H p⟩
theorem PairsAt.at {H : Hp} {us : List V} {ps : List (Nat × Nat)} (h : PairsAt H us ps) : ∀ {j : Nat} {v : V}, us[j]? = some v → ∃ p t, ps[j]? = some p ∧ v = .ref t ∧ H t = some (.tup [natV p.1, natV p.2]) := by
  have h : Paired (fun v (p : Nat × Nat) => ∃ t, v = .ref t ∧ H t = some (.tup [natV p.1, natV p.2])) us ps := h
  induction h with
  | nil => intro j v hv; cases hv
  | cons r _ ih =>
    intro j v hv
    cases j with
    | zero =>
      obtain rfl := Option.some.inj hv
      obtain ⟨t, e, ht⟩ := r
      exact ⟨_, t, rfl, e, ht⟩
    | succ j => exact ih (by assumption) hv
/-- x in t, t a tuple of data -/
def rInDT (K : PySem.W.Frag) : R2 := fun x y H Q => ∃ d ds, Dp K H x d ∧ Dp K H y (.tuple ds) ∧ SeqAt.shaped d = true ∧ SeqAt.shaped (.tuple ds) = true ∧ Q (.bl (ds.any fun z => PyData.eqv z d)) H
theorem op_inDT {X : Cx} (hu : X.A.units + 65 < cLine) : OpR X (compareOp .In) (rInDT X.K) := by
  intro pins s σ H x y v u Q I rx ry h
  obtain ⟨d, ds, hd, he, sd, se, q⟩ := h
  obtain ⟨as, r1⟩ := Dp.reads I d x v hd rx
  obtain ⟨bs, r2⟩ := Dp.reads I (.tuple ds) y u he ry
  exact SeqAt.in_tuple_reads r2 r1 (SeqAt.canLay_of_shaped se) (SeqAt.canLay_of_shaped sd) (room_in_shaped sd hu) ⟨.bl _, H, I, rfl, q⟩
theorem lay_pairsT (ps : List (Nat × Nat)) : LayD 2 (.tuple (ps.map dPair)) := LayD.tup fun d hd => by
  obtain ⟨p, _, rfl⟩ := List.mem_map.mp hd
  exact lay_pair p
theorem TupsAt.keep {H H' : Hp} {R : Addr} {us0 : List V} (hR : H R = some (.lst us0)) (s : Oth R H H') {us : List V} {ls : List (List Nat)} (h : TupsAt H us ls) : TupsAt H' us ls :=
  h.mono fun b xs e => s b _ (fun z => by rw [z, hR] at e; cases e) e
theorem TupsAt.at {H : Hp} {us : List V} {ls : List (List Nat)} (h : TupsAt H us ls) {j : Nat} {v : V} (hv : us[j]? = some v) : ∃ l t, ls[j]? = some l ∧ v = .ref t ∧ H t = some (.tup (l.map natV)) := by
  have hj : j < ls.length := by
    rw [← h.len]
    exact (List.getElem?_eq_some_iff.mp hv).1
  obtain ⟨t, e, ht⟩ := h.get (List.getElem?_eq_getElem hj)
  rw [hv] at e
  exact ⟨_, t, List.getElem?_eq_getElem hj, Option.some.inj e, ht⟩
theorem LsN.of_lists {R : Addr} {H : Hp} (hn : ∀ t o, H t = some o → t ≠ R) : ∀ {vs : List V} {ls : List (List Nat)}, ListsAt H vs ls → LsN R H vs ls
  | [], [], _ => .nil
  | _ :: _, _ :: _, .cons ⟨t, e, h⟩ r => .cons ⟨t, e, hn _ _ h, h⟩ (LsN.of_lists hn r)
theorem dp_lists {K : PySem.W.Frag} {H : Hp} : ∀ {vs : List V} {ls : List (List Nat)}, ListsAt H vs ls → DpAll K H vs (ls.map (dR false))
  | [], [], _ => .nil
  | _ :: _, _ :: _, .cons ⟨t, e, h⟩ r => by
    rw [e]
    exact .cons (.lst (SqL.of h) (dp_nats _)) (dp_lists r)
theorem dp_tupR {K : PySem.W.Frag} {H : Hp} : ∀ {vs : List V} {ls : List (List Nat)}, TupsAt H vs ls → DpAll K H vs (ls.map (dR true))
  | [], [], _ => .nil
  | _ :: _, _ :: _, .cons ⟨t, e, h⟩ r => by
    rw [e]
    exact .cons (.tup (SqT.of h) (dp_nats _)) (dp_tupR r)
theorem row_ints (row : List Nat) (z : Int) : row.map natV ++ [V.int z] = (row.map (fun (n : Nat) => (n : Int)) ++ [z]).map V.int := by
  rw [List.map_append, List.map_map]
  rfl
def HandLike (o : HO) : Prop := ∃ q i r t, o = .lst [.ref q, .int i, .int r, .int t]
def KI (H H' : Hp) : Prop := ∀ b o, H b = some o → ¬ HandLike o → H' b = some o
theorem KI.of {H H' : Hp} (s : Same H H') : KI H H' := fun b o e _ => s b o e
theorem KI.trans {H H1 H2 : Hp} (a : KI H H1) (b : KI H1 H2) : KI H H2 := fun c o e n => b c o (a c o e n) n
theorem KI.oth {p q : Addr} {H H' : Hp} (O : Oth p H H') (h : HandAt H p q) : KI H H' := fun b o e n => O b o (fun z => by
  obtain ⟨cs, i, r, t, h1, _⟩ := h
  rw [z, h1] at e
  exact n ⟨_, _, _, _, (Option.some.inj e).symm⟩) e
theorem nh_tup {xs : List V} : ¬ HandLike (.tup xs) := fun ⟨_, _, _, _, e⟩ => by cases e
theorem nh_ins {C dx : Addr} {fs : List (Str × V)} : ¬ HandLike (.ins C dx fs) := fun ⟨_, _, _, _, e⟩ => by cases e
theorem nh_hues {hs : List (Option Nat)} : ¬ HandLike (.lst (hs.map hV)) := fun ⟨_, _, _, _, e⟩ => by
  cases hs with
  | nil => cases e
  | cons o r =>
    injection e with e
    injection e with e _
    cases o <;> cases e
theorem nh_nats {l : List Nat} : ¬ HandLike (.lst (l.map natV)) := fun ⟨_, _, _, _, e⟩ => by
  cases l with
  | nil => cases e
  | cons n r =>
    injection e with e
    injection e with e _
    cases e
theorem nh_refs {us : List V} (h : ∀ v ∈ us, ∃ a, v = .ref a) : ¬ HandLike (.lst us) := fun ⟨_, i, _, _, e⟩ => by
  injection e with e
  obtain ⟨a, z⟩ := h (.int i) (by rw [e]; exact List.mem_cons_of_mem _ List.mem_cons_self)
  cases z
theorem RwN.refs {R : Addr} {H : Hp} : ∀ {vs : List V} {ls : List Ent}, RwN R H vs ls → ∀ v ∈ vs, ∃ a, v = .ref a
  | [], [], _, v, hv => by cases hv
  | _ :: _, _ :: _, .cons ⟨t, b, m, e, _⟩ r, v, hv => by
    rcases List.mem_cons.mp hv with z | hv
    · exact ⟨t, z.trans e⟩
    · exact RwN.refs r v hv
theorem ListsAt.refs {H : Hp} : ∀ {vs : List V} {ls : List (List Nat)}, ListsAt H vs ls → ∀ v ∈ vs, ∃ a, v = .ref a
  | [], [], _, v, hv => by cases hv
  | _ :: _, _ :: _, .cons ⟨t, e, _⟩ r, v, hv => by
    rcases List.mem_cons.mp hv with z | hv
    · exact ⟨t, z.trans e⟩
    · exact ListsAt.refs r v hv
theorem RwN.ki {R : Addr} {H H' : Hp} (k : KI H H') : ∀ {vs : List V} {ls : List Ent}, RwN R H vs ls → RwN R H' vs ls
  | [], [], _ => .nil
  | _ :: _, _ :: _, .cons ⟨t, b, m, e, n1, h1, n2, h2, n3, h3⟩ r => .cons ⟨t, b, m, e, n1, k _ _ h1 nh_tup, n2, k _ _ h2 nh_nats, n3, k _ _ h3 nh_nats⟩ (RwN.ki k r)
theorem RwN.new {R R' : Addr} {H : Hp} (hn : H R' = none) : ∀ {vs : List V} {ls : List Ent}, RwN R H vs ls → RwN R' H vs ls
  | [], [], _ => .nil
  | _ :: _, _ :: _, .cons ⟨t, b, m, e, n1, h1, n2, h2, n3, h3⟩ r => .cons ⟨t, b, m, e, ne_of_none h1 hn, h1, ne_of_none h2 hn, h2, ne_of_none h3 hn, h3⟩ (RwN.new hn r)
theorem ListsAt.ki {H H' : Hp} (k : KI H H') : ∀ {vs : List V} {ls : List (List Nat)}, ListsAt H vs ls → ListsAt H' vs ls
  | [], [], _ => .nil
  | _ :: _, _ :: _, .cons ⟨t, e, h⟩ r => .cons ⟨t, e, k _ _ h nh_nats⟩ (ListsAt.ki k r)
theorem WorldAt.ki {H H' : Hp} {p C : Addr} {ds : List Ent} (h : WorldAt H p C ds) (k : KI H H') : WorldAt H' p C ds := by
  have kt : TupK H H' := fun b xs e => k b _ e nh_tup
  obtain ⟨dx, ac, ab, ao, am, ae, ah, cs, bs, ms, es, hs, h1, h2, h3, h4, h5, h6, h7, h8, h9, h10, h11, h12⟩ := h
  exact ⟨dx, ac, ab, ao, am, ae, ah, cs, bs, ms, es, hs, k _ _ h1 nh_ins, kt _ _ h2, h3.mono kt, kt _ _ h4, h5.mono kt, kt _ _ h6, kt _ _ h7, h8.mono kt, kt _ _ h9, h10.mono kt, kt _ _ h11, h12.mono kt⟩
theorem HandAt.ne_of {H : Hp} {p q b : Addr} {o : HO} (h : HandAt H p q) (e : H b = some o) (n : ¬ HandLike o) : b ≠ p := fun z => by
  obtain ⟨cs, i, r, t, h1, _⟩ := h
  rw [z, h1] at e
  exact n ⟨_, _, _, _, (Option.some.inj e).symm⟩
section
variable {P : Program} {w : World} {K : PySem.W.Frag} {C Cb : Addr}
theorem world_q {H : Hp} {wp wdx l : Addr} {us : List V} {ds : List Ent} {Q : VK} {E : XK} (hl : H l = some (.lst us)) (hR : RwN l H us ds) (ok : DsOk ds) (h0 : 1 ≤ ds.length) (h12 : ds.length ≤ 12) (hwp : H wp = none) (hwdx : H wdx = none) (wne : wdx ≠ wp) (q : ∀ H', Same H H' → WorldAt H' wp C ds → Q .non H') :
    spWorld C Cb (.ref wp :: ([.ref l] ++ [])) (upd (upd H wdx (.own wp)) wp (.ins C wdx [])) Q E := by
  have s7 := (same_new (o := .own wp) hwdx).trans (same_new (o := .ins C wdx []) (by rw [upd_ne (Ne.symm wne)]; exact hwp))
  have W7 : upd (upd H wdx (.own wp)) wp (.ins C wdx []) wp = some (.ins C wdx []) := upd_same
  generalize upd (upd H wdx (.own wp)) wp (.ins C wdx []) = G7 at s7 W7 ⊢
  have usl := hR.len
  exact ⟨wp, wdx, .ref l, rfl, W7, .inr ⟨l, us, ds, rfl, .inl (s7 _ _ hl), by omega, by omega, by omega, (hR.keep (KeepX.of s7)).entries ok, .inr ⟨usl.symm, fun H8 O8 hW => q H8 (fun b u e => O8 b u (ne_of_none e hwp) (s7 _ _ e)) hW⟩⟩⟩
end
/-- max(t), t a tuple of whole numbers -/
def rMaxT (K : PySem.W.Frag) : List V → Hp → VK → Prop := fun vs H Q => ∃ (a : Addr) (ns : List Int), vs = [V.ref a] ∧ SqT K H a (ns.map V.int) ∧ 0 < ns.length ∧ ∀ m, m ∈ ns → (∀ y, y ∈ ns → y ≤ m) → Q (.int m) H
theorem foldl_max : ∀ (ns : List Int) (n : Int), n ≤ ns.foldl max n ∧ ∀ y ∈ ns, y ≤ ns.foldl max n
  | [], n => ⟨by show n ≤ n; omega, fun y hy => by cases hy⟩
  | a :: r, n => by
    obtain ⟨h1, h2⟩ := foldl_max r (max n a)
    show n ≤ r.foldl max (max n a) ∧ ∀ y ∈ a :: r, y ≤ r.foldl max (max n a)
    refine ⟨by omega, fun y hy => ?_⟩
    rcases List.mem_cons.mp hy with rfl | hy
    · omega
    · exact h2 y hy
theorem dp_ints {K : PySem.W.Frag} {H : Hp} : ∀ ns : List Int, DpAll K H (ns.map V.int) (ns.map .int)
  | [] => .nil
  | n :: r => .cons (.int _) (dp_ints r)
theorem depth_intsI : ∀ ns : List Int, PyData.depthAll (ns.map .int) = 0
  | [] => by simp [PyData.depthAll]
  | a :: r => by
    rw [List.map_cons, PyData.depthAll, depth_intsI r]
    simp [PyData.depth]
theorem call_maxT {X : Cx} (hc : X.calm = true) (hu : X.A.units + 65 < cLine) : CallR X (.builtin "max") (rMaxT X.K) := by
  intro pins s σ H vs us Q I r h
  obtain ⟨a, ns, rfl, hs, hne, q⟩ := h
  obtain ⟨its, rv, hl, _⟩ := I.tuple hs
  rw [Vals.ref1 r]
  obtain ⟨as, hr⟩ := Dp.readsAll I _ _ _ (dp_ints (K := X.K) (H := H) ns) rv
  match ns, hne with
  | n :: ns, _ =>
    have ha : PySem.W.AlikeAll ((n :: ns).map PyData.int) := by
      refine ⟨fun x hx y hy => ?_, fun x hx => ?_⟩
      · obtain ⟨p, _, rfl⟩ := List.mem_map.mp hx
        obtain ⟨p', _, rfl⟩ := List.mem_map.mp hy
        simp [PySem.W.alike]
      · obtain ⟨p, _, rfl⟩ := List.mem_map.mp hx
        simp
    have hdep := depth_intsI (n :: ns)
    refine PySem.W.max_tuple_data (x := .int n) (xs := ns.map .int) (I.ok.hd hc) hl hr ha (by have : PyData.depthAll (.int n :: ns.map .int) = 0 := hdep; omega) fun i v h' tk bs hv rd hk => ?_
    have hv' : its[i]? = some v := by
      rw [← hv]
      simp
    obtain ⟨u, hu1, hu2⟩ := vals_at rv i v hv'
    have hr' : ReadsAll s.heap its ((n :: ns).map PyData.int) as := hr
    obtain ⟨bs2, rd2, hi, _, _⟩ := PySem.W.readsAll_at hr' i v hv'
    rw [List.length_map] at hi
    obtain ⟨ri, hri⟩ : ∃ ri, (n :: ns)[i]? = some ri := ⟨_, List.getElem?_eq_getElem hi⟩
    have e1 : ((n :: ns).map PyData.int).getD i .none = .int ri := by
      rw [List.getD_eq_getElem?_getD, List.getElem?_map, hri]
      rfl
    rw [e1] at rd2
    rw [PySem.W.maxD_ints] at rd
    have e2 := PySem.W.alike_unique (.int ri) (.int (ns.foldl max n)) _ _ _ (by simp [PySem.W.alike]) (PySem.W.reads_keeps hk rd2) rd
    have e3 : ri = ns.foldl max n := PyData.int.inj e2
    rw [List.getElem?_map, hri] at hu1
    obtain rfl := Option.some.inj hu1
    refine ⟨.int ri, H, I.kept hk, hu2, q ri (List.mem_of_getElem? hri) fun y hy => ?_⟩
    obtain ⟨h1, h2⟩ := foldl_max ns n
    rw [e3]
    rcases List.mem_cons.mp hy with rfl | hy
    · exact h1
    · exact h2 y hy
theorem tIfS_join {c : TT} {tb te : TS} {nx bk ct : L2.St → Hp → Prop} {rt : VK} {σ : L2.St} {H : Hp} (Inv : L2.St → Hp → Prop) (k : ∀ σ H, Inv σ H → nx σ H) (h : ∀ N : L2.St → Hp → Prop, (∀ σ H, Inv σ H → N σ H) → tIfS c tb te ⟨N, rt, bk, ct⟩ σ H) : tIfS c tb te ⟨nx, rt, bk, ct⟩ σ H := h nx k
theorem RwN.set {R : Addr} {H : Hp} {t b m : Addr} {d : Ent} (n1 : t ≠ R) (h1 : H t = some (.tup [.ref b, natV d.2.1, .ref m])) (n2 : b ≠ R) (h2 : H b = some (.lst (d.1.map natV))) (n3 : m ≠ R) (h3 : H m = some (.lst (d.2.2.map natV))) : ∀ {vs : List V} {ls : List Ent} (i : Nat), RwN R H vs ls → RwN R H (vs.set i (.ref t)) (ls.set i d)
  | [], [], _, _ => .nil
  | _ :: _, _ :: _, 0, .cons _ r => .cons ⟨t, b, m, rfl, n1, h1, n2, h2, n3, h3⟩ r
  | _ :: _, _ :: _, i + 1, .cons z r => .cons z (RwN.set n1 h1 n2 h2 n3 h3 i r)
theorem exact_pairs {H : Hp} {t1 t2 : Addr} {us1 us2 : List V} {ps : List (Nat × Nat)} (h1 : H t1 = some (.tup us1)) (h2 : H t2 = some (.tup us2)) (hP1 : PairsAt H us1 ps) (hP2 : PairsAt H us2 ps) (hl : ps.length ≤ 1000) : Exact H 2 (.ref t1) (.ref t2) := by
  refine .inr ⟨t1, t2, us1, us2, rfl, rfl, .inl h1, .inl h2, by rw [hP1.len, hP2.len], by rw [hP2.len]; exact hl, fun i u v hu hv => ?_⟩
  obtain ⟨p1, a1, e1, rfl, g1⟩ := hP1.at hu
  obtain ⟨p2, a2, e2, rfl, g2⟩ := hP2.at hv
  rw [e1] at e2
  obtain rfl := Option.some.inj e2
  exact Exact.tup 0 g1 g2 (fun v hv => by
    rcases List.mem_cons.mp hv with rfl | hv
    · exact True.intro
    · rw [List.mem_singleton.mp hv]
      exact True.intro) (by show 2 ≤ 1000; decide)
theorem tIf_join {c : TT} {a b : TE} {σ : L2.St} {H : Hp} {Q : VK} (Inv : V → Hp → Prop) (k : ∀ v H, Inv v H → Q v H) (h : ∀ Q' : VK, (∀ v H, Inv v H → Q' v H) → tIf c a b σ H Q') : tIf c a b σ H Q := h Q k
end K83

set_option maxRecDepth 100000
set_option maxHeartbeats 4000000
namespace Kw
open PySem PySem.Spec PyProof.Rows L2
/-! ### sets of tuples of ints that grow: set(), add, in -/
/-- a set of tuples at a, what stands in it being there to be read -/
structure TSet (P : Program) (w : World) (K : PySem.W.Frag) (H : Hp) (a : Addr) (L : List (Addr × List Int)) : Prop where
  at_ : H a = some (SetTO P w a L)
  tup : ∀ p ∈ L, H p.1 = some (.tup (p.2.map V.int))
theorem setTO_at {X : Cx} {pins : List (Addr × Obj)} {σ : L2.St} {H : Hp} {s : Shared} {a : Addr} {L : List (Addr × List Int)} (I : Inv X pins σ H s) (h : TSet X.prog X.w X.K H a L) : ∃ es ep t, SetTR X.prog X.w s.heap a L es ep t := by
  have R : SetT0 X.prog X.w s.heap a L := (I.hok a _ h.at_).1
  exact R.full fun p hp => I.isT (SqT.of (h.tup p hp))
def rSet0T (P : Program) (w : World) : List V → Hp → VK → Prop := fun xs H Q => xs = [] ∧ ∀ p, H p = none → Q (.ref p) (upd H p (SetTO P w p []))
theorem cr_set0T {X : Cx} : CallR X (.type "set") (rSet0T X.prog X.w) := by
  intro pins s σ H xs us Q I r h
  obtain ⟨rfl, q⟩ := h
  cases r
  refine setR_new fun _ => ?_
  have new : SetTR X.prog X.w (s.heap.push { cls := .type "set", dict := none, data := .set #[] 0 (.fresh 0 0 (!X.w.params.followText "set-order")) }) s.heap.objs.size [] #[] 0 (.fresh 0 0 (!X.w.params.followText "set-order")) := setTR_fresh (Heap.get?_push_size _ rfl)
  exact ⟨.ref _, upd H s.heap.objs.size (SetTO X.prog X.w s.heap.objs.size []), I.laid (t' := s.toks) (fun b u e => Heap.get?_push_of_some _ e) (Nat.le_refl _) (setTO_new new.t0), rfl, q _ (I.hok.fresh (Nat.le_refl _))⟩
def rSAddT (P : Program) (w : World) (K : PySem.W.Frag) : V → List V → Hp → VK → Prop := fun x xs H Q => ∃ (a b : Addr) (k : List Int) (L : List (Addr × List Int)), x = V.ref a ∧ xs = [V.ref b] ∧ TSet P w K H a L ∧ H b = some (.tup (k.map V.int)) ∧ L.length + 1 < 64 ∧
  ∀ L', (k ∈ L.map (·.2) → L' = L) → (k ∉ L.map (·.2) → L'.Perm ((b, k) :: L)) → Q .non (upd H a (SetTO P w a L'))
theorem mt_saddT {X : Cx} (hu : X.A.units + 64 < cLine) : MtR X "set.add" (rSAddT X.prog X.w X.K) := by
  intro pins s σ H x xs v us Q I rx rxs h
  obtain ⟨a, b, k, L, rfl, rfl, hS, hb, few, q⟩ := h
  cases rx
  cases rxs with
  | cons ry rt =>
    cases rt
    cases ry
    have hu1 : X.A.in1.units < cLine := by
      show X.A.units + 1 < cLine
      omega
    obtain ⟨es, ep, t, R⟩ := setTO_at I hS
    have hx : IsT X.prog X.w s.heap k b := I.isT (SqT.of hb)
    obtain ⟨o, ho, hex, hd⟩ := R.ob
    refine wpAny_call_entry F.slot_set_add ⟨o, ho, hex.1⟩ F.entry_set_add ?_ (F.args_set_add_2 _ _)
    unfold Builtin.«set.add» Builtin.Frozenset.oneOther
    simp only [List.isEmpty_nil, bind_assoc]
    unfold Builtin.Frozenset.addrOf setAdd
    refine wpAny_bind (wpAny_pure ?_)
    try dsimp only
    refine wpAny_bind (wpAny_pure ?_)
    try dsimp only
    refine wpAny_bind ?_
    refine wpAny_holding ?_
    refine wpAny_bind (wpAny_pyHash_tuple hu1 hx ?_)
    refine add_at (s := { s with toks := s.toks + (k.length + 1) }) R hx hu1 few fun b' h' L' es' ep' t' hsb hS2 c1 c2 => ?_
    have he : ∃ u, h'.get? a = some u := by
      obtain ⟨o, ho, _⟩ := hS2.ob
      exact ⟨o, ho⟩
    show wpAny _ _ (ret Value.none) _ _ _
    exact wpAny_pure ⟨_, rfl, ⟨.non, upd H a (SetTO X.prog X.w a L'), I.write (e := a) (t' := s.toks + (k.length + 1)) (by rw [hS.at_]; trivial) (.inl rfl) (fun b u hb hu => (hsb.2 b hb).trans hu) he (setTO_new hS2.t0), rfl, q L' c1 c2⟩⟩
/-! ### in: the search that adds nothing -/
/-- where the search stands behind c steps -/
def prb (t : SetTable) (h : Int) (c : Nat) : SetTable.Probe := nth t.mask (t.probeStart h) c
theorem prb_off {t : SetTable} {h : Int} (c q : Nat) : nth t.mask (prb t h c) q = prb t h (c + q) := (nth_add t.mask c _ q).symm
theorem prb_j {t : SetTable} {h : Int} (c : Nat) : (prb t h c).j = way t.mask h c := rfl
theorem nth_clean {m : Nat} : ∀ (n : Nat) {p : SetTable.Probe}, p.dummy = none → (nth m p n).dummy = none
  | 0, _, e => e
  | n + 1, p, e => nth_clean n (p := adv m p) (by unfold adv; split <;> exact e)
section
variable {P : Program} {w : World} {A : Around} {E : Value → Shared → Prop} {s : Shared} {a x : Addr} {L : List (Addr × List Int)} {es : Array (Int × Value)} {ep : Nat} {t : SetTable} {k : List Int}
theorem look_from (R : SetTR P w s.heap a L es ep t) (hx : IsT P w s.heap k x) (hu : A.units < cLine) {K : Nat} {hk : Int} (ehk : thash P w k = hk) (far : K < 10 * SetTable.turns t.mask) (hole : way t.mask hk K ∉ t.place.toList) (full : ∀ c, c < K → way t.mask hk c ∈ t.place.toList)
    {Q : SetFound → Shared → Prop} (yes : ∀ i, k ∈ L.map (·.2) → Q (.there (some i)) s) (no : k ∉ L.map (·.2) → Q (.free (way t.mask hk K) false) s) :
    ∀ (f c : Nat) (o : Option SetTable.Probe), o.getD (t.probeStart hk) = prb t hk c → c ≤ K → K - c < f →
      (∀ (i : Nat) (p : Addr × List Int), L[i]? = some p → p.2 = k → ∃ d, c ≤ d ∧ d < K ∧ t.place.toList[i]? = some (way t.mask hk d)) →
      wpAny (model P w) A (setSearchFrom a (.ref x) hk false f o) Q E s := by
  intro f
  induction f with
  | zero => exact fun c o _ _ z _ => absurd z (Nat.not_lt_zero _)
  | succ f ih =>
    intro c o eo hc hf ahead
    obtain ⟨ob, hob, hex, hd⟩ := R.ob
    rw [setSearchFrom_succ]
    refine wpAny_bind (wpAny_setState_of hob hd R.fits ?_)
    dsimp only
    refine wp_if_neg R.gw ?_
    try refine wpAny_bind (wpAny_pure ?_)
    have wj : ∀ q, (nth t.mask (prb t hk c) q).j = way t.mask hk (c + q) := fun q => by rw [prb_off, prb_j]
    have at_ : ∀ (i : Nat) (p : Addr × List Int), L[i]? = some p → (es[i]?.map (·.1)).getD 0 = thash P w p.2 := fun i p hp => by rw [R.entry hp]; rfl
    have same : ∀ (i : Nat) (p : Addr × List Int), L[i]? = some p → p.2 = k → (es[i]?.map (·.1)).getD 0 = hk := fun i p hp e => by rw [at_ i p hp, e, ehk]
    rcases go_spec t R.tab.ris R.tab.dm (fun i => (es[i]?.map (·.1)).getD 0) hk (10 * SetTable.turns t.mask) (K - c) (prb t hk c) (nth_clean c rfl) (by omega)
      (fun q hq => by rw [wj]; exact full _ (by omega)) (by rw [wj, show c + (K - c) = K by omega]; exact hole) with ⟨q, i, hq, hi, hh, first, met⟩ | ⟨first, met⟩
    · rw [wj] at hi met
      rw [prb_off] at met
      have met : t.probe (fun i => (es[i]?.map (·.1)).getD 0) hk (o.getD (t.probeStart hk)) = some (.candidate (way t.mask hk (c + q)) i (prb t hk (c + (q + 1)))) := by
        rw [eo]
        exact met
      rw [met]
      dsimp only
      have il : i < L.length := by
        have h1 := (List.getElem?_eq_some_iff.mp hi).1
        have h2 := R.tab.sz
        rw [List.length_map] at h2
        rw [Array.length_toList] at h1
        omega
      obtain ⟨p, hp⟩ : ∃ p, L[i]? = some p := ⟨_, List.getElem?_eq_getElem il⟩
      have pm := List.mem_of_getElem? hp
      have slot := slot_live R.tab.ris hi
      have rest : wpAny (model P w) A (searchRest a (.ref x) hk false f es t (way t.mask hk (c + q)) i (prb t hk (c + (q + 1)))) Q E s := by
        unfold searchRest
        rw [R.entry hp]
        dsimp only
        refine wpAny_bind (wpAny_holding (wpAny_eqBool_tuple hu (R.tup p pm) hx ?_))
        refine wpAny_bind (wpAny_setState_of hob hd R.fits ?_)
        dsimp only
        refine wp_if_neg (by simp) ?_
        try refine wpAny_bind (wpAny_pure ?_)
        rw [sameMem]
        dsimp only
        simp only [if_true, slot, R.entry hp]
        refine wpAny_bind (wpAny_isSame_ref_self (wpAny_bind (wpAny_pure ?_)))
        simp only [if_true]
        by_cases e : p.2 = k
        · refine wp_if_pos (by simp [e]) (wpAny_pure (yes i (List.mem_map.mpr ⟨p, pm, e⟩)))
        · refine wp_if_neg (by simp [e]) (ih (c + (q + 1)) _ rfl (by omega) (by omega) fun j z hz ez => ?_)
          obtain ⟨d, d1, d2, d3⟩ := ahead j z hz ez
          refine ⟨d, Classical.byContradiction fun nd => ?_, d2, d3⟩
          by_cases dq : d = c + q
          · rw [dq] at d3
            have two := slot_live R.tab.ris d3
            rw [slot] at two
            injection two with two
            rw [← two, hp] at hz
            exact e (by rw [Option.some.inj hz]; exact ez)
          · refine first (d - c) j (by omega) (by rw [wj, show c + (d - c) = d by omega]; exact d3) (same j z hz ez)
      by_cases hl : t.led = true
      · refine wp_if_neg (by simp [hl]) ?_
        try refine wpAny_bind (wpAny_pure ?_)
        exact rest
      · refine wp_if_pos (by simp [hl]) (wpAny_bind (seen_tup hx (fun y hy => ?_) ?_))
        · obtain ⟨e, he, rfl⟩ := List.mem_map.mp hy
          have he : e ∈ es.toList := by
            have : e ∈ es ∧ e.1 = hk := by simpa using he
            simpa using this.1
          rw [R.rows] at he
          obtain ⟨z, hz, rfl⟩ := List.mem_map.mp he
          exact ⟨z.2, z.1, rfl, R.tup z hz⟩
        · refine wp_if_neg (by decide) ?_
          try refine wpAny_bind (wpAny_pure ?_)
          exact rest
    · rw [wj, show c + (K - c) = K by omega] at met
      have met : t.probe (fun i => (es[i]?.map (·.1)).getD 0) hk (o.getD (t.probeStart hk)) = some (.empty (way t.mask hk K) none) := by
        rw [eo]
        exact met
      rw [met]
      dsimp only
      refine wpAny_pure (no fun hm => ?_)
      obtain ⟨z, hz, ez⟩ := List.mem_map.mp hm
      obtain ⟨j, hj⟩ := List.mem_iff_getElem?.mp hz
      obtain ⟨d, d1, d2, d3⟩ := ahead j z hj ez
      exact first (d - c) j (by omega) (by rw [wj, show c + (d - c) = d by omega]; exact d3) (same j z hj ez)
theorem look_at (R : SetTR P w s.heap a L es ep t) (hx : IsT P w s.heap k x) (hu : A.units < cLine) {Q : Option Nat → Shared → Prop} (q : ∀ r : Option Nat, r.isSome = decide (k ∈ L.map (·.2)) → Q r s) :
    wpAny (model P w) A (setFind a (.ref x) (thash P w k)) Q E s := by
  obtain ⟨ob, hob, hex, hd⟩ := R.ob
  have hroom := R.room
  obtain ⟨K, far, hole, full⟩ := R.tab.first (by rw [List.length_map]; omega) (thash P w k)
  have big : K < 100000 := by
    have : 10 * SetTable.turns t.mask ≤ 1420 := by
      unfold SetTable.turns
      rcases R.tab.mok with e | e | e <;> omega
    omega
  unfold setFind setFindIn
  refine wpAny_bind (wpAny_setState_of hob hd R.fits ?_)
  dsimp only
  refine wp_if_neg (by simp [byScan, Value.scannable]) ?_
  try refine wpAny_bind (wpAny_pure ?_)
  unfold setSearch
  refine wpAny_bind (look_from R hx hu rfl far hole full (fun i hm => ?_) (fun hm => ?_) 100000 0 none rfl (Nat.zero_le _) (by omega) fun i p hp e => ?_)
  · dsimp only
    exact wpAny_pure (q _ (by rw [decide_eq_true hm]; rfl))
  · dsimp only
    exact wpAny_pure (q _ (by rw [decide_eq_false hm]; rfl))
  · have hi : (L.map fun p => thash P w p.2)[i]? = some (thash P w k) := by rw [List.getElem?_map, hp, ← e]; rfl
    have il : i < t.place.toList.length := by
      have h1 := (List.getElem?_eq_some_iff.mp hp).1
      have h2 := R.tab.sz
      rw [List.length_map] at h2
      rw [Array.length_toList]
      omega
    have hj := List.getElem?_eq_getElem il
    obtain ⟨d, hd, e⟩ := R.tab.before hole hi hj
    exact ⟨d, Nat.zero_le _, hd, by rw [hj, e]⟩
end
def rSInT (P : Program) (w : World) (K : PySem.W.Frag) : V → V → Hp → VK → Prop := fun x y H Q => ∃ (b a : Addr) (k : List Int) (L : List (Addr × List Int)), x = V.ref b ∧ y = V.ref a ∧ H b = some (.tup (k.map V.int)) ∧ TSet P w K H a L ∧ Q (.bl (decide (k ∈ L.map (·.2)))) H
theorem or_sinT {X : Cx} (hu : X.A.units + 64 < cLine) : OpR X (compareOp .In) (rSInT X.prog X.w X.K) := by
  intro pins s σ H x y v u Q I rx ry h
  obtain ⟨b, a, k, L, rfl, rfl, hb, hS, q⟩ := h
  cases rx
  cases ry
  obtain ⟨es, ep, t, R⟩ := setTO_at I hS
  have hx : IsT X.prog X.w s.heap k b := I.isT (SqT.of hb)
  obtain ⟨o, ho, hex, hd⟩ := R.ob
  have hT : s.TypeIs (.ref a) "set" := ⟨o, ho, hex.1⟩
  show wpAny _ _ (do return Value.bool (← contains (Value.ref a) (Value.ref b))) _ _ s
  refine wpAny_bind ?_
  unfold contains
  try with_reducible refine wpAny_holding ?_
  refine wpAny_bind (wpAny_specialOf hT F.slot_set_contains.lookup ?_)
  show wpAny _ _ (if (some (Value.builtin "set.__contains__") == some Value.none) = true then _ else _) _ _ s
  rw [if_neg (by rw [beq_builtin_none]; exact Bool.false_ne_true)]
  have hu1 : X.A.in1.in1.units < cLine := by
    show X.A.units + 1 + 1 < cLine
    omega
  have hu2 : X.A.in1.units < cLine := by
    show X.A.units + 1 < cLine
    omega
  refine wpAny_bind (wpAny_callSpecialUnlessNone?_slot (name := Str.ofString "__contains__") hT F.slot_set_contains (wpAny_call_entry F.slot_set_contains hT entry_set_contains ?_ (F.args_set_contains_2 _ _)))
  unfold Builtin.«frozenset.__contains__» Builtin.Frozenset.oneOther
  simp only [List.isEmpty_nil, bind_assoc]
  unfold Builtin.Frozenset.addrOf Builtin.Frozenset.withSetAsKey setContains
  refine wpAny_bind (wpAny_pure ?_)
  try dsimp only
  refine wpAny_bind (wpAny_pure ?_)
  try dsimp only
  refine wpAny_bind (wpAny_tryCatch ?_)
  refine wpAny_holding ?_
  refine wpAny_bind (wpAny_pyHash_tuple (by first | exact hu2 | exact hu1) hx ?_)
  refine wpAny_bind (look_at (s := { s with toks := s.toks + (k.length + 1) }) R hx (by first | exact hu2 | exact hu1) fun r hr => ?_)
  refine wpAny_pure ?_
  show wpAny _ _ (ret (Value.bool r.isSome)) _ _ _
  rw [hr]
  exact wpAny_pure ⟨_, rfl, wpAny_truthy_bool (wpAny_pure ⟨.bl (decide (k ∈ L.map fun (z : Addr × List Int) => z.2)), H, I.tok _, rfl, q⟩)⟩
def tAddT (P : Program) (w : World) (K : PySem.W.Frag) (to : TE) (t : TA) : TE := fun σ H Q => to σ H fun x H1 => (∃ a L, x = V.ref a ∧ H1 a = some (SetTO P w a L)) ∧ t σ H1 fun xs H2 => rSAddT P w K x xs H2 Q
theorem pe_addT {X : Cx} {o e : Expr} {es : List Expr} {to : TE} {t : TA} {apos cpos : Pos} (hu : X.A.units + 64 < cLine) (ho : PE X o to) (ha : PA X (e :: es) t)
    (h1 : attributeBase o "add" X.env (eval o X.env) = eval o X.env := by rfl)
    (h2 : ((backTo cpos (starEach (e :: es) X.env)).all (fun x => !x.1) && (backToKw cpos (keywordEach [] X.env)).all (fun x => x.1.isSome) && decide ((e :: es).length + ([] : List Keyword).length + (if ([] : List Keyword).isEmpty then 0 else 1) < 30)) = true := by rfl)
    (h3 : (apos.endLine == cpos.line) = true := by rfl) (h4 : starEach (e :: es) X.env = (false, eval e X.env) :: starEach es X.env := by rfl) (h5 : (backTo cpos (starEach es X.env)).any (·.1) = false := by rfl) :
    PE X (.Call (.Attribute o "add" apos) (e :: es) [] cpos) (tAddT X.prog X.w X.K to t) := by
  refine ⟨fun pins s σ H Q I h => wpAny_Call_method_late h1 h2 h3 rfl (thn (ho.run pins s σ H _ I h) fun v s1 ⟨x, H1, I1, r1, ty, q1⟩ => ?_)⟩
  obtain ⟨a, L, rfl, hka⟩ := ty
  have R0 : SetT0 X.prog X.w s1.heap a L := (I1.hok a _ hka).1
  obtain ⟨es', ep, t', ⟨ob, hob, hex, hd⟩, _⟩ := R0.ex
  cases r1
  refine ⟨"set", "set.add", F.plainAttrs_set, F.slot_set_add, F.type_set_add, ⟨ob, hob, hex.1⟩, fun b e => ?_, ?_⟩
  · injection e with e
    subst e
    exact ⟨ob, hob, hex.2.1⟩
  have hA := ha.run cpos pins s1 σ H1 _ I1 q1
  rw [h4] at hA ⊢
  refine Calls.callWith_builtin (by show (false || (backTo cpos (starEach es X.env)).any (·.1)) = false; rw [h5]; rfl) (Calls.evalArgs_plain (thn hA fun us s2 ⟨vs, H2, I2, r2, q2⟩ => ?_))
  exact mt_saddT hu pins s2 σ H2 (.ref a) vs (.ref a) us Q I2 rfl r2 q2
/-- x is True, x is False; x anything plain -/
def rIsBx : R2 := fun x y H Q => ∃ b : Bool, y = .bl b ∧ Q (.bl (decide (x = .bl b))) H
theorem op_isBx {X : Cx} : OpR X (compareOp .Is) rIsBx := by
  intro pins s σ H x y v u Q I rx ry h
  obtain ⟨b, rfl, q⟩ := h
  cases (show u = Value.bool b from ry)
  by_cases e : x = .bl b
  · subst e
    cases (show v = Value.bool b from rx)
    exact wpAny_is_self rfl ⟨.bl true, H, I, rfl, by simpa using q⟩
  · have ne : v ≠ Value.bool b := fun z => by
      subst z
      cases x with
      | bl a => exact e (by rw [Value.bool.inj (show Value.bool b = Value.bool a from rx)])
      | non => cases rx
      | int i => obtain ⟨t, z⟩ := rx; cases z
      | str i => obtain ⟨t, z⟩ := rx; cases z
      | byt i => obtain ⟨t, z⟩ := rx; cases z
      | flt i => obtain ⟨t, z⟩ := rx; cases z
      | ref i => cases rx
      | ty i => cases rx
    rw [decide_eq_false e] at q
    refine wpAny_is_other ?_ ne ⟨.bl false, H, I, rfl, q⟩
    cases x <;> first
      | (cases rx; rfl)
      | (obtain ⟨t, rfl⟩ := rx; rfl)
end Kw

set_option maxRecDepth 100000
set_option maxHeartbeats 8000000
namespace K83
open PySem PySem.Spec PyProof.Rows L2 Kw
theorem rIx_q {K : PySem.W.Frag} {H : Hp} {a : Addr} {xs : List V} {i : Nat} {v : V} {Q : VK} (hA : SeqAt H a xs) (h : xs[i]? = some v) (q : Q v H) : rIx K (.ref a) (.int (i : Int)) H Q := by
  rcases hA with hA | hA
  · exact .inl ⟨a, xs, _, v, rfl, rfl, SqL.of hA, atI_nat h, q⟩
  · exact .inr (.inl ⟨a, xs, _, v, rfl, rfl, SqT.of hA, atI_nat h, q⟩)
def basesOf (ds : List Ent) (c : Nat) : List Nat := (ds.getD c ([], 0, [])).1
/-- a link: a class and a base of it -/
def linkB (ds : List Ent) (c b : Nat) : Bool := decide (c < ds.length) && (basesOf ds c).contains b
section
variable {P : Program} {w : World} {K : PySem.W.Frag} {mg : Str → Option Value} {base : Heap} {f fS fW fC C : Addr} {fd fdS fdW fdC : FuncData}
/-- a couple of whole numbers -/
def spCouple : Sp := fun vs H Q _ => ∃ (a : Addr) (x y : Nat), vs = [.ref a] ∧ SeqAt H a [natV x, natV y] ∧ ∀ H', Same H H' → Q (.bl true) H'
theorem sc_couple : FnScope ["thing"] ["thing"] (defScope (top 13)) := ⟨rfl, rfl, rfl, by decide +kernel, rfl, by decide +kernel, by decide +kernel⟩
theorem ok_couple (F : FnP K "is_whole_couple" 13 f fd) (B : Fr mg) (FS : FnP K "is_sequence" 10 fS fdS) (mS : mg "is_sequence" = some (.ref fS)) (FW : FnDf K "is_whole" 11 [.non, .non] fW fdW) (mW : mg "is_whole" = some (.ref fW)) : FnOk P w K mg base CX0 2 f fd ["thing"] spCouple := by
  have GS : FnOk P w K mg base CX0 1 fS fdS ["thing"] spIsSeq := ok_isSeq FS B
  have GW : FnOk P w K mg base CX0 1 fW fdW ["thing", "low", "high"] spWhole := ok_whole FW B
  have bS : L2.Binds K fdS ["thing"] [] := FS.bindsN fun _ _ _ _ _ _ us hl => match us, hl with | [_], _ => rfl
  obtain ⟨dsv, vds, bWh⟩ := binds_whole1 FW
  refine F.ok sc_couple (fun vs H Q E h => ?_) (fun cdv A outer s H vs Q E hr h => ?_)
  · obtain ⟨a, x, y, rfl, _⟩ := h
    rfl
  · obtain ⟨a, x, y, rfl, hA, k⟩ := h
    refine ⟨_, PSs.nox (pss_one (ps_ret (pe_and (pe_call GS hr (by rfl) mS FS.kp bS .nil pass0 (pa_cons (pv 0) pa_nil)) (pe_and (pe_cmpR op_eq (pe_callB call_len_seq (by rfl) B.len PySem.boot_len (pa_cons (pv 0) pa_nil)) pe_int (nomark _))
      (pe_and (pe_call GW hr (by rfl) mW FW.kp bWh vds pass0 (pa_cons (pe_ix ix_seq (pv 0) pe_int (fun _ _ => rfl)) pa_nil)) (pe_one (pe_call GW hr (by rfl) mW FW.kp bWh vds pass0 (pa_cons (pe_ix ix_seq (pv 0) pe_int (fun _ _ => rfl)) pa_nil)))))))), ?_⟩
    obtain ⟨t, ty, hseq⟩ := hA.ty
    refine ⟨_, rfl, .ref a, t, rfl, ty, fun H1 s1 => ?_⟩
    have hA1 := hA.same s1
    refine ⟨_, rfl, ?_⟩
    rw [hseq]
    refine iteT' rfl ?_
    refine ⟨_, rfl, a, _, rfl, hA1.sq, rfl, _, rfl, iteT' rfl ?_⟩
    refine ⟨_, rfl, rIx_q (i := 0) hA1 rfl ⟨_, _, _, "int", rfl, .int _, .inl rfl, .inl rfl, _, rfl, iteT' rfl ?_⟩⟩
    exact ⟨_, rfl, rIx_q (i := 1) hA1 rfl ⟨_, _, _, "int", rfl, .int _, .inl rfl, .inl rfl, k _ s1⟩⟩
def spLink (C : Addr) : Sp := fun vs H Q _ => ∃ (p a : Addr) (ds : List Ent) (c b : Nat), vs = [.ref p, .ref a] ∧ WorldAt H p C ds ∧ ds.length ≤ 12 ∧ SeqAt H a [natV c, natV b] ∧ ∀ H', Same H H' → Q (.bl (linkB ds c b)) H'
theorem sc_link : FnScope ["world", "thing"] ["world", "thing"] (defScope (top 18)) := ⟨rfl, rfl, rfl, by decide +kernel, rfl, by decide +kernel, by decide +kernel⟩
theorem ok_link (F : FnP K "is_link_of" 18 f fd) (B : Fr mg) (TC : ClsWorld K mg C) (FC : FnP K "is_whole_couple" 13 fC fdC) (mC : mg "is_whole_couple" = some (.ref fC)) (GC : FnOk P w K mg base CX0 2 fC fdC ["thing"] spCouple) (FW : FnDf K "is_whole" 11 [.non, .non] fW fdW) (mW : mg "is_whole" = some (.ref fW)) : FnOk P w K mg base CX0 3 f fd ["world", "thing"] (spLink C) := by
  have GW : FnOk P w K mg base CX0 1 fW fdW ["thing", "low", "high"] spWhole := ok_whole FW B
  have bC : L2.Binds K fdC ["thing"] [] := FC.bindsN fun _ _ _ _ _ _ us hl => match us, hl with | [_], _ => rfl
  have bW := binds_whole3 FW
  refine F.ok sc_link (fun vs H Q E h => ?_) (fun cdv A outer s H vs Q E hr h => ?_)
  · obtain ⟨p, a, ds, c, b, rfl, _⟩ := h
    rfl
  · obtain ⟨p, a, ds, c, b, rfl, hw, h12, hA, k⟩ := h
    refine ⟨_, PSs.nox (pss_cons (ps_if (PW.pt (pw_or (pt_not (pt_val (pe_call GC hr (by rfl) mC FC.kp bC .nil pass0 (pa_cons (pv 1) pa_nil)))) (pw_or1 (pt_not (pt_val (pe_call GW (hr.mono (by decide)) (by rfl) mW FW.kp bW .nil pass0 (pa_cons (pe_ix ix_seq (pv 1) pe_int (fun _ _ => rfl)) (pa_cons pe_int (pa_cons (pe_op op_sub (pe_callB call_len_seq (by rfl) B.len PySem.boot_len (pa_cons (pe_fld (pv 0) rfl) pa_nil)) pe_int) pa_nil))))))))) (pss_one (ps_ret pe_bl)) pss_nil)
      (pss_one (ps_ret (pe_cmpR (r := rIn K false) op_in_seq (pe_ix ix_seq (pv 1) pe_int (fun _ _ => rfl)) (pe_ix (r := rIxT K) ix_tup (pe_fld (pv 0) rfl) (pe_ix ix_seq (pv 1) pe_int (fun _ _ => rfl)) (fun _ _ => rfl)) (by rfl))))), ?_⟩
    obtain ⟨dx, ac, ab, ao, am, ae, ah, cs, bs, ms, es, hs, h1, h2, h3, h4, h5, _⟩ := hw
    have lcs : cs.length = ds.length := h3.len
    refine ⟨_, rfl, a, c, b, rfl, hA, fun H1 s1 => ⟨_, rfl, iteF' rfl ?_⟩⟩
    have hA1 := hA.same s1
    refine ⟨_, rfl, rIx_q (i := 0) hA1 rfl ⟨_, rfl, p, C, dx, _, _, rfl, s1 _ _ h1, TC.cl, TC.no _ (List.mem_of_getElem? (i := 0) rfl), rfl, ac, cs, rfl, .inr (SqT.of (s1 _ _ h2)), _, _, rfl, rfl, natV c, _, _, "int", rfl, .int _, .inr ⟨_, rfl⟩, .inr ⟨_, rfl⟩, _, rfl, ?_⟩⟩
    have ew : wholeB (.int 0) (.int ((cs.length : Int) - 1)) (natV c) = decide (c < ds.length) := by
      show (decide ((0 : Int) ≤ (c : Int)) && decide ((c : Int) ≤ (cs.length : Int) - 1)) = _
      rw [decide_eq_true (show (0 : Int) ≤ (c : Int) by omega), Bool.true_and]
      by_cases z : c < ds.length
      · rw [decide_eq_true z, decide_eq_true (by omega)]
      · rw [decide_eq_false z, decide_eq_false (by omega)]
    show (if (!wholeB (.int 0) (.int ((cs.length : Int) - 1)) (natV c)) = true then _ else _)
    rw [ew]
    by_cases z : c < ds.length
    · rw [decide_eq_true z]
      refine iteF' rfl ?_
      refine ⟨_, rfl, rIx_q (i := 1) hA1 rfl ⟨_, rfl, p, C, dx, _, _, rfl, s1 _ _ h1, TC.cl, TC.no _ (List.mem_of_getElem? (i := 1) rfl), rfl, _, rfl, rIx_q (i := 0) hA1 rfl ?_⟩⟩
      obtain ⟨d, hd⟩ : ∃ d, ds[c]? = some d := ⟨_, List.getElem?_eq_getElem z⟩
      have ed : basesOf ds c = d.1 := by
        unfold basesOf
        rw [List.getD_eq_getElem?_getD, hd]
        rfl
      obtain ⟨t, e1, e2⟩ := h5.get (i := c) (l := d.1) (by rw [List.getElem?_map, hd]; rfl)
      refine ⟨ab, bs, (c : Int), .ref t, rfl, rfl, SqT.of (s1 _ _ h4), atI_nat e1, t, _, rfl, .inr (SqT.of (s1 _ _ e2)), rfl, flat_nats _, ?_⟩
      have e : inV (natV b) (d.1.map natV) = linkB ds c b := by
        unfold linkB
        rw [decide_eq_true z, Bool.true_and, ed]
        exact inV_nat _ _
      show Q (.bl (inV (natV b) (d.1.map natV))) H1
      rw [e]
      exact k _ s1
    · rw [decide_eq_false z]
      refine iteT' rfl ?_
      have e : linkB ds c b = false := by
        unfold linkB
        rw [decide_eq_false z, Bool.false_and]
      rw [← e]
      exact k _ s1
end
end K83

set_option maxRecDepth 100000
set_option maxHeartbeats 8000000
namespace K83
open PySem PySem.Spec PyProof.Rows L2 Kw
/-! ### ways: a class, a base of it, and so on -/
def IsWay (ds : List Ent) (ws : List Nat) : Prop := (∃ c, ws[0]? = some c ∧ c < ds.length) ∧ ∀ i c b, ws[i]? = some c → ws[i + 1]? = some b → b ∈ basesOf ds c
theorem basesOf_lt {ds : List Ent} (ok : DsOk ds) {c b : Nat} (h : b ∈ basesOf ds c) : b < c ∧ c < ds.length := by
  unfold basesOf at h
  rw [List.getD_eq_getElem?_getD] at h
  cases e : ds[c]? with
  | none =>
    rw [e] at h
    cases h
  | some d =>
    rw [e] at h
    exact ⟨(ok c d e).2.1 b h, (List.getElem?_eq_some_iff.mp e).1⟩
theorem IsWay.lt {ds : List Ent} {ws : List Nat} (h : IsWay ds ws) (ok : DsOk ds) : ∀ {i c : Nat}, ws[i]? = some c → c < ds.length
  | 0, c, e => by
    obtain ⟨c', e', l⟩ := h.1
    rw [e] at e'
    obtain rfl := Option.some.inj e'
    exact l
  | i + 1, b, e => by
    obtain ⟨c, hc⟩ : ∃ c, ws[i]? = some c := ⟨_, List.getElem?_eq_getElem (by have := (List.getElem?_eq_some_iff.mp e).1; omega)⟩
    have := basesOf_lt ok (h.2 i c b hc e)
    omega
/-- y goes on from the class c: a base of it -/
def stepB (ds : List Ent) (c : Nat) (y : V) : Bool := wholeB .non .non y && inV y ((basesOf ds c).map natV)
theorem stepB_nat {ds : List Ent} {c b : Nat} : stepB ds c (natV b) = (basesOf ds c).contains b := by
  unfold stepB
  rw [show wholeB .non .non (natV b) = true from rfl, Bool.true_and]
  exact inV_nat _ _
/-- a thing as a way: right, or the index of the first fault -/
inductive WayIs (H : Hp) (ds : List Ent) (x : V) : Option Nat → Prop where
  | odd {t : String} (ty : Ty0 H x t) (hs : seqT t = false) : WayIs H ds x (some 0)
  | none {a : Addr} (e : x = .ref a) (hA : SeqAt H a []) : WayIs H ds x (some 0)
  | first {a : Addr} {xs : List V} {y : V} {t : String} (e : x = .ref a) (hA : SeqAt H a xs) (hl : xs.length ≤ 1000) (hy : xs[0]? = some y) (ty : Ty0 H y t) (hb : wholeB (.int 0) (.int ((ds.length : Int) - 1)) y = false) : WayIs H ds x (some 0)
  | bad {a : Addr} {xs : List V} {i c : Nat} {ws : List Nat} {y : V} {t : String} (e : x = .ref a) (hA : SeqAt H a xs) (hl : xs.length ≤ 1000) (pre : xs.take (i + 1) = ws.map natV) (hw : IsWay ds ws) (hc : ws[i]? = some c) (hy : xs[i + 1]? = some y) (ty : Ty0 H y t) (hb : stepB ds c y = false) : WayIs H ds x (some (i + 1))
def GoodWay (H : Hp) (ds : List Ent) (x : V) (ws : List Nat) : Prop := ∃ a, x = .ref a ∧ SeqAt H a (ws.map natV) ∧ IsWay ds ws ∧ ws.length ≤ 1000
/-- a Links as an object -/
def LinksAt (H : Hp) (p Cl wp C : Addr) (ds : List Ent) (ls : List (Nat × Nat)) : Prop := ∃ dx st us, H p = some (.ins Cl dx [("world", .ref wp), ("shared", .ref st)]) ∧ WorldAt H wp C ds ∧ H st = some (.tup us) ∧ PairsAt H us ls
theorem LinksAt.mono {H H' : Hp} {p Cl wp C : Addr} {ds : List Ent} {ls : List (Nat × Nat)} (h : LinksAt H p Cl wp C ds ls) (s : Same H H') : LinksAt H' p Cl wp C ds ls := by
  obtain ⟨dx, st, us, h1, h2, h3, h4⟩ := h
  exact ⟨dx, st, us, s _ _ h1, h2.mono s, s _ _ h3, h4.same s⟩
section
variable {P : Program} {w : World} {K : PySem.W.Frag} {mg : Str → Option Value} {base : Heap} {f fS fW fG C Cl Cg : Addr} {fd fdS fdW fdG : FuncData}
theorem sc_badWay : FnScope ["self", "index"] ["self", "index"] (defScope (inClass (top 8) 0)) := ⟨rfl, rfl, rfl, by decide +kernel, rfl, by decide +kernel, by decide +kernel⟩
theorem ok_badWay (F : FnM K "__init__" "BadWay.__init__" (inClass (top 8) 0) f fd) (T : ErrX K mg "BadWay" ["index"] C f) : FnOk P w K mg base CX0 1 f fd ["self", "index"] (spR C ["index"]) ∧ Binds K fd ["self", "index"] [] := by
  refine ⟨F.ok sc_badWay (fun vs H Q E h => ?_) (fun cdv A outer s H vs Q E hr h => ?_), F.bindsN fun _ _ _ _ _ _ us hl => match us, hl with | [_, _], _ => rfl⟩
  · obtain ⟨a, xs, rfl, hl, _⟩ := h
    exact congrArg Nat.succ hl
  · obtain ⟨a, xs, rfl, hl, ha, k⟩ := h
    match xs, hl with
    | [x1], _ =>
      refine ⟨_, PSs.nox (pss_one (ps_ost (pv 0) (pv 1))), ?_⟩
      refine ⟨_, rfl, _, rfl, a, C, rfl, T.oex, T.no _ (List.mem_of_getElem? (i := 0) rfl), .inl ⟨ha, fun dx hd ne => ?_⟩⟩
      exact k dx _ hd ne upd_same (upB ne upd_same) fun b o hb e => upB hb (upB (ne_of_none e hd) e)
def spWay (C Cl Cg : Addr) : Sp := fun vs H Q E => ∃ (p wp : Addr) (x : V) (ds : List Ent) (ls : List (Nat × Nat)), vs = [.ref p, x] ∧ LinksAt H p Cl wp C ds ls ∧ DsOk ds ∧ ds.length ≤ 12 ∧
  ((∃ ws, GoodWay H ds x ws ∧ ∀ t H', Same H H' → H' t = some (.tup (ws.map natV)) → Q (.ref t) H') ∨
   (∃ i, WayIs H ds x (some i) ∧ ∀ d H', Same H H' → H' d = some (.xd (errF ["index"] [.int (i : Nat)])) → E (.ref Cg) (some d) H'))
theorem sc_way : FnScope ["links", "way", "index"] ["links", "way"] (defScope (top 19)) := ⟨rfl, rfl, rfl, by decide +kernel, rfl, by decide +kernel, by decide +kernel⟩
theorem ok_way (F : FnP K "check_way" 19 f fd) (B : Fr mg) (TC : ClsWorld K mg C) (TL : ClsF K Cl ["world", "shared"]) (FS : FnP K "is_sequence" 10 fS fdS) (mS : mg "is_sequence" = some (.ref fS)) (FW : FnDf K "is_whole" 11 [.non, .non] fW fdW) (mW : mg "is_whole" = some (.ref fW))
    (FG : FnM K "__init__" "BadWay.__init__" (inClass (top 8) 0) fG fdG) (TG : ErrX K mg "BadWay" ["index"] Cg fG) : FnOk P w K mg base (L2.CX P w) 3 f fd ["links", "way"] (spWay C Cl Cg) := by
  have GS : FnOk P w K mg base CX0 1 fS fdS ["thing"] spIsSeq := ok_isSeq FS B
  have GW : FnOk P w K mg base CX0 1 fW fdW ["thing", "low", "high"] spWhole := ok_whole FW B
  have bS : L2.Binds K fdS ["thing"] [] := FS.bindsN fun _ _ _ _ _ _ us hl => match us, hl with | [_], _ => rfl
  have bW := binds_whole3 FW
  obtain ⟨dsv, vds, bWh⟩ := binds_whole1 FW
  obtain ⟨GG, bG⟩ : FnOk P w K mg base CX0 1 fG fdG ["self", "index"] (spR Cg ["index"]) ∧ Binds K fdG ["self", "index"] [] := ok_badWay FG TG
  refine F.ok sc_way (fun vs H Q E h => ?_) (fun cdv A outer s H vs Q E hr h => ?_)
  · obtain ⟨p, wp, x, ds, ls, rfl, _⟩ := h
    rfl
  · obtain ⟨p, wp, x, ds, ls, rfl, hL, ok, h12, h⟩ := h
    refine ⟨_, (pss_cons (ps_if (PW.pt (pw_or (pt_not (pt_val (pe_call GS (hr.mono (by decide)) (by rfl) mS FS.kp bS .nil pass0 (pa_cons (pv 1) pa_nil)))) (pw_or (pt_cmpR op_eq (pe_callB call_len_seq (by rfl) B.len PySem.boot_len (pa_cons (pv 1) pa_nil)) pe_int (nomark _))
          (pw_or1 (pt_not (pt_val (pe_call GW (hr.mono (by decide)) (by rfl) mW FW.kp bW .nil pass0 (pa_cons (pe_ix ix_seq (pv 1) pe_int (fun _ _ => rfl)) (pa_cons pe_int (pa_cons (pe_op op_sub (pe_callB call_len_seq (by rfl) B.len PySem.boot_len (pa_cons (pe_fld (pe_fld (pv 0) rfl) rfl) pa_nil)) pe_int) pa_nil))))))))))
        (pss_one (ps_raise rfl (takes_of rfl rfl rfl rfl) (pmk_oex TG.oex TG.ini TG.inT GG (hr.mono (by decide)) bG .nil pass0 (by rfl) TG.mg (pa_cons pe_int pa_nil)))) pss_nil)
      (pss_cons (ps_for (passes_of rfl) rfl (pi_range2 (by rfl) B.range (pa_cons pe_int (pa_cons (pe_callB call_len_seq (by rfl) B.len PySem.boot_len (pa_cons (pv 1) pa_nil)) pa_nil))) (pg_name (i := 2) sc_way.nd rfl (Or.inl rfl))
        (pss_one (ps_if (PW.pt (pw_or (pt_not (pt_val (pe_call GW (hr.mono (by decide)) (by rfl) mW FW.kp bWh vds pass0 (pa_cons (pe_ix ix_seq (pv 1) (pv 2) (fun _ _ => rfl)) pa_nil))))
            (pw_or1 (pt_cmpR (r := rIn K true) op_notIn_seq (pe_ix ix_seq (pv 1) (pv 2) (fun _ _ => rfl)) (pe_ix (r := rIxT K) ix_tup (pe_fld (pe_fld (pv 0) rfl) rfl) (pe_ix ix_seq (pv 1) (pe_op op_sub (pv 2) pe_int) (fun _ _ => rfl)) (fun _ _ => rfl)) (by rfl)))))
          (pss_one (ps_raise rfl (takes_of rfl rfl rfl rfl) (pmk_oex TG.oex TG.ini TG.inT GG (hr.mono (by decide)) bG .nil pass0 (by rfl) TG.mg (pa_cons (pv 2) pa_nil)))) pss_nil)))
      (pss_one (ps_ret (pe_callTy (T := "tuple") (r := rTupOf K) (call_tup (X := _)) (by rfl) B.tuple (by decide +kernel) (pa_cons (pv 1) pa_nil)))))), ?_⟩
    obtain ⟨dl, st, sus, l1, hw, l3, l4⟩ := hL
    obtain ⟨dx, ac, ab, ao, am, ae, ah, cs, bs, ms, es, hs, h1, h2, h3, h4, h5, _⟩ := hw
    have lcs : cs.length = ds.length := h3.len
    have hbs : ∀ c, c < ds.length → ∃ t, bs[c]? = some (.ref t) ∧ H t = some (.tup ((basesOf ds c).map natV)) := fun c hc => by
      obtain ⟨d, hd⟩ : ∃ d, ds[c]? = some d := ⟨_, List.getElem?_eq_getElem hc⟩
      have ed : basesOf ds c = d.1 := by
        unfold basesOf
        rw [List.getD_eq_getElem?_getD, hd]
        rfl
      obtain ⟨t, e1, e2⟩ := h5.get (i := c) (l := d.1) (by rw [List.getElem?_map, hd]; rfl)
      exact ⟨t, e1, by rw [ed]; exact e2⟩
    have e2 : ∀ j : Nat, (((j + 1 : Nat) : Int) - 1) = (j : Int) := fun j => by omega
    have e3 : ∀ j : Nat, (1 : Int) + (j : Int) = ((j + 1 : Nat) : Int) := fun j => by omega
    rcases h with ⟨ws, ⟨a, rfl, hA, hw, wl⟩, k⟩ | ⟨i, hb, k⟩
    · obtain ⟨ty, tyA, hseq⟩ := hA.ty
      obtain ⟨c0, hc0, cl0⟩ := id hw.1
      have wl0 := (List.getElem?_eq_some_iff.mp hc0).1
      refine ⟨_, rfl, _, ty, rfl, tyA, fun H1 s1 => ⟨_, rfl, ?_⟩⟩
      rw [hseq]
      have hA1 := hA.same s1
      refine iteF ⟨_, rfl, a, _, rfl, hA1.sq, rfl, _, rfl, ?_⟩
      rw [List.length_map, decide_eq_false (fun z => by have := V.int.inj z; omega)]
      refine iteF' rfl ⟨_, rfl, rIx_q (i := 0) hA1 (by rw [List.getElem?_map, hc0]; rfl) ⟨_, rfl, p, Cl, dl, _, _, rfl, s1 _ _ l1, TL.cl, TL.no _ (List.mem_of_getElem? (i := 0) rfl), rfl, wp, C, dx, _, _, rfl, s1 _ _ h1, TC.cl, TC.no _ (List.mem_of_getElem? (i := 0) rfl), rfl, ac, cs, rfl, .inr (SqT.of (s1 _ _ h2)), _, _, rfl, rfl, natV c0, _, _, "int", rfl, .int _, .inr ⟨_, rfl⟩, .inr ⟨_, rfl⟩, _, rfl, ?_⟩⟩
      rw [lcs, whole_of cl0]
      refine iteF' rfl ?_
      refine ⟨_, rfl, a, _, rfl, hA1.sq, _, _, rfl, ⟨by omega, by omega, by rw [List.length_map]; omega, by rw [List.length_map]; omega⟩, ?_⟩
      refine for_range (lo := 1) (n := (((ws.map natV).length : Int) - 1).toNat) (fun j σ H' => Same H H' ∧ ∃ x2, σ = [some (.ref p), some (.ref a), x2]) ⟨s1, _, rfl⟩ ?_ ?_
      · rintro j σ H' hj ⟨sH, x2, rfl⟩
        rw [List.length_map] at hj
        rw [e3 j]
        have hA' := hA.same sH
        obtain ⟨c, hc⟩ : ∃ c, ws[j]? = some c := ⟨_, List.getElem?_eq_getElem (by omega)⟩
        obtain ⟨b, hb⟩ : ∃ b, ws[j + 1]? = some b := ⟨_, List.getElem?_eq_getElem (by omega)⟩
        have cl := hw.lt ok hc
        obtain ⟨t, ht1, ht2⟩ := hbs c cl
        have gb : (ws.map natV)[j + 1]? = some (natV b) := by rw [List.getElem?_map, hb]; rfl
        have gc : (ws.map natV)[j]? = some (natV c) := by rw [List.getElem?_map, hc]; rfl
        refine ⟨_, rfl, _, rfl, rIx_q (i := j + 1) hA' gb ⟨_, _, _, "int", rfl, .int _, .inl rfl, .inl rfl, _, rfl, iteF' rfl ?_⟩⟩
        refine ⟨_, rfl, _, rfl, rIx_q (i := j + 1) hA' gb ⟨_, rfl, p, Cl, dl, _, _, rfl, sH _ _ l1, TL.cl, TL.no _ (List.mem_of_getElem? (i := 0) rfl), rfl, wp, C, dx, _, _, rfl, sH _ _ h1, TC.cl, TC.no _ (List.mem_of_getElem? (i := 1) rfl), rfl, _, rfl, _, rfl, _, _, rfl, rfl, ?_⟩⟩
        show rIx K (.ref a) (.int (((j + 1 : Nat) : Int) - 1)) H' _
        rw [e2 j]
        refine rIx_q (i := j) hA' gc ⟨ab, bs, (c : Int), .ref t, rfl, rfl, SqT.of (sH _ _ h4), atI_nat ht1, t, _, rfl, .inr (SqT.of (sH _ _ ht2)), rfl, flat_nats _, _, rfl, ?_⟩
        have ein : inV (natV b) ((basesOf ds c).map natV) = true := by
          rw [show inV (natV b) ((basesOf ds c).map natV) = (basesOf ds c).contains b from inV_nat _ _]
          exact List.contains_iff_mem.mpr (hw.2 j c b hc hb)
        show (if (!inV (natV b) ((basesOf ds c).map natV)) = true then _ else _)
        rw [ein]
        exact iteF' rfl ⟨sH, _, rfl⟩
      · rintro σ H2 ⟨sH, x2, rfl⟩
        exact ⟨_, rfl, tup_q (hA.same sH) fun t H3 s3 ht => k t H3 (sH.trans s3) ht⟩
    · cases hb with
      | odd ty hs =>
        refine ⟨_, rfl, x, _, rfl, ty, fun H1 s1 => ⟨_, rfl, ?_⟩⟩
        rw [hs]
        exact iteT (raise_q rfl (by decide) fun d H' s2 _ e => k d H' (s1.trans s2) e)
      | none e hA =>
        subst e
        obtain ⟨ty, tyA, hseq⟩ := hA.ty
        refine ⟨_, rfl, _, ty, rfl, tyA, fun H1 s1 => ⟨_, rfl, ?_⟩⟩
        rw [hseq]
        refine iteF ⟨_, rfl, _, _, rfl, (hA.same s1).sq, rfl, _, rfl, ?_⟩
        exact iteT' rfl (raise_q rfl (by decide) fun d H' s2 _ e => k d H' (s1.trans s2) e)
      | first e hA hl hy ty hb =>
        subst e
        rename_i a xs y t
        obtain ⟨ty', tyA, hseq⟩ := hA.ty
        have xl0 := (List.getElem?_eq_some_iff.mp hy).1
        refine ⟨_, rfl, _, ty', rfl, tyA, fun H1 s1 => ⟨_, rfl, ?_⟩⟩
        rw [hseq]
        have hA1 := hA.same s1
        refine iteF ⟨_, rfl, a, _, rfl, hA1.sq, rfl, _, rfl, ?_⟩
        rw [decide_eq_false (fun z => by have := V.int.inj z; omega)]
        refine iteF' rfl ⟨_, rfl, rIx_q (i := 0) hA1 hy ⟨_, rfl, p, Cl, dl, _, _, rfl, s1 _ _ l1, TL.cl, TL.no _ (List.mem_of_getElem? (i := 0) rfl), rfl, wp, C, dx, _, _, rfl, s1 _ _ h1, TC.cl, TC.no _ (List.mem_of_getElem? (i := 0) rfl), rfl, ac, cs, rfl, .inr (SqT.of (s1 _ _ h2)), _, _, rfl, rfl, y, _, _, t, rfl, ty.same s1, .inr ⟨_, rfl⟩, .inr ⟨_, rfl⟩, _, rfl, ?_⟩⟩
        rw [lcs, hb]
        exact iteT' rfl (raise_q rfl (by decide) fun d H' s2 _ e => k d H' (s1.trans s2) e)
      | bad e hA hl pre hw hc hy ty hb =>
        subst e
        rename_i a xs i c ws y t
        obtain ⟨ty', tyA, hseq⟩ := hA.ty
        have il := (List.getElem?_eq_some_iff.mp hy).1
        obtain ⟨c0, hc0, cl0⟩ := id hw.1
        have gx : ∀ j, j ≤ i → ∀ v, ws[j]? = some v → xs[j]? = some (natV v) := fun j hj v hv => by
          rw [← List.getElem?_take_of_lt (show j < i + 1 by omega), pre, List.getElem?_map, hv]
          rfl
        have wlen : ws.length = i + 1 := by
          have := congrArg List.length pre
          rw [List.length_take, List.length_map] at this
          omega
        refine ⟨_, rfl, _, ty', rfl, tyA, fun H1 s1 => ⟨_, rfl, ?_⟩⟩
        rw [hseq]
        have hA1 := hA.same s1
        refine iteF ⟨_, rfl, a, _, rfl, hA1.sq, rfl, _, rfl, ?_⟩
        rw [decide_eq_false (fun z => by have := V.int.inj z; omega)]
        refine iteF' rfl ⟨_, rfl, rIx_q (i := 0) hA1 (gx 0 (Nat.zero_le _) c0 hc0) ⟨_, rfl, p, Cl, dl, _, _, rfl, s1 _ _ l1, TL.cl, TL.no _ (List.mem_of_getElem? (i := 0) rfl), rfl, wp, C, dx, _, _, rfl, s1 _ _ h1, TC.cl, TC.no _ (List.mem_of_getElem? (i := 0) rfl), rfl, ac, cs, rfl, .inr (SqT.of (s1 _ _ h2)), _, _, rfl, rfl, natV c0, _, _, "int", rfl, .int _, .inr ⟨_, rfl⟩, .inr ⟨_, rfl⟩, _, rfl, ?_⟩⟩
        rw [lcs, whole_of cl0]
        refine iteF' rfl ?_
        refine ⟨_, rfl, a, _, rfl, hA1.sq, _, _, rfl, ⟨by omega, by omega, by omega, by omega⟩, ?_⟩
        refine for_range (lo := 1) (n := ((xs.length : Int) - 1).toNat) (fun j σ H' => Same H H' ∧ j ≤ i ∧ ∃ x2, σ = [some (.ref p), some (.ref a), x2]) ⟨s1, Nat.zero_le _, _, rfl⟩ ?_ ?_
        · rintro j σ H' hj ⟨sH, ji, x2, rfl⟩
          rw [e3 j]
          have hA' := hA.same sH
          obtain ⟨cj, hcj⟩ : ∃ cj, ws[j]? = some cj := ⟨_, List.getElem?_eq_getElem (by omega)⟩
          have cl := hw.lt ok hcj
          obtain ⟨tt, ht1, ht2⟩ := hbs cj cl
          have gc := gx j ji cj hcj
          by_cases z : j = i
          · subst z
            obtain rfl : c = cj := Option.some.inj (hc.symm.trans hcj)
            refine ⟨_, rfl, _, rfl, rIx_q (i := j + 1) hA' hy ⟨_, _, _, t, rfl, ty.same sH, .inl rfl, .inl rfl, _, rfl, ?_⟩⟩
            cases ew : wholeB .non .non y with
            | false => exact iteT' rfl ⟨_, rfl, raise_q rfl (by decide) fun d H' s2 _ e => k d H' (sH.trans s2) e⟩
            | true =>
              obtain ⟨v, rfl⟩ : ∃ v, y = .int v := by
                cases y with
                | int v => exact ⟨v, rfl⟩
                | _ => cases ew
              refine iteF' rfl ?_
              refine ⟨_, rfl, _, rfl, rIx_q (i := j + 1) hA' hy ⟨_, rfl, p, Cl, dl, _, _, rfl, sH _ _ l1, TL.cl, TL.no _ (List.mem_of_getElem? (i := 0) rfl), rfl, wp, C, dx, _, _, rfl, sH _ _ h1, TC.cl, TC.no _ (List.mem_of_getElem? (i := 1) rfl), rfl, _, rfl, _, rfl, _, _, rfl, rfl, ?_⟩⟩
              show rIx K (.ref a) (.int (((j + 1 : Nat) : Int) - 1)) H' _
              rw [e2 j]
              refine rIx_q (i := j) hA' gc ⟨ab, bs, (c : Int), .ref tt, rfl, rfl, SqT.of (sH _ _ h4), atI_nat ht1, tt, _, rfl, .inr (SqT.of (sH _ _ ht2)), rfl, flat_nats _, _, rfl, ?_⟩
              have ein : inV (.int v) ((basesOf ds c).map natV) = false := by
                unfold stepB at hb
                rw [ew, Bool.true_and] at hb
                exact hb
              show (if (!inV (.int v) ((basesOf ds c).map natV)) = true then _ else _)
              rw [ein]
              exact iteT' rfl ⟨_, rfl, raise_q rfl (by decide) fun d H' s2 _ e => k d H' (sH.trans s2) e⟩
          · obtain ⟨b, hbj⟩ : ∃ b, ws[j + 1]? = some b := ⟨_, List.getElem?_eq_getElem (by omega)⟩
            have gb := gx (j + 1) (by omega) b hbj
            refine ⟨_, rfl, _, rfl, rIx_q (i := j + 1) hA' gb ⟨_, _, _, "int", rfl, .int _, .inl rfl, .inl rfl, _, rfl, iteF' rfl ?_⟩⟩
            refine ⟨_, rfl, _, rfl, rIx_q (i := j + 1) hA' gb ⟨_, rfl, p, Cl, dl, _, _, rfl, sH _ _ l1, TL.cl, TL.no _ (List.mem_of_getElem? (i := 0) rfl), rfl, wp, C, dx, _, _, rfl, sH _ _ h1, TC.cl, TC.no _ (List.mem_of_getElem? (i := 1) rfl), rfl, _, rfl, _, rfl, _, _, rfl, rfl, ?_⟩⟩
            show rIx K (.ref a) (.int (((j + 1 : Nat) : Int) - 1)) H' _
            rw [e2 j]
            refine rIx_q (i := j) hA' gc ⟨ab, bs, (cj : Int), .ref tt, rfl, rfl, SqT.of (sH _ _ h4), atI_nat ht1, tt, _, rfl, .inr (SqT.of (sH _ _ ht2)), rfl, flat_nats _, _, rfl, ?_⟩
            have ein : inV (natV b) ((basesOf ds cj).map natV) = true := by
              rw [show inV (natV b) ((basesOf ds cj).map natV) = (basesOf ds cj).contains b from inV_nat _ _]
              exact List.contains_iff_mem.mpr (hw.2 j cj b hcj hbj)
            show (if (!inV (natV b) ((basesOf ds cj).map natV)) = true then _ else _)
            rw [ein]
            exact iteF' rfl ⟨sH, by omega, _, rfl⟩
        · rintro σ H2 ⟨sH, ji, x2, rfl⟩
          omega
end
end K83

set_option maxRecDepth 100000
set_option maxHeartbeats 8000000
namespace K83
open PySem PySem.Spec PyProof.Rows L2 Kw
/-- where the last shared link of the way's first links begins -/
def begN (ls : List (Nat × Nat)) (ws : List Nat) : Nat → Nat
  | 0 => 0
  | j + 1 => if (ws.getD j 0, ws.getD (j + 1) 0) ∈ ls then j + 1 else begN ls ws j
def cutW (ls : List (Nat × Nat)) (ws : List Nat) : List Nat := ws.drop (begN ls ws (ws.length - 1))
theorem begN_le {ls : List (Nat × Nat)} {ws : List Nat} : ∀ {j : Nat}, begN ls ws j ≤ j
  | 0 => Nat.le_refl _
  | j + 1 => by
    unfold begN
    split
    · exact Nat.le_refl _
    · exact Nat.le_trans begN_le (Nat.le_succ _)
theorem IsWay.link {ds : List Ent} {ws : List Nat} (h : IsWay ds ws) (ok : DsOk ds) {i c b : Nat} (hc : ws[i]? = some c) (hb : ws[i + 1]? = some b) : linkB ds c b = true := by
  unfold linkB
  rw [decide_eq_true (h.lt ok hc), Bool.true_and]
  exact List.contains_iff_mem.mpr (h.2 i c b hc hb)
theorem cut_q {K : PySem.W.Frag} {H : Hp} {a : Addr} {xs : List V} {g : Nat} {Q : VK} (hg : g ≤ xs.length) (ha : H a = some (.tup xs)) (q : ∀ t H', Same H H' → H' t = some (.tup (xs.drop g)) → Q (.ref t) H') : rSlA K (.ref a) (some (g : Int)) none H Q := by
  have ec : cutV xs (some (g : Int)) none = xs.drop g := by
    unfold cutV
    rw [HT.sIx_nat, HT.sIx_none, Nat.min_eq_left hg, List.take_of_length_le (by rw [List.length_drop]; exact Nat.le_refl _)]
  refine ⟨a, xs, rfl, SqT.of ha, fun z => ?_, fun _ p hp => ?_⟩
  · have : g = 0 := by
      have := z.1
      rw [HT.sIx_nat] at this
      omega
    subst this
    exact q a H (Same.refl _) ha
  · rw [ec]
    exact q p _ (same_new hp) upd_same
section
variable {P : Program} {w : World} {K : PySem.W.Frag} {mg : Str → Option Value} {base : Heap} {f fI fK fSh C Cl Cg : Addr} {fd fdI fdK fdSh : FuncData}
def spShared (C Cl : Addr) : Sp := fun vs H Q _ => ∃ (p wp : Addr) (ds : List Ent) (ls : List (Nat × Nat)) (c b : Nat), vs = [.ref p, natV c, natV b] ∧ LinksAt H p Cl wp C ds ls ∧ ds.length ≤ 12 ∧ linkB ds c b = true ∧ ∀ H', Same H H' → Q (.bl (decide ((c, b) ∈ ls))) H'
theorem sc_shared : FnScope ["self", "c", "base"] ["self", "c", "base"] (defScope (inClass (top 17) 2)) := ⟨rfl, rfl, rfl, by decide +kernel, rfl, by decide +kernel, by decide +kernel⟩
theorem ok_shared (F : FnM K "is_shared" "Links.is_shared" (inClass (top 17) 2) f fd) (TL : ClsF K Cl ["world", "shared"]) (FI : FnP K "is_link_of" 18 fI fdI) (mI : mg "is_link_of" = some (.ref fI)) (GI : FnOk P w K mg base CX0 3 fI fdI ["world", "thing"] (spLink C)) : FnOk P w K mg base CX0 4 f fd ["self", "c", "base"] (spShared C Cl) := by
  have bI : L2.Binds K fdI ["world", "thing"] [] := FI.bindsN fun _ _ _ _ _ _ us hl => match us, hl with | [_, _], _ => rfl
  refine F.ok sc_shared (fun vs H Q E h => ?_) (fun cdv A outer s H vs Q E hr h => ?_)
  · obtain ⟨p, wp, ds, ls, c, b, rfl, _⟩ := h
    rfl
  · obtain ⟨p, wp, ds, ls, c, b, rfl, ⟨dl, st, us, l1, hw, l3, l4⟩, h12, hb, k⟩ := h
    refine ⟨_, PSs.nox (pss_cons (ps_if (pt_not (pt_val (pe_call GI hr (by rfl) mI FI.kp bI .nil pass0 (pa_cons (pe_fld (pv 0) rfl) (pa_cons (pe_tup (pa_cons (pv 1) (pa_cons (pv 2) pa_nil))) pa_nil))))) (pss_one ps_never) pss_nil)
      (pss_one (ps_ret (pe_cmpR (r := rInDT K) (op_inDT (room65 hr)) (pe_tup (pa_cons (pv 1) (pa_cons (pv 2) pa_nil))) (pe_fld (pv 0) rfl) (by rfl))))), ?_⟩
    refine ⟨_, rfl, p, Cl, dl, _, _, rfl, l1, TL.cl, TL.no _ (List.mem_of_getElem? (i := 0) rfl), rfl, _, rfl, _, rfl, (by show 2 ≤ sizeLine; decide), fun T hT => ?_⟩
    have sT := same_new (o := .tup [natV c, natV b]) hT
    refine ⟨wp, T, ds, c, b, rfl, hw.mono sT, h12, .inr upd_same, fun H2 s2 => ⟨_, rfl, ?_⟩⟩
    rw [hb]
    refine iteF' rfl ⟨_, rfl, _, rfl, (by show 2 ≤ sizeLine; decide), fun T2 hT2 => ?_⟩
    have s3 := (sT.trans s2).trans (same_new (o := .tup [natV c, natV b]) hT2)
    refine ⟨_, rfl, p, Cl, dl, _, _, rfl, s3 _ _ l1, TL.cl, TL.no _ (List.mem_of_getElem? (i := 1) rfl), rfl, ?_⟩
    refine ⟨dPair (c, b), ls.map dPair, .tup (SqT.of upd_same) (.cons (.int _) (.cons (.int _) .nil)), .tup (SqT.of (s3 _ _ l3)) (dp_pairs (l4.same s3)), (lay_pair _).shaped (by decide), (lay_pairsT _).shaped (by decide), ?_⟩
    rw [any_pair]
    exact k _ s3
def spCut (C Cl Cg : Addr) : Sp := fun vs H Q E => ∃ (p wp : Addr) (x : V) (ds : List Ent) (ls : List (Nat × Nat)), vs = [.ref p, x] ∧ LinksAt H p Cl wp C ds ls ∧ DsOk ds ∧ ds.length ≤ 12 ∧
  ((∃ ws, GoodWay H ds x ws ∧ ∀ t H', Same H H' → H' t = some (.tup ((cutW ls ws).map natV)) → Q (.ref t) H') ∨
   (∃ i, WayIs H ds x (some i) ∧ ∀ d H', Same H H' → H' d = some (.xd (errF ["index"] [.int (i : Nat)])) → E (.ref Cg) (some d) H'))
theorem sc_cut : FnScope ["links", "way", "row", "begin", "at"] ["links", "way"] (defScope (top 20)) := ⟨rfl, rfl, rfl, by decide +kernel, rfl, by decide +kernel, by decide +kernel⟩
theorem ok_cut (F : FnP K "cut_way" 20 f fd) (B : Fr mg) (TL : ClsF K Cl ["world", "shared"]) (FK : FnP K "check_way" 19 fK fdK) (mK : mg "check_way" = some (.ref fK)) (GK : FnOk P w K mg base (L2.CX P w) 3 fK fdK ["links", "way"] (spWay C Cl Cg))
    (FSh : FnM K "is_shared" "Links.is_shared" (inClass (top 17) 2) fSh fdSh) (MSh : Meth K Cl "is_shared" fSh) (GSh : FnOk P w K mg base CX0 4 fSh fdSh ["self", "c", "base"] (spShared C Cl)) : FnOk P w K mg base (L2.CX P w) 5 f fd ["links", "way"] (spCut C Cl Cg) := by
  have bK : L2.Binds K fdK ["links", "way"] [] := FK.bindsN fun _ _ _ _ _ _ us hl => match us, hl with | [_, _], _ => rfl
  have bSh : L2.Binds K fdSh ["self", "c", "base"] [] := FSh.bindsN fun _ _ _ _ _ _ us hl => match us, hl with | [_, _, _], _ => rfl
  refine F.ok sc_cut (fun vs H Q E h => ?_) (fun cdv A outer s H vs Q E hr h => ?_)
  · obtain ⟨p, wp, x, ds, ls, rfl, _⟩ := h
    rfl
  · obtain ⟨p, wp, x, ds, ls, rfl, hL, ok, h12, h⟩ := h
    refine ⟨_, (pss_cons (ps_set (i := 2) sc_cut.nd rfl (Or.inl rfl) (pe_callS GK (hr.mono (by decide)) (by rfl) mK FK.kp bK (fun σ => passAt (takes_of rfl rfl rfl rfl) σ) (pa_cons (pv 0) (pa_cons (pv 1) pa_nil))))
      (pss_cons (ps_set (i := 3) sc_cut.nd rfl (Or.inl rfl) pe_int)
      (pss_cons (ps_for (passes_of rfl) rfl (pi_range2 (by rfl) B.range (pa_cons pe_int (pa_cons (pe_callB call_len_seq (by rfl) B.len PySem.boot_len (pa_cons (pv 2) pa_nil)) pa_nil))) (pg_name (i := 4) sc_cut.nd rfl (Or.inl rfl))
        (pss_one (ps_if (pt_val (pe_meth (pv 0) TL.cl MSh GSh hr bSh .nil pass0 (pa_cons (pe_ix (r := rIxT K) ix_tup (pv 2) (pe_op op_sub (pv 4) pe_int) (fun _ _ => rfl)) (pa_cons (pe_ix (r := rIxT K) ix_tup (pv 2) (pv 4) (fun _ _ => rfl)) pa_nil)))) (pss_one (ps_set (i := 3) sc_cut.nd rfl (Or.inl rfl) (pv 4))) pss_nil)))
      (pss_one (ps_ret (pe_slice sl_tupA (pv 2) (po_some (pv 3)) po_none)))))), ?_⟩
    rcases h with ⟨ws, hg, k⟩ | ⟨i, hb, k⟩
    · obtain ⟨a, rfl, hA, hw, wl⟩ := id hg
      obtain ⟨c0, hc0, cl0⟩ := id hw.1
      have wl0 := (List.getElem?_eq_some_iff.mp hc0).1
      refine ⟨_, rfl, _, rfl, p, wp, _, ds, ls, rfl, hL, ok, h12, .inl ⟨ws, hg, fun t H1 s1 ht => ?_⟩⟩
      refine ⟨_, rfl, t, _, rfl, .inr (SqT.of ht), _, _, rfl, ⟨by omega, by omega, by rw [List.length_map]; omega, by rw [List.length_map]; omega⟩, ?_⟩
      refine for_range (lo := 1) (n := (((ws.map natV).length : Int) - 1).toNat) (fun j σ H' => Same H1 H' ∧ ∃ x4, σ = [some (.ref p), some (.ref a), some (.ref t), some (natV (begN ls ws j)), x4]) ⟨Same.refl _, none, rfl⟩ ?_ ?_
      · rintro j σ H' hj ⟨sH, x4, rfl⟩
        rw [List.length_map] at hj
        have e3 : (1 : Int) + (j : Int) = ((j + 1 : Nat) : Int) := by omega
        rw [e3]
        obtain ⟨c, hc⟩ : ∃ c, ws[j]? = some c := ⟨_, List.getElem?_eq_getElem (by omega)⟩
        obtain ⟨b, hb⟩ : ∃ b, ws[j + 1]? = some b := ⟨_, List.getElem?_eq_getElem (by omega)⟩
        have gb : (ws.map natV)[j + 1]? = some (natV b) := by rw [List.getElem?_map, hb]; rfl
        have gc : (ws.map natV)[j]? = some (natV c) := by rw [List.getElem?_map, hc]; rfl
        obtain ⟨dl, st, us, l1, hwd, l3, l4⟩ := id hL
        have s2 := s1.trans sH
        have tj := sH _ _ ht
        refine ⟨_, rfl, p, _, _, rfl, s2 _ _ l1, rfl, _, rfl, _, rfl, _, _, rfl, rfl, ?_⟩
        show rIxT K (.ref t) (.int (((j + 1 : Nat) : Int) - 1)) H' _
        rw [show (((j + 1 : Nat) : Int) - 1) = (j : Int) by omega]
        refine ⟨t, _, (j : Int), _, rfl, rfl, SqT.of tj, atI_nat gc, _, rfl, _, rfl, t, _, ((j + 1 : Nat) : Int), _, rfl, rfl, SqT.of tj, atI_nat gb, p, wp, ds, ls, c, b, rfl, hL.mono s2, h12, hw.link ok hc hb, fun H3 s3 => ⟨_, rfl, ?_⟩⟩
        have eb : begN ls ws (j + 1) = if (c, b) ∈ ls then j + 1 else begN ls ws j := by
          rw [begN, List.getD_eq_getElem?_getD, List.getD_eq_getElem?_getD, hc, hb]
          rfl
        by_cases z : (c, b) ∈ ls
        · rw [decide_eq_true z]
          rw [if_pos z] at eb
          exact iteT' rfl ⟨_, rfl, sH.trans s3, _, by rw [eb]; rfl⟩
        · rw [decide_eq_false z]
          rw [if_neg z] at eb
          exact iteF' rfl ⟨sH.trans s3, _, by rw [eb]; rfl⟩
      · rintro σ H2 ⟨sH, x4, rfl⟩
        have en : (((ws.map natV).length : Int) - 1).toNat = ws.length - 1 := by rw [List.length_map]; omega
        rw [en]
        have bl := begN_le (ls := ls) (ws := ws) (j := ws.length - 1)
        refine ⟨_, rfl, _, rfl, _, rfl, ?_⟩
        dsimp only [tNoPart]
        have t2 := sH _ _ ht
        have ed : (ws.map natV).drop (begN ls ws (ws.length - 1)) = (cutW ls ws).map natV := by
          unfold cutW
          rw [List.map_drop]
        refine cut_q (g := begN ls ws (ws.length - 1)) (by rw [List.length_map]; omega) t2 fun t' H3 s3 ht3 => k t' H3 ((s1.trans sH).trans s3) ?_
        rw [ed] at ht3
        exact ht3
    · exact ⟨_, rfl, _, rfl, p, wp, x, ds, ls, rfl, hL, ok, h12, .inr ⟨i, hb, k⟩⟩
end
end K83

set_option maxRecDepth 100000
set_option maxHeartbeats 8000000
namespace K83
open PySem PySem.Spec PyProof.Rows L2 Kw
theorem ne_self'' {x : V} : (!decide (x = x)) = false := by rw [decide_eq_true rfl]; rfl
theorem ne_len' {m n : Nat} (h : m ≠ n) : (!decide (natV m = natV n)) = true := by
  rw [decide_eq_false fun e => h (by have := V.int.inj e; omega)]
  rfl
theorem eqv_dN (a b : Nat) : PyData.eqv (dN a) (dN b) = decide (a = b) := by
  unfold dN
  simp only [PyData.eqv]
  by_cases z : a = b
  · rw [z]
    simp
  · rw [decide_eq_false z]
    exact beq_eq_false_iff_ne.mpr (by omega)
theorem eqvA_dN : ∀ (l m : List Nat), PyData.eqvAll (l.map dN) (m.map dN) = decide (l = m)
  | [], [] => by simp [PyData.eqvAll]
  | [], _ :: _ => by simp [PyData.eqvAll]
  | _ :: _, [] => by simp [PyData.eqvAll]
  | a :: l, b :: m => by
    rw [List.map_cons, List.map_cons, PyData.eqvAll, eqv_dN, eqvA_dN l m]
    by_cases z : a = b
    · by_cases y : l = m
      · rw [z, y]
        simp
      · simp [z, y]
    · simp [z]
theorem eqv_dNs (l m : List Nat) : PyData.eqv (dNs l) (dNs m) = decide (l = m) := by
  unfold dNs
  rw [← eqvA_dN]
  simp [PyData.eqv]
theorem WayIs.same {H H' : Hp} {ds : List Ent} {x : V} {o : Option Nat} (h : WayIs H ds x o) (s : Same H H') : WayIs H' ds x o := by
  cases h with
  | odd ty hs => exact .odd (ty.same s) hs
  | none e hA => exact .none e (hA.same s)
  | first e hA hl hy ty hb => exact .first e (hA.same s) hl hy (ty.same s) hb
  | bad e hA hl pre hw hc hy ty hb => exact .bad e (hA.same s) hl pre hw hc hy (ty.same s) hb
theorem GoodWay.same {H H' : Hp} {ds : List Ent} {x : V} {ws : List Nat} (h : GoodWay H ds x ws) (s : Same H H') : GoodWay H' ds x ws := by
  obtain ⟨a, e, hA, hw⟩ := h
  exact ⟨a, e, hA.same s, hw⟩
section
variable {P : Program} {w : World} {K : PySem.W.Frag} {mg : Str → Option Value} {base : Heap} {f fK fU fG C Cl Cg : Addr} {fd fdK fdU fdG : FuncData}
def spAgree (C Cl Cg : Addr) : Sp := fun vs H Q E => ∃ (p wp : Addr) (x y : V) (ds : List Ent) (ls : List (Nat × Nat)), vs = [.ref p, x, y] ∧ LinksAt H p Cl wp C ds ls ∧ DsOk ds ∧ ds.length ≤ 12 ∧
  ((∃ i, WayIs H ds x (some i) ∧ ∀ d H', Same H H' → H' d = some (.xd (errF ["index"] [.int (i : Nat)])) → E (.ref Cg) (some d) H') ∨
   ∃ v, GoodWay H ds x v ∧
    ((∃ i, WayIs H ds y (some i) ∧ ∀ d H', Same H H' → H' d = some (.xd (errF ["index"] [.int (i : Nat)])) → E (.ref Cg) (some d) H') ∨
     ∃ u, GoodWay H ds y u ∧
      ((v[0]? ≠ u[0]? ∧ ∀ d H', Same H H' → H' d = some (.xd (errF ["index"] [.int ((0 : Nat) : Int)])) → E (.ref Cg) (some d) H') ∨
       (v[0]? = u[0]? ∧ ∀ H', Same H H' → Q (.bl (decide (cutW ls v = cutW ls u))) H'))))
theorem sc_agree : FnScope ["links", "first", "second", "one", "other"] ["links", "first", "second"] (defScope (top 39)) := ⟨rfl, rfl, rfl, by decide +kernel, rfl, by decide +kernel, by decide +kernel⟩
theorem ok_agree (F : FnP K "ways_agree" 39 f fd) (B : Fr mg) (FK : FnP K "check_way" 19 fK fdK) (mK : mg "check_way" = some (.ref fK)) (GK : FnOk P w K mg base (L2.CX P w) 3 fK fdK ["links", "way"] (spWay C Cl Cg))
    (FU : FnP K "cut_way" 20 fU fdU) (mU : mg "cut_way" = some (.ref fU)) (GU : FnOk P w K mg base (L2.CX P w) 5 fU fdU ["links", "way"] (spCut C Cl Cg)) (FG : FnM K "__init__" "BadWay.__init__" (inClass (top 8) 0) fG fdG) (TG : ErrX K mg "BadWay" ["index"] Cg fG) : FnOk P w K mg base (L2.CX P w) 6 f fd ["links", "first", "second"] (spAgree C Cl Cg) := by
  have bK : L2.Binds K fdK ["links", "way"] [] := FK.bindsN fun _ _ _ _ _ _ us hl => match us, hl with | [_, _], _ => rfl
  have bU : L2.Binds K fdU ["links", "way"] [] := FU.bindsN fun _ _ _ _ _ _ us hl => match us, hl with | [_, _], _ => rfl
  obtain ⟨GG, bG⟩ : FnOk P w K mg base CX0 1 fG fdG ["self", "index"] (spR Cg ["index"]) ∧ Binds K fdG ["self", "index"] [] := ok_badWay FG TG
  refine F.ok sc_agree (fun vs H Q E h => ?_) (fun cdv A outer s H vs Q E hr h => ?_)
  · obtain ⟨p, wp, x, y, ds, ls, rfl, _⟩ := h
    rfl
  · obtain ⟨p, wp, x, y, ds, ls, rfl, hL, ok, h12, h⟩ := h
    refine ⟨_, (pss_cons (ps_set (i := 3) sc_agree.nd rfl (Or.inl rfl) (pe_callS GK (hr.mono (by decide)) (by rfl) mK FK.kp bK (fun σ => passAt (takes_of rfl rfl rfl rfl) σ) (pa_cons (pv 0) (pa_cons (pv 1) pa_nil))))
      (pss_cons (ps_set (i := 4) sc_agree.nd rfl (Or.inl rfl) (pe_callS GK (hr.mono (by decide)) (by rfl) mK FK.kp bK (fun σ => passAt (takes_of rfl rfl rfl rfl) σ) (pa_cons (pv 0) (pa_cons (pv 2) pa_nil))))
      (pss_cons (ps_if (pt_cmpR op_ne (pe_ix (r := rIxT K) ix_tup (pv 3) pe_int (fun _ _ => rfl)) (pe_ix (r := rIxT K) ix_tup (pv 4) pe_int (fun _ _ => rfl)) (nomark _))
        (pss_one (ps_raise rfl (takes_of rfl rfl rfl rfl) (pmk_oex TG.oex TG.ini TG.inT GG (hr.mono (by decide)) bG .nil pass0 (by rfl) TG.mg (pa_cons pe_int pa_nil)))) pss_nil)
      (pss_one (ps_ret (pe_cmpR (r := rEqD K) (op_eqD hr.units) (pe_callS GU hr (by rfl) mU FU.kp bU (fun σ => passAt (takes_of rfl rfl rfl rfl) σ) (pa_cons (pv 0) (pa_cons (pv 3) pa_nil))) (pe_callS GU hr (by rfl) mU FU.kp bU (fun σ => passAt (takes_of rfl rfl rfl rfl) σ) (pa_cons (pv 0) (pa_cons (pv 4) pa_nil))) (nomark _))))))), ?_⟩
    rcases h with ⟨i, hb, k⟩ | ⟨v, hv, h⟩
    · exact ⟨_, rfl, _, rfl, p, wp, x, ds, ls, rfl, hL, ok, h12, .inr ⟨i, hb, k⟩⟩
    · refine ⟨_, rfl, _, rfl, p, wp, x, ds, ls, rfl, hL, ok, h12, .inl ⟨v, hv, fun t1 H1 s1 ht1 => ?_⟩⟩
      refine ⟨_, rfl, _, rfl, p, wp, y, ds, ls, rfl, hL.mono s1, ok, h12, ?_⟩
      rcases h with ⟨i, hb, k⟩ | ⟨u, hu, h⟩
      · exact .inr ⟨i, hb.same s1, fun d H' s2 e => k d H' (s1.trans s2) e⟩
      · refine .inl ⟨u, hu.same s1, fun t2 H2 s2 ht2 => ?_⟩
        obtain ⟨_, _, _, hwv, vl⟩ := id hv
        obtain ⟨_, _, _, hwu, ul⟩ := id hu
        obtain ⟨a0, ha0, _⟩ := id hwv.1
        obtain ⟨b0, hb0, _⟩ := id hwu.1
        have s12 := s1.trans s2
        have ht12 := s2 _ _ ht1
        refine ⟨_, rfl, t1, _, ((0 : Nat) : Int), _, rfl, rfl, SqT.of ht12, atI_nat (by rw [List.getElem?_map, ha0]; rfl), _, rfl, t2, _, ((0 : Nat) : Int), _, rfl, rfl, SqT.of ht2, atI_nat (by rw [List.getElem?_map, hb0]; rfl), ?_⟩
        rcases h with ⟨ne, k⟩ | ⟨eq, k⟩
        · refine ⟨rfl, _, rfl, ?_⟩
          have nab : a0 ≠ b0 := fun z => ne (by rw [ha0, hb0, z])
          exact iteT' (ne_len' nab) (raise_q rfl (by decide) fun d H' s3 _ e => k d H' (s12.trans s3) e)
        · refine ⟨rfl, _, rfl, ?_⟩
          have eab : a0 = b0 := by
            rw [ha0, hb0] at eq
            exact Option.some.inj eq
          subst eab
          refine iteF' ne_self'' ?_
          refine ⟨_, rfl, _, rfl, p, wp, .ref t1, ds, ls, rfl, hL.mono s12, ok, h12, .inl ⟨v, ⟨t1, rfl, .inr ht12, hwv, vl⟩, fun t3 H3 s3 ht3 => ?_⟩⟩
          refine ⟨_, rfl, _, rfl, p, wp, .ref t2, ds, ls, rfl, hL.mono (s12.trans s3), ok, h12, .inl ⟨u, ⟨t2, rfl, .inr (s3 _ _ ht2), hwu, ul⟩, fun t4 H4 s4 ht4 => ?_⟩⟩
          refine ⟨dNs (cutW ls v), dNs (cutW ls u), dp_ns (s4 _ _ ht3), dp_ns ht4, (lay_ns _).shaped (by decide), (lay_ns _).shaped (by decide), ?_⟩
          rw [eqv_dNs]
          exact k _ ((s12.trans s3).trans s4)
end
end K83

set_option maxRecDepth 100000
set_option maxHeartbeats 8000000
namespace K83
open PySem PySem.Spec PyProof.Rows L2 Kw
section
variable {P : Program} {w : World} {K : PySem.W.Frag} {mg : Str → Option Value} {base : Heap} {f fW fN fC C Cn : Addr} {fd fdW fdN fdC : FuncData}
def spOnLine (C Cn : Addr) : Sp := fun vs H Q E => ∃ (p : Addr) (a b : V) (ta tb : String) (ds : List Ent), vs = [.ref p, a, b] ∧ WorldAt H p C ds ∧ Ty0 H a ta ∧ Ty0 H b tb ∧
  ((wholeB (.int 0) (.int ((ds.length : Int) - 1)) a = false ∧ ∀ d H', Same H H' → H' d = some (.xd (errF ["cls"] [a])) → E (.ref Cn) (some d) H') ∨
   (wholeB (.int 0) (.int ((ds.length : Int) - 1)) a = true ∧ wholeB (.int 0) (.int ((ds.length : Int) - 1)) b = false ∧ ∀ d H', Same H H' → H' d = some (.xd (errF ["cls"] [b])) → E (.ref Cn) (some d) H') ∨
   ∃ x y : Nat, a = natV x ∧ b = natV y ∧ x < ds.length ∧ y < ds.length ∧ ∀ H', Same H H' → Q (.bl (onLine (elsOf ds) x y)) H')
end
end K83

set_option maxRecDepth 100000
set_option maxHeartbeats 8000000
namespace K83
open PySem PySem.Spec PyProof.Rows L2 Kw
/-! ### kinds: the mathematics of what keeps them -/
structure KOk (n : Nat) (js : List (Nat × Nat)) (lone : List Nat) : Prop where
  lo : 1 ≤ n
  hi : n ≤ 5
  so : SortP js
  lt : ∀ p ∈ js, p.1 < p.2 ∧ p.2 < n
  up : lone.Pairwise (· < ·)
  bl : ∀ x ∈ lone, x < n
def joinedB (js : List (Nat × Nat)) (x y : Nat) : Bool := decide ((min x y, max x y) ∈ js)
def gAt (gs : List Nat) (c : Nat) : Nat := gs.getD c 0
def pairW (els : List (List Nat)) (js : List (Nat × Nat)) (gs : List Nat) (a b : Nat) : Option Str :=
  if gAt gs a = gAt gs b then (if onLine els a b = true then none else some ("line" : Str)) else (if joinedB js (gAt gs a) (gAt gs b) = true then none else some ("kind" : Str))
def rowW (els : List (List Nat)) (js : List (Nat × Nat)) (gs : List Nat) (a : Nat) (bs : List Nat) : Option (Nat × Nat × Str) := bs.findSome? fun b => (pairW els js gs a b).map fun w => (a, b, w)
def lotW (els : List (List Nat)) (js : List (Nat × Nat)) (gs lot : List Nat) : Option (Nat × Nat × Str) := firstS lot.length fun i => rowW els js gs (lot.getD i 0) (lot.drop (i + 1))
def kinL (els : List (List Nat)) (c : Nat) : List Nat := els.getD c [] ++ [c]
def breachC (els : List (List Nat)) (flds : Nat) (js : List (Nat × Nat)) (lone gs : List Nat) (c : Nat) : Option (Nat × Nat × Nat × Str) :=
  if (decide (0 < flds) && lone.contains (gAt gs c)) = true then some (c, c, c, ("bare" : Str)) else (lotW els js gs (kinL els c)).map fun z => (c, z)
def fldsOf (ds : List Ent) (c : Nat) : Nat := (ds.getD c ([], 0, [])).2.1
def breachD (ds : List Ent) (js : List (Nat × Nat)) (lone gs : List Nat) (c : Nat) : Option (Nat × Nat × Nat × Str) := breachC (elsOf ds) (fldsOf ds c) js lone gs c
def breachA (ds : List Ent) (js : List (Nat × Nat)) (lone gs : List Nat) : Option (Nat × Nat × Nat × Str) := firstS ds.length (breachD ds js lone gs)
theorem fs_none {α β : Type} {g : α → Option β} {xs : List α} {j : Nat} {x : α} (h : (xs.take j).findSome? g = none) (hx : xs[j]? = some x) (e : g x = none) : (xs.take (j + 1)).findSome? g = none := by
  rw [List.take_add_one, hx, Option.toList_some, List.findSome?_append, h]
  simp [e]
theorem fs_hit {α β : Type} {g : α → Option β} {xs : List α} {j : Nat} {x : α} {r : β} (h : (xs.take j).findSome? g = none) (hx : xs[j]? = some x) (e : g x = some r) : xs.findSome? g = some r := by
  obtain ⟨h1, h2⟩ := List.getElem?_eq_some_iff.mp hx
  rw [← List.take_append_drop j xs, List.findSome?_append, h, List.drop_eq_getElem_cons h1, h2, List.findSome?_cons, e]
  rfl
theorem first_hit {α : Type} {f : Nat → Option α} {k i : Nat} {r : α} (h : ∀ j, j < i → f j = none) (hi : i < k) (e : f i = some r) : firstS k f = some r := firstS_some.mpr ⟨i, hi, e, h⟩
/-! ### a Kinds as an object -/
def KFs (n : Nat) (aj ab : Addr) : List (Str × V) := [("many", natV n), ("joined", .ref aj), ("bare", .ref ab)]
def KindsAt (H : Hp) (p Ck : Addr) (n : Nat) (js : List (Nat × Nat)) (lone : List Nat) : Prop := ∃ dx aj ab us, H p = some (.ins Ck dx (KFs n aj ab)) ∧ H aj = some (.tup us) ∧ PairsAt H us js ∧ H ab = some (.tup (lone.map natV))
theorem PairsAt.ki {H H' : Hp} (k : KI H H') : ∀ {us : List V} {ps : List (Nat × Nat)}, PairsAt H us ps → PairsAt H' us ps
  | [], [], _ => .nil
  | _ :: _, _ :: _, .cons ⟨t, e, h⟩ r => .cons ⟨t, e, k _ _ h nh_tup⟩ (PairsAt.ki k r)
theorem KindsAt.ki {H H' : Hp} {p Ck : Addr} {n : Nat} {js : List (Nat × Nat)} {lone : List Nat} (h : KindsAt H p Ck n js lone) (k : KI H H') : KindsAt H' p Ck n js lone := by
  obtain ⟨dx, aj, ab, us, h1, h2, h3, h4⟩ := h
  exact ⟨dx, aj, ab, us, k _ _ h1 nh_ins, k _ _ h2 nh_tup, h3.ki k, k _ _ h4 nh_tup⟩
theorem KindsAt.mono {H H' : Hp} {p Ck : Addr} {n : Nat} {js : List (Nat × Nat)} {lone : List Nat} (h : KindsAt H p Ck n js lone) (s : Same H H') : KindsAt H' p Ck n js lone := h.ki (KI.of s)
section
variable {P : Program} {w : World} {K : PySem.W.Frag} {mg : Str → Option Value} {base : Heap} {f fW fC Ck : Addr} {fd fdW fdC : FuncData}
def spKind (Ck : Addr) : Sp := fun vs H Q _ => ∃ (p : Addr) (n x : Nat) (js : List (Nat × Nat)) (lone : List Nat), vs = [.ref p, natV x] ∧ KindsAt H p Ck n js lone ∧ x < n ∧ Q (natV x) H
def spIsBare (Ck : Addr) : Sp := fun vs H Q _ => ∃ (p : Addr) (n x : Nat) (js : List (Nat × Nat)) (lone : List Nat), vs = [.ref p, natV x] ∧ KindsAt H p Ck n js lone ∧ x < n ∧ Q (.bl (lone.contains x)) H
def spJoined (Ck : Addr) : Sp := fun vs H Q _ => ∃ (p : Addr) (n x y : Nat) (js : List (Nat × Nat)) (lone : List Nat), vs = [.ref p, natV x, natV y] ∧ KindsAt H p Ck n js lone ∧ x < n ∧ y < n ∧ ∀ H', Same H H' → Q (.bl (joinedB js x y)) H'
theorem min_nat {x y : Nat} : (if (y : Int) < (x : Int) then (y : Int) else (x : Int)) = ((min x y : Nat) : Int) := by
  by_cases h : y < x
  · rw [if_pos (by omega)]
    omega
  · rw [if_neg (by omega)]
    omega
theorem max_nat {x y : Nat} : (if (x : Int) < (y : Int) then (y : Int) else (x : Int)) = ((max x y : Nat) : Int) := by
  by_cases h : x < y
  · rw [if_pos (by omega)]
    omega
  · rw [if_neg (by omega)]
    omega
end
end K83

set_option maxRecDepth 100000
set_option maxHeartbeats 8000000
namespace K83
open PySem PySem.Spec PyProof.Rows L2 Kw
section
variable {P : Program} {w : World} {K : PySem.W.Frag} {mg : Str → Option Value} {base : Heap} {f fW fC fL fN fJ fI fS fU C Cn Cb Ck : Addr} {fd fdW fdC fdL fdN fdJ fdI fdS fdU : FuncData}
/-! ### Breach -/
def spBreachI (Cb : Addr) : Sp := fun vs H Q _ => ∃ (p dx : Addr) (x y z v : V), vs = [.ref p, x, y, z, v] ∧ H p = some (.ins Cb dx []) ∧ ∀ H', Oth p H H' → H' p = some (.ins Cb dx [("cls", x), ("first", y), ("second", z), ("what", v)]) → Q .non H'
def BrAt (H : Hp) (p Cb : Addr) (z : Nat × Nat × Nat × Str) : Prop := ∃ dx, H p = some (.ins Cb dx [("cls", natV z.1), ("first", natV z.2.1), ("second", natV z.2.2.1), ("what", .str z.2.2.2)])
def OptBr (H : Hp) (Cb : Addr) (v : V) (o : Option (Nat × Nat × Nat × Str)) : Prop := (o = none ∧ v = .non) ∨ ∃ z p, o = some z ∧ v = .ref p ∧ BrAt H p Cb z
/-! ### pair_fault -/
def optS : Option Str → V
  | none => .non
  | some z => .str z
def spPairF (C Ck : Addr) : Sp := fun vs H Q _ => ∃ (p q g : Addr) (ds : List Ent) (n : Nat) (js : List (Nat × Nat)) (lone gs : List Nat) (a b : Nat), vs = [.ref p, .ref q, .ref g, natV a, natV b] ∧ WorldAt H p C ds ∧ KindsAt H q Ck n js lone ∧ H g = some (.tup (gs.map natV)) ∧ gs.length = ds.length ∧ (∀ x ∈ gs, x < n) ∧ a < ds.length ∧ b < ds.length ∧
  ∀ H', Same H H' → Q (optS (pairW (elsOf ds) js gs a b)) H'
theorem gAt_get {gs : List Nat} {c : Nat} (h : c < gs.length) : (gs.map natV)[c]? = some (natV (gAt gs c)) := by
  rw [List.getElem?_map, List.getElem?_eq_getElem h]
  show some (natV gs[c]) = some (natV (gs.getD c 0))
  rw [List.getD_eq_getElem?_getD, List.getElem?_eq_getElem h]
  rfl
theorem gAt_mem {gs : List Nat} {c : Nat} (h : c < gs.length) : gAt gs c ∈ gs := by
  unfold gAt
  rw [List.getD_eq_getElem?_getD, List.getElem?_eq_getElem h]
  exact List.getElem_mem h
theorem nat_eq {x y : Nat} : decide (natV x = natV y) = decide (x = y) := by
  by_cases h : x = y
  · rw [h, decide_eq_true rfl, decide_eq_true rfl]
  · rw [decide_eq_false h, decide_eq_false fun e => h (by have := V.int.inj (show V.int (x : Int) = V.int (y : Int) from e); omega)]
end
end K83

set_option maxRecDepth 100000
set_option maxHeartbeats 8000000
namespace K83
open PySem PySem.Spec PyProof.Rows L2 Kw
theorem kinL_kins {ds : List Ent} {c : Nat} (hc : c < ds.length) : kinL (elsOf ds) c = (kins (elsOf ds)).getD c [] := (kins_els hc).symm
theorem kinL_len {ds : List Ent} (ok : DsOk ds) {c : Nat} (hc : c < ds.length) (h12 : ds.length ≤ 12) : (kinL (elsOf ds) c).length ≤ 12 := by
  rw [kinL_kins hc]
  exact kin_len ok hc h12
theorem kinL_lt {ds : List Ent} (ok : DsOk ds) {c x : Nat} (hc : c < ds.length) (h : x ∈ kinL (elsOf ds) c) : x < ds.length := by
  rw [kinL_kins hc] at h
  have := ok.kins.le c (by rw [kinsL]; exact hc) x h
  omega
theorem set_if {σ : L2.St} {H : Hp} {c : TT} {t e rest : TS} {D : Ends} (Inv : L2.St → Hp → Prop) (k : ∀ σ H, Inv σ H → rest D σ H) (h : ∀ N : L2.St → Hp → Prop, (∀ σ H, Inv σ H → N σ H) → tIfS c t e { D with nx := N } σ H) : tSeq (tIfS c t e) rest D σ H := h _ k
theorem optS_non (o : Option Str) : decide (optS o = V.non) = o.isNone := by
  cases o with
  | none => exact decide_eq_true rfl
  | some z => exact decide_eq_false fun e => by cases e
theorem getD_get {l : List Nat} {i a : Nat} (h : l[i]? = some a) : l.getD i 0 = a := by
  rw [List.getD_eq_getElem?_getD, h]
  rfl
section
variable {P : Program} {w : World} {K : PySem.W.Frag} {mg : Str → Option Value} {base : Heap} {f fW fC fN fB fI fS fP fG fA C Cn Cb Cg Ck : Addr} {fd fdW fdC fdN fdB fdI fdS fdP fdG fdA : FuncData}
def spBr (C Cb Ck : Addr) : Sp := fun vs H Q _ => ∃ (p q g : Addr) (ds : List Ent) (n : Nat) (js : List (Nat × Nat)) (lone gs : List Nat) (c : Nat), vs = [.ref p, .ref q, .ref g, natV c] ∧ WorldAt H p C ds ∧ DsOk ds ∧ ds.length ≤ 12 ∧ KindsAt H q Ck n js lone ∧ H g = some (.tup (gs.map natV)) ∧ gs.length = ds.length ∧ (∀ x ∈ gs, x < n) ∧ c < ds.length ∧
  ∀ v H', Same H H' → OptBr H' Cb v (breachD ds js lone gs c) → Q v H'
end
end K83

set_option maxRecDepth 100000
set_option maxHeartbeats 8000000
namespace K83
open PySem PySem.Spec PyProof.Rows L2 Kw
theorem ne_self' {x : V} : (!decide (x = x)) = false := by rw [decide_eq_true rfl]; rfl
theorem ne_len {m n : Nat} (h : m ≠ n) : (!decide (V.int (m : Int) = V.int (n : Int))) = true := by
  rw [decide_eq_false fun e => h (by have := V.int.inj e; omega)]
  rfl
section
variable {P : Program} {w : World} {K : PySem.W.Frag} {mg : Str → Option Value} {base : Heap} {f fW fC fN fB fI fS fP fG fA C Cn Cb Cg Ck : Addr} {fd fdW fdC fdN fdB fdI fdS fdP fdG fdA : FuncData}
/-- a row of kinds given: right, or the index of the first that is wrong -/
inductive GivenIs (H : Hp) (m n : Nat) (x : V) : Option Nat → Prop where
  | odd {t : String} (ty : Ty0 H x t) (hs : seqT t = false) : GivenIs H m n x (some 0)
  | len {a : Addr} {xs : List V} (e : x = .ref a) (hA : SeqAt H a xs) (hl : xs.length ≠ m) (h64 : xs.length ≤ 1000) : GivenIs H m n x (some 0)
  | bad {a : Addr} {xs : List V} {i : Nat} {y : V} {t : String} (e : x = .ref a) (hA : SeqAt H a xs) (hl : xs.length = m) (pre : ∀ j z, j < i → xs[j]? = some z → ∃ k : Nat, z = natV k ∧ k < n) (hy : xs[i]? = some y) (ty : Ty0 H y t) (hb : wholeB (.int 0) (.int ((n : Int) - 1)) y = false) : GivenIs H m n x (some i)
  | good {a : Addr} {gs : List Nat} (e : x = .ref a) (hA : SeqAt H a (gs.map natV)) (hl : gs.length = m) (hn : ∀ k ∈ gs, k < n) : GivenIs H m n x none
def GoodAt (H : Hp) (m n : Nat) (x : V) (gs : List Nat) : Prop := ∃ a, x = .ref a ∧ SeqAt H a (gs.map natV) ∧ gs.length = m ∧ ∀ k ∈ gs, k < n
def BadAt (H : Hp) (m n : Nat) (x : V) (i : Nat) : Prop := GivenIs H m n x (some i)
def spGiven (C Ck Cg : Addr) : Sp := fun vs H Q E => ∃ (p q : Addr) (x : V) (ds : List Ent) (n : Nat) (js : List (Nat × Nat)) (lone : List Nat), vs = [.ref p, .ref q, x] ∧ WorldAt H p C ds ∧ ds.length ≤ 12 ∧ KindsAt H q Ck n js lone ∧
  ((∃ gs, GoodAt H ds.length n x gs ∧ ∀ t H', Same H H' → H' t = some (.tup (gs.map natV)) → Q (.ref t) H') ∨
   (∃ i, BadAt H ds.length n x i ∧ ∀ d H', Same H H' → H' d = some (.xd (errF ["index"] [.int (i : Nat)])) → E (.ref Cg) (some d) H'))
end
end K83

set_option maxRecDepth 100000
set_option maxHeartbeats 8000000
namespace K83
open PySem PySem.Spec PyProof.Rows L2 Kw
theorem cut_headT (xs : List V) (i : Nat) (h : i < xs.length) : ¬ (HT.sIx xs.length 0 none = 0 ∧ HT.sIx xs.length xs.length (some (i : Int)) = xs.length) ∧ cutV xs none (some (i : Int)) = xs.take i := by
  constructor
  · rw [HT.sIx_nat]
    omega
  · unfold cutV
    rw [HT.sIx_nat, HT.sIx_none, Nat.min_eq_left (by omega)]
    simp
theorem OptBr.non {H : Hp} {Cb : Addr} {v : V} {o : Option (Nat × Nat × Nat × Str)} (h : OptBr H Cb v o) : (!decide (v = V.non)) = o.isSome := by
  rcases h with ⟨rfl, rfl⟩ | ⟨z, p, rfl, rfl, _⟩
  · rfl
  · rw [decide_eq_false fun e => by cases e]
    rfl
section
variable {P : Program} {w : World} {K : PySem.W.Frag} {mg : Str → Option Value} {base : Heap} {f fW fB fS fG fR fJ C Cn Cb Cg Ck Cd : Addr} {fd fdW fdB fdS fdG fdR fdJ : FuncData}
def spKept (C Cb Ck Cg : Addr) : Sp := fun vs H Q E => ∃ (p q : Addr) (x : V) (ds : List Ent) (n : Nat) (js : List (Nat × Nat)) (lone : List Nat), vs = [.ref p, .ref q, x] ∧ WorldAt H p C ds ∧ DsOk ds ∧ ds.length ≤ 12 ∧ KindsAt H q Ck n js lone ∧
  ((∃ gs, GoodAt H ds.length n x gs ∧ ∀ v H', Same H H' → OptBr H' Cb v (breachA ds js lone gs) → Q v H') ∨
   (∃ i, BadAt H ds.length n x i ∧ ∀ d H', Same H H' → H' d = some (.xd (errF ["index"] [.int (i : Nat)])) → E (.ref Cg) (some d) H'))
/-! ### the constructor of Kinds, given what is right -/
def spRowF : Sp := fun vs H Q _ => ∃ (a : Addr) (n : Nat) (xs : List Nat), vs = [.ref a, natV n] ∧ SeqAt H a (xs.map natV) ∧ xs.Nodup ∧ (∀ x ∈ xs, x < n) ∧ xs.length ≤ 1000 ∧ ∀ H', Same H H' → Q .non H'
/-- couples as given: each a list or a tuple of two, either way round -/
def normP (q : Nat × Nat) : Nat × Nat := (min q.1 q.2, max q.1 q.2)
def CouplesAt (H : Hp) : List V → List (Nat × Nat) → Prop := Paired fun v q => ∃ t, v = .ref t ∧ SeqAt H t [natV q.1, natV q.2]
theorem CouplesAt.same {H H' : Hp} (s : Same H H') : ∀ {us : List V} {qs : List (Nat × Nat)}, CouplesAt H us qs → CouplesAt H' us qs
  | [], [], _ => .nil
  | _ :: _, _ :: _, .cons ⟨t, e, h⟩ r => .cons ⟨t, e, h.same s⟩ (CouplesAt.same s r)
theorem CouplesAt.len {H : Hp} {us : List V} {qs : List (Nat × Nat)} (h : CouplesAt H us qs) : us.length = qs.length := Paired.length h
theorem CouplesAt.at {H : Hp} {us : List V} {qs : List (Nat × Nat)} (h : CouplesAt H us qs) : ∀ {j : Nat} {v : V}, us[j]? = some v → ∃ q t, qs[j]? = some q ∧ v = .ref t ∧ SeqAt H t [natV q.1, natV q.2] := by
  induction h with
  | nil => intro j v hj; simp at hj
  | cons z _ ih =>
    intro j v hj
    obtain ⟨t, e, h⟩ := z
    cases j with
    | zero => exact ⟨_, t, rfl, by rw [← e]; exact (Option.some.inj hj).symm, h⟩
    | succ j => exact ih (j := j) hj
structure CoupOk (n : Nat) (qs : List (Nat × Nat)) : Prop where
  ne : ∀ q ∈ qs, q.1 ≠ q.2 ∧ q.1 < n ∧ q.2 < n
  nd : (qs.map normP).Nodup
  few : qs.length ≤ 25
def codeP (q : Nat × Nat) : List Int := [((normP q).1 : Int), ((normP q).2 : Int)]
theorem codeP_inj {q r : Nat × Nat} (h : codeP q = codeP r) : normP q = normP r := by
  unfold codeP at h
  have h1 := (List.cons.inj h).1
  have h2 := (List.cons.inj (List.cons.inj h).2).1
  exact Prod.ext (by omega) (by omega)
theorem norm_sorted {q : Nat × Nat} {ys : List Int} (ne : q.1 ≠ q.2) (p : ys.Perm [(q.1 : Int), (q.2 : Int)]) (so : ys.Pairwise (· ≤ ·)) : ys = codeP q := by
  match ys, p.length_eq with
  | [u, v], _ =>
    have le : u ≤ v := List.rel_of_pairwise_cons so List.mem_cons_self
    have m1 : (q.1 : Int) ∈ [u, v] := p.mem_iff.mpr List.mem_cons_self
    have m2 : (q.2 : Int) ∈ [u, v] := p.mem_iff.mpr (List.mem_cons_of_mem _ List.mem_cons_self)
    have n1 : u ∈ [(q.1 : Int), (q.2 : Int)] := p.mem_iff.mp List.mem_cons_self
    have n2 : v ∈ [(q.1 : Int), (q.2 : Int)] := p.mem_iff.mp (List.mem_cons_of_mem _ List.mem_cons_self)
    simp only [List.mem_cons, List.not_mem_nil, or_false] at m1 m2 n1 n2
    unfold codeP normP
    show [u, v] = [((min q.1 q.2 : Nat) : Int), ((max q.1 q.2 : Nat) : Int)]
    have e1 : u = ((min q.1 q.2 : Nat) : Int) := by omega
    have e2 : v = ((max q.1 q.2 : Nat) : Int) := by omega
    rw [e1, e2]
def spJoinF : Sp := fun vs H Q _ => ∃ (a : Addr) (n : Nat) (us : List V) (qs : List (Nat × Nat)), vs = [.ref a, natV n] ∧ SeqAt H a us ∧ CouplesAt H us qs ∧ CoupOk n qs ∧ ∀ H', Same H H' → Q .non H'
end
end K83

set_option maxRecDepth 100000
set_option maxHeartbeats 8000000
namespace K83
open PySem PySem.Spec PyProof.Rows L2 Kw
/-! ### sorted of couples -/
def keyP (H : Hp) : V → Int × Int
  | .ref t => match H t with
    | some (.tup [.int i, .int j]) => (i, j)
    | _ => (0, 0)
  | _ => (0, 0)
theorem keyP_at {H : Hp} {t : Addr} {i j : Nat} (h : H t = some (.tup [natV i, natV j])) : keyP H (.ref t) = ((i : Int), (j : Int)) := by
  show (match H t with | some (.tup [.int i, .int j]) => (i, j) | _ => (0, 0)) = _
  rw [h]
  rfl
theorem PairsAt.mem {H : Hp} : ∀ {us : List V} {ps : List (Nat × Nat)}, PairsAt H us ps → ∀ x ∈ us, ∃ t i j, x = .ref t ∧ H t = some (.tup [natV i, natV j])
  | [], [], _, x, hx => by cases hx
  | _ :: _, _ :: _, .cons ⟨t, e, h⟩ r, x, hx => by
    rcases List.mem_cons.mp hx with rfl | hx
    · exact ⟨t, _, _, e, h⟩
    · exact PairsAt.mem r x hx
def natP (H : Hp) (v : V) : Nat × Nat := ((keyP H v).1.toNat, (keyP H v).2.toNat)
theorem PairsAt.of_mem {H : Hp} : ∀ {us : List V}, (∀ x ∈ us, ∃ t i j, x = .ref t ∧ H t = some (.tup [natV i, natV j])) → PairsAt H us (us.map (natP H))
  | [], _ => .nil
  | u :: us, h => by
    obtain ⟨t, i, j, e, ht⟩ := h u List.mem_cons_self
    refine .cons ⟨t, e, ?_⟩ (PairsAt.of_mem fun x hx => h x (List.mem_cons_of_mem _ hx))
    rw [e]
    unfold natP
    rw [keyP_at ht]
    exact ht
theorem PairsAt.nats {H : Hp} : ∀ {us : List V} {ps : List (Nat × Nat)}, PairsAt H us ps → us.map (natP H) = ps
  | [], [], _ => rfl
  | _ :: _, (i, j) :: _, .cons ⟨t, e, h⟩ r => by
    rw [List.map_cons, PairsAt.nats r, e]
    unfold natP
    rw [keyP_at h]
    rfl
def rSortPs (K : PySem.W.Frag) : List V → Hp → VK → Prop := fun vs H Q => ∃ (a : Addr) (us : List V) (ps : List (Nat × Nat)), vs = [.ref a] ∧ SqL K H a us ∧ PairsAt H us ps ∧ ps.Nodup ∧
  ∀ (ys : List V) (qs : List (Nat × Nat)) (p : Addr), PairsAt H ys qs → qs.Perm ps → SortP qs → H p = none → Q (.ref p) (upd H p (.lst ys))
theorem call_sortPs {X : Cx} : CallR X (.builtin "sorted") (rSortPs X.K) := fun pins s σ H xs us0 Q I r q => by
  obtain ⟨a, us, ps, rfl, hS, hP, nd, k⟩ := q
  refine cr_sortedPO pins s σ H _ us0 Q I r ⟨a, us, keyP H, rfl, hS, fun x hx => ?_, fun ys p h1 h2 hp => ?_⟩
  · obtain ⟨t, i, j, rfl, ht⟩ := hP.mem x hx
    refine ⟨t, rfl, ?_⟩
    rw [keyP_at ht]
    exact ht
  · have pm : ys.Perm us := h2.perm
    have hm : ∀ x ∈ ys, ∃ t i j, x = .ref t ∧ H t = some (.tup [natV i, natV j]) := fun x hx => hP.mem x (pm.mem_iff.mp hx)
    have e : (ys.map (natP H)).Perm ps := by
      have := pm.map (natP H)
      rw [hP.nats] at this
      exact this
    refine k ys _ p (PairsAt.of_mem hm) e ?_ hp
    have nd2 : (ys.map (natP H)).Nodup := e.nodup_iff.mpr nd
    have c := (List.pairwise_map.mp nd2).and h1
    refine List.pairwise_map.mpr (List.Pairwise.imp_of_mem (fun {x y} hx hy z => ?_) c)
    obtain ⟨t, i, j, rfl, ht⟩ := hm x hx
    obtain ⟨t', i', j', rfl, ht'⟩ := hm y hy
    have z1 := z.1
    have z2 := SrtO.lexB_no.mp z.2
    unfold natP at z1 ⊢
    rw [keyP_at ht, keyP_at ht'] at z1 z2 ⊢
    have z1 : ¬ ((i : Nat), (j : Nat)) = ((i' : Nat), (j' : Nat)) := z1
    have z2 : ¬ ((i' : Int) < (i : Int) ∨ ((i' : Int) = (i : Int) ∧ (j' : Int) < (j : Int))) := z2
    show i < i' ∨ (i = i' ∧ j < j')
    have z3 : ¬ (i = i' ∧ j = j') := fun ⟨a, b⟩ => z1 (by rw [a, b])
    omega
end K83

set_option maxRecDepth 100000
set_option maxHeartbeats 8000000
namespace K83
open PySem PySem.Spec PyProof.Rows L2 Kw
def upK (n : Nat) (xs : List Nat) : List Nat := (List.range n).filter fun k => xs.contains k
theorem upK_up {n : Nat} {xs : List Nat} : (upK n xs).Pairwise (· < ·) := List.Pairwise.filter _ List.pairwise_lt_range
theorem upK_mem {n : Nat} {xs : List Nat} (h : ∀ x ∈ xs, x < n) {x : Nat} : x ∈ upK n xs ↔ x ∈ xs := by
  unfold upK
  rw [List.mem_filter, List.mem_range, List.contains_iff_mem]
  exact ⟨fun z => z.2, fun z => ⟨h x z, z⟩⟩
abbrev FnMd (K : PySem.W.Frag) (x qual : Str) (st : Stmt) (dvs : List V) (f : Addr) (fd : FuncData) : Prop := FunD K x qual (defArgs st) (defBody st) (defScope st) dvs [] f fd
theorem seq_oth {H H' : Hp} {a p C dx : Addr} {xs : List V} {fs : List (Str × V)} (h : SeqAt H a xs) (O : Oth p H H') (hp : H p = some (.ins C dx fs)) : SeqAt H' a xs := by
  rcases h with h | h
  · exact .inl (O _ _ (fun z => by rw [z, hp] at h; cases h) h)
  · exact .inr (O _ _ (fun z => by rw [z, hp] at h; cases h) h)
theorem PairsAt.tups {H H' : Hp} (k : ∀ b ws, H b = some (.tup ws) → H' b = some (.tup ws)) : ∀ {us : List V} {ps : List (Nat × Nat)}, PairsAt H us ps → PairsAt H' us ps
  | [], [], _ => .nil
  | _ :: _, _ :: _, .cons ⟨t, e, h⟩ r => .cons ⟨t, e, k _ _ h⟩ (PairsAt.tups k r)
theorem norm_ints (q : Nat × Nat) : (codeP q).map V.int = [natV (normP q).1, natV (normP q).2] := rfl
section
variable {P : Program} {w : World} {K : PySem.W.Frag} {mg : Str → Option Value} {base : Heap} {f fW fS fJ fR Ck z0 : Addr} {fd fdW fdS fdJ fdR : FuncData}
def spKindsI (Ck : Addr) : Sp := fun vs H Q _ => ∃ (p dx j b : Addr) (n : Nat) (us : List V) (qs : List (Nat × Nat)) (xs : List Nat), vs = [.ref p, natV n, .ref j, .ref b] ∧ H p = some (.ins Ck dx []) ∧ 1 ≤ n ∧ n ≤ 5 ∧ SeqAt H j us ∧ CouplesAt H us qs ∧ CoupOk n qs ∧ SeqAt H b (xs.map natV) ∧ xs.Nodup ∧ (∀ x ∈ xs, x < n) ∧ xs.length ≤ 1000 ∧
  ∀ H' js, Oth p H H' → js.Perm (qs.map normP) → SortP js → KindsAt H' p Ck n js (upK n xs) → Q .non H'
end
end K83

set_option maxRecDepth 100000
set_option maxHeartbeats 8000000
namespace K83
open PySem PySem.Spec PyProof.Rows L2 Kw
theorem PairsAt.updL' {H : Hp} {D : Addr} {xs ys : List V} (hD : H D = some (.lst xs)) : ∀ {us : List V} {ps : List (Nat × Nat)}, PairsAt H us ps → PairsAt (upd H D (.lst ys)) us ps
  | [], [], _ => .nil
  | _ :: _, _ :: _, .cons ⟨t, e, h⟩ r => .cons ⟨t, e, upB (fun z => by rw [z, hD] at h; cases h) h⟩ (PairsAt.updL' hD r)
theorem WorldAt.oth {H H' : Hp} {p q C Cs dq : Addr} {fs : List (Str × V)} {ds : List Ent} (h : WorldAt H p C ds) (pq : p ≠ q) (hq : H q = some (.ins Cs dq fs)) (O : Oth q H H') : WorldAt H' p C ds := by
  have kt : TupK H H' := O.tupK hq
  obtain ⟨dx, ac, ab, ao, am, ae, ah, cs, bs, ms, es, hs, h1, h2, h3, h4, h5, h6, h7, h8, h9, h10, h11, h12⟩ := h
  exact ⟨dx, ac, ab, ao, am, ae, ah, cs, bs, ms, es, hs, O _ _ pq h1, kt _ _ h2, h3.mono kt, kt _ _ h4, h5.mono kt, kt _ _ h6, kt _ _ h7, h8.mono kt, kt _ _ h9, h10.mono kt, kt _ _ h11, h12.mono kt⟩
theorem PairsAt.tupK {H H' : Hp} (k : TupK H H') : ∀ {us : List V} {ps : List (Nat × Nat)}, PairsAt H us ps → PairsAt H' us ps
  | [], [], _ => .nil
  | _ :: _, _ :: _, .cons ⟨t, e, h⟩ r => .cons ⟨t, e, k _ _ h⟩ (PairsAt.tupK k r)
section
variable {P : Program} {w : World} {K : PySem.W.Frag} {mg : Str → Option Value} {base : Heap} {f fS fI C Cl z0 : Addr} {fd fdS fdI : FuncData}
def spLinksI (C Cl : Addr) : Sp := fun vs H Q _ => ∃ (p dx wp j : Addr) (ds : List Ent) (us : List V) (qs : List (Nat × Nat)), vs = [.ref p, .ref wp, .ref j] ∧ H p = some (.ins Cl dx []) ∧ WorldAt H wp C ds ∧ ds.length ≤ 12 ∧ SeqAt H j us ∧ CouplesAt H us qs ∧ qs.Nodup ∧ (∀ q ∈ qs, linkB ds q.1 q.2 = true) ∧ qs.length ≤ 60 ∧ wp ≠ p ∧
  ∀ H' ls, Oth p H H' → ls.Perm qs → SortP ls → LinksAt H' p Cl wp C ds ls → Q .non H'
theorem sc_linksI : FnScope ["self", "world", "shared", "found", "index", "link"] ["self", "world", "shared"] (defScope (inClass (top 17) 0)) := ⟨rfl, rfl, rfl, by decide +kernel, rfl, by decide +kernel, by decide +kernel⟩
theorem binds_links (F : FnMd K "__init__" "Links.__init__" (inClass (top 17) 0) [.ref z0] f fd) : L2.Binds K fd ["self", "world", "shared"] [] := by
  obtain ⟨ds, v, b⟩ := F.binds1 (ps := ["self", "world", "shared"]) 3 1 (by simp) rfl fun T kV doc pm an cdv ct us its hu hi => match us, hu, its, hi with | [_, _, _], _, [_], _ => ⟨_, rfl, rfl⟩
  cases v
  exact b
theorem ok_linksI (F : FnMd K "__init__" "Links.__init__" (inClass (top 17) 0) [.ref z0] f fd) (B : Fr mg) (TL : ClsF K Cl ["world", "shared"]) (FS : FnP K "is_sequence" 10 fS fdS) (mS : mg "is_sequence" = some (.ref fS)) (FI : FnP K "is_link_of" 18 fI fdI) (mI : mg "is_link_of" = some (.ref fI)) (GI : FnOk P w K mg base CX0 3 fI fdI ["world", "thing"] (spLink C)) :
    FnOk P w K mg base CX0 4 f fd ["self", "world", "shared"] (spLinksI C Cl) := by
  have GS : FnOk P w K mg base CX0 1 fS fdS ["thing"] spIsSeq := ok_isSeq FS B
  have bS : L2.Binds K fdS ["thing"] [] := FS.bindsN fun _ _ _ _ _ _ us hl => match us, hl with | [_], _ => rfl
  have bI : L2.Binds K fdI ["world", "thing"] [] := FI.bindsN fun _ _ _ _ _ _ us hl => match us, hl with | [_, _], _ => rfl
  refine F.ok sc_linksI (fun vs H Q E h => ?_) (fun cdv A outer s H vs Q E hr h => ?_)
  · obtain ⟨p, dx, wp, j, ds, us, qs, rfl, _⟩ := h
    rfl
  · obtain ⟨p, dx, wp, j, ds, us, qs, rfl, hp, hw, h12, hj, hC, nd, lk, few, wne, k⟩ := h
    refine ⟨_, PSs.nox (pss_cons (ps_if (pt_not (pt_val (pe_call GS (hr.mono (by decide)) (by rfl) mS FS.kp bS .nil pass0 (pa_cons (pv 2) pa_nil)))) (pss_one ps_never) pss_nil)
      (pss_cons (ps_set (i := 3) sc_linksI.nd rfl (Or.inl rfl) (pe_lst pa_nil))
      (pss_cons (ps_for PassesOwn.never rfl (pi_or (pi_enum (by rfl) B.enumerate (pa_cons (pv 2) pa_nil)) (pi_enumT (by rfl) B.enumerate (pa_cons (pv 2) pa_nil))) (pg_tup (by rfl) (pgs_cons (pg_name (i := 4) sc_linksI.nd rfl (Or.inl rfl)) (pgs_cons (pg_name (i := 5) sc_linksI.nd rfl (Or.inl rfl)) pgs_nil)))
        (pss_cons (ps_if (PW.pt (pw_or (pt_not (pt_val (pe_call GI hr (by rfl) mI FI.kp bI .nil pass0 (pa_cons (pv 1) (pa_cons (pv 5) pa_nil))))) (pw_or1 (pt_cmpR (r := rInD K) (op_inD (room65 hr)) (pe_callTy (T := "tuple") (r := rTupOf K) (call_tup (X := _)) (by rfl) B.tuple (by decide +kernel) (pa_cons (pv 5) pa_nil)) (pv 3) (by rfl))))) (pss_one ps_never) pss_nil)
        (pss_one (ps_expr (pe_bm PySem.F.plainAttrs_list PySem.F.slot_list_append PySem.F.type_list_append mt_append (pv 3) (pa_cons (pe_callTy (T := "tuple") (r := rTupOf K) (call_tup (X := _)) (by rfl) B.tuple (by decide +kernel) (pa_cons (pv 5) pa_nil)) pa_nil))))))
      (pss_cons (ps_fld (pv 0) (pv 1) rfl)
      (pss_one (ps_fld (pv 0) (pe_callTy (T := "tuple") (r := rTupOf K) (call_tup (X := _)) (by rfl) B.tuple (by decide +kernel) (pa_cons (pe_callB (r := rSortPs K) (call_sortPs (X := _)) (by rfl) B.sorted (by decide +kernel) (pa_cons (pv 3) pa_nil)) pa_nil)) rfl)))))), ?_⟩
    obtain ⟨ty, tyA, hseq⟩ := hj.ty
    refine ⟨_, rfl, _, ty, rfl, tyA, fun H1 s1 => ⟨_, rfl, ?_⟩⟩
    rw [hseq]
    refine iteF' rfl ⟨by decide, fun D hD => ?_⟩
    have usl : us.length = qs.length := hC.len
    have HD : H D = none := by
      cases e : H D with
      | none => rfl
      | some o =>
        rw [s1 _ _ e] at hD
        cases hD
    have sD := s1.trans (same_new (o := .lst []) hD)
    refine for_enumS (K := K) (a := j) (xs := us) rfl hj sD (fun i σ H' => Same H H' ∧ ∃ x4 x5 ws, σ = [some (.ref p), some (.ref wp), some (.ref j), some (.ref D), x4, x5] ∧ H' D = some (.lst ws) ∧ PairsAt H' ws (qs.take i)) ⟨sD, none, none, [], rfl, upd_same, .nil⟩ (fun i σ H' h => h.1) ?_ ?_
    · rintro i e σ H2 T hi ⟨s2, x4, x5, ws, rfl, hD2, hP⟩ hT
      obtain ⟨q, t, hq, rfl, ht⟩ := hC.at hi
      have iq : i < qs.length := (List.getElem?_eq_some_iff.mp hq).1
      have sT := same_new (o := .tup [.int (i : Nat), .ref t]) hT
      refine ⟨T, _, rfl, SqT.of upd_same, rfl, _, _, rfl, _, _, rfl, rfl, ?_⟩
      have z1 := s2.trans sT
      have hD3 := sT _ _ hD2
      have hP3 := hP.same sT
      generalize upd H2 T (.tup [.int (i : Nat), .ref t]) = H3 at sT z1 hD3 hP3 ⊢
      refine ⟨_, rfl, _, rfl, wp, t, ds, q.1, q.2, rfl, hw.mono z1, h12, ht.same z1, fun H4 s4 => ⟨_, rfl, ?_⟩⟩
      rw [lk q (List.mem_of_getElem? hq)]
      refine iteF' rfl ?_
      have z4 := z1.trans s4
      refine ⟨_, rfl, tup_q (ht.same z4) fun u H5 s5 hu => ?_⟩
      have z5 := z4.trans s5
      have hD5 := (s4.trans s5) _ _ hD3
      have hP5 := hP3.same (s4.trans s5)
      have out : q ∉ qs.take i := fun hm => by
        obtain ⟨m, hm'⟩ := List.mem_iff_getElem?.mp hm
        rw [List.getElem?_take] at hm'
        by_cases mi : m < i
        · rw [if_pos mi] at hm'
          obtain ⟨h3, h4⟩ := List.getElem?_eq_some_iff.mp hm'
          obtain ⟨h5, h6⟩ := List.getElem?_eq_some_iff.mp hq
          have := List.pairwise_iff_getElem.mp nd m i h3 h5 mi
          exact this (by rw [h4, h6])
        · rw [if_neg mi] at hm'
          cases hm'
      refine ⟨_, rfl, dPair q, (qs.take i).map dPair, .tup (SqT.of hu) (.cons (.int _) (.cons (.int _) .nil)), .lst (SqL.of hD5) (dp_pairs hP5), (lay_pair _).shaped (by decide), (LayD.lst (n := 1) fun d hd => by obtain ⟨x, _, rfl⟩ := List.mem_map.mp hd; exact lay_pair x).shaped (by decide), ?_⟩
      rw [any_pair, decide_eq_false out]
      refine ⟨_, rfl, iteF' rfl ?_⟩
      refine ⟨_, rfl, .inl ⟨rfl, _, SqL.of hD5⟩, _, rfl, tup_q (ht.same z5) fun v H6 s6 hv => ?_⟩
      have hD6 := s6 _ _ hD5
      have wl : ws.length ≤ 60 := by
        rw [hP.len, List.length_take]
        omega
      have vD : v ≠ D := fun z => by rw [z, hD6] at hv; cases hv
      refine ⟨D, ws, _, rfl, rfl, hD6, (by show _ < 2 ^ 24; omega), same_upd (z5.trans s6) HD, _, _, ws ++ [.ref v], rfl, upd_same, ?_⟩
      rw [List.take_add_one, hq, Option.toList_some]
      exact (PairsAt.updL' hD6 (hP5.same s6)).app (.cons ⟨v, rfl, upB vD hv⟩ .nil)
    · rintro σ H2 ⟨s2, x4, x5, ws, rfl, hD2, hP⟩
      rw [usl, List.take_length] at hP
      refine ⟨_, rfl, _, rfl, p, Cl, dx, _, rfl, s2 _ _ hp, TL.cl, TL.no _ (List.mem_of_getElem? (i := 0) rfl), (by show 0 < _; decide), ?_⟩
      have zG0 : Oth p H (upd H2 p (.ins Cl dx (putF ("world" : Str) (.ref wp) []))) := (Oth.of s2).upd
      have Dp : D ≠ p := fun z => by
        rw [z, s2 _ _ hp] at hD2
        cases hD2
      have ntp : ∀ {b : Addr} {xs : List V}, H2 b = some (.tup xs) → b ≠ p := fun e z => by
        rw [z, s2 _ _ hp] at e
        cases e
      have DG : upd H2 p (.ins Cl dx (putF ("world" : Str) (.ref wp) [])) D = some (.lst ws) := upB Dp hD2
      have PG : PairsAt (upd H2 p (.ins Cl dx (putF ("world" : Str) (.ref wp) []))) ws qs := PairsAt.tups (fun b xs e => upB (ntp e) e) hP
      generalize hG : upd H2 p (.ins Cl dx (putF ("world" : Str) (.ref wp) [])) = G at zG0 DG PG ⊢
      have hpG : G p = some (.ins Cl dx [("world", .ref wp)]) := by rw [← hG]; exact upd_same
      refine ⟨_, rfl, D, ws, qs, rfl, SqL.of DG, PG, nd, fun ys ls q hq perm so hqn => ?_⟩
      have sq := same_new (o := .lst ys) hqn
      refine tup_q (.inl upd_same) fun u H6 s6 hu6 => ?_
      have z6 := sq.trans s6
      have hq6 := hq.same z6
      refine ⟨_, rfl, p, Cl, dx, _, rfl, z6 _ _ hpG, TL.cl, TL.no _ (List.mem_of_getElem? (i := 1) rfl), (by show 1 < _; decide), ?_⟩
      have o6 : Oth p H (upd H6 p (.ins Cl dx [("world", .ref wp), ("shared", .ref u)])) := (zG0.trans (Oth.of z6)).upd
      have nt : ∀ {b : Addr} {xs : List V}, H6 b = some (.tup xs) → b ≠ p := fun e z => by
        rw [z, z6 _ _ hpG] at e
        cases e
      exact k _ ls o6 perm so ⟨dx, u, ys, upd_same, hw.oth wne hp o6, upB (nt hu6) hu6, PairsAt.tups (fun b xs e => upB (nt e) e) hq6⟩
end
end K83

set_option maxRecDepth 100000
set_option maxHeartbeats 8000000
namespace K83
open PySem PySem.Spec PyProof.Rows L2 Kw
/-- all links of a world, class by class -/
def pairsUp (ds : List Ent) (n : Nat) : List (Nat × Nat) := (List.range n).flatMap fun c => (basesOf ds c).map fun b => (c, b)
def pairsOf (ds : List Ent) : List (Nat × Nat) := pairsUp ds ds.length
theorem pairsUp_succ {ds : List Ent} {n : Nat} : pairsUp ds (n + 1) = pairsUp ds n ++ (basesOf ds n).map fun b => (n, b) := by
  unfold pairsUp
  rw [List.range_succ, List.flatMap_append]
  simp
theorem pairsUp_len {ds : List Ent} (ok : DsOk ds) : ∀ n, (pairsUp ds n).length ≤ 5 * n
  | 0 => Nat.le_refl _
  | n + 1 => by
    rw [pairsUp_succ, List.length_append, List.length_map]
    have h1 := pairsUp_len ok n
    have h2 : (basesOf ds n).length ≤ 5 := by
      unfold basesOf
      rw [List.getD_eq_getElem?_getD]
      cases e : ds[n]? with
      | none => exact Nat.zero_le _
      | some d => exact Nat.le_trans (ok n d e).2.2.1 (by decide)
    omega
section
variable {P : Program} {w : World} {K : PySem.W.Frag} {mg : Str → Option Value} {base : Heap} {f : Addr} {fd : FuncData}
def spPairsOf : Sp := fun vs H Q _ => ∃ (r R : Addr) (us : List V) (ds : List Ent), vs = [.ref r] ∧ H r = some (.lst us) ∧ RwN R H us ds ∧ DsOk ds ∧ ds.length ≤ 12 ∧ ∀ D us' H', Same H H' → H D = none → H' D = some (.lst us') → PairsAt H' us' (pairsOf ds) → Q (.ref D) H'
theorem sc_pairsOf : FnScope ["_law_rows", "_law_found", "_law_c", "_law_base"] ["_law_rows"] (defScope (top 56)) := ⟨rfl, rfl, rfl, by decide +kernel, rfl, by decide +kernel, by decide +kernel⟩
theorem ok_pairsOf (F : FnP K "_law_pairs" 56 f fd) (B : Fr mg) : FnOk P w K mg base CX0 1 f fd ["_law_rows"] spPairsOf := by
  refine F.ok sc_pairsOf (fun vs H Q E h => ?_) (fun cdv A outer s H vs Q E hr h => ?_)
  · obtain ⟨r, R, us, ds, rfl, _⟩ := h
    rfl
  · obtain ⟨r, R, us, ds, rfl, hr0, hR, ok, h12, k⟩ := h
    refine ⟨_, PSs.nox (pss_cons (ps_set (i := 1) sc_pairsOf.nd rfl (Or.inl rfl) (pe_lst pa_nil))
      (pss_cons (ps_for PassesOwn.never rfl (pi_range1 (by rfl) B.range (pa_cons (pe_callB call_len_seq (by rfl) B.len PySem.boot_len (pa_cons (pv 0) pa_nil)) pa_nil)) (pg_name (i := 2) sc_pairsOf.nd rfl (Or.inl rfl))
        (pss_one (ps_for PassesOwn.never rfl (pi_list (pe_ix (r := rIxT K) ix_tup (pe_ix (r := rIxL K) ix_list (pv 0) (pv 2) (fun _ _ => rfl)) pe_int (fun _ _ => rfl))) (pg_name (i := 3) sc_pairsOf.nd rfl (Or.inl rfl))
          (pss_one (ps_expr (pe_bm PySem.F.plainAttrs_list PySem.F.slot_list_append PySem.F.type_list_append mt_append (pv 1) (pa_cons (pe_tup (pa_cons (pv 2) (pa_cons (pv 3) pa_nil))) pa_nil)))))))
      (pss_one (ps_ret (pv 1))))), ?_⟩
    refine ⟨by decide, fun D hD => ?_⟩
    have sD := same_new (o := .lst []) hD
    have usl := hR.len
    refine ⟨_, rfl, r, us, rfl, .inl (SqL.of (sD _ _ hr0)), _, rfl, by omega, by omega, ?_⟩
    refine for_range (n := us.length) (fun i σ H' => Same H H' ∧ ∃ x2 x3 ws, σ = [some (.ref r), some (.ref D), x2, x3] ∧ H' D = some (.lst ws) ∧ PairsAt H' ws (pairsUp ds i)) ⟨sD, none, none, [], rfl, upd_same, .nil⟩ ?_ ?_
    · rintro c σ H1 hc ⟨s1, x2, x3, ws, rfl, hD1, hP⟩
      have ei : (0 : Int) + (c : Int) = (c : Int) := by omega
      rw [ei]
      obtain ⟨d, hd⟩ : ∃ d, ds[c]? = some d := ⟨_, List.getElem?_eq_getElem (by omega)⟩
      have ed : basesOf ds c = d.1 := by
        unfold basesOf
        rw [List.getD_eq_getElem?_getD, hd]
        rfl
      obtain ⟨t, b, m, e1, z1, z2, z3⟩ := hR.get hd
      refine ⟨_, rfl, _, rfl, r, us, (c : Int), _, rfl, rfl, SqL.of (s1 _ _ hr0), atI_nat e1, t, _, ((0 : Nat) : Int), _, rfl, rfl, SqT.of (s1 _ _ z1), atI_nat rfl, b, rfl, ⟨_, SqL.of (s1 _ _ z2)⟩, for_list (K := K) (a := b) (xs := d.1.map natV) (fun i σ H' => Same H H' ∧ ∃ x3 ws, σ = [some (.ref r), some (.ref D), some (natV c), x3] ∧ H' D = some (.lst ws) ∧ PairsAt H' ws (pairsUp ds c ++ (d.1.take i).map fun b => (c, b)))
        ⟨s1, x3, ws, rfl, hD1, by rw [List.take_zero, List.map_nil, List.append_nil]; exact hP⟩ (fun i σ H' _ h => SqL.of (h.1 _ _ z2)) ?_ ?_⟩
      · rintro i y σ H2 hi ⟨s2, x3, ws, rfl, hD2, hP2⟩
        rw [List.getElem?_map] at hi
        obtain ⟨bb, hbb, rfl⟩ := Option.map_eq_some_iff.mp hi
        refine ⟨_, rfl, .inl ⟨rfl, _, SqL.of hD2⟩, _, rfl, _, rfl, (by show 2 ≤ sizeLine; decide), fun T hT => ?_⟩
        have sT := same_new (o := .tup [natV c, natV bb]) hT
        have hD3 := sT _ _ hD2
        have TD : T ≠ D := Ne.symm (ne_of_none hD2 hT)
        have wl : ws.length ≤ 100 := by
          have h1 := hP2.len
          have h2 := pairsUp_len ok c
          have h3 := (ok c d hd).2.2.1
          rw [List.length_append, List.length_map, List.length_take] at h1
          omega
        refine ⟨D, ws, _, rfl, rfl, hD3, (by show _ < 2 ^ 24; omega), same_upd (s2.trans sT) hD, _, ws ++ [.ref T], rfl, upd_same, ?_⟩
        rw [List.take_add_one, hbb, Option.toList_some, List.map_append, ← List.append_assoc]
        exact (PairsAt.updL' hD3 (hP2.same sT)).app (.cons ⟨T, rfl, upB TD upd_same⟩ .nil)
      · rintro σ H2 ⟨s2, x3, ws, rfl, hD2, hP2⟩
        refine ⟨s2, _, _, ws, rfl, hD2, ?_⟩
        rw [pairsUp_succ, ed]
        rw [List.length_map, List.take_length] at hP2
        exact hP2
    · rintro σ H1 ⟨s1, x2, x3, ws, rfl, hD1, hP⟩
      rw [usl] at hP
      exact ⟨_, rfl, k D ws H1 s1 hD hD1 hP⟩
end
end K83

set_option maxRecDepth 100000
set_option maxHeartbeats 8000000
namespace K83
open PySem PySem.Spec PyProof.Rows L2 Kw
theorem seq_at' {k n : Nat} (h : k < n) : seqIndex? (k : Int) n = some k := by
  have := PySem.seqIndex_of (k := (k : Int)) (n := n) (by omega) (by omega)
  rw [Int.toNat_natCast] at this
  exact this
theorem perm_eraseV {us : List V} {c : Nat} {x : V} (h : us[c]? = some x) : us.Perm (x :: us.eraseIdx c) := by
  induction us generalizing c with
  | nil => simp at h
  | cons y r ih =>
    cases c with
    | zero =>
      obtain rfl := Option.some.inj h
      exact List.Perm.refl _
    | succ c => exact ((ih (c := c) h).cons y).trans (List.Perm.swap x y _)
section
variable {P : Program} {w : World} {K : PySem.W.Frag} {mg : Str → Option Value} {base : Heap} {f fT : Addr} {fd fdT : FuncData}
def spMixup : Sp := fun vs H Q _ => ∃ (p q a : Addr) (us : List V), vs = [.ref p, .ref a] ∧ HandAt H p q ∧ H a = some (.lst us) ∧ us.length ≤ 60 ∧ ∀ D us' H', Oth p H H' → HandAt H' p q → H D = none → H' D = some (.lst us') → us'.Perm us → Q (.ref D) H'
theorem sc_mixup : FnScope ["_law_hand_here", "_law_items", "_law_left", "_law_found"] ["_law_hand_here", "_law_items"] (defScope (top 58)) := ⟨rfl, rfl, rfl, by decide +kernel, rfl, by decide +kernel, by decide +kernel⟩
theorem ok_mixup (F : FnP K "_law_mixedup" 58 f fd) (B : Fr mg) (FT : FnP K "_law_take" 45 fT fdT) (mT : mg "_law_take" = some (.ref fT)) (GT : FnOk P w K mg base CX0 2 fT fdT ["_law_hand_here", "_law_many"] spTake) : FnOk P w K mg base CX0 3 f fd ["_law_hand_here", "_law_items"] spMixup := by
  have bT : L2.Binds K fdT ["_law_hand_here", "_law_many"] [] := FT.bindsN fun _ _ _ _ _ _ us hl => match us, hl with | [_, _], _ => rfl
  refine F.ok sc_mixup (fun vs H Q E h => ?_) (fun cdv A outer s H vs Q E hr h => ?_)
  · obtain ⟨p, q, a, us, rfl, _⟩ := h
    rfl
  · obtain ⟨p, q, a, us, rfl, hh, hA, u60, k⟩ := h
    refine ⟨_, PSs.nox (pss_cons (ps_set (i := 2) sc_mixup.nd rfl (Or.inl rfl) (pe_callTy (T := "list") (r := rListOf K) (call_lst (X := _)) (by rfl) B.list (by decide +kernel) (pa_cons (pv 1) pa_nil)))
      (pss_cons (ps_set (i := 3) sc_mixup.nd rfl (Or.inl rfl) (pe_lst pa_nil))
      (pss_cons (ps_while PassesOwn.never (pt_truth (pv 2) (by intro _; rfl))
        (pss_one (ps_expr (pe_bm PySem.F.plainAttrs_list PySem.F.slot_list_append PySem.F.type_list_append mt_append (pv 3) (pa_cons (pe_bm PySem.F.plainAttrs_list PySem.F.slot_list_pop PySem.F.type_list_pop mt_popAt (pv 2) (pa_cons (pe_call GT hr (by rfl) mT FT.kp bT .nil pass0 (pa_cons (pv 0) (pa_cons (pe_callB call_len_seq (by rfl) B.len PySem.boot_len (pa_cons (pv 2) pa_nil)) pa_nil))) pa_nil)) pa_nil)))))
      (pss_one (ps_ret (pv 3)))))), ?_⟩
    refine ⟨_, rfl, a, us, rfl, .inl (SqL.of hA), fun L hL => ?_⟩
    have sL := same_new (o := .lst us) hL
    obtain ⟨Lp, Lq⟩ := hh.ne hL
    refine ⟨by decide, fun D hDn => ?_⟩
    have sD := same_new (o := .lst []) hDn
    have h1 := (hh.same sL).same sD
    obtain ⟨Dp, Dq⟩ := (hh.same sL).ne hDn
    have HD : H D = none := by
      cases e : H D with
      | none => rfl
      | some o =>
        rw [sL _ _ e] at hDn
        cases hDn
    have LD : L ≠ D := fun z => by
      rw [← z, upd_same] at hDn
      cases hDn
    have L2' := sD _ _ (upd_same (H := H) (a := L) (o := .lst us))
    have D2' := upd_same (H := upd H L (.lst us)) (a := D) (o := .lst [])
    have s2 := sL.trans sD
    generalize upd (upd H L (.lst us)) D (.lst []) = H2 at h1 L2' D2' s2 ⊢
    refine ⟨fun m σ H' => ∃ rest done : List V, m = rest.length ∧ σ = [some (.ref p), some (.ref a), some (.ref L), some (.ref D)] ∧ Oth p H H' ∧ HandAt H' p q ∧ H' L = some (.lst rest) ∧ H' D = some (.lst done) ∧ (done ++ rest).Perm us, ⟨_, us, [], rfl, rfl, Oth.of s2, h1, L2', D2', List.Perm.refl _⟩, ?_⟩
    rintro m σ H3 ⟨rest, done, rfl, rfl, O3, h3, L3, D3, pm⟩
    have pl := pm.length_eq
    rw [List.length_append] at pl
    refine ⟨_, rfl, !rest.isEmpty, .inl ⟨rest, SqL.of L3, rfl⟩, ?_⟩
    cases hre : rest with
    | nil =>
      rw [hre, List.append_nil] at pm
      exact iteF' rfl ⟨_, rfl, k D done H3 O3 h3 HD D3 pm⟩
    | cons x0 r0 =>
      rw [← hre]
      have rl : 1 ≤ rest.length := by rw [hre, List.length_cons]; omega
      refine iteT' (by rw [hre]; rfl) ?_
      refine ⟨fun σ' H' => ∃ rest' done' : List V, rest'.length + 1 = rest.length ∧ σ' = [some (.ref p), some (.ref a), some (.ref L), some (.ref D)] ∧ Oth p H H' ∧ HandAt H' p q ∧ H' L = some (.lst rest') ∧ H' D = some (.lst done') ∧ (done' ++ rest').Perm us, fun σ' H' ⟨rest', done', e, e2⟩ => ⟨rest'.length, by omega, rest', done', rfl, e2⟩, ?_⟩
      refine ⟨_, rfl, .inl ⟨rfl, _, SqL.of D3⟩, _, rfl, .inl ⟨rfl, _, SqL.of L3⟩, _, rfl, _, rfl, L, rest, rfl, .inl (SqL.of L3), p, q, (rest.length : Int), rfl, by omega, by omega, h3, fun r H4 b0 b1 h4 e4 => ?_⟩
      obtain ⟨c, rfl⟩ : ∃ c : Nat, r = (c : Int) := ⟨r.toNat, by omega⟩
      have cl : c < rest.length := by omega
      have L4 := (Oth.take e4) _ _ Lp L3
      have D4 := (Oth.take e4) _ _ Dp D3
      obtain ⟨v, hv⟩ : ∃ v, rest[c]? = some v := ⟨_, List.getElem?_eq_getElem cl⟩
      refine ⟨L, rest, (c : Int), c, v, rfl, rfl, L4, by omega, by omega, seq_at' cl, hv, ?_⟩
      have HL : H L = none := hL
      have D5 : upd H4 L (.lst (rest.eraseIdx c)) D = some (.lst done) := upB (Ne.symm LD) D4
      refine ⟨D, done, _, rfl, rfl, D5, (by show _ < 2 ^ 24; omega), rest.eraseIdx c, done ++ [v], ?_, rfl, ((O3.trans (Oth.take e4)).updN HL).updN HD, (h4.upd Lp Lq).upd Dp Dq, upB LD upd_same, upd_same, ?_⟩
      · rw [List.length_eraseIdx, if_pos cl]
        omega
      · rw [List.append_assoc]
        exact ((perm_eraseV hv).symm.append_left done).trans pm
end
end K83

set_option maxRecDepth 100000
set_option maxHeartbeats 8000000
namespace K83
open PySem PySem.Spec PyProof.Rows L2 Kw
theorem PairsAt.kiL {H H' : Hp} (k : KI H H') : ∀ {us : List V} {ps : List (Nat × Nat)}, PairsAt H us ps → PairsAt H' us ps
  | [], [], _ => .nil
  | _ :: _, _ :: _, .cons ⟨t, e, h⟩ r => .cons ⟨t, e, k _ _ h nh_tup⟩ (PairsAt.kiL k r)
theorem PairsAt.refsL {H : Hp} {us : List V} {ps : List (Nat × Nat)} (h : PairsAt H us ps) : ∀ v ∈ us, ∃ a, v = .ref a := fun v hv => by
  obtain ⟨t, i, j, e, _⟩ := h.mem v hv
  exact ⟨t, e⟩
section
variable {P : Program} {w : World} {K : PySem.W.Frag} {mg : Str → Option Value} {base : Heap} {f fT fP : Addr} {fd fdT fdP : FuncData}
def spSome : Sp := fun vs H Q _ => ∃ (p q r R : Addr) (us : List V) (ds : List Ent), vs = [.ref p, .ref r] ∧ HandAt H p q ∧ H r = some (.lst us) ∧ RwN R H us ds ∧ DsOk ds ∧ 1 ≤ ds.length ∧ ds.length ≤ 12 ∧ ∀ D us' H' qs, Oth p H H' → HandAt H' p q → H D = none → H' D = some (.lst us') → PairsAt H' us' qs → qs.Sublist (pairsOf ds) → Q (.ref D) H'
theorem sc_some : FnScope ["_law_hand_here", "_law_rows", "_law_style", "_law_goal", "_law_found", "_law_pair", "_law_bit"] ["_law_hand_here", "_law_rows"] (defScope (top 57)) := ⟨rfl, rfl, rfl, by decide +kernel, rfl, by decide +kernel, by decide +kernel⟩
theorem ok_some (F : FnP K "_law_some" 57 f fd) (B : Fr mg) (FT : FnP K "_law_take" 45 fT fdT) (mT : mg "_law_take" = some (.ref fT)) (GT : FnOk P w K mg base CX0 2 fT fdT ["_law_hand_here", "_law_many"] spTake) (FP : FnP K "_law_pairs" 56 fP fdP) (mP : mg "_law_pairs" = some (.ref fP)) (GP : FnOk P w K mg base CX0 1 fP fdP ["_law_rows"] spPairsOf) : FnOk P w K mg base CX0 3 f fd ["_law_hand_here", "_law_rows"] spSome := by
  have bT : L2.Binds K fdT ["_law_hand_here", "_law_many"] [] := FT.bindsN fun _ _ _ _ _ _ us hl => match us, hl with | [_, _], _ => rfl
  have bP : L2.Binds K fdP ["_law_rows"] [] := FP.bindsN fun _ _ _ _ _ _ us hl => match us, hl with | [_], _ => rfl
  refine F.ok sc_some (fun vs H Q E h => ?_) (fun cdv A outer s H vs Q E hr h => ?_)
  · obtain ⟨p, q, r, R, us, ds, rfl, _⟩ := h
    rfl
  · obtain ⟨p, q, r, R, us, ds, rfl, hh, hr0, hR, ok, lo, h12, k⟩ := h
    refine ⟨_, PSs.nox (pss_cons (ps_set (i := 2) sc_some.nd rfl (Or.inl rfl) (pe_call GT hr (by rfl) mT FT.kp bT .nil pass0 (pa_cons (pv 0) (pa_cons pe_int pa_nil))))
      (pss_cons (ps_set (i := 3) sc_some.nd rfl (Or.inl rfl) (pe_call GT hr (by rfl) mT FT.kp bT .nil pass0 (pa_cons (pv 0) (pa_cons (pe_callB call_len_seq (by rfl) B.len PySem.boot_len (pa_cons (pv 1) pa_nil)) pa_nil))))
      (pss_cons (ps_set (i := 4) sc_some.nd rfl (Or.inl rfl) (pe_lst pa_nil))
      (pss_cons (ps_for PassesOwn.never rfl (pi_list (pe_call GP (hr.mono (by decide)) (by rfl) mP FP.kp bP .nil pass0 (pa_cons (pv 1) pa_nil))) (pg_name (i := 5) sc_some.nd rfl (Or.inl rfl))
        (pss_cons (ps_set (i := 6) sc_some.nd rfl (Or.inl rfl) (pe_call GT hr (by rfl) mT FT.kp bT .nil pass0 (pa_cons (pv 0) (pa_cons pe_int pa_nil))))
        (pss_one (ps_if (PW.pt (pw_or (pt_cmpR op_eq (pv 2) pe_int (nomark _)) (pw_or (PW.pt (pw_and (pt_cmpR op_eq (pv 2) pe_int (nomark _)) (pw_and1 (pt_cmpR op_eq (pe_ix (r := rIxT K) ix_tup (pv 5) pe_int (fun _ _ => rfl)) (pv 3) (nomark _))))) (pw_or1 (PW.pt (pw_and (pt_cmpR op_gt (pv 2) pe_int (nomark _)) (pw_and1 (pt_cmpR op_eq (pv 6) pe_int (nomark _)))))))))
          (pss_one (ps_expr (pe_bm PySem.F.plainAttrs_list PySem.F.slot_list_append PySem.F.type_list_append mt_append (pv 4) (pa_cons (pv 5) pa_nil)))) pss_nil))))
      (pss_one (ps_ret (pv 4))))))), ?_⟩
    have usl := hR.len
    refine ⟨_, rfl, p, q, 6, rfl, by decide, by decide, hh, fun st H1 b0 b1 h1 e1 => ?_⟩
    have k1 := KI.oth (Oth.take e1) hh
    have hr1 := k1 _ _ hr0 (nh_refs hR.refs)
    refine ⟨_, rfl, _, rfl, r, us, rfl, .inl (SqL.of hr1), p, q, (us.length : Int), rfl, by omega, by omega, h1, fun go H2 g0 g1 h2 e2 => ?_⟩
    have O2 := (Oth.take e1).trans (Oth.take e2)
    have k2 := KI.oth O2 hh
    have hr2 := k2 _ _ hr0 (nh_refs hR.refs)
    have hR2 : RwN R H2 us ds := hR.ki k2
    refine ⟨by decide, fun D hDn => ?_⟩
    have sD := same_new (o := .lst []) hDn
    obtain ⟨Dp, Dq⟩ := h2.ne hDn
    have HD : H D = none := by
      cases e : H D with
      | none => rfl
      | some o => rw [O2 _ _ Dp e] at hDn; cases hDn
    refine ⟨_, rfl, r, R, us, ds, rfl, sD _ _ hr2, hR2.ki (KI.of sD), ok, h12, fun P0 pus H3 s3 hP0 hP3 hPP => ?_⟩
    have D3 := s3 _ _ (upd_same (H := H2) (a := D) (o := .lst []))
    have h3 := (h2.same sD).same s3
    have O3 := O2.trans (Oth.of (sD.trans s3))
    obtain ⟨P0p, P0q⟩ := (h2.same sD).ne hP0
    have PD : P0 ≠ D := fun z => by
      rw [z, upd_same] at hP0
      cases hP0
    have plen := pairsUp_len ok ds.length
    refine ⟨P0, rfl, ⟨_, SqL.of hP3⟩, for_list (K := K) (a := P0) (xs := pus) (fun i σ H' => ∃ (x5 x6 : Option V) (ws : List V) (qs : List (Nat × Nat)), σ = [some (.ref p), some (.ref r), some (.int st), some (.int go), some (.ref D), x5, x6] ∧ Oth p H H' ∧ HandAt H' p q ∧ H' P0 = some (.lst pus) ∧ PairsAt H' pus (pairsOf ds) ∧ H' D = some (.lst ws) ∧ PairsAt H' ws qs ∧ qs.Sublist ((pairsOf ds).take i))
      ⟨none, none, [], [], rfl, O3, h3, hP3, hPP, D3, .nil, List.nil_sublist _⟩ (fun i σ H' _ ⟨_, _, _, _, _, _, _, h, _⟩ => SqL.of h) ?_ ?_⟩
    · rintro i y σ H4 hi ⟨x5, x6, ws, qs, rfl, O4, h4, P4, hP4, D4, hW4, sub⟩
      obtain ⟨pr, t, hpr, rfl, ht⟩ := hP4.at hi
      refine ⟨_, rfl, p, q, 2, rfl, by decide, by decide, h4, fun bi H5 c0 c1 h5 e5 => ?_⟩
      have O45 := Oth.take e5
      have k45 := KI.oth O45 h4
      have P5 := O45 _ _ P0p P4
      have D5 := O45 _ _ Dp D4
      have hP5 := hP4.kiL k45
      have hW5 := hW4.kiL k45
      have t5 := k45 _ _ ht nh_tup
      have wl : ws.length ≤ 60 := by
        have h1 := hW4.len
        have h2 := sub.length_le
        rw [List.length_take] at h2
        have h3 : (pairsOf ds).length ≤ 5 * ds.length := plen
        omega
      have st1 : (pairsOf ds).take (i + 1) = (pairsOf ds).take i ++ [pr] := by rw [List.take_add_one, hpr, Option.toList_some]
      have tD : t ≠ D := fun z => by rw [z, D5] at t5; cases t5
      have yes : ∀ x6', (∃ (x5 x6 : Option V) (ws' : List V) (qs' : List (Nat × Nat)), [some (.ref p), some (.ref r), some (.int st), some (.int go), some (.ref D), some (.ref t), x6'] = [some (.ref p), some (.ref r), some (.int st), some (.int go), some (.ref D), x5, x6] ∧ Oth p H (upd H5 D (.lst (ws ++ [.ref t]))) ∧ HandAt (upd H5 D (.lst (ws ++ [.ref t]))) p q ∧ upd H5 D (.lst (ws ++ [.ref t])) P0 = some (.lst pus) ∧ PairsAt (upd H5 D (.lst (ws ++ [.ref t]))) pus (pairsOf ds) ∧ upd H5 D (.lst (ws ++ [.ref t])) D = some (.lst ws') ∧ PairsAt (upd H5 D (.lst (ws ++ [.ref t]))) ws' qs' ∧ qs'.Sublist ((pairsOf ds).take (i + 1))) := fun x6' =>
        ⟨_, _, ws ++ [.ref t], qs ++ [pr], rfl, (O4.trans O45).updN HD, h5.upd Dp Dq, upB PD P5, PairsAt.updL' D5 hP5, upd_same, (PairsAt.updL' D5 hW5).app (.cons ⟨t, rfl, upB tD t5⟩ .nil), by rw [st1]; exact sub.append (List.Sublist.refl _)⟩
      have no : ∀ x6', (∃ (x5 x6 : Option V) (ws' : List V) (qs' : List (Nat × Nat)), [some (.ref p), some (.ref r), some (.int st), some (.int go), some (.ref D), some (.ref t), x6'] = [some (.ref p), some (.ref r), some (.int st), some (.int go), some (.ref D), x5, x6] ∧ Oth p H H5 ∧ HandAt H5 p q ∧ H5 P0 = some (.lst pus) ∧ PairsAt H5 pus (pairsOf ds) ∧ H5 D = some (.lst ws') ∧ PairsAt H5 ws' qs' ∧ qs'.Sublist ((pairsOf ds).take (i + 1))) := fun x6' =>
        ⟨_, _, ws, qs, rfl, O4.trans O45, h5, P5, hP5, D5, hW5, by rw [st1]; exact sub.trans (List.sublist_append_left _ _)⟩
      refine ⟨_, rfl, rfl, _, rfl, ite2 (fun _ => iteT' rfl ⟨_, rfl, .inl ⟨rfl, _, SqL.of D5⟩, _, rfl, D, ws, _, rfl, rfl, D5, (by show _ < 2 ^ 24; omega), yes _⟩) (fun _ => ?_)⟩
      refine ⟨_, rfl, rfl, _, rfl, ite2 (fun _ => ?_) (fun _ => iteF' rfl ?_)⟩
      · refine ⟨_, rfl, t, _, ((1 : Nat) : Int), _, rfl, rfl, SqT.of t5, atI_nat rfl, _, rfl, rfl, _, rfl, ite2 (fun _ => iteT' rfl ⟨_, rfl, .inl ⟨rfl, _, SqL.of D5⟩, _, rfl, D, ws, _, rfl, rfl, D5, (by show _ < 2 ^ 24; omega), yes _⟩) (fun _ => ?_)⟩
        refine ⟨_, rfl, _, _, rfl, rfl, _, rfl, ite2 (fun _ => ?_) (fun _ => iteF' rfl (no _))⟩
        refine ⟨_, rfl, rfl, _, rfl, ite2 (fun _ => ⟨_, rfl, .inl ⟨rfl, _, SqL.of D5⟩, _, rfl, D, ws, _, rfl, rfl, D5, (by show _ < 2 ^ 24; omega), yes _⟩) (fun _ => no _)⟩
      · refine ⟨_, rfl, _, _, rfl, rfl, _, rfl, ite2 (fun _ => ?_) (fun _ => iteF' rfl (no _))⟩
        refine ⟨_, rfl, rfl, _, rfl, ite2 (fun _ => ⟨_, rfl, .inl ⟨rfl, _, SqL.of D5⟩, _, rfl, D, ws, _, rfl, rfl, D5, (by show _ < 2 ^ 24; omega), yes _⟩) (fun _ => no _)⟩
    · rintro σ H4 ⟨x5, x6, ws, qs, rfl, O4, h4, P4, hP4, D4, hW4, sub⟩
      rw [hPP.len, List.take_length] at sub
      exact ⟨_, rfl, k D ws H4 qs O4 h4 HD D4 hW4 sub⟩
end
end K83

set_option maxRecDepth 100000
set_option maxHeartbeats 8000000
namespace K83
open PySem PySem.Spec PyProof.Rows L2 Kw
theorem pairs_perm {H : Hp} {us1 us : List V} (pm : us1.Perm us) : ∀ {qs : List (Nat × Nat)}, PairsAt H us qs → ∃ qs1, PairsAt H us1 qs1 ∧ qs1.Perm qs := by
  induction pm with
  | nil => exact fun {qs} h => ⟨qs, h, List.Perm.refl _⟩
  | cons x _ ih =>
    intro qs h
    match qs, h with
    | _ :: _, .cons z r =>
      obtain ⟨q1, a, b⟩ := ih r
      exact ⟨_ :: q1, .cons z a, b.cons _⟩
  | swap x y l =>
    intro qs h
    match qs, h with
    | _ :: _ :: _, .cons z (.cons z' r) => exact ⟨_ :: _ :: _, .cons z' (.cons z r), List.Perm.swap _ _ _⟩
  | trans _ _ ih1 ih2 =>
    intro qs h
    obtain ⟨q2, a2, b2⟩ := ih2 h
    obtain ⟨q1, a1, b1⟩ := ih1 a2
    exact ⟨q1, a1, b1.trans b2⟩
theorem CouplesAt.kiL {H H' : Hp} (k : KI H H') : ∀ {us : List V} {qs : List (Nat × Nat)}, CouplesAt H us qs → CouplesAt H' us qs
  | [], [], _ => .nil
  | _ :: _, (a, b) :: _, .cons ⟨t, e, h⟩ r => .cons ⟨t, e, h.imp (fun h => k _ _ h (nh_nats (l := [a, b]))) fun h => k _ _ h nh_tup⟩ (CouplesAt.kiL k r)
theorem CouplesAt.updN {H : Hp} {D : Addr} {o : HO} : ∀ {us : List V} {qs : List (Nat × Nat)}, (∀ v ∈ us, v ≠ .ref D) → CouplesAt H us qs → CouplesAt (upd H D o) us qs
  | [], [], _, _ => .nil
  | _ :: _, (a, b) :: _, n, .cons ⟨t, e, h⟩ r => .cons ⟨t, e, by
      have ne : t ≠ D := fun z => n _ List.mem_cons_self (by rw [e, z])
      exact h.imp (upB ne) (upB ne)⟩ (CouplesAt.updN (fun v hv => n v (List.mem_cons_of_mem _ hv)) r)
theorem CouplesAt.appL {H : Hp} : ∀ {vs us : List V} {ls ms : List (Nat × Nat)}, CouplesAt H vs ls → CouplesAt H us ms → CouplesAt H (vs ++ us) (ls ++ ms)
  | [], _, [], _, _, h => h
  | _ :: _, _, _ :: _, _, .cons h r, s => .cons h (CouplesAt.appL r s)
theorem CouplesAt.refsL {H : Hp} : ∀ {us : List V} {qs : List (Nat × Nat)}, CouplesAt H us qs → ∀ v ∈ us, ∃ a, v = .ref a
  | _ :: _, _ :: _, .cons ⟨t, e, _⟩ r, v, hv => by
    rcases List.mem_cons.mp hv with rfl | hv
    · exact ⟨t, e⟩
    · exact CouplesAt.refsL r v hv
section
variable {P : Program} {w : World} {K : PySem.W.Frag} {mg : Str → Option Value} {base : Heap} {f fR fM : Addr} {fd fdR fdM : FuncData}
def spGivenL : Sp := fun vs H Q _ => ∃ (p q a : Addr) (us : List V) (qs : List (Nat × Nat)), vs = [.ref p, .ref a] ∧ HandAt H p q ∧ H a = some (.lst us) ∧ PairsAt H us qs ∧ us.length ≤ 60 ∧ ∀ l us' qs' H', Oth p H H' → HandAt H' p q → SeqAt H' l us' → CouplesAt H' us' qs' → qs'.Perm qs → Q (.ref l) H'
theorem sc_givenL : FnScope ["_law_hand_here", "_law_pairs_here", "_law_pair"] ["_law_hand_here", "_law_pairs_here"] (defScope (top 59)) := ⟨rfl, rfl, rfl, by decide +kernel, rfl, by decide +kernel, by decide +kernel⟩
theorem ok_givenL (F : FnP K "_law_given" 59 f fd) (FR : FnP K "_law_row" 51 fR fdR) (mR : mg "_law_row" = some (.ref fR)) (GR : FnOk P w K mg base CX0 3 fR fdR ["_law_hand_here", "_law_items"] spRow) (FM : FnP K "_law_mixedup" 58 fM fdM) (mM : mg "_law_mixedup" = some (.ref fM)) (GM : FnOk P w K mg base CX0 3 fM fdM ["_law_hand_here", "_law_items"] spMixup) : FnOk P w K mg base CX0 4 f fd ["_law_hand_here", "_law_pairs_here"] spGivenL := by
  have bR : L2.Binds K fdR ["_law_hand_here", "_law_items"] [] := FR.bindsN fun _ _ _ _ _ _ us hl => match us, hl with | [_, _], _ => rfl
  have bM : L2.Binds K fdM ["_law_hand_here", "_law_items"] [] := FM.bindsN fun _ _ _ _ _ _ us hl => match us, hl with | [_, _], _ => rfl
  refine F.ok sc_givenL (fun vs H Q E h => ?_) (fun cdv A outer s H vs Q E hr h => ?_)
  · obtain ⟨p, q, a, us, qs, rfl, _⟩ := h
    rfl
  · obtain ⟨p, q, a, us, qs, rfl, hh, hA, hP, u60, k⟩ := h
    refine ⟨_, PSs.nox (pss_one (ps_ret (pe_call GR hr (by rfl) mR FR.kp bR .nil pass0 (pa_cons (pv 0) (pa_cons
      (pe_lc (own := [("_law_pair", 2)]) (g := gName 2) (tt := tYes) (te := tCall spRow [] E0 (tCons (tVar 0) (tCons (tVar 2) tNil))) rfl sc_givenL.nd (pi_list (pe_call GM hr (by rfl) mM FM.kp bM .nil pass0 (pa_cons (pv 0) (pa_cons (pv 1) pa_nil)))) (blkOk_by (N := ["_law_hand_here", "_law_pairs_here", "_law_pair"]) (sc := defScope (top 59)) (by decide +kernel))
        (fun _ _ _ _ _ => pg_name (i := 2) sc_givenL.nd rfl (Or.inl rfl)) (fun _ _ _ _ _ => pts_nil) (fun _ _ _ _ _ => pe_call GR hr (by rfl) mR FR.kp bR .nil pass0 (pa_cons (pv 0) (pa_cons (pv 2) pa_nil)))) pa_nil))))), ?_⟩
    refine ⟨_, rfl, _, rfl, _, rfl, p, q, a, us, rfl, hh, hA, u60, fun M us1 H1 O1 h1 hM hM1 pm => ?_⟩
    obtain ⟨qs1, hP1, pq⟩ := pairs_perm pm (hP.kiL (KI.oth O1 hh))
    have Mp : M ≠ p := (hh.ne hM).1
    have l1 := hP1.len
    have l2 := pm.length_eq
    refine ⟨M, rfl, ⟨_, SqL.of hM1⟩, fun D hD => ?_⟩
    obtain ⟨Dp, Dq⟩ := h1.ne hD
    have MD : M ≠ D := ne_of_none hM1 hD
    refine lc_list (K := K) (a := M) (xs := us1) (fun i H' => Oth p H1 H' ∧ HandAt H' p q ∧ ∃ ws, H' D = some (.lst ws) ∧ (∀ v ∈ ws, v ≠ .ref D) ∧ CouplesAt H' ws (qs1.take i)) ⟨Oth.of (same_new hD), h1.same (same_new hD), [], upd_same, (fun v hv => by cases hv), .nil⟩ (fun i H' _ z => SqL.of (z.1 _ _ Mp hM1)) ?_ ?_
    · rintro i y H2 hi ⟨O2, h2, ws, hD2, nD, hC⟩
      obtain ⟨pr, t, hpr, rfl, ht⟩ := hP1.at hi
      have t2 := (KI.oth O2 h1) _ _ ht nh_tup
      refine ⟨rfl, _, rfl, _, rfl, p, q, t, _, rfl, h2, h2.ne_of t2 nh_tup, .inr t2, fun u H3 O3 h3 hu => ?_⟩
      have k23 := KI.oth O3 h2
      have D3 := O3 _ _ Dp hD2
      have uD : u ≠ D := fun z => by
        rcases hu with ⟨hu, _⟩ | hu
        · rw [z, hD2] at hu
          cases hu
        · rw [z, D3] at hu
          cases hu
      have hu' : SeqAt H3 u [natV pr.1, natV pr.2] := hu.imp (fun z => z.2) id
      have il := (List.getElem?_eq_some_iff.mp hi).1
      have wl : ws.length ≤ 60 := by
        have : ws.length = (qs1.take i).length := CouplesAt.len hC
        rw [List.length_take] at this
        omega
      refine ⟨ws, D3, (by show _ < 2 ^ 24; omega), (O2.trans O3).updN hD, h3.upd Dp Dq, ws ++ [.ref u], upd_same, fun v hv => ?_, ?_⟩
      · rcases List.mem_append.mp hv with hv | hv
        · exact nD v hv
        · rw [List.mem_singleton.mp hv]
          exact fun z => uD (V.ref.inj z)
      · rw [List.take_add_one, hpr, Option.toList_some]
        exact (CouplesAt.updN nD (hC.kiL k23)).appL (.cons ⟨u, rfl, hu'.imp (upB uD) (upB uD)⟩ .nil)
    · rintro H2 ⟨O2, h2, ws, hD2, nD, hC⟩
      rw [l1, List.take_length] at hC
      refine ⟨p, q, D, ws, rfl, h2, Dp, .inl hD2, fun l H3 O3 h3 hl => ?_⟩
      exact k l ws qs1 H3 ((O1.trans O2).trans O3) h3 (hl.imp (fun z => z.2) id) (hC.kiL (KI.oth O3 h2)) pq
end
end K83

set_option maxRecDepth 100000
set_option maxHeartbeats 8000000
namespace K83
open PySem PySem.Spec PyProof.Rows L2 Kw
theorem pairsUp_nodup {ds : List Ent} (ok : DsOk ds) : ∀ n, (pairsUp ds n).Nodup
  | 0 => .nil
  | n + 1 => by
    rw [pairsUp_succ]
    have h2 : (basesOf ds n).Nodup := by
      unfold basesOf
      rw [List.getD_eq_getElem?_getD]
      cases e : ds[n]? with
      | none => exact .nil
      | some d => exact (ok n d e).1
    refine List.nodup_append.mpr ⟨pairsUp_nodup ok n, ?_, fun a ha b hb e => ?_⟩
    · exact List.Pairwise.map _ (fun x y (h : x ≠ y) z => h (Prod.mk.inj z).2) h2
    · obtain ⟨y, _, rfl⟩ := List.mem_map.mp hb
      unfold pairsUp at ha
      obtain ⟨c, hc, ha⟩ := List.mem_flatMap.mp ha
      obtain ⟨z, _, rfl⟩ := List.mem_map.mp ha
      have := List.mem_range.mp hc
      have := (Prod.mk.inj e).1
      omega
theorem pairsOf_link {ds : List Ent} {q : Nat × Nat} (h : q ∈ pairsOf ds) : linkB ds q.1 q.2 = true := by
  unfold pairsOf pairsUp at h
  obtain ⟨c, hc, h⟩ := List.mem_flatMap.mp h
  obtain ⟨b, hb, rfl⟩ := List.mem_map.mp h
  unfold linkB
  rw [decide_eq_true (List.mem_range.mp hc), Bool.true_and]
  exact List.contains_iff_mem.mpr hb
section
variable {P : Program} {w : World} {K : PySem.W.Frag} {mg : Str → Option Value} {base : Heap} {f fA fX C Cl Cg : Addr} {fd fdA : FuncData}
end
end K83

set_option maxRecDepth 100000
set_option maxHeartbeats 8000000
namespace K83
open PySem PySem.Spec PyProof.Rows L2 Kw
theorem Ty0.isLst {K : PySem.W.Frag} {H : Hp} {x : V} {t : String} (h : Ty0 H x t) : PySem.W.kitOne K (.type t) (.type "list") = some (t == "list") := by
  cases h <;> exact kit_ty (by decide +kernel)
section
variable {P : Program} {w : World} {K : PySem.W.Frag} {mg : Str → Option Value} {base : Heap} {f : Addr} {fd : FuncData}
def spLSeq : Sp := fun vs H Q _ => ∃ (x : V) (t : String), vs = [x] ∧ Ty0 H x t ∧ Q (.bl (seqT t)) H
theorem sc_lseq : FnScope ["_law_thing"] ["_law_thing"] (defScope (top 53)) := ⟨rfl, rfl, rfl, by decide +kernel, rfl, by decide +kernel, by decide +kernel⟩
theorem ok_lseq (F : FnP K "_law_seq" 53 f fd) (B : Fr mg) : FnOk P w K mg base CX0 1 f fd ["_law_thing"] spLSeq := by
  refine F.ok sc_lseq (fun vs H Q E h => ?_) (fun cdv A outer s H vs Q E hr h => ?_)
  · obtain ⟨x, t, rfl, _⟩ := h
    rfl
  · obtain ⟨x, t, rfl, ty, k⟩ := h
    refine ⟨_, PSs.nox (pss_one (ps_ret (L2.pe_or (pe_callB call_isi (by rfl) B.isinstance PyProof.Rows.boot_isinstance (pa_cons (pv 0) (pa_cons (pe_bltn (v := .ty "list") (by rfl) B.list (by decide +kernel) rfl) pa_nil)))
      (pe_one (pe_callB call_isi (by rfl) B.isinstance PyProof.Rows.boot_isinstance (pa_cons (pv 0) (pa_cons (pe_bltn (v := .ty "tuple") (by rfl) B.tuple PyProof.Rows.boot_tuple rfl) pa_nil))))))), ?_⟩
    refine ⟨_, rfl, _, _, _, _, _, rfl, .ty "list", ty.x, ty.isLst, _, rfl, ?_⟩
    cases e : (t == "list") with
    | true =>
      refine iteT' rfl ?_
      have z : seqT t = true := by
        unfold seqT
        rw [e, Bool.true_or]
      rw [← z]
      exact k
    | false =>
      refine iteF' rfl ⟨_, rfl, _, _, _, _, _, rfl, .ty "tuple", ty.x, ty.isTup, ?_⟩
      have z : seqT t = (t == "tuple") := by
        unfold seqT
        rw [e, Bool.false_or]
      rw [← z]
      exact k
end
end K83

set_option maxRecDepth 100000
set_option maxHeartbeats 8000000
namespace K83
open PySem PySem.Spec PyProof.Rows L2 Kw
theorem basesOf_app {ds : List Ent} {d : Ent} {c : Nat} (h : c < ds.length) : basesOf (ds ++ [d]) c = basesOf ds c := by
  unfold basesOf
  rw [List.getD_eq_getElem?_getD, List.getD_eq_getElem?_getD, List.getElem?_append_left h]
theorem basesOf_last {ds : List Ent} {d : Ent} : basesOf (ds ++ [d]) ds.length = d.1 := by
  unfold basesOf
  rw [List.getD_eq_getElem?_getD, List.getElem?_append_right (Nat.le_refl _), Nat.sub_self]
  rfl
theorem linkB_app {ds : List Ent} {d : Ent} {c b : Nat} (h : linkB ds c b = true) : linkB (ds ++ [d]) c b = true := by
  unfold linkB at h ⊢
  rw [Bool.and_eq_true] at h
  have hc := of_decide_eq_true h.1
  rw [decide_eq_true (show c < (ds ++ [d]).length by rw [List.length_append]; omega), Bool.true_and, basesOf_app hc]
  exact h.2
theorem linkB_last {ds : List Ent} {d : Ent} {b : Nat} (h : b ∈ d.1) : linkB (ds ++ [d]) ds.length b = true := by
  unfold linkB
  rw [decide_eq_true (show ds.length < (ds ++ [d]).length by rw [List.length_append, List.length_singleton]; omega), Bool.true_and, basesOf_last]
  exact List.contains_iff_mem.mpr h
theorem linkB_lt {ds : List Ent} {c b : Nat} (h : linkB ds c b = true) : c < ds.length := by
  unfold linkB at h
  rw [Bool.and_eq_true] at h
  exact of_decide_eq_true h.1
theorem PairsAt.couples {H : Hp} : ∀ {us : List V} {ps : List (Nat × Nat)}, PairsAt H us ps → CouplesAt H us ps
  | [], [], _ => .nil
  | _ :: _, _ :: _, .cons ⟨t, e, h⟩ r => .cons ⟨t, e, .inr h⟩ (PairsAt.couples r)
theorem nodup_len {α : Type} [DecidableEq α] : ∀ {l m : List α}, l.Nodup → (∀ x ∈ l, x ∈ m) → l.length ≤ m.length
  | [], _, _, _ => Nat.zero_le _
  | a :: l, m, h, s => by
    have h' := List.nodup_cons.mp h
    have am := s a List.mem_cons_self
    have := nodup_len (l := l) (m := m.erase a) h'.2 fun x hx => (List.mem_erase_of_ne (fun (e : x = a) => h'.1 (by rw [← e]; exact hx))).mpr (s x (List.mem_cons_of_mem _ hx))
    rw [List.length_erase_of_mem am] at this
    have := List.length_pos_of_mem am
    rw [List.length_cons]
    omega
theorem WorldAt.updLst {H : Hp} {p C D : Addr} {ds : List Ent} {xs ys : List V} (h : WorldAt H p C ds) (hD : H D = some (.lst xs)) : WorldAt (upd H D (.lst ys)) p C ds := by
  have kt : TupK H (upd H D (.lst ys)) := fun b zs e => upB (fun z => by rw [z, hD] at e; cases e) e
  obtain ⟨dx, ac, ab, ao, am, ae, ah, cs, bs, ms, es, hs, h1, h2, h3, h4, h5, h6, h7, h8, h9, h10, h11, h12⟩ := h
  exact ⟨dx, ac, ab, ao, am, ae, ah, cs, bs, ms, es, hs, upB (fun z => by rw [z, hD] at h1; cases h1) h1, kt _ _ h2, h3.mono kt, kt _ _ h4, h5.mono kt, kt _ _ h6, kt _ _ h7, h8.mono kt, kt _ _ h9, h10.mono kt, kt _ _ h11, h12.mono kt⟩
/-- the links of a world, shared -/
def LsOk (ds : List Ent) (ls : List (Nat × Nat)) : Prop := ls.Nodup ∧ ∀ q ∈ ls, linkB ds q.1 q.2 = true
theorem LsOk.few {ds : List Ent} {ls : List (Nat × Nat)} (h : LsOk ds ls) (ok : DsOk ds) : ls.length ≤ 5 * ds.length := by
  refine Nat.le_trans ?_ (pairsUp_len ok ds.length)
  refine nodup_len h.1 fun q hq => ?_
  have hl := h.2 q hq
  unfold linkB at hl
  rw [Bool.and_eq_true] at hl
  unfold pairsUp
  refine List.mem_flatMap.mpr ⟨q.1, List.mem_range.mpr (of_decide_eq_true hl.1), List.mem_map.mpr ⟨q.2, List.contains_iff_mem.mp hl.2, rfl⟩⟩
theorem LsOk.more {ds : List Ent} {ls : List (Nat × Nat)} (h : LsOk ds ls) {d : Ent} {ss : List Nat} (nd : ss.Nodup) (sub : ∀ x ∈ ss, x ∈ d.1) : LsOk (ds ++ [d]) (ls ++ ss.map fun b => (ds.length, b)) := by
  refine ⟨List.nodup_append.mpr ⟨h.1, List.Pairwise.map _ (fun x y (h : x ≠ y) z => h (Prod.mk.inj z).2) nd, fun a ha b hb e => ?_⟩, fun q hq => ?_⟩
  · obtain ⟨y, _, rfl⟩ := List.mem_map.mp hb
    have := linkB_lt (h.2 a ha)
    rw [e] at this
    exact Nat.lt_irrefl _ this
  · rcases List.mem_append.mp hq with hq | hq
    · exact linkB_app (h.2 q hq)
    · obtain ⟨y, hy, rfl⟩ := List.mem_map.mp hq
      exact linkB_last (sub y hy)
theorem LsOk.perm {ds : List Ent} {ls ms : List (Nat × Nat)} (h : LsOk ds ls) (p : ms.Perm ls) : LsOk ds ms := ⟨p.nodup_iff.mpr h.1, fun q hq => h.2 q (p.mem_iff.mp hq)⟩
section
variable {P : Program} {w : World} {K : PySem.W.Frag} {mg : Str → Option Value} {base : Heap} {f fS fI fN fWC C Cl z0 z1 : Addr} {fd fdS fdI fdN fdWC : FuncData}
def spWithLk (C Cl : Addr) : Sp := fun vs H Q _ => ∃ (p wp ab aS : Addr) (ds : List Ent) (ls : List (Nat × Nat)) (bs ss : List Nat) (n : Nat), vs = [.ref p, .ref ab, natV n, .ref aS] ∧ LinksAt H p Cl wp C ds ls ∧ DsOk ds ∧ ds.length + 1 ≤ 12 ∧ LsOk ds ls ∧ SeqAt H ab (bs.map natV) ∧ EOk ds.length (bs, n, []) ∧ SeqAt H aS (ss.map natV) ∧ ss.Nodup ∧ (∀ x ∈ ss, x ∈ bs) ∧
  ∀ q wp' H' ls', Same H H' → LinksAt H' q Cl wp' C (ds ++ [(bs, n, [])]) ls' → ls'.Perm (ls ++ ss.map fun b => (ds.length, b)) → SortP ls' → Q (.ref q) H'
theorem sc_withLk : FnScope ["self", "bases", "fields", "shared_bases", "world", "c", "found", "index", "base"] ["self", "bases", "fields", "shared_bases"] (defScope (inClass (top 17) 4)) := ⟨rfl, rfl, rfl, by decide +kernel, rfl, by decide +kernel, by decide +kernel⟩
theorem binds_withLk (F : FnMd K "with_class" "Links.with_class" (inClass (top 17) 4) [.ref z1] f fd) : L2.Binds K fd ["self", "bases", "fields", "shared_bases"] [] := by
  obtain ⟨ds, v, b⟩ := F.binds1 (ps := ["self", "bases", "fields", "shared_bases"]) 4 1 (by simp) rfl fun T kV doc pm an cdv ct us its hu hi => match us, hu, its, hi with | [_, _, _, _], _, [_], _ => ⟨_, rfl, rfl⟩
  cases v
  exact b
theorem ok_withLk (F : FnMd K "with_class" "Links.with_class" (inClass (top 17) 4) [.ref z1] f fd) (B : Fr mg) (TC : ClsWorld K mg C) (TL : ClsF K Cl ["world", "shared"]) (FS : FnP K "is_sequence" 10 fS fdS) (mS : mg "is_sequence" = some (.ref fS)) (FI : FnP K "is_link_of" 18 fI fdI) (mI : mg "is_link_of" = some (.ref fI)) (GI : FnOk P w K mg base CX0 3 fI fdI ["world", "thing"] (spLink C))
    (FN : FnMd K "__init__" "Links.__init__" (inClass (top 17) 0) [.ref z0] fN fdN) (MN : Mk K Cl fN) (mN : mg "Links" = some (.ref Cl)) (GN : FnOk P w K mg base CX0 4 fN fdN ["self", "world", "shared"] (spLinksI C Cl))
    (MW : Meth K C "with_class" fWC) (GW : FnOk P w K mg base CX0 6 fWC fdWC ["self", "bases", "fields", "methods"] (spWithC C)) (bW : Binds K fdWC ["self", "bases", "fields", "methods"] []) : FnOk P w K mg base CX0 7 f fd ["self", "bases", "fields", "shared_bases"] (spWithLk C Cl) := by
  have GS : FnOk P w K mg base CX0 1 fS fdS ["thing"] spIsSeq := ok_isSeq FS B
  have bS : L2.Binds K fdS ["thing"] [] := FS.bindsN fun _ _ _ _ _ _ us hl => match us, hl with | [_], _ => rfl
  have bI : L2.Binds K fdI ["world", "thing"] [] := FI.bindsN fun _ _ _ _ _ _ us hl => match us, hl with | [_, _], _ => rfl
  have bN := binds_links FN
  refine F.ok sc_withLk (fun vs H Q E h => ?_) (fun cdv A outer s H vs Q E hr h => ?_)
  · obtain ⟨p, wp, ab, aS, ds, ls, bs, ss, n, rfl, _⟩ := h
    rfl
  · obtain ⟨p, wp, ab, aS, ds, ls, bs, ss, n, rfl, hL, ok, h12, lok, hb, eok, hs, nd, sub, k⟩ := h
    refine ⟨_, PSs.nox (pss_cons (ps_set (i := 4) sc_withLk.nd rfl (Or.inl rfl) (pe_meth (pe_fld (pv 0) rfl) TC.cl MW GW hr bW .nil pass0 (pa_cons (pv 1) (pa_cons (pv 2) (pa_cons (pe_tup pa_nil) pa_nil)))))
      (pss_cons (ps_set (i := 5) sc_withLk.nd rfl (Or.inl rfl) (pe_callB call_len_seq (by rfl) B.len PySem.boot_len (pa_cons (pe_fld (pe_fld (pv 0) rfl) rfl) pa_nil)))
      (pss_cons (ps_if (pt_not (pt_val (pe_call GS (hr.mono (by decide)) (by rfl) mS FS.kp bS .nil pass0 (pa_cons (pv 3) pa_nil)))) (pss_one ps_never) pss_nil)
      (pss_cons (ps_set (i := 6) sc_withLk.nd rfl (Or.inl rfl) (pe_lst pa_nil))
      (pss_cons (ps_for PassesOwn.never rfl (pi_or (pi_enum (by rfl) B.enumerate (pa_cons (pv 3) pa_nil)) (pi_enumT (by rfl) B.enumerate (pa_cons (pv 3) pa_nil))) (pg_tup (by rfl) (pgs_cons (pg_name (i := 7) sc_withLk.nd rfl (Or.inl rfl)) (pgs_cons (pg_name (i := 8) sc_withLk.nd rfl (Or.inl rfl)) pgs_nil)))
        (pss_cons (ps_if (PW.pt (pw_or (pt_not (pt_val (pe_call GI (hr.mono (by decide)) (by rfl) mI FI.kp bI .nil pass0 (pa_cons (pv 4) (pa_cons (pe_tup (pa_cons (pv 5) (pa_cons (pv 8) pa_nil))) pa_nil))))) (pw_or1 (pt_cmpR (r := rInD K) (op_inD (room65 hr)) (pe_tup (pa_cons (pv 5) (pa_cons (pv 8) pa_nil))) (pv 6) (by rfl))))) (pss_one ps_never) pss_nil)
        (pss_one (ps_expr (pe_bm PySem.F.plainAttrs_list PySem.F.slot_list_append PySem.F.type_list_append mt_append (pv 6) (pa_cons (pe_tup (pa_cons (pv 5) (pa_cons (pv 8) pa_nil))) pa_nil))))))
      (pss_one (ps_ret (pe_make MN GN (hr.mono (by decide)) (by rfl) mN bN .nil pass0 (pa_cons (pv 4) (pa_cons (pe_op (r := rCatQ K) op_catQ (pe_fld (pv 0) rfl) (pe_callTy (T := "tuple") (r := rTupOf K) (call_tup (X := _)) (by rfl) B.tuple (by decide +kernel) (pa_cons (pv 6) pa_nil))) pa_nil)))))))))), ?_⟩
    obtain ⟨dl, st, us, l1, hw, l3, l4⟩ := hL
    have hw0 := hw
    obtain ⟨dx, ac, _, _, _, _, _, cs, _, _, _, _, h1, h2, h3, _⟩ := hw
    refine ⟨_, rfl, p, Cl, dl, _, _, rfl, l1, TL.cl, TL.no _ (List.mem_of_getElem? (i := 0) rfl), rfl, wp, dx, _, rfl, h1, rfl, _, rfl, _, rfl, (by show 0 ≤ sizeLine; decide), fun T hT => ?_⟩
    have sT := same_new (o := .tup []) hT
    refine ⟨wp, ab, T, ds, (bs, n, []), rfl, hw0.mono sT, ok, h12, hb.same sT, .inr upd_same, eok, fun x H1 s1 hx hW => ?_⟩
    have s01 := sT.trans s1
    refine ⟨_, rfl, p, Cl, dl, _, _, rfl, s01 _ _ l1, TL.cl, TL.no _ (List.mem_of_getElem? (i := 0) rfl), rfl, wp, C, dx, _, _, rfl, s01 _ _ h1, TC.cl, TC.no _ (List.mem_of_getElem? (i := 0) rfl), rfl, ac, cs, rfl, .inr (SqT.of (s01 _ _ h2)), ?_⟩
    rw [h3.len]
    have hs1 := hs.same s01
    obtain ⟨ty, tyA, hseq⟩ := hs1.ty
    refine ⟨_, rfl, _, ty, rfl, tyA, fun H2 s2 => ⟨_, rfl, ?_⟩⟩
    rw [hseq]
    refine iteF' rfl ⟨by decide, fun D hD => ?_⟩
    have s02 := s01.trans s2
    have HD : H D = none := by
      cases e : H D with
      | none => rfl
      | some o =>
        rw [s02 _ _ e] at hD
        cases hD
    have sD := s02.trans (same_new (o := .lst []) hD)
    have hW2 := (hW.mono s2).mono (same_new (o := .lst []) hD)
    have hsD := hs.same sD
    have sl : ss.length ≤ 3 := Nat.le_trans (nodup_len nd sub) eok.2.2.1
    refine for_enumS (K := K) (a := aS) (xs := ss.map natV) rfl hs sD (fun i σ H' => Same H H' ∧ WorldAt H' x C (ds ++ [(bs, n, [])]) ∧ ∃ x7 x8 ws, σ = [some (.ref p), some (.ref ab), some (natV n), some (.ref aS), some (.ref x), some (natV ds.length), some (.ref D), x7, x8] ∧ H' D = some (.lst ws) ∧ PairsAt H' ws ((ss.take i).map fun b => (ds.length, b))) ⟨sD, hW2, none, none, [], rfl, upd_same, .nil⟩ (fun i σ H' h => h.1) ?_ ?_
    · rintro i e σ H3 U hi ⟨s3, hW3, x7, x8, ws, rfl, hD3, hP⟩ hU
      rw [List.getElem?_map] at hi
      obtain ⟨b, hb, rfl⟩ := Option.map_eq_some_iff.mp hi
      have il : i < ss.length := (List.getElem?_eq_some_iff.mp hb).1
      have sU := same_new (o := .tup [.int (i : Nat), natV b]) hU
      refine ⟨U, _, rfl, SqT.of upd_same, rfl, _, _, rfl, _, _, rfl, rfl, ?_⟩
      have z1 := s3.trans sU
      have hD4 := sU _ _ hD3
      have hP4 := hP.same sU
      have hW4 := hW3.mono sU
      generalize upd H3 U (.tup [.int (i : Nat), natV b]) = H4 at sU z1 hD4 hP4 hW4 ⊢
      refine ⟨_, rfl, _, rfl, _, rfl, (by show 2 ≤ sizeLine; decide), fun T1 hT1 => ?_⟩
      have sT1 := same_new (o := .tup [natV ds.length, natV b]) hT1
      refine ⟨x, T1, ds ++ [(bs, n, [])], ds.length, b, rfl, hW4.mono sT1, by rw [List.length_append]; exact h12, .inr upd_same, fun H5 s5 => ⟨_, rfl, ?_⟩⟩
      have bm := List.mem_of_getElem? hb
      rw [linkB_last (d := (bs, n, [])) (sub b bm)]
      refine iteF' rfl ?_
      refine ⟨_, rfl, _, rfl, (by show 2 ≤ sizeLine; decide), fun T2 hT2 => ?_⟩
      have sT2 := same_new (o := .tup [natV ds.length, natV b]) hT2
      have z4 := ((sT1.trans s5).trans sT2)
      have hD6 := z4 _ _ hD4
      have hP6 := hP4.same z4
      have hW6 := hW4.mono z4
      have z6 := z1.trans z4
      have out : (ds.length, b) ∉ (ss.take i).map (fun b => (ds.length, b)) := fun hm => by
        obtain ⟨y, hy, ey⟩ := List.mem_map.mp hm
        obtain rfl : y = b := (Prod.mk.inj ey).2
        obtain ⟨m, hm'⟩ := List.mem_iff_getElem?.mp hy
        rw [List.getElem?_take] at hm'
        by_cases mi : m < i
        · rw [if_pos mi] at hm'
          obtain ⟨h3, h4⟩ := List.getElem?_eq_some_iff.mp hm'
          obtain ⟨h5, h6⟩ := List.getElem?_eq_some_iff.mp hb
          exact List.pairwise_iff_getElem.mp nd m i h3 h5 mi (by rw [h4, h6])
        · rw [if_neg mi] at hm'
          cases hm'
      refine ⟨_, rfl, dPair (ds.length, b), ((ss.take i).map fun b => (ds.length, b)).map dPair, .tup (SqT.of upd_same) (.cons (.int _) (.cons (.int _) .nil)), .lst (SqL.of hD6) (dp_pairs hP6), (lay_pair _).shaped (by decide), (LayD.lst (n := 1) fun d hd => by obtain ⟨x, _, rfl⟩ := List.mem_map.mp hd; exact lay_pair x).shaped (by decide), ?_⟩
      rw [any_pair, decide_eq_false out]
      refine ⟨_, rfl, iteF' rfl ?_⟩
      refine ⟨_, rfl, .inl ⟨rfl, _, SqL.of hD6⟩, _, rfl, _, rfl, (by show 2 ≤ sizeLine; decide), fun v hv => ?_⟩
      have sv := same_new (o := .tup [natV ds.length, natV b]) hv
      have hD7 := sv _ _ hD6
      have wl : ws.length ≤ 3 := by
        rw [hP.len, List.length_map, List.length_take]
        omega
      have vD : v ≠ D := Ne.symm (ne_of_none hD6 hv)
      refine ⟨D, ws, _, rfl, rfl, hD7, (by show _ < 2 ^ 24; omega), same_upd (z6.trans sv) HD, (hW6.mono sv).updLst hD7, _, _, ws ++ [.ref v], rfl, upd_same, ?_⟩
      rw [List.take_add_one, hb, Option.toList_some, List.map_append]
      exact (PairsAt.updL' hD7 (hP6.same sv)).app (.cons ⟨v, rfl, upB vD upd_same⟩ .nil)
    · rintro σ H3 ⟨s3, hW3, x7, x8, ws, rfl, hD3, hP⟩
      rw [List.length_map, List.take_length] at hP
      have lk2 := lok.more (d := (bs, n, [])) nd sub
      have len2 := lk2.few (ok.app eok)
      rw [List.length_append] at len2
      have ll := lok.few ok
      have lus := l4.len
      refine ⟨_, rfl, _, rfl, p, Cl, dl, _, _, rfl, s3 _ _ l1, TL.cl, TL.no _ (List.mem_of_getElem? (i := 1) rfl), rfl, _, rfl, tup_q (.inl hD3) fun u H4 s4 hu => ?_⟩
      have lws := hP.len
      rw [List.length_map] at lws
      have big : 200 ≤ sizeLine := by decide
      refine cat_q (s3 _ _ l3) hu (by omega) s4 fun t H5 s5 ht y dy hy hdy ne => ?_
      have sX := (same_new (o := .own y) hdy).trans (same_new (o := .ins Cl dy []) (by rw [upd_ne (Ne.symm ne)]; exact hy))
      have X1 : upd (upd H5 dy (.own y)) y (.ins Cl dy []) y = some (.ins Cl dy []) := upd_same
      have sHX := (s3.trans s5).trans sX
      have htX := sX _ _ ht
      have hWX := hW3.mono (s5.trans sX)
      have hPX := (l4.same sHX).app (hP.same (s5.trans sX))
      have xy : x ≠ y := fun z => by
        obtain ⟨dw, _, _, _, _, _, _, _, _, _, _, _, w1, _⟩ := hW3.mono s5
        rw [z, hy] at w1
        cases w1
      have hy0 : H y = none := by
        cases e : H y with
        | none => rfl
        | some o =>
          rw [(s3.trans s5) _ _ e] at hy
          cases hy
      generalize upd (upd H5 dy (.own y)) y (.ins Cl dy []) = G at sX X1 sHX htX hWX hPX ⊢
      refine ⟨y, dy, x, t, ds ++ [(bs, n, [])], _, _, rfl, X1, hWX, by rw [List.length_append]; exact h12, .inr htX, hPX.couples, lk2.1, lk2.2, ?_, xy, fun H6 ls' O6 pm so hLk => ?_⟩
      · simp only [List.length_append, List.length_map, List.length_singleton] at len2 ⊢
        omega
      · exact ⟨rfl, k y x H6 ls' (fun b o e => O6 b o (ne_of_none e hy0) (sHX _ _ e)) hLk pm so⟩
end
end K83

set_option maxRecDepth 100000
set_option maxHeartbeats 8000000
namespace K83
open PySem PySem.Spec PyProof.Rows L2 Kw
/-- rows of rows of numbers, n deep -/
def DT : Nat → Type
  | 0 => Nat
  | n + 1 => Nat ⊕ List (DT n)
def InAt (H : Hp) : (n : Nat) → V → DT n → Prop
  | 0, x, (d : Nat) => x = natV d
  | _ + 1, x, .inl k => x = natV k
  | n + 1, x, .inr l => ∃ a xs, x = .ref a ∧ SeqAt H a xs ∧ xs.length ≤ 1000 ∧ Paired (InAt H n) xs l
def OutAt (H : Hp) : (n : Nat) → V → DT n → Prop
  | 0, x, (d : Nat) => x = natV d
  | _ + 1, x, .inl k => x = natV k
  | n + 1, x, .inr l => ∃ a xs, x = .ref a ∧ H a = some (.tup xs) ∧ Paired (OutAt H n) xs l
theorem paired_imp {α β : Type} {p q : α → β → Prop} (h : ∀ x y, p x y → q x y) : ∀ {xs : List α} {ys : List β}, Paired p xs ys → Paired q xs ys
  | [], [], _ => .nil
  | _ :: _, _ :: _, .cons a r => .cons (h _ _ a) (paired_imp h r)
theorem InAt.same {H H' : Hp} (s : Same H H') : ∀ {n : Nat} {x : V} {d : DT n}, InAt H n x d → InAt H' n x d
  | 0, _, _, h => h
  | _ + 1, _, .inl _, h => h
  | n + 1, _, .inr _, ⟨a, xs, e, h, hl, r⟩ => ⟨a, xs, e, h.same s, hl, paired_imp (fun _ _ => InAt.same s) r⟩
theorem OutAt.tups {H H' : Hp} (s : TupK H H') : ∀ {n : Nat} {x : V} {d : DT n}, OutAt H n x d → OutAt H' n x d
  | 0, _, _, h => h
  | _ + 1, _, .inl _, h => h
  | n + 1, _, .inr _, ⟨a, xs, e, h, r⟩ => ⟨a, xs, e, s _ _ h, paired_imp (fun _ _ => OutAt.tups s) r⟩
theorem paired_app {α β : Type} {p : α → β → Prop} : ∀ {xs us : List α} {ys ws : List β}, Paired p xs ys → Paired p us ws → Paired p (xs ++ us) (ys ++ ws)
  | [], _, [], _, _, h => h
  | _ :: _, _, _ :: _, _, .cons a r, h => .cons a (paired_app r h)
theorem paired_get {α β : Type} {p : α → β → Prop} : ∀ {xs : List α} {ys : List β} {i : Nat} {x : α}, Paired p xs ys → xs[i]? = some x → ∃ y, ys[i]? = some y ∧ p x y
  | [], [], _, _, _, e => by simp at e
  | _ :: _, y :: _, 0, _, .cons a _, e => ⟨y, rfl, by obtain rfl := Option.some.inj e; exact a⟩
  | _ :: _, _ :: _, i + 1, _, .cons _ r, e => paired_get (i := i) r e
theorem TupK.of {H H' : Hp} (s : Same H H') : TupK H H' := fun b xs e => s _ _ e
def entT (d : Ent) : DT 2 := (Sum.inr [(Sum.inr d.1 : DT 1), (Sum.inl d.2.1 : DT 1), (Sum.inr d.2.2 : DT 1)] : Nat ⊕ List (DT 1))
def rowsT (ds : List Ent) : DT 3 := (Sum.inr (ds.map entT) : Nat ⊕ List (DT 2))
theorem nums_in {H : Hp} : ∀ l : List Nat, Paired (InAt H 0) (l.map natV) l
  | [] => .nil
  | _ :: l => .cons rfl (nums_in l)
theorem nums_out {H : Hp} : ∀ {xs : List V} {l : List Nat}, Paired (OutAt H 0) xs l → xs = l.map natV
  | [], [], _ => rfl
  | _ :: _, _ :: _, .cons a r => by
    rw [nums_out r]
    have e : _ = natV _ := a
    rw [e]
    rfl
theorem RwN.tree {R : Addr} {H : Hp} : ∀ {us : List V} {ds : List Ent}, RwN R H us ds → (∀ d ∈ ds, d.1.length ≤ 1000 ∧ d.2.2.length ≤ 1000) → Paired (InAt H 2) us (ds.map entT)
  | [], [], _, _ => .nil
  | _ :: _, d :: _, .cons ⟨t, b, m, e, n1, h1, n2, h2, n3, h3⟩ r, z => .cons ⟨t, _, e, .inr h1, (by show 3 ≤ 1000; decide), .cons ⟨b, _, rfl, .inl h2, by rw [List.length_map]; exact (z d List.mem_cons_self).1, nums_in _⟩ (.cons rfl (.cons ⟨m, _, rfl, .inl h3, by rw [List.length_map]; exact (z d List.mem_cons_self).2, nums_in _⟩ .nil))⟩ (RwN.tree r fun d hd => z d (List.mem_cons_of_mem _ hd))
theorem RwN.inRows {R r : Addr} {H : Hp} {us : List V} {ds : List Ent} (h : RwN R H us ds) (hr : H r = some (.lst us)) (ok : DsOk ds) (h12 : ds.length ≤ 12) : InAt H 3 (.ref r) (rowsT ds) := by
  refine ⟨r, us, rfl, .inl hr, by rw [h.len]; omega, h.tree fun d hd => ?_⟩
  obtain ⟨i, hi⟩ := List.mem_iff_getElem?.mp hd
  obtain ⟨_, _, o3, _, _, _, o7⟩ := ok i d hi
  exact ⟨Nat.le_trans o3 (by decide), Nat.le_trans o7 (by decide)⟩
theorem out_ent {H : Hp} {x : V} {d : Ent} (h : OutAt H 2 x (entT d)) : ∃ t b m, x = .ref t ∧ H t = some (.tup [.ref b, natV d.2.1, .ref m]) ∧ H b = some (.tup (d.1.map natV)) ∧ H m = some (.tup (d.2.2.map natV)) := by
  obtain ⟨t, xs, rfl, ht, hP⟩ := h
  match xs, hP with
  | [_, _, _], .cons ⟨b, us, rfl, hb, h1⟩ (.cons h2 (.cons ⟨m, ws, rfl, hm, h3⟩ .nil)) =>
    have e2 : _ = natV d.2.1 := h2
    subst e2
    rw [nums_out h1] at hb
    rw [nums_out h3] at hm
    exact ⟨t, b, m, rfl, ht, hb, hm⟩
theorem out_rows {H : Hp} {y : V} {ds : List Ent} (h : OutAt H 3 y (rowsT ds)) (ok : DsOk ds) : ∃ a us, y = .ref a ∧ H a = some (.tup us) ∧ us.length = ds.length ∧ ∀ (i : Nat) (d : Ent), ds[i]? = some d → ∃ e, us[i]? = some e ∧ EntryOk H e i d := by
  obtain ⟨a, us, rfl, ha, hP⟩ := h
  have ul : us.length = ds.length := by rw [Paired.length hP, List.length_map]
  refine ⟨a, us, rfl, ha, ul, fun i d hd => ?_⟩
  have il := (List.getElem?_eq_some_iff.mp hd).1
  obtain ⟨e, he⟩ : ∃ e, us[i]? = some e := ⟨_, List.getElem?_eq_getElem (by omega)⟩
  obtain ⟨z, hz, ho⟩ := paired_get hP he
  rw [List.getElem?_map, hd] at hz
  obtain rfl := Option.some.inj hz
  obtain ⟨t, b, m, rfl, h1, h2, h3⟩ := out_ent ho
  obtain ⟨o1, o2, o3, o4, o5, o6, o7⟩ := ok i d hd
  exact ⟨_, he, t, b, m, rfl, .inr h1, .inr h2, .inr h3, ⟨o1, by omega, o2⟩, o4, up_nodup o5, o7, o6⟩
section
variable {P : Program} {w : World} {K : PySem.W.Frag} {mg : Str → Option Value} {base : Heap} {f fS : Addr} {fd fdS : FuncData}
def spLDeep (n : Nat) : Sp := fun vs H Q _ => ∃ (x : V) (d : DT n), vs = [x] ∧ InAt H n x d ∧ ∀ y H', Same H H' → OutAt H' n y d → Q y H'
theorem sc_ldeep : FnScope ["_law_thing", "_law_item"] ["_law_thing"] (defScope (top 52)) := ⟨rfl, rfl, rfl, by decide +kernel, rfl, by decide +kernel, by decide +kernel⟩
theorem ok_ldeep (F : FnP K "_law_deep" 52 f fd) (B : Fr mg) (mF : mg "_law_deep" = some (.ref f)) (FS : FnP K "_law_seq" 53 fS fdS) (mS : mg "_law_seq" = some (.ref fS)) : ∀ n : Nat, FnOk P w K mg base CX0 (n + 2) f fd ["_law_thing"] (spLDeep n) := by
  have GS : FnOk P w K mg base CX0 1 fS fdS ["_law_thing"] spLSeq := ok_lseq FS B
  have bS : L2.Binds K fdS ["_law_thing"] [] := FS.bindsN fun _ _ _ _ _ _ us hl => match us, hl with | [_], _ => rfl
  have bF : L2.Binds K fd ["_law_thing"] [] := F.bindsN fun _ _ _ _ _ _ us hl => match us, hl with | [_], _ => rfl
  have num : ∀ (H : Hp) (k : Nat), Ty0 H (natV k) "int" := fun H k => .int _
  intro n
  induction n with
  | zero =>
    refine F.ok sc_ldeep (fun vs H Q E h => ?_) (fun cdv A outer s H vs Q E hr h => ?_)
    · obtain ⟨x, d, rfl, _⟩ := h
      rfl
    · obtain ⟨x, d, rfl, hx, k⟩ := h
      refine ⟨_, PSs.nox (pss_cons (ps_if (pt_val (pe_call GS (hr.mono (by omega)) (by rfl) mS FS.kp bS .nil pass0 (pa_cons (pv 0) pa_nil))) (pss_one ps_never) pss_nil) (pss_one (ps_ret (pv 0)))), ?_⟩
      have e : x = natV d := hx
      subst e
      exact ⟨_, rfl, _, _, rfl, num H d, _, rfl, iteF' rfl ⟨_, rfl, k _ H (Same.refl H) rfl⟩⟩
  | succ n ih =>
    refine F.ok sc_ldeep (fun vs H Q E h => ?_) (fun cdv A outer s H vs Q E hr h => ?_)
    · obtain ⟨x, d, rfl, _⟩ := h
      rfl
    · obtain ⟨x, d, rfl, hx, k⟩ := h
      refine ⟨_, PSs.nox (pss_cons (ps_if (pt_val (pe_call GS (hr.mono (by omega)) (by rfl) mS FS.kp bS .nil pass0 (pa_cons (pv 0) pa_nil)))
        (pss_one (ps_ret (pe_callTy (T := "tuple") (r := rTupOf K) (call_tup (X := _)) (by rfl) B.tuple (by decide +kernel) (pa_cons
          (pe_lc (own := [("_law_item", 1)]) (g := gName 1) (tt := tYes) (te := tCall (spLDeep n) [] E0 (tCons (tVar 1) tNil)) rfl sc_ldeep.nd (pi_or (pi_list (pv 0)) (pi_tup (pv 0))) (blkOk_by (N := ["_law_thing", "_law_item"]) (sc := defScope (top 52)) (by decide +kernel))
            (fun _ _ _ _ _ => pg_name (i := 1) sc_ldeep.nd rfl (Or.inl rfl)) (fun _ _ _ _ _ => pts_nil) (fun _ _ _ _ _ => pe_call ih hr (by rfl) mF F.kp bF .nil pass0 (pa_cons (pv 1) pa_nil))) pa_nil)))) pss_nil) (pss_one (ps_ret (pv 0)))), ?_⟩
      match d, hx, k with
      | .inl d, hx, k =>
        have e : x = natV d := hx
        subst e
        exact ⟨_, rfl, _, _, rfl, num H d, _, rfl, iteF' rfl ⟨_, rfl, k _ H (Same.refl H) rfl⟩⟩
      | .inr l, ⟨a, xs, e, hA, x1000, hP⟩, k =>
        subst e
        obtain ⟨ty, tyA, hseq⟩ := hA.ty
        refine ⟨_, rfl, _, ty, rfl, tyA, _, rfl, ?_⟩
        rw [hseq]
        refine iteT' rfl ?_
        rcases hA with hA | hA
        · refine .inl ⟨_, rfl, a, rfl, ⟨xs, SqL.of hA⟩, fun D hD => lc_list (K := K) (a := a) (xs := xs) (fun i H' => Same H H' ∧ ∃ ws, H' D = some (.lst ws) ∧ ws.length ≤ i ∧ Paired (OutAt H' n) ws (l.take i)) ⟨same_new hD, [], upd_same, Nat.le_refl _, .nil⟩ (fun i H' _ z => SqL.of (z.1 _ _ hA)) ?_ ?_⟩
          · rintro i y H1 hi ⟨s1, ws, hD1, wl, hW⟩
            obtain ⟨e, he, hin⟩ := paired_get hP hi
            have il := (List.getElem?_eq_some_iff.mp hi).1
            refine ⟨rfl, _, rfl, y, e, rfl, hin.same s1, fun y' H2 s2 ho => ?_⟩
            have hD2 := s2 _ _ hD1
            have kt : TupK H2 (upd H2 D (.lst (ws ++ [y']))) := fun b zs e => upB (fun z => by rw [z, hD2] at e; cases e) e
            refine ⟨ws, hD2, (by show _ < 2 ^ 24; omega), same_upd (s1.trans s2) hD, ws ++ [y'], upd_same, by rw [List.length_append, List.length_singleton]; omega, ?_⟩
            rw [List.take_add_one, he, Option.toList_some]
            exact paired_app (paired_imp (fun _ _ z => (OutAt.tups (TupK.of s2) z).tups kt) hW) (.cons (ho.tups kt) .nil)
          · rintro H1 ⟨s1, ws, hD1, wl, hW⟩
            refine tup_q (.inl hD1) fun t H2 s2 ht => k _ H2 (s1.trans s2) ⟨t, ws, rfl, ht, ?_⟩
            rw [Paired.length hP, List.take_length] at hW
            exact paired_imp (fun _ _ => OutAt.tups (TupK.of s2)) hW
        · refine .inr ⟨_, rfl, a, rfl, ⟨xs, SqT.of hA⟩, fun D hD => lc_tup (K := K) (a := a) (xs := xs) (fun i H' => Same H H' ∧ ∃ ws, H' D = some (.lst ws) ∧ ws.length ≤ i ∧ Paired (OutAt H' n) ws (l.take i)) ⟨same_new hD, [], upd_same, Nat.le_refl _, .nil⟩ (fun i H' _ z => SqT.of (z.1 _ _ hA)) ?_ ?_⟩
          · rintro i y H1 hi ⟨s1, ws, hD1, wl, hW⟩
            obtain ⟨e, he, hin⟩ := paired_get hP hi
            have il := (List.getElem?_eq_some_iff.mp hi).1
            refine ⟨rfl, _, rfl, y, e, rfl, hin.same s1, fun y' H2 s2 ho => ?_⟩
            have hD2 := s2 _ _ hD1
            have kt : TupK H2 (upd H2 D (.lst (ws ++ [y']))) := fun b zs e => upB (fun z => by rw [z, hD2] at e; cases e) e
            refine ⟨ws, hD2, (by show _ < 2 ^ 24; omega), same_upd (s1.trans s2) hD, ws ++ [y'], upd_same, by rw [List.length_append, List.length_singleton]; omega, ?_⟩
            rw [List.take_add_one, he, Option.toList_some]
            exact paired_app (paired_imp (fun _ _ z => (OutAt.tups (TupK.of s2) z).tups kt) hW) (.cons (ho.tups kt) .nil)
          · rintro H1 ⟨s1, ws, hD1, wl, hW⟩
            refine tup_q (.inl hD1) fun t H2 s2 ht => k _ H2 (s1.trans s2) ⟨t, ws, rfl, ht, ?_⟩
            rw [Paired.length hP, List.take_length] at hW
            exact paired_imp (fun _ _ => OutAt.tups (TupK.of s2)) hW
end
end K83

set_option maxRecDepth 100000
set_option maxHeartbeats 8000000
namespace K83
open PySem PySem.Spec PyProof.Rows L2 Kw
theorem ins_nat (bs : List Nat) (b i : Nat) : (bs.map natV).take i ++ [natV b] ++ (bs.map natV).drop i = (bs.take i ++ [b] ++ bs.drop i).map natV := by
  rw [List.map_append, List.map_append, List.map_take, List.map_drop]
  rfl
theorem ins_perm (bs : List Nat) (b i : Nat) : (bs.take i ++ [b] ++ bs.drop i).Perm (b :: bs) := by
  have h : (bs.take i ++ [b] ++ bs.drop i).Perm (b :: (bs.take i ++ bs.drop i)) := by
    rw [List.append_assoc]
    exact List.perm_middle
  rw [List.take_append_drop] at h
  exact h
section
variable {P : Program} {w : World} {K : PySem.W.Frag} {mg : Str → Option Value} {base : Heap} {f fT : Addr} {fd fdT : FuncData}
def spDense : Sp := fun vs H Q _ => ∃ (p q : Addr) (lo hi most : Nat), vs = [.ref p, .int (lo : Int), .int (hi : Int), .int (most : Int)] ∧ 1 ≤ lo ∧ lo ≤ hi ∧ hi ≤ 12 ∧ HandAt H p q ∧
  ∀ l H' us (ds : List Ent), Oth p H H' → HandAt H' p q → H l = none → H' l = some (.lst us) → RwN l H' us ds → lo ≤ ds.length → ds.length ≤ hi → DsOk ds → Q (.ref l) H'
theorem sc_dense : FnScope ["_law_hand_here", "_law_low", "_law_high", "_law_most", "_law_many", "_law_rest", "_law_rows", "_law_c", "_law_bases_here", "_law_step", "_law_base", "_law_fields"] ["_law_hand_here", "_law_low", "_law_high", "_law_most"] (defScope (top 54)) := ⟨rfl, rfl, rfl, by decide +kernel, rfl, by decide +kernel, by decide +kernel⟩
theorem ok_dense (F : FnP K "_law_dense" 54 f fd) (B : Fr mg) (FT : FnP K "_law_take" 45 fT fdT) (mT : mg "_law_take" = some (.ref fT)) (GT : FnOk P w K mg base CX0 2 fT fdT ["_law_hand_here", "_law_many"] spTake) (gMin : mg "min" = none) :
    FnOk P w K mg base CX0 3 f fd ["_law_hand_here", "_law_low", "_law_high", "_law_most"] spDense := by
  have bT : L2.Binds K fdT ["_law_hand_here", "_law_many"] [] := FT.bindsN fun _ _ _ _ _ _ us hl => match us, hl with | [_, _], _ => rfl
  refine F.ok sc_dense (fun vs H Q E h => ?_) (fun cdv A outer s H vs Q E hr h => ?_)
  · obtain ⟨p, q, lo, hi, most, rfl, _⟩ := h
    rfl
  · obtain ⟨p, q, lo, hi, most, rfl, l1, l2, l3, hh, k⟩ := h
    refine ⟨_, PSs.nox (pss_cons (ps_set (i := 4) sc_dense.nd rfl (Or.inl rfl) (pe_op op_add (pv 1) (pe_call GT hr (by rfl) mT FT.kp bT .nil pass0 (pa_cons (pv 0) (pa_cons (pe_op op_add (pe_op op_sub (pv 2) (pv 1)) pe_int) pa_nil)))))
      (pss_cons (ps_set (i := 5) sc_dense.nd rfl (Or.inl rfl) (pv 3))
      (pss_cons (ps_set (i := 6) sc_dense.nd rfl (Or.inl rfl) (pe_lst pa_nil))
      (pss_cons (ps_for PassesOwn.never rfl (pi_range1 (by rfl) B.range (pa_cons (pv 4) pa_nil)) (pg_name (i := 7) sc_dense.nd rfl (Or.inl rfl))
        (pss_cons (ps_set (i := 8) sc_dense.nd rfl (Or.inl rfl) (pe_lst pa_nil))
        (pss_cons (ps_for PassesOwn.never rfl (pi_range1 (by rfl) B.range (pa_cons (pe_ix ix_tup (pe_tup (pa_cons pe_int (pa_cons pe_int (pa_cons pe_int (pa_cons pe_int pa_nil))))) (pe_call GT hr (by rfl) mT FT.kp bT .nil pass0 (pa_cons (pv 0) (pa_cons pe_int pa_nil))) (fun _ _ => rfl)) pa_nil)) (pg_name (i := 9) sc_dense.nd rfl (Or.inl rfl))
          (pss_one (ps_if (pt_cmpR op_gt (pv 7) pe_int (nomark _))
            (pss_cons (ps_set (i := 10) sc_dense.nd rfl (Or.inl rfl) (pe_op op_sub (pe_op op_sub (pv 7) pe_int) (pe_callB (call_min2 rfl) (by rfl) gMin (by decide +kernel) (pa_cons (pe_call GT hr (by rfl) mT FT.kp bT .nil pass0 (pa_cons (pv 0) (pa_cons (pv 7) pa_nil))) (pa_cons (pe_call GT hr (by rfl) mT FT.kp bT .nil pass0 (pa_cons (pv 0) (pa_cons (pv 7) pa_nil))) pa_nil)))))
            (pss_one (ps_if (pt_cmpR (r := rIn K true) op_notIn_seq (pv 10) (pv 8) (by rfl)) (pss_one (ps_expr (pe_bm PySem.F.plainAttrs_list PySem.F.slot_list_insert PySem.F.type_list_insert mt_insert (pv 8) (pa_cons (pe_call GT hr (by rfl) mT FT.kp bT .nil pass0 (pa_cons (pv 0) (pa_cons (pe_op op_add (pe_callB call_len_seq (by rfl) B.len PySem.boot_len (pa_cons (pv 8) pa_nil)) pe_int) pa_nil))) (pa_cons (pv 10) pa_nil))))) pss_nil))) pss_nil)))
        (pss_cons (ps_set (i := 11) sc_dense.nd rfl (Or.inl rfl) (pe_callB (call_min2 rfl) (by rfl) gMin (by decide +kernel) (pa_cons (pv 5)
          (pa_cons (pe_ix ix_tup (pe_tup (pa_cons pe_int (pa_cons pe_int (pa_cons pe_int (pa_cons pe_int (pa_cons pe_int (pa_cons pe_int (pa_cons pe_int (pa_cons pe_int (pa_cons pe_int (pa_cons pe_int pa_nil))))))))))) (pe_call GT hr (by rfl) mT FT.kp bT .nil pass0 (pa_cons (pv 0) (pa_cons pe_int pa_nil))) (fun _ _ => rfl)) pa_nil))))
        (pss_cons (ps_set (i := 5) sc_dense.nd rfl (Or.inl rfl) (pe_op op_sub (pv 5) (pv 11)))
        (pss_one (ps_expr (pe_bm PySem.F.plainAttrs_list PySem.F.slot_list_append PySem.F.type_list_append mt_append (pv 6) (pa_cons (pe_tup (pa_cons (pv 8) (pa_cons (pv 11)
          (pa_cons (pe_lst pa_nil) pa_nil)))) pa_nil)))))))))
      (pss_one (ps_ret (pv 6))))))), ?_⟩
    have m0 : (1 : Int) ≤ (hi : Int) - (lo : Int) + 1 := by omega
    have m1 : (hi : Int) - (lo : Int) + 1 < 1073741824 := by omega
    refine ⟨_, rfl, _, rfl, _, rfl, _, rfl, _, _, rfl, rfl, _, _, rfl, rfl, p, q, _, rfl, m0, m1, hh, fun r1 H1 r10 r11 h1 e1 => ?_⟩
    have O1 : Oth p H H1 := Oth.take e1
    obtain ⟨n, en, n1, n2⟩ : ∃ n : Nat, (lo : Int) + r1 = (n : Int) ∧ lo ≤ n ∧ n ≤ hi := ⟨((lo : Int) + r1).toNat, by omega, by omega, by omega⟩
    refine ⟨_, _, rfl, rfl, ?_⟩
    have en' : V.int ((lo : Int) + r1) = natV n := by rw [en]; rfl
    show gName 4 (V.int ((lo : Int) + r1)) _ _ _
    rw [en']
    refine ⟨_, rfl, by decide, fun D hD => ?_⟩
    obtain ⟨Dp, Dq⟩ := h1.ne hD
    have HD : H D = none := oth_free O1 Dp hD
    have sD := same_new (o := .lst []) hD
    refine ⟨_, rfl, _, rfl, by omega, by omega, ?_⟩
    refine for_range (n := n) (fun i σ H' => ∃ (rest : Nat) (x7 x8 x9 x10 x11 : Option V), σ = [some (.ref p), some (.int (lo : Int)), some (.int (hi : Int)), some (.int (most : Int)), some (natV n), some (.int (rest : Int)), some (.ref D), x7, x8, x9, x10, x11] ∧
        Oth p H H' ∧ HandAt H' p q ∧ ∃ (us : List V) (ds : List Ent), H' D = some (.lst us) ∧ RwN D H' us ds ∧ ds.length = i ∧ DsOk ds)
      ⟨most, none, none, none, none, none, rfl, (O1.trans (Oth.of sD)), h1.upd Dp Dq, [], [], upd_same, .nil, rfl, fun i d e => by simp at e⟩ ?_ ?_
    · rintro i σ H4 hin ⟨rest, x7, x8, x9, x10, x11, rfl, O4, h4, us, ds, D4, hR4, hl4, ok4⟩
      have ei : (0 : Int) + (i : Int) = (i : Int) := by omega
      rw [ei]
      refine ⟨by decide, fun l hl => ?_⟩
      obtain ⟨lp, lq⟩ := h4.ne hl
      have hlH : H l = none := oth_free O4 lp hl
      have lD : l ≠ D := Ne.symm (ne_of_none D4 hl)
      have sl := same_new (o := .lst []) hl
      have h5 := h4.upd lp lq (o := .lst [])
      refine ⟨by (show 4 ≤ sizeLine); decide, fun t ht => ?_⟩
      obtain ⟨tp, tq⟩ := h5.ne ht
      have tl : t ≠ l := fun z => by
        rw [z, upd_same] at ht
        cases ht
      have st := same_new (o := .tup (([2, 3, 1, 2] : List Int).map V.int)) ht
      refine ⟨_, rfl, p, q, 4, rfl, by decide, by decide, h5.upd tp tq, fun r H6 r0 r1 h6 e6 => ?_⟩
      obtain ⟨v, hv, hm⟩ := tab_at (tab := [2, 3, 1, 2]) r0 r1
      have hv3 : 0 ≤ v ∧ v ≤ 3 := (by decide : ∀ v ∈ ([2, 3, 1, 2] : List Int), 0 ≤ v ∧ v ≤ 3) v hm
      have T6 : H6 t = some (.tup (([2, 3, 1, 2] : List Int).map V.int)) := by
        rw [e6 t tp]
        exact upd_same
      have L6 : H6 l = some (.lst []) := by
        rw [e6 l lp]
        exact upB tl.symm upd_same
      have O46 : Oth p H4 H6 := (Oth.of (sl.trans st)).trans (Oth.take e6)
      refine ⟨t, _, r, _, rfl, rfl, SqT.of T6, hv, v, rfl, by omega, by omega, for_range (n := v.toNat) (fun j σ H' => ∃ (bs : List Nat) (x9 x10 : Option V), σ = [some (.ref p), some (.int (lo : Int)), some (.int (hi : Int)), some (.int (most : Int)), some (natV n), some (.int (rest : Int)), some (.ref D), some (.int (i : Int)), some (.ref l), x9, x10, x11] ∧ HandAt H' p q ∧ Oth p H4 H' ∧ H' l = some (.lst (bs.map natV)) ∧ bs.Nodup ∧ (∀ b ∈ bs, b < i) ∧ bs.length ≤ j)
        ⟨[], _, _, rfl, h6, O46, L6, List.nodup_nil, fun b hb => (by cases hb), Nat.le_refl _⟩ ?_ ?_⟩
      · rintro j σ H7 hj ⟨bs, x9, x10, rfl, h7, O7, L7, nd, hb, hl3⟩
        refine ⟨_, rfl, _, _, rfl, rfl, _, rfl, ?_⟩
        refine ite2 (fun e => ?_) (fun _ => ⟨bs, _, _, rfl, h7, O7, L7, nd, hb, by omega⟩)
        have c0 : (0 : Int) < (i : Int) := of_decide_eq_true e
        refine ⟨_, rfl, _, _, rfl, rfl, _, rfl, _, rfl, p, q, (i : Int), rfl, by omega, by omega, h7, fun r2 H8 r20 r21 h8 e8 => ?_⟩
        refine ⟨_, rfl, _, rfl, p, q, (i : Int), rfl, by omega, by omega, h8, fun r3 H9 r30 r31 h9 e9 => ?_⟩
        obtain ⟨b, eb, bi⟩ : ∃ b : Nat, (i : Int) - 1 - (if r3 < r2 then r3 else r2) = (b : Int) ∧ b < i := by
          refine ⟨((i : Int) - 1 - (if r3 < r2 then r3 else r2)).toNat, ?_, ?_⟩ <;> split <;> omega
        have eb' : V.int ((i : Int) - 1 - (if r3 < r2 then r3 else r2)) = natV b := by rw [eb]; rfl
        refine ⟨_, _, rfl, _, _, rfl, rfl, ?_⟩
        show gName 10 (V.int ((i : Int) - 1 - (if r3 < r2 then r3 else r2))) _ _ _
        rw [eb']
        have O9 : Oth p H7 H9 := (Oth.take e8).trans (Oth.take e9)
        have L9 := O9 _ _ lp L7
        refine ⟨_, rfl, _, rfl, l, _, rfl, .inl (SqL.of L9), rfl, flat_nats bs, _, rfl, ?_⟩
        have ein : inV (natV b) (bs.map natV) = bs.contains b := inV_nat b bs
        show (if (!inV (natV b) (bs.map natV)) = true then _ else _)
        rw [ein]
        cases hbc : bs.contains b with
        | true => exact iteF' rfl ⟨bs, _, _, rfl, h9, O7.trans O9, L9, nd, hb, by omega⟩
        | false =>
          have nb : b ∉ bs := fun z => by
            rw [List.contains_iff_mem.mpr z] at hbc
            cases hbc
          have bl2 : (bs.map natV).length ≤ 3 := by rw [List.length_map]; omega
          refine iteT' rfl ⟨_, rfl, .inl ⟨rfl, _, SqL.of L9⟩, _, rfl, _, rfl, l, _, rfl, .inl (SqL.of L9), _, _, rfl, rfl, p, q, _, rfl, by omega, by omega, h9, fun g H10 g0 g1 h10 e10 => ?_⟩
          rw [List.length_map] at g1
          have L10 := (Oth.take e10) _ _ lp L9
          obtain ⟨g, rfl⟩ : ∃ g' : Nat, g = (g' : Int) := ⟨g.toNat, by omega⟩
          have pm := ins_perm bs b g
          refine ⟨_, rfl, l, _, (g : Int), natV b, rfl, rfl, L10, (by rw [List.length_map]; show _ < 2 ^ 24; omega), by omega, by omega, ?_⟩
          rw [Int.toNat_natCast, ins_nat]
          refine ⟨bs.take g ++ [b] ++ bs.drop g, _, _, rfl, h10.upd lp lq, ((O7.trans O9).trans (Oth.take e10)).updN hl, upd_same, ?_, ?_, ?_⟩
          · exact pm.nodup_iff.mpr (List.nodup_cons.mpr ⟨nb, nd⟩)
          · intro x hx
            rcases List.mem_cons.mp (pm.mem_iff.mp hx) with rfl | hx
            · exact bi
            · exact hb x hx
          · rw [pm.length_eq, List.length_cons]
            omega
      · rintro σ H7 ⟨bs, x9, x10, rfl, h7, O7, L7, nd, hb, hl3⟩
        have bl : bs.length ≤ 3 := by omega
        refine ⟨_, rfl, by (show 10 ≤ sizeLine); decide, fun t ht => ?_⟩
        obtain ⟨tp, tq⟩ := h7.ne ht
        have st := same_new (o := .tup (([1, 1, 0, 1, 2, 1, 2, 0, 1, 3] : List Int).map V.int)) ht
        refine ⟨_, rfl, p, q, 10, rfl, by decide, by decide, h7.upd tp tq, fun r H5 r0 r1 h5 e5 => ?_⟩
        obtain ⟨v, hv, hm⟩ := tab_at (tab := [1, 1, 0, 1, 2, 1, 2, 0, 1, 3]) r0 r1
        have hv3 : 0 ≤ v ∧ v ≤ 3 := (by decide : ∀ v ∈ ([1, 1, 0, 1, 2, 1, 2, 0, 1, 3] : List Int), 0 ≤ v ∧ v ≤ 3) v hm
        have T5 : H5 t = some (.tup (([1, 1, 0, 1, 2, 1, 2, 0, 1, 3] : List Int).map V.int)) := by
          rw [e5 t tp]
          exact upd_same
        have O5 : Oth p H7 H5 := (Oth.of st).trans (Oth.take e5)
        refine ⟨t, _, r, _, rfl, rfl, SqT.of T5, hv, _, _, rfl, ?_⟩
        obtain ⟨g, eg, g3, gr⟩ : ∃ g : Nat, (if v < (rest : Int) then v else (rest : Int)) = (g : Int) ∧ g ≤ 3 ∧ g ≤ rest := by
          refine ⟨(if v < (rest : Int) then v else (rest : Int)).toNat, ?_, ?_, ?_⟩ <;> split <;> omega
        have eg' : V.int (if v < (rest : Int) then v else (rest : Int)) = natV g := by rw [eg]; rfl
        show gName 11 (V.int (if v < (rest : Int) then v else (rest : Int))) _ _ _
        rw [eg']
        refine ⟨_, rfl, _, rfl, _, _, rfl, rfl, ?_⟩
        have er : V.int ((rest : Int) - (g : Int)) = V.int ((rest - g : Nat) : Int) := by congr 1; omega
        show gName 5 (V.int ((rest : Int) - (g : Int))) _ _ _
        rw [er]
        have O45 := O7.trans O5
        have D5 : H5 D = some (.lst us) := O45 _ _ Dp D4
        have L5 := O5 _ _ lp L7
        have ul := hR4.len
        refine ⟨_, rfl, .inl ⟨rfl, _, SqL.of D5⟩, _, rfl, _, rfl, by decide, fun m hm => ⟨by (show 3 ≤ sizeLine); decide, fun u hu => ?_⟩⟩
        have sm := same_new (o := .lst []) hm
        have su := same_new (o := .tup [.ref l, natV g, .ref m]) hu
        have D6 := (sm.trans su) _ _ D5
        obtain ⟨mp, mq⟩ := h5.ne hm
        have mD : m ≠ D := Ne.symm (ne_of_none D5 hm)
        have uD : u ≠ D := Ne.symm (ne_of_none (sm _ _ D5) hu)
        have m6 : (upd (upd H5 m (.lst [])) u (.tup [.ref l, natV g, .ref m])) m = some (.lst ([] : List V)) := su _ _ upd_same
        have l6 := (sm.trans su) _ _ L5
        have h6 := (h5.same sm).same su
        have z6 := sm.trans su
        have u6 : (upd (upd H5 m (.lst [])) u (.tup [.ref l, natV g, .ref m])) u = some (.tup [.ref l, natV g, .ref m]) := upd_same
        have O46 := O45.trans (Oth.of z6)
        generalize upd (upd H5 m (.lst [])) u (.tup [.ref l, natV g, .ref m]) = H6 at D6 m6 l6 h6 z6 u6 O46 ⊢
        refine ⟨D, us, _, rfl, rfl, D6, (by show _ < 2 ^ 24; omega), rest - g, _, _, _, _, _, rfl, (O4.trans O46).updN HD, h6.upd Dp Dq, us ++ [.ref u], ds ++ [(bs, g, [])], upd_same, ?_, by rw [List.length_append, hl4]; rfl, ok4.app ⟨nd, by rw [hl4]; exact hb, bl, g3, .nil, (fun _ z => by cases z), Nat.zero_le _⟩⟩
        have one : RwN D H6 [.ref u] [((bs, g, []) : Ent)] := .cons ⟨u, l, m, rfl, uD, u6, lD, l6, mD, m6⟩ .nil
        exact ((hR4.keep (KeepX.oth O46 h4)).app one).keep KeepX.upd
    · rintro σ H4 ⟨rest, x7, x8, x9, x10, x11, rfl, O4, h4, us, ds, D4, hR4, hl4, ok4⟩
      exact ⟨_, rfl, k D H4 us ds O4 h4 HD D4 hR4 (by omega) (by omega) ok4⟩
end
end K83

set_option maxRecDepth 100000
set_option maxHeartbeats 8000000
namespace K83
open PySem PySem.Spec PyProof.Rows L2 Kw
/-- all ways from c, as the law lists them; n bounds c -/
def waysF (ds : List Ent) : Nat → Nat → List (List Nat)
  | 0, c => [[c]]
  | n + 1, c => [c] :: (basesOf ds c).flatMap fun b => (waysF ds n b).map fun w => [c] ++ w
theorem basesOf_len {ds : List Ent} (ok : DsOk ds) (c : Nat) : (basesOf ds c).length ≤ 3 := by
  unfold basesOf
  rw [List.getD_eq_getElem?_getD]
  cases e : ds[c]? with
  | none => exact Nat.zero_le _
  | some d => exact (ok c d e).2.2.1
theorem flat_len {ds : List Ent} {n m : Nat} : ∀ (l : List Nat) (c : Nat), (∀ b ∈ l, (waysF ds n b).length ≤ m) → (l.flatMap fun b => (waysF ds n b).map fun w => [c] ++ w).length ≤ l.length * m
  | [], c, _ => by simp
  | b :: l, c, h => by
    rw [List.flatMap_cons, List.length_append, List.length_map, List.length_cons, Nat.succ_mul]
    have h1 := h b List.mem_cons_self
    have h2 := flat_len l c fun x hx => h x (List.mem_cons_of_mem _ hx)
    omega
theorem waysF_len {ds : List Ent} (ok : DsOk ds) : ∀ n c, (waysF ds n c).length ≤ 4 ^ c
  | 0, c => Nat.one_le_pow _ _ (by decide)
  | n + 1, 0 => by
    have e : basesOf ds 0 = [] := by
      cases h : basesOf ds 0 with
      | nil => rfl
      | cons b l =>
        have := (basesOf_lt ok (c := 0) (b := b) (by rw [h]; exact List.mem_cons_self)).1
        omega
    unfold waysF
    rw [e]
    exact Nat.le_refl _
  | n + 1, c + 1 => by
    unfold waysF
    rw [List.length_cons]
    have h := flat_len (ds := ds) (n := n) (m := 4 ^ c) (basesOf ds (c + 1)) (c + 1) fun b hb => Nat.le_trans (waysF_len ok n b) (Nat.pow_le_pow_right (by decide) (by have := (basesOf_lt ok hb).1; omega))
    have h3 := Nat.mul_le_mul_right (4 ^ c) (basesOf_len ok (c + 1))
    have h1 : 1 ≤ 4 ^ c := Nat.one_le_pow _ _ (by decide)
    rw [Nat.pow_succ]
    omega
theorem way_cons {ds : List Ent} {c b : Nat} {ws : List Nat} (hc : c < ds.length) (hb : b ∈ basesOf ds c) (h0 : ws[0]? = some b) (hw : IsWay ds ws) : IsWay ds (c :: ws) := by
  refine ⟨⟨c, rfl, hc⟩, fun i x y hx hy => ?_⟩
  cases i with
  | zero =>
    obtain rfl : c = x := Option.some.inj hx
    have : ws[0]? = some y := hy
    rw [h0] at this
    obtain rfl := Option.some.inj this
    exact hb
  | succ i => exact hw.2 i x y hx hy
theorem ways_isWay {ds : List Ent} (ok : DsOk ds) : ∀ (n c : Nat), c < ds.length → ∀ ws ∈ waysF ds n c, IsWay ds ws ∧ ws[0]? = some c
  | 0, c, hc, ws, h => by
    obtain rfl : ws = [c] := List.mem_singleton.mp h
    exact ⟨⟨⟨c, rfl, hc⟩, fun i x y _ hy => by simp at hy⟩, rfl⟩
  | n + 1, c, hc, ws, h => by
    unfold waysF at h
    rcases List.mem_cons.mp h with rfl | h
    · exact ⟨⟨⟨c, rfl, hc⟩, fun i x y _ hy => by simp at hy⟩, rfl⟩
    · obtain ⟨b, hb, h⟩ := List.mem_flatMap.mp h
      obtain ⟨u, hu, rfl⟩ := List.mem_map.mp h
      have bl := (basesOf_lt ok hb).1
      obtain ⟨z1, z2⟩ := ways_isWay ok n b (by omega) u hu
      exact ⟨way_cons hc hb z2 z1, rfl⟩
theorem IsWay.at {ds : List Ent} (ok : DsOk ds) {ws : List Nat} (h : IsWay ds ws) : ∀ {i c : Nat}, ws[i]? = some c → c + i < ds.length
  | 0, c, e => h.lt ok e
  | i + 1, b, e => by
    obtain ⟨c, hc⟩ : ∃ c, ws[i]? = some c := ⟨_, List.getElem?_eq_getElem (by have := (List.getElem?_eq_some_iff.mp e).1; omega)⟩
    have h1 := IsWay.at ok h hc
    have h2 := (basesOf_lt ok (h.2 i c b hc e)).1
    omega
theorem IsWay.len {ds : List Ent} (ok : DsOk ds) {ws : List Nat} (h : IsWay ds ws) : ws.length ≤ ds.length := by
  apply Classical.byContradiction
  intro z
  obtain ⟨c, hc⟩ : ∃ c, ws[ds.length]? = some c := ⟨_, List.getElem?_eq_getElem (by omega)⟩
  have := h.at ok hc
  omega
theorem ways_small {ds : List Ent} (ok : DsOk ds) {n c : Nat} (h : c ≤ 11) : (waysF ds n c).length ≤ 4194304 :=
  Nat.le_trans (waysF_len ok n c) (Nat.le_trans (Nat.pow_le_pow_right (by decide) h) (by decide))
theorem flat_small {ds : List Ent} (ok : DsOk ds) {n c : Nat} {l : List Nat} (l3 : l.length ≤ 3) (h : ∀ b ∈ l, b ≤ 10) : (l.flatMap fun b => (waysF ds n b).map fun w => [c] ++ w).length ≤ 3145728 := by
  refine Nat.le_trans (flat_len (m := 1048576) l c fun b hb => Nat.le_trans (waysF_len ok n b) (Nat.le_trans (Nat.pow_le_pow_right (by decide) (h b hb)) (by decide))) ?_
  omega
section
variable {P : Program} {w : World} {K : PySem.W.Frag} {mg : Str → Option Value} {base : Heap} {f fT fC fD : Addr} {fd fdT fdC fdD : FuncData}
theorem sc_net : FnScope ["_law_hand_here", "_law_low", "_law_high", "_law_most"] ["_law_hand_here", "_law_low", "_law_high", "_law_most"] (defScope (top 55)) := ⟨rfl, rfl, rfl, by decide +kernel, rfl, by decide +kernel, by decide +kernel⟩
theorem ok_net (F : FnP K "_law_net" 55 f fd) (FT : FnP K "_law_take" 45 fT fdT) (mT : mg "_law_take" = some (.ref fT)) (GT : FnOk P w K mg base CX0 2 fT fdT ["_law_hand_here", "_law_many"] spTake)
    (FC : FnP K "_law_classes" 49 fC fdC) (mC : mg "_law_classes" = some (.ref fC)) (GC : FnOk P w K mg base CX0 5 fC fdC ["_law_hand_here", "_law_low", "_law_high", "_law_most", "_law_wanted"] spClasses) (FD : FnP K "_law_dense" 54 fD fdD) (mD : mg "_law_dense" = some (.ref fD)) (GD : FnOk P w K mg base CX0 3 fD fdD ["_law_hand_here", "_law_low", "_law_high", "_law_most"] spDense) :
    FnOk P w K mg base CX0 6 f fd ["_law_hand_here", "_law_low", "_law_high", "_law_most"] spDense := by
  have bT : L2.Binds K fdT ["_law_hand_here", "_law_many"] [] := FT.bindsN fun _ _ _ _ _ _ us hl => match us, hl with | [_, _], _ => rfl
  have bC : L2.Binds K fdC ["_law_hand_here", "_law_low", "_law_high", "_law_most", "_law_wanted"] [] := FC.bindsN fun _ _ _ _ _ _ us hl => match us, hl with | [_, _, _, _, _], _ => rfl
  have bD : L2.Binds K fdD ["_law_hand_here", "_law_low", "_law_high", "_law_most"] [] := FD.bindsN fun _ _ _ _ _ _ us hl => match us, hl with | [_, _, _, _], _ => rfl
  refine F.ok sc_net (fun vs H Q E h => ?_) (fun cdv A outer s H vs Q E hr h => ?_)
  · obtain ⟨p, q, lo, hi, most, rfl, _⟩ := h
    rfl
  · obtain ⟨p, q, lo, hi, most, rfl, l1, l2, l3, hh, k⟩ := h
    refine ⟨_, PSs.nox (pss_cons (ps_if (pt_cmpR op_eq (pe_call GT (hr.mono (by decide)) (by rfl) mT FT.kp bT .nil pass0 (pa_cons (pv 0) (pa_cons pe_int pa_nil))) pe_int (nomark _)) (pss_one (ps_ret (pe_call GC hr (by rfl) mC FC.kp bC .nil pass0 (pa_cons (pv 0) (pa_cons (pv 1) (pa_cons (pv 2) (pa_cons (pv 3) (pa_cons pe_bl pa_nil)))))))) pss_nil)
      (pss_one (ps_ret (pe_call GD (hr.mono (by decide)) (by rfl) mD FD.kp bD .nil pass0 (pa_cons (pv 0) (pa_cons (pv 1) (pa_cons (pv 2) (pa_cons (pv 3) pa_nil)))))))), ?_⟩
    refine ⟨_, rfl, p, q, 3, rfl, by decide, by decide, hh, fun r H1 r0 r1 h1 e1 => ⟨rfl, _, rfl, ?_⟩⟩
    have O1 : Oth p H H1 := Oth.take e1
    refine ite2 (fun _ => ?_) (fun _ => ?_)
    · refine ⟨_, rfl, _, rfl, _, rfl, _, rfl, p, q, lo, hi, most, false, rfl, l1, l2, l3, h1, fun l H2 us ds O2 h2 hl hl2 hR lo1 hi1 ok => ?_⟩
      exact k l H2 us ds (O1.trans O2) h2 (oth_free O1 (h1.ne hl).1 hl) hl2 hR lo1 hi1 ok
    · refine ⟨_, rfl, _, rfl, _, rfl, _, rfl, p, q, lo, hi, most, rfl, l1, l2, l3, h1, fun l H2 us ds O2 h2 hl hl2 hR lo1 hi1 ok => ?_⟩
      exact k l H2 us ds (O1.trans O2) h2 (oth_free O1 (h1.ne hl).1 hl) hl2 hR lo1 hi1 ok
def spWays (n : Nat) : Sp := fun vs H Q _ => ∃ (r R : Addr) (us : List V) (ds : List Ent) (c : Nat), vs = [.ref r, natV c] ∧ H r = some (.lst us) ∧ RwN R H us ds ∧ DsOk ds ∧ ds.length ≤ 12 ∧ c < ds.length ∧ c ≤ n ∧ ∀ D us' H', Same H H' → H D = none → H' D = some (.lst us') → TupsAt H' us' (waysF ds n c) → Q (.ref D) H'
theorem sc_ways : FnScope ["_law_rows", "_law_c", "_law_found", "_law_base", "_law_way"] ["_law_rows", "_law_c"] (defScope (top 60)) := ⟨rfl, rfl, rfl, by decide +kernel, rfl, by decide +kernel, by decide +kernel⟩
theorem ok_ways (F : FnP K "_law_ways" 60 f fd) (mF : mg "_law_ways" = some (.ref f)) : ∀ n : Nat, FnOk P w K mg base CX0 (n + 1) f fd ["_law_rows", "_law_c"] (spWays n) := by
  have bF : L2.Binds K fd ["_law_rows", "_law_c"] [] := F.bindsN fun _ _ _ _ _ _ us hl => match us, hl with | [_, _], _ => rfl
  intro n
  induction n with
  | zero =>
    refine F.ok sc_ways (fun vs H Q E h => ?_) (fun cdv A outer s H vs Q E hr h => ?_)
    · obtain ⟨r, R, us, ds, c, rfl, _⟩ := h
      rfl
    · obtain ⟨r, R, us, ds, c, rfl, hr0, hR, ok, h12, hc, cn, k⟩ := h
      refine ⟨_, PSs.nox (pss_cons (ps_set (i := 2) sc_ways.nd rfl (Or.inl rfl) (pe_lst (pa_cons (pe_tup (pa_cons (pv 1) pa_nil)) pa_nil)))
        (pss_cons (ps_for PassesOwn.never rfl (pi_list (pe_ix (r := rIxT K) ix_tup (pe_ix (r := rIxL K) ix_list (pv 0) (pv 1) (fun _ _ => rfl)) pe_int (fun _ _ => rfl))) (pg_name (i := 3) sc_ways.nd rfl (Or.inl rfl)) (pss_one ps_never))
        (pss_one (ps_ret (pv 2))))), ?_⟩
      obtain ⟨d, hd⟩ : ∃ d, ds[c]? = some d := ⟨_, List.getElem?_eq_getElem hc⟩
      have ed : basesOf ds c = d.1 := by
        unfold basesOf
        rw [List.getD_eq_getElem?_getD, hd]
        rfl
      obtain ⟨t, b, m, e1, z1, z2, z3⟩ := hR.get hd
      refine ⟨_, rfl, (by show 1 ≤ sizeLine; decide), fun T hT => ⟨(by show 1 ≤ sizeLine; decide), fun L hL => ?_⟩⟩
      have sT := same_new (o := .tup [natV c]) hT
      have sL := same_new (o := .lst [.ref T]) hL
      have s1 := sT.trans sL
      have HL : H L = none := by
        cases e : H L with
        | none => rfl
        | some o => rw [sT _ _ e] at hL; cases hL
      have L1 : upd (upd H T (.tup [natV c])) L (.lst [.ref T]) L = some (.lst [.ref T]) := upd_same
      have T1 := sL _ _ (upd_same (H := H) (a := T) (o := .tup [natV c]))
      have U1 : TupsAt (upd (upd H T (.tup [natV c])) L (.lst [.ref T])) [.ref T] [[c]] := .cons ⟨T, rfl, T1⟩ .nil
      generalize upd (upd H T (.tup [natV c])) L (.lst [.ref T]) = H1 at s1 L1 U1 ⊢
      have dl := (ok c d hd).2.2.1
      have db := (ok c d hd).2.1
      refine ⟨_, rfl, _, rfl, r, us, (c : Int), _, rfl, rfl, SqL.of (s1 _ _ hr0), atI_nat e1, t, _, ((0 : Nat) : Int), _, rfl, rfl, SqT.of (s1 _ _ z1), atI_nat rfl, b, rfl, ⟨_, SqL.of (s1 _ _ z2)⟩, for_list (K := K) (a := b) (xs := d.1.map natV) (fun i σ H' => Same H H' ∧ ∃ (x3 x4 : Option V) (L : Addr) (us' : List V), σ = [some (.ref r), some (natV c), some (.ref L), x3, x4] ∧ H L = none ∧ H' L = some (.lst us') ∧ TupsAt H' us' ([c] :: []))
        ⟨s1, none, none, L, [.ref T], rfl, HL, L1, U1⟩ (fun i σ H' _ h => SqL.of (h.1 _ _ z2)) ?_ ?_⟩
      · rintro i y σ H2 hi _
        have := db
        rw [List.getElem?_map] at hi
        obtain ⟨bb, hbb, _⟩ := Option.map_eq_some_iff.mp hi
        have := db bb (List.mem_of_getElem? hbb)
        omega
      · rintro σ H2 ⟨s2, x3, x4, L2, us', rfl, HL2, hL2, hU⟩
        exact ⟨_, rfl, k L2 us' H2 s2 HL2 hL2 hU⟩
  | succ n ih =>
    refine F.ok sc_ways (fun vs H Q E h => ?_) (fun cdv A outer s H vs Q E hr h => ?_)
    · obtain ⟨r, R, us, ds, c, rfl, _⟩ := h
      rfl
    · obtain ⟨r, R, us, ds, c, rfl, hr0, hR, ok, h12, hc, cn, k⟩ := h
      refine ⟨_, PSs.nox (pss_cons (ps_set (i := 2) sc_ways.nd rfl (Or.inl rfl) (pe_lst (pa_cons (pe_tup (pa_cons (pv 1) pa_nil)) pa_nil)))
        (pss_cons (ps_for PassesOwn.never rfl (pi_list (pe_ix (r := rIxT K) ix_tup (pe_ix (r := rIxL K) ix_list (pv 0) (pv 1) (fun _ _ => rfl)) pe_int (fun _ _ => rfl))) (pg_name (i := 3) sc_ways.nd rfl (Or.inl rfl))
          (pss_one (ps_set (i := 2) sc_ways.nd rfl (Or.inl rfl) (pe_op op_cat (pv 2)
            (pe_lc (own := [("_law_way", 4)]) (g := gName 4) (tt := tYes) (te := tOp (rCatQ K) (tTup (tCons (tVar 1) tNil)) (tVar 4)) rfl sc_ways.nd (pi_list (pe_call ih hr (by rfl) mF F.kp bF .nil pass0 (pa_cons (pv 0) (pa_cons (pv 3) pa_nil)))) (blkOk_by (N := ["_law_rows", "_law_c", "_law_found", "_law_base", "_law_way"]) (sc := defScope (top 60)) (by decide +kernel))
              (fun _ _ _ _ _ => pg_name (i := 4) sc_ways.nd rfl (Or.inl rfl)) (fun _ _ _ _ _ => pts_nil) (fun _ _ _ _ _ => pe_op (r := rCatQ K) op_catQ (pe_tup (pa_cons (pv 1) pa_nil)) (pv 4)))))))
        (pss_one (ps_ret (pv 2))))), ?_⟩
      obtain ⟨d, hd⟩ : ∃ d, ds[c]? = some d := ⟨_, List.getElem?_eq_getElem hc⟩
      have ed : basesOf ds c = d.1 := by
        unfold basesOf
        rw [List.getD_eq_getElem?_getD, hd]
        rfl
      obtain ⟨t, b, m, e1, z1, z2, z3⟩ := hR.get hd
      refine ⟨_, rfl, (by show 1 ≤ sizeLine; decide), fun T hT => ⟨(by show 1 ≤ sizeLine; decide), fun L hL => ?_⟩⟩
      have sT := same_new (o := .tup [natV c]) hT
      have sL := same_new (o := .lst [.ref T]) hL
      have s1 := sT.trans sL
      have HL : H L = none := by
        cases e : H L with
        | none => rfl
        | some o => rw [sT _ _ e] at hL; cases hL
      have L1 : upd (upd H T (.tup [natV c])) L (.lst [.ref T]) L = some (.lst [.ref T]) := upd_same
      have T1 := sL _ _ (upd_same (H := H) (a := T) (o := .tup [natV c]))
      have U1 : TupsAt (upd (upd H T (.tup [natV c])) L (.lst [.ref T])) [.ref T] [[c]] := .cons ⟨T, rfl, T1⟩ .nil
      generalize upd (upd H T (.tup [natV c])) L (.lst [.ref T]) = H1 at s1 L1 U1 ⊢
      have dl := (ok c d hd).2.2.1
      have db := (ok c d hd).2.1
      refine ⟨_, rfl, _, rfl, r, us, (c : Int), _, rfl, rfl, SqL.of (s1 _ _ hr0), atI_nat e1, t, _, ((0 : Nat) : Int), _, rfl, rfl, SqT.of (s1 _ _ z1), atI_nat rfl, b, rfl, ⟨_, SqL.of (s1 _ _ z2)⟩, for_list (K := K) (a := b) (xs := d.1.map natV) (fun i σ H' => Same H H' ∧ ∃ (x3 x4 : Option V) (L : Addr) (us' : List V), σ = [some (.ref r), some (natV c), some (.ref L), x3, x4] ∧ H L = none ∧ H' L = some (.lst us') ∧ TupsAt H' us' ([c] :: (d.1.take i).flatMap fun b => (waysF ds n b).map fun w => [c] ++ w))
        ⟨s1, none, none, L, [.ref T], rfl, HL, L1, U1⟩ (fun i σ H' _ h => SqL.of (h.1 _ _ z2)) ?_ ?_⟩
      · rintro i y σ H2 hi ⟨s2, x3, x4, L2, us', rfl, HL2, hL2, hU⟩
        rw [List.getElem?_map] at hi
        obtain ⟨bb, hbb, rfl⟩ := Option.map_eq_some_iff.mp hi
        have bc := db bb (List.mem_of_getElem? hbb)
        refine ⟨_, rfl, _, rfl, _, rfl, r, R, us, ds, bb, rfl, s2 _ _ hr0, hR.keep (KeepX.of s2), ok, h12, by omega, by omega, fun Dw wus H3 s3 hDwn hDw hW => ⟨Dw, rfl, ⟨_, SqL.of hDw⟩, fun D2 hD2 => lc_list (K := K) (a := Dw) (xs := wus) (fun j H' => Same H3 H' ∧ ∃ vs, H' D2 = some (.lst vs) ∧ TupsAt H' vs (((waysF ds n bb).take j).map fun w => [c] ++ w)) ⟨same_new hD2, [], upd_same, .nil⟩ (fun j H' _ z => SqL.of (z.1 _ _ hDw)) ?_ ?_⟩⟩
        · rintro j v H4 hj ⟨s4, vs, hD4, hV⟩
          obtain ⟨wy, hwy⟩ : ∃ wy, (waysF ds n bb)[j]? = some wy := ⟨_, List.getElem?_eq_getElem (by rw [← hW.len]; exact (List.getElem?_eq_some_iff.mp hj).1)⟩
          obtain ⟨tw, etw, htw⟩ := hW.get hwy
          rw [hj] at etw
          obtain rfl := Option.some.inj etw
          refine ⟨rfl, _, rfl, (by show 1 ≤ sizeLine; decide), fun T2 hT2 => ⟨_, rfl, ?_⟩⟩
          have sT2 := same_new (o := .tup [natV c]) hT2
          have wl := (ways_isWay ok n bb (by omega) wy (List.mem_of_getElem? hwy)).1.len ok
          have big : 4194305 ≤ sizeLine := by decide
          refine cat_q (H0 := upd H4 T2 (.tup [natV c])) upd_same ((s4.trans sT2) _ _ htw) (by rw [List.length_map, List.length_singleton]; omega) (Same.refl _) fun t5 H5 s5 ht5 => ?_
          have s45 := sT2.trans s5
          have hD5 := s45 _ _ hD4
          have vl := hV.len
          have small := ways_small ok (n := n) (c := bb) (by omega)
          rw [List.length_map, List.length_take] at vl
          refine ⟨vs, hD5, (by show _ < 2 ^ 24; omega), same_upd (s4.trans s45) hD2, vs ++ [.ref t5], upd_same, ?_⟩
          have kt : TupK H5 (upd H5 D2 (.lst (vs ++ [.ref t5]))) := fun b zs e => upB (fun z => by rw [z, hD5] at e; cases e) e
          rw [List.take_add_one, hwy, Option.toList_some, List.map_append]
          exact ((hV.same s45).mono kt).app (.cons ⟨t5, rfl, kt _ _ ht5⟩ .nil)
        · rintro H4 ⟨s4, vs, hD4, hV⟩
          rw [hW.len, List.take_length] at hV
          have s34 := s3.trans s4
          have hU4 := hU.same s34
          have f1 := flat_small (n := n) (c := c) ok (l := d.1.take i) (by rw [List.length_take]; omega) (fun x hx => by have := db x (List.mem_of_mem_take hx); omega)
          have f2 := ways_small ok (n := n) (c := bb) (by omega)
          have ul := hU.len
          have vl := hV.len
          rw [List.length_cons] at ul
          rw [List.length_map] at vl
          have big : sizeLine = 2 ^ 24 := rfl
          refine ⟨L2, D2, us', vs, rfl, rfl, s34 _ _ hL2, hD4, by omega, fun p5 hp5 => ?_⟩
          have s5 := same_new (o := .lst (us' ++ vs)) hp5
          refine ⟨(s2.trans s34).trans s5, _, _, p5, us' ++ vs, rfl, ?_, upd_same, ?_⟩
          · cases e : H p5 with
            | none => rfl
            | some o => rw [(s2.trans s34) _ _ e] at hp5; cases hp5
          · rw [List.take_add_one, hbb, Option.toList_some, List.flatMap_append, List.flatMap_cons, List.flatMap_nil, List.append_nil, ← List.cons_append]
            exact (hU4.same s5).app (hV.same s5)
      · rintro σ H2 ⟨s2, x3, x4, L2, us', rfl, HL2, hL2, hU⟩
        rw [List.length_map, List.take_length] at hU
        refine ⟨_, rfl, k L2 us' H2 s2 HL2 hL2 ?_⟩
        unfold waysF
        rw [ed]
        exact hU
end
end K83

set_option maxRecDepth 100000
set_option maxHeartbeats 8000000
namespace K83
open PySem PySem.Spec PyProof.Rows L2 Kw
theorem last_atI {l : List Nat} {y : Nat} (h : l.getLast? = some y) : atI (l.map natV) (-1) = some (natV y) := by
  obtain ⟨r, rfl⟩ := List.getLast?_eq_some_iff.mp h
  rw [List.map_append]
  exact atI_last _ _
theorem IsWay.last {ds : List Ent} {ws : List Nat} (h : IsWay ds ws) : ∃ y, ws.getLast? = some y := by
  obtain ⟨c, e, _⟩ := h.1
  cases ws with
  | nil => simp at e
  | cons a l => exact ⟨_, List.getLast?_eq_some_getLast (by simp)⟩
theorem take_filter {α : Type} {p : α → Bool} {l : List α} {i : Nat} {x : α} (h : l[i]? = some x) : (l.take (i + 1)).filter p = (l.take i).filter p ++ (if p x then [x] else []) := by
  rw [List.take_add_one, h, Option.toList_some, List.filter_append, List.filter_cons, List.filter_nil]
def waysTo (ds : List Ent) (n c tg : Nat) : List (List Nat) := (waysF ds n c).filter fun w => decide (w.getLast? = some tg)
theorem eq_nat {m n : Nat} : decide (natV m = natV n) = decide (m = n) := by
  by_cases z : m = n
  · rw [z, decide_eq_true rfl, decide_eq_true rfl]
  · rw [decide_eq_false z, decide_eq_false fun e => z (by have := V.int.inj e; omega)]
section
variable {P : Program} {w : World} {K : PySem.W.Frag} {mg : Str → Option Value} {base : Heap} {f fW : Addr} {fd fdW : FuncData}
def spWaysTo (n : Nat) : Sp := fun vs H Q _ => ∃ (r R : Addr) (us : List V) (ds : List Ent) (c tg : Nat), vs = [.ref r, natV c, natV tg] ∧ H r = some (.lst us) ∧ RwN R H us ds ∧ DsOk ds ∧ ds.length ≤ 12 ∧ c < ds.length ∧ c ≤ n ∧ ∀ D us' H', Same H H' → H D = none → H' D = some (.lst us') → TupsAt H' us' (waysTo ds n c tg) → Q (.ref D) H'
theorem sc_waysTo : FnScope ["_law_rows", "_law_c", "_law_target", "_law_way"] ["_law_rows", "_law_c", "_law_target"] (defScope (top 61)) := ⟨rfl, rfl, rfl, by decide +kernel, rfl, by decide +kernel, by decide +kernel⟩
theorem ok_waysTo (F : FnP K "_law_ways_to" 61 f fd) {n : Nat} (FW : FnP K "_law_ways" 60 fW fdW) (mW : mg "_law_ways" = some (.ref fW)) (GW : FnOk P w K mg base CX0 (n + 1) fW fdW ["_law_rows", "_law_c"] (spWays n)) : FnOk P w K mg base CX0 (n + 2) f fd ["_law_rows", "_law_c", "_law_target"] (spWaysTo n) := by
  have bW : L2.Binds K fdW ["_law_rows", "_law_c"] [] := FW.bindsN fun _ _ _ _ _ _ us hl => match us, hl with | [_, _], _ => rfl
  refine F.ok sc_waysTo (fun vs H Q E h => ?_) (fun cdv A outer s H vs Q E hr h => ?_)
  · obtain ⟨r, R, us, ds, c, tg, rfl, _⟩ := h
    rfl
  · obtain ⟨r, R, us, ds, c, tg, rfl, hr0, hR, ok, h12, hc, cn, k⟩ := h
    refine ⟨_, PSs.nox (pss_one (ps_ret (pe_lc (own := [("_law_way", 3)]) (g := gName 3) (tt := tTest (tOp rEq (tOp (rIxT K) (tVar 3) (tUn (rU fun i => V.int (-i)) (tC (.int 1)))) (tVar 2))) (te := tVar 3) rfl sc_waysTo.nd (pi_list (pe_call GW hr (by rfl) mW FW.kp bW .nil pass0 (pa_cons (pv 0) (pa_cons (pv 1) pa_nil)))) (blkOk_by (N := ["_law_rows", "_law_c", "_law_target", "_law_way"]) (sc := defScope (top 61)) (by decide +kernel))
        (fun _ _ _ _ _ => pg_name (i := 3) sc_waysTo.nd rfl (Or.inl rfl)) (fun _ _ _ _ _ => pts_one (pt_cmpR op_eq (pe_ix (r := rIxT K) ix_tup (pv 3) (pe_un un_neg pe_int) (fun _ _ => rfl)) (pv 2) (nomark _))) (fun _ _ _ _ _ => pv 3)))), ?_⟩
    refine ⟨_, rfl, _, rfl, r, R, us, ds, c, rfl, hr0, hR, ok, h12, hc, cn, fun Dw wus H3 s3 hDwn hDw hW => ⟨Dw, rfl, ⟨_, SqL.of hDw⟩, fun D2 hD2 => lc_list (K := K) (a := Dw) (xs := wus) (fun j H' => Same H3 H' ∧ ∃ vs, H' D2 = some (.lst vs) ∧ TupsAt H' vs (((waysF ds n c).take j).filter fun w => decide (w.getLast? = some tg))) ⟨same_new hD2, [], upd_same, .nil⟩ (fun j H' _ z => SqL.of (z.1 _ _ hDw)) ?_ ?_⟩⟩
    · rintro j v H4 hj ⟨s4, vs, hD4, hV⟩
      obtain ⟨wy, hwy⟩ : ∃ wy, (waysF ds n c)[j]? = some wy := ⟨_, List.getElem?_eq_getElem (by rw [← hW.len]; exact (List.getElem?_eq_some_iff.mp hj).1)⟩
      obtain ⟨tw, etw, htw⟩ := hW.get hwy
      rw [hj] at etw
      obtain rfl := Option.some.inj etw
      obtain ⟨y, hy⟩ := (ways_isWay ok n c hc wy (List.mem_of_getElem? hwy)).1.last
      refine ⟨rfl, _, rfl, _, rfl, tw, _, _, _, rfl, rfl, SqT.of (s4 _ _ htw), last_atI hy, _, rfl, rfl, _, rfl, ?_⟩
      rw [eq_nat, take_filter hwy, hy]
      by_cases z : y = tg
      · subst z
        rw [decide_eq_true rfl]
        have vl : vs.length ≤ 4194304 := by
          rw [hV.len]
          refine Nat.le_trans (List.length_filter_le _ _) ?_
          rw [List.length_take]
          have := ways_small ok (n := n) (c := c) (by omega)
          omega
        refine iteT' rfl ⟨_, rfl, vs, hD4, (by show _ < 2 ^ 24; omega), same_upd s4 hD2, vs ++ [.ref tw], upd_same, ?_⟩
        have kt : TupK H4 (upd H4 D2 (.lst (vs ++ [.ref tw]))) := fun b zs e => upB (fun z => by rw [z, hD4] at e; cases e) e
        rw [decide_eq_true rfl, if_pos rfl]
        exact (hV.mono kt).app (.cons ⟨tw, rfl, kt _ _ (s4 _ _ htw)⟩ .nil)
      · have z2 : ¬ some y = some tg := fun e => z (Option.some.inj e)
        rw [decide_eq_false z]
        refine iteF' rfl ⟨s4, vs, hD4, ?_⟩
        rw [decide_eq_false z2, if_neg (by simp), List.append_nil]
        exact hV
    · rintro H4 ⟨s4, vs, hD4, hV⟩
      rw [hW.len, List.take_length] at hV
      have HD : H D2 = none := by
        cases e : H D2 with
        | none => rfl
        | some o => rw [s3 _ _ e] at hD2; cases hD2
      exact k D2 vs H4 (s3.trans s4) HD hD4 hV
end
end K83

set_option maxRecDepth 100000
set_option maxHeartbeats 8000000
namespace K83
open PySem PySem.Spec PyProof.Rows L2 Kw
section
variable {P : Program} {w : World} {K : PySem.W.Frag} {mg : Str → Option Value} {base : Heap} {f : Addr} {fd : FuncData}
def spLCut : Sp := fun vs H Q _ => ∃ (S t : Addr) (us : List V) (ls : List (Nat × Nat)) (ws : List Nat), vs = [.ref S, .ref t] ∧ H S = some (.lst us) ∧ PairsAt H us ls ∧ H t = some (.tup (ws.map natV)) ∧ 1 ≤ ws.length ∧ ws.length ≤ 1000 ∧ ∀ t' H', Same H H' → H' t' = some (.tup ((cutW ls ws).map natV)) → Q (.ref t') H'
theorem sc_lcut : FnScope ["_law_shared", "_law_way", "_law_start"] ["_law_shared", "_law_way"] (defScope (top 62)) := ⟨rfl, rfl, rfl, by decide +kernel, rfl, by decide +kernel, by decide +kernel⟩
theorem ok_lcut (F : FnP K "_law_cut" 62 f fd) (B : Fr mg) : FnOk P w K mg base CX0 1 f fd ["_law_shared", "_law_way"] spLCut := by
  refine F.ok sc_lcut (fun vs H Q E h => ?_) (fun cdv A outer s H vs Q E hr h => ?_)
  · obtain ⟨S, t, us, ls, ws, rfl, _⟩ := h
    rfl
  · obtain ⟨S, t, us, ls, ws, rfl, hS, hP, ht, w1, w1000, k⟩ := h
    refine ⟨_, PSs.nox (pss_cons (ps_set (i := 2) sc_lcut.nd rfl (Or.inl rfl) (pe_op op_sub (pe_callB call_len_seq (by rfl) B.len PySem.boot_len (pa_cons (pv 1) pa_nil)) pe_int))
      (pss_cons (ps_while PassesOwn.never (PW.pt (pw_and (pt_cmpR op_gt (pv 2) pe_int (nomark _)) (pw_and1 (pt_cmpR (r := rNotInD K) (op_notInD (room65 hr)) (pe_tup (pa_cons (pe_ix (r := rIxT K) ix_tup (pv 1) (pe_op op_sub (pv 2) pe_int) (fun _ _ => rfl)) (pa_cons (pe_ix (r := rIxT K) ix_tup (pv 1) (pv 2) (fun _ _ => rfl)) pa_nil))) (pv 0) (by rfl)))))
        (pss_one (ps_set (i := 2) sc_lcut.nd rfl (Or.inl rfl) (pe_op op_sub (pv 2) pe_int))))
      (pss_one (ps_ret (pe_slice sl_tupA (pv 1) (po_some (pv 2)) po_none))))), ?_⟩
    refine ⟨_, rfl, t, _, rfl, .inr (SqT.of ht), _, _, rfl, rfl, ?_⟩
    have e1 : V.int (((ws.map natV).length : Int) - 1) = natV (ws.length - 1) := by
      rw [List.length_map]
      show V.int _ = V.int _
      congr 1
      omega
    show gName 2 (V.int (((ws.map natV).length : Int) - 1)) _ _ _
    rw [e1]
    have fin : ∀ (m : Nat) (H1 : Hp), m < ws.length → Same H H1 → begN ls ws m = begN ls ws (ws.length - 1) → begN ls ws m = m → rSlA K (.ref t) (some (m : Int)) none H1 Q := fun m H1 ml s1 eb em => by
      refine cut_q (g := m) (by rw [List.length_map]; omega) (s1 _ _ ht) fun t' H3 s3 ht3 => k t' H3 (s1.trans s3) ?_
      have ed : cutW ls ws = ws.drop m := by
        unfold cutW
        rw [← eb, em]
      rw [ed, List.map_drop]
      exact ht3
    refine ⟨fun m σ H' => σ = [some (.ref S), some (.ref t), some (natV m)] ∧ m < ws.length ∧ Same H H' ∧ begN ls ws m = begN ls ws (ws.length - 1), ⟨_, rfl, by omega, Same.refl _, rfl⟩, ?_⟩
    rintro m σ H1 ⟨rfl, ml, s1, eb⟩
    cases m with
    | zero =>
      refine ⟨_, rfl, _, _, rfl, rfl, _, rfl, iteF' rfl (iteF' rfl ?_)⟩
      exact ⟨_, rfl, _, rfl, _, rfl, fin 0 H1 ml s1 eb rfl⟩
    | succ m =>
      have pos : (0 : Int) < ((m + 1 : Nat) : Int) := by omega
      refine ⟨_, rfl, _, _, rfl, rfl, _, rfl, ?_⟩
      rw [decide_eq_true pos]
      refine iteT' rfl ?_
      obtain ⟨c, hc⟩ : ∃ c, ws[m]? = some c := ⟨_, List.getElem?_eq_getElem (by omega)⟩
      obtain ⟨b, hb⟩ : ∃ b, ws[m + 1]? = some b := ⟨_, List.getElem?_eq_getElem (by omega)⟩
      have gb : (ws.map natV)[m + 1]? = some (natV b) := by rw [List.getElem?_map, hb]; rfl
      have gc : (ws.map natV)[m]? = some (natV c) := by rw [List.getElem?_map, hc]; rfl
      have em : begN ls ws (m + 1) = if (c, b) ∈ ls then m + 1 else begN ls ws m := by
        rw [begN, List.getD_eq_getElem?_getD, List.getD_eq_getElem?_getD, hc, hb]
        rfl
      have t1 := s1 _ _ ht
      refine ⟨_, rfl, _, rfl, _, _, rfl, rfl, ?_⟩
      show rIxT K (.ref t) (.int (((m + 1 : Nat) : Int) - 1)) H1 _
      rw [show (((m + 1 : Nat) : Int) - 1) = (m : Int) by omega]
      refine ⟨t, _, (m : Int), _, rfl, rfl, SqT.of t1, atI_nat gc, _, rfl, _, rfl, t, _, ((m + 1 : Nat) : Int), _, rfl, rfl, SqT.of t1, atI_nat gb, (by show 2 ≤ sizeLine; decide), fun T hT => ?_⟩
      have sT := same_new (o := .tup [natV c, natV b]) hT
      refine ⟨_, rfl, dPair (c, b), ls.map dPair, .tup (SqT.of upd_same) (.cons (.int _) (.cons (.int _) .nil)), .lst (SqL.of ((s1.trans sT) _ _ hS)) (dp_pairs (hP.same (s1.trans sT))), (lay_pair _).shaped (by decide), (LayD.lst (n := 1) fun d hd => by obtain ⟨x, _, rfl⟩ := List.mem_map.mp hd; exact lay_pair x).shaped (by decide), ?_⟩
      rw [any_pair]
      refine ⟨_, rfl, ?_⟩
      by_cases z : (c, b) ∈ ls
      · rw [decide_eq_true z]
        rw [if_pos z] at em
        exact iteF' rfl ⟨_, rfl, _, rfl, _, rfl, fin (m + 1) _ ml (s1.trans sT) eb em⟩
      · rw [decide_eq_false z]
        rw [if_neg z] at em
        refine iteT' rfl ⟨fun σ H' => σ = [some (.ref S), some (.ref t), some (natV m)] ∧ Same H H', fun σ' H' ⟨e1, e2⟩ => ⟨m, Nat.lt_succ_self m, e1, by omega, e2, by rw [← em]; exact eb⟩, ?_⟩
        refine ⟨_, rfl, _, _, rfl, rfl, ?_⟩
        show gName 2 (V.int (((m + 1 : Nat) : Int) - 1)) _ _ _
        rw [show (((m + 1 : Nat) : Int) - 1) = (m : Int) by omega]
        exact ⟨rfl, s1.trans sT⟩
end
end K83

set_option maxRecDepth 100000
set_option maxHeartbeats 8000000
namespace K83
open PySem PySem.Spec PyProof.Rows L2 Kw
section
variable {P : Program} {w : World} {K : PySem.W.Frag} {mg : Str → Option Value} {base : Heap} {f fS fI : Addr} {fd fdS fdI : FuncData}
def spLInt : Sp := fun vs H Q _ => ∃ (x : V) (t : String), vs = [x] ∧ Ty0 H x t ∧ Q (.bl (wholeB .non .non x)) H
def spFault : Sp := fun vs H Q _ => ∃ (r R : Addr) (us : List V) (ds : List Ent) (x : V), vs = [.ref r, x] ∧ H r = some (.lst us) ∧ RwN R H us ds ∧ DsOk ds ∧ ds.length ≤ 12 ∧
  ((∃ ws, GoodWay H ds x ws ∧ ∀ H', Same H H' → Q .non H') ∨ (∃ i : Nat, WayIs H ds x (some i) ∧ ∀ H', Same H H' → Q (natV i) H'))
end
end K83

set_option maxRecDepth 100000
set_option maxHeartbeats 4000000
namespace Kw
open PySem PySem.Spec PyProof.Rows L2
/-! ### a law's def that prints: its promise at the one place from which it is called, where no repr is under way -/
section
variable {P : Program} {w : World} {K : PySem.W.Frag} {mg : Str → Option Value} {base : Heap} {x qual : Str} {params : Arguments} {body : List Stmt} {scope : Scope} {dvs : List V} {kws : List (Str × V)} {f : Addr} {fd : FuncData}
/-- the def run at one place -/
theorem def_at {CX : CXT} {N ps : List Str} {k : Nat} {A : Around} {out : List Env} {s : Shared} {H : Hp} {args : Args} {us : List Value} {vs : List V} {Q : VK} {E : XK}
    (D : FunD K x qual params body scope dvs kws f fd) (S : FnScope N ps scope) (hl : vs.length = ps.length) (room : Room (k + 1) A) (env0 : Env0 P w K mg base A out s H) (bind : BindsTo s fd args (ps.zip us)) (rel : Vals vs us)
    (hb : ∀ cdv : Value, ∃ t, PSs (cxOf CX P w K mg base N qual scope f cdv A out s H E) body t ∧ t { nx := fun _ H' => Q .non H', rt := Q } (start N vs) H) :
    codeAny (model P w) A (.call (.ref f) args) (CR CX out P w H s Q E) s := by
  obtain ⟨oc, od, dV, kV, doc, pm, an, cdv, ct, osl, rfl, at_f, code, _, _⟩ := D.ex
  have inK : K.In s.heap := env0.mod.kin.keeps fun b o z => (env0.bs b o z).1
  refine codeAny_call_function room.depth (inK _ _ at_f) rfl S.co S.gen rfl (PySem.W.codeRec_of inK code)
    (bind _ _ _ _ (wpAny_newFunctionEnv_cells S.kind (fun y hy => ?_) fun env he s1 z => ?_))
  · rcases S.par y.1 (List.of_mem_zip hy).1 with a | a
    · exact .inl a
    · exact .inr ⟨a, PySem.W.cellsFrom_some _ _ _ (.inl a)⟩
  · subst he
    have nolim : s.heap.NoLimit := env0.mod.nolimit.keeps fun b o z => (env0.bs b o z).1
    refine ⟨nolim.keeps z.toInCall.keep, codeAny_func ?_⟩
    obtain ⟨t, ht, ht2⟩ := hb cdv
    have I := inv_start (CX := CX) (E := E) S room.hd env0 hl rel z
    have ran := ht.run [] s1 (start N vs) H _ I ht2
    refine wpAny_mono ran (fun fl s' got => ?_) fun e s' got => got
    cases fl with
    | ret u =>
      obtain ⟨v, _, H', J, rv, qv⟩ := got
      exact ⟨v, H', J.os, J.bare, J.base, J.hok, rv, qv⟩
    | next =>
      obtain ⟨_, H', J, qv⟩ := got
      exact ⟨.non, H', J.os, J.bare, J.base, J.hok, rfl, qv⟩
    | brk => obtain ⟨_, _, _, bad⟩ := got; exact bad.elim
    | cont => obtain ⟨_, _, _, bad⟩ := got; exact bad.elim
end
section
variable {P : Program} {w : World} {K : PySem.W.Frag} {mg : Str → Option Value}
/-- the abstract heap ahead of a law: its script, where the module doesn't have it -/
def onlyScript (K : PySem.W.Frag) (a : Addr) (o : Obj) (u : HO) : Hp := fun b => if b = a ∧ K.lookup a = none then some (.frz o u) else none
theorem onlyScript_some {a b : Addr} {o : Obj} {u v : HO} (z : onlyScript K a o u b = some v) : b = a ∧ K.lookup a = none ∧ v = .frz o u := by
  unfold onlyScript at z
  by_cases c : b = a ∧ K.lookup a = none
  · rw [if_pos c] at z
    exact ⟨c.1, c.2, (Option.some.inj z).symm⟩
  · rw [if_neg c] at z
    cases z
theorem onlyScript_none {a b : Addr} {o : Obj} {u : HO} (z : b ≠ a) : onlyScript K a o u b = none := if_neg fun c => z c.1
/-- the law's call: F says what comes of it, from the heap that it finds -/
theorem call_here {mb : Str → Option Value} {CX : CXT} {fa a : Addr} {s : Shared} {vs : List Value} {ns : List Int}
    (inK : K.In s.heap) (nsG : s.heap.Ns mainGlobals mg) (nsB : s.heap.Ns builtinsNs mb) (boot : ∀ x : Str, x ≠ "__name__" → mb x = bootBuiltins x) (nolim : s.heap.NoLimit) (nogen : s.gens = #[])
    (obj : s.heap.get? a = some { cls := .type "list", data := .seq vs.toArray }) (nums : IntsAre vs ns) (size : ns.length ≤ sizeLine)
    (noErr : ∀ H e s', CX [] H s (fun _ _ _ => False) e s' → False)
    (F : ∀ (base : Heap) (H : Hp), K.In base → base.Ns mainGlobals mg → Env0 P w K mg base callerA [] s H → SqL K H a (ns.map V.int) → codeAny (model P w) callerA (.call (.ref fa) ⟨[.ref a], []⟩) (CR CX [] P w H s (fun v _ => v = .bl true) (fun _ _ _ => False)) s) :
    codeAny (model P w) callerA (.call (.ref fa) ⟨[.ref a], []⟩) (fun r s' => r = .ok (.ret (.bool true)) ∧ OldK s.heap s'.heap ∧ s'.os = s.os ∧ AllBare s'.gens) s := by
  have rel := vals_ints nums
  have lenV := nums.length
  generalize hO : ({ cls := .type "list", data := .seq vs.toArray } : Obj) = O at obj
  have Oc : O.cls = .type "list" := by rw [← hO]
  have Od : O.data = .seq vs.toArray 0 := by rw [← hO]
  have Odd : O.dict = none := by rw [← hO]
  generalize hH : onlyScript K a O (.lst (ns.map V.int)) = H
  have Hs : ∀ {b : Addr} {v : HO}, H b = some v → b = a ∧ K.lookup a = none ∧ v = .frz O (.lst (ns.map V.int)) := fun z => onlyScript_some (by rw [hH]; exact z)
  have hid : ∀ {b : Addr} {o : Obj}, s.heap.get? b = some o → H b = none → (hidT s.heap H).get? b = some o := fun e n => hidT_get e n
  have look : K.In (hidT s.heap H) := fun b o e => hid (inK b o e) (by
    cases z : H b with
    | none => rfl
    | some v =>
      obtain ⟨r1, r2, _⟩ := Hs z
      rw [r1, r2] at e
      cases e)
  have spaces : ∀ {b : Addr} {m : Str → Option Value}, s.heap.Ns b m → (hidT s.heap H).Ns b m := fun {b m} z => by
    obtain ⟨o, es, ep, e, d, r⟩ := z
    refine ⟨o, es, ep, hid e ?_, d, r⟩
    cases z : H b with
    | none => rfl
    | some v =>
      rw [(Hs z).1, obj] at e
      rw [← Option.some.inj e, Od] at d
      cases d
  obtain ⟨ml, l1, l2⟩ := nolim
  have held : HOk P w H s.heap := fun b v z => by
    obtain ⟨r1, _, r3⟩ := Hs z
    rw [r1, r3]
    exact ⟨obj, by rw [List.length_map]; exact size, vs, 0, rel, by rw [obj, ← hO]⟩
  have env0 : Env0 P w K mg (hidT s.heap H) callerA [] s H := ⟨rfl, ⟨look, spaces nsG, ⟨mb, spaces nsB, boot⟩, ⟨ml, spaces l1, l2⟩⟩, fun b o e => of_hidT e, Nat.le_of_eq (hidT_size _ _), trivial, fun b hb => absurd (show b ∈ ([] : List Addr) from hb) List.not_mem_nil, held, .of_eq nogen⟩
  have script : SqL K H a (ns.map V.int) := by
    cases kl : K.lookup a with
    | none => exact .inl (.inr ⟨O, by rw [← hH]; exact if_pos ⟨rfl, kl⟩⟩)
    | some o =>
      have e := inK a o kl
      rw [obj] at e
      obtain rfl := Option.some.inj e
      exact .inr ⟨O, vs.toArray, 0, kl, Oc, Odd, Od, by rw [List.size_toArray, lenV]; exact size, by simpa using rel⟩
  refine codeAny_mono (F _ H look (spaces nsG) env0 script) fun r s' got => ?_
  rcases r with er | fl
  · exact (noErr H er s' got).elim
  cases fl with
  | ret u =>
    obtain ⟨v, H', os, bare, un, held', rv, qv⟩ := got
    obtain rfl : v = .bl true := qv
    obtain rfl : u = Value.bool true := rv
    refine ⟨rfl, OldK.of_keep fun b o e => ?_, os, bare⟩
    cases z : H b with
    | none => exact un.keep b o e z (fun y => absurd (show b ∈ ([] : List Addr) from y) List.not_mem_nil) (by simp)
    | some v =>
      obtain ⟨r1, _, r3⟩ := Hs z
      rw [r3] at z
      obtain ⟨e2, _⟩ := held' b _ (un.frzs b O _ z)
      rw [r1] at e e2
      rw [r1]
      rw [obj] at e
      rw [← Option.some.inj e]
      exact e2
  | next => exact got.elim
  | brk => exact got.elim
  | cont => exact got.elim
end
section
variable {X : Cx}
/-- repr of data -/
def rRepr (K : PySem.W.Frag) : List V → Hp → VK → Prop := fun xs H Q => ∃ (a : Addr) (d : PyData), xs = [.ref a] ∧ Dp K H (.ref a) d ∧ d.showable = true ∧ d.hasDict = false ∧ d.depth ≤ 60 ∧ d.shown.length ≤ sizeLine ∧ Q (.str d.shown) H
theorem call_reprD (quiet : X.A.guards = some []) (hu : X.A.units + 65 < cLine) : CallR X (.builtin "repr") (rRepr X.K) := by
  intro pins s σ H xs us Q I r h
  obtain ⟨a, d, rfl, hd, hs, hn, h60, hz, q⟩ := h
  obtain ⟨u, rfl, ru⟩ := vals1 r
  obtain ⟨as, rd⟩ := Dp.reads I d (.ref a) u hd ru
  obtain rfl : u = Value.ref a := ru
  exact repr_of_reads' rd hs (fun e => by rw [hn] at e; cases e) quiet (by omega) (fun _ _ e => e) (fun h' t tk kept => ⟨.str d.shown, H, I.kept (t' := tk) kept, ⟨t, rfl⟩, q⟩) hz
end
end Kw
namespace Kw
open PySem PySem.Spec PyProof.Rows L2
/-! ### small data: its text fits a line -/
structure Sm (n b : Nat) (d : PyData) : Prop where
  lay : d.canLay0 = true
  dep : d.depth ≤ n
  wt : d.weight ≤ b
  sh : d.intsShort 13 = true
  sho : d.showable = true
theorem Sm.le {n m b c : Nat} {d : PyData} (h : Sm n b d) (k : n ≤ m) (l : b ≤ c) : Sm m c d := ⟨h.lay, Nat.le_trans h.dep k, Nat.le_trans h.wt l, h.sh, h.sho⟩
theorem Sm.fits {n b : Nat} {d : PyData} (h : Sm n b d) (hn : n ≤ 60) (hb : b ≤ 10000) : d.shown.length ≤ sizeLine := by
  have h2 := PyData.shown_le 13 (by decide) d (PyData.leavesShort_of_canLay0 13 d h.lay h.sh)
  have := h.wt
  have e : sizeLine = 2 ^ 24 := by decide
  rw [e]
  omega
theorem Sm.nodict {n b : Nat} {d : PyData} (h : Sm n b d) : d.hasDict = false := PyData.hasDict_of_canLay d h.lay
theorem sm_ints : ∀ m : Nat, m < 16 → (PyData.shown (.int (m : Int))).length ≤ 13 ∧ PyData.weight (.int (m : Int)) ≤ 4 ∧ PyData.showable (.int (m : Int)) = true := by decide +kernel
theorem Sm.nat {m : Nat} (h : m < 16) : Sm 0 4 (.int (m : Int)) := by
  obtain ⟨h1, h2, h3⟩ := sm_ints m h
  exact ⟨by simp [PyData.canLay0], by simp [PyData.depth], h2, by simpa [PyData.intsShort] using h1, h3⟩
theorem Sm.non : Sm 0 0 .none := ⟨rfl, by simp [PyData.depth], by simp [PyData.weight], rfl, rfl⟩
theorem sm_all {n b : Nat} : ∀ {ds : List PyData}, (∀ d ∈ ds, Sm n b d) → PyData.canLayAll0 ds = true ∧ PyData.depthAll ds ≤ n ∧ PyData.weightAll ds ≤ ds.length * (b + 1) ∧ PyData.intsShortAll 13 ds = true ∧ PyData.showableAll ds = true
  | [], _ => ⟨rfl, Nat.zero_le _, Nat.zero_le _, rfl, rfl⟩
  | x :: r, h => by
    obtain ⟨h1, h2, h3, h4, h5⟩ := sm_all (ds := r) fun d hd => h d (List.mem_cons_of_mem _ hd)
    have g := h x List.mem_cons_self
    refine ⟨by simp [PyData.canLayAll0, g.lay, h1], by simp only [PyData.depthAll]; have := g.dep; omega, ?_, by simp [PyData.intsShortAll, g.sh, h4], by simp [PyData.showableAll, g.sho, h5]⟩
    simp only [PyData.weightAll, List.length_cons, Nat.succ_mul]
    have := g.wt
    omega
theorem Sm.tuple {n b l : Nat} {ds : List PyData} (h : ∀ d ∈ ds, Sm n b d) (hl : ds.length ≤ l) : Sm (n + 1) (l * (b + 1)) (.tuple ds) := by
  obtain ⟨h1, h2, h3, h4, h5⟩ := sm_all h
  have := Nat.mul_le_mul_right (b + 1) hl
  exact ⟨by simpa [PyData.canLay0] using h1, by simp only [PyData.depth]; omega, by simp only [PyData.weight]; omega, by simpa [PyData.intsShort] using h4, by simpa [PyData.showable] using h5⟩
section
variable {X : Cx}
/-- repr of small data of any kind -/
def rReprA (K : PySem.W.Frag) : List V → Hp → VK → Prop := fun xs H Q => ∃ (x : V) (d : PyData) (n b : Nat), xs = [x] ∧ Dp K H x d ∧ Sm n b d ∧ n ≤ 60 ∧ b ≤ 10000 ∧ Q (.str d.shown) H
theorem call_reprA (quiet : X.A.guards = some []) (hu : X.A.units + 65 < cLine) : CallR X (.builtin "repr") (rReprA X.K) := by
  intro pins s σ H xs us Q I r h
  obtain ⟨x, d, n, b, rfl, hd, sm, hn, hb, q⟩ := h
  obtain ⟨u, rfl, ru⟩ := vals1 r
  obtain ⟨as, rd⟩ := Dp.reads I d x u hd ru
  have hdep := sm.dep
  cases rd with
  | none => exact PySem.P.repr_of_none ⟨.str _, H, I.tok _, ⟨_, rfl⟩, q⟩
  | bool c => exact PySem.P.repr_of_bool ⟨.str _, H, I.tok _, ⟨_, rfl⟩, q⟩
  | int i t =>
    have hs := sm.sho
    have hs : i.natAbs.log2 < 1920 := of_decide_eq_true hs
    exact PySem.P.repr_of_int hs ⟨.str _, H, I.tok _, ⟨_, rfl⟩, q⟩
  | str z t => exact PySem.P.repr_of_str ⟨.str _, H, I.tok _, ⟨_, rfl⟩, q⟩ (sm.fits hn hb)
  | list h1 h2 h3 h4 => exact repr_of_reads' (.list h1 h2 h3 h4) sm.sho (fun e => by rw [sm.nodict] at e; cases e) quiet (by omega) (fun _ _ e => e) (fun h' t tk kept => ⟨.str _, H, I.kept (t' := tk) kept, ⟨t, rfl⟩, q⟩) (sm.fits hn hb)
  | tuple h1 h2 h3 h4 => exact repr_of_reads' (.tuple h1 h2 h3 h4) sm.sho (fun e => by rw [sm.nodict] at e; cases e) quiet (by omega) (fun _ _ e => e) (fun h' t tk kept => ⟨.str _, H, I.kept (t' := tk) kept, ⟨t, rfl⟩, q⟩) (sm.fits hn hb)
  | dict h1 h2 h3 h4 h5 =>
    have := sm.lay
    simp [PyData.canLay0] at this
end
end Kw

set_option maxRecDepth 100000
set_option maxHeartbeats 4000000
/-! sorted by a key whose answers may hold lists that stood before the call (len(xs), xs): an arrangement of the items -/
namespace Kw
open PySem PySem.W PySem.Calls PyProof.Rows
section
variable {prog : Program} {w : World} {A : Around} {E : Value → Shared → Prop}
/-- what a call for a key does: it keeps all, and answers data whose lists stood at h₁ -/
def KeyL (h₁ : Heap) (k : PyData) (s : Shared) (v : Value) (s2 : Shared) : Prop :=
  ∃ (g : Heap) (tk : Nat) (as : List Addr), s2 = { s with heap := g, toks := tk } ∧ (∀ b o, s.heap.get? b = some o → g.get? b = some o) ∧ Reads g v k as ∧ ∀ b ∈ as, ∃ o, h₁.get? b = some o
/-- the keys collected so far -/
def KeysL (h₁ g : Heap) (vs : List Value) (ks : List PyData) : Prop := EachIs (fun v k => ∃ as, Reads g v k as ∧ alike k k = true ∧ ∀ b ∈ as, ∃ o, h₁.get? b = some o) vs ks
theorem keys_run {s : Shared} {a S : Addr} {f : Value} {vs : List Value} {kz : List PyData} {e1 : Nat} {h₁ : Heap} {P : PySem.Fin → Shared → Prop} (kp : KeepsBut a h₁ s.heap) (fresh : h₁.get? S = none) (atS : s.heap.get? S = some (seqObj "list" #[] 0))
    (ata : s.heap.get? a = some (seqObj "list" #[] e1)) (ne : S ≠ a) (len : kz.length = vs.length) (fits : vs.length ≤ sizeLine) (al : AllAlike kz) (so : Sortable kz) (room : ∀ d, d ∈ kz → A.units + d.depth < cLine)
    (turn : ∀ (i : Nat) (v : Value) (k : PyData), vs[i]? = some v → kz[i]? = some k → ∀ (g : Heap) (tk : Nat), KeepsBut a h₁ g → wpAny (model prog w) A (call f [v]) (KeyL h₁ k { s with heap := g, toks := tk }) (fun _ _ => False) { s with heap := g, toks := tk })
    (fin : ∀ g tk out c, KeepsBut a h₁ g → g.get? a = some (seqObj "list" (List.toArray out) c) → KeyedOut false kz vs out → P (.done (.ret .none)) { s with heap := g, toks := tk }) :
    wpAny (model prog w) A (ksk_rest a f false vs.toArray e1 (.ref S)) P E s := by
  let J : Nat → Shared → Prop := fun i s' => ∃ g tk kA e, s' = { s with heap := g, toks := tk } ∧ KeepsBut a h₁ g ∧ g.get? S = some (seqObj "list" kA e) ∧ g.get? a = some (seqObj "list" #[] e1) ∧ KeysL h₁ g kA.toList (kz.take i)
  unfold ksk_rest
  refine wpAny_bind (wpAny_rule ?_)
  first
    | rw [List.forIn_toArray]
    | (rw [← Array.forIn_toList]; simp only [List.toList_toArray])
    | rw [← Array.forIn_toList]
  refine wpAny_bind (ksk_fold J vs 0 s ⟨s.heap, s.toks, #[], 0, rfl, kp, atS, ata, by rw [List.take_zero]; exact EachIs.nil⟩ (fun j x s' hx z => ?_) fun s' z => ?_)
  · rw [Nat.zero_add] at z ⊢
    obtain ⟨g, tk, kA, e, rfl, kpg, gS, ga, ks⟩ := z
    have jl : j < vs.length := (List.getElem?_eq_some_iff.mp hx).1
    obtain ⟨k, hk⟩ : ∃ k, kz[j]? = some k := ⟨_, List.getElem?_eq_getElem (by omega)⟩
    have kk := al k (List.mem_of_getElem? hk) k (List.mem_of_getElem? hk)
    have sz : kA.size ≤ vs.length := by
      have := EachIs.length ks
      rw [Array.length_toList, List.length_take] at this
      omega
    refine wpAny_bind (wpAny_attempt (wpAny_mono (turn j x k hx hk g tk kpg) (fun v s'' got => ?_) fun _ _ z => z.elim))
    obtain ⟨g2, tk2, as, rfl, hg, hr, old⟩ := got
    have gS2 := hg _ _ gS
    have put := Heap.SameBut.update g2 S (Obj.mapSeq (·.push v))
    obtain ⟨c2, at2⟩ : ∃ c2, (g2.update S (Obj.mapSeq (·.push v))).get? S = some (seqObj "list" (kA.push v) c2) := ⟨_, get?_update_seq gS2 (·.push v)⟩
    have stays : ∀ {u : Value} {d : PyData}, (∃ as, Reads g2 u d as ∧ alike d d = true ∧ ∀ b ∈ as, ∃ o, h₁.get? b = some o) → ∃ as, Reads (g2.update S (Obj.mapSeq (·.push v))) u d as ∧ alike d d = true ∧ ∀ b ∈ as, ∃ o, h₁.get? b = some o := by
      rintro u d ⟨bs, r, dd, o⟩
      refine ⟨bs, Reads.keepBut (a := S) (fun b u hb z => (put.2 b hb).trans z) (fun u z => by rw [gS2] at z; rw [← Option.some.inj z]) d u bs dd r (fun z => ?_), dd, o⟩
      obtain ⟨u, hu⟩ := o S z
      rw [fresh] at hu
      cases hu
    refine wpAny_bind (listUpdate_at gS2 rfl ?_ (Nat.le_trans sz fits) (by rw [Array.size_push]; omega))
    refine wpAny_pure ⟨rfl, _, _, kA.push v, c2, rfl, (kpg.trans_all hg).same put (.inr fresh), at2, (put.2 a (Ne.symm ne)).trans (hg _ _ ga), ?_⟩
    have e1 : kz.take (j + 1) = kz.take j ++ [k] := by
      rw [List.take_add_one, hk]
      rfl
    have e2 : (kA.push v).toList = kA.toList ++ [v] := by simp
    show KeysL h₁ _ (kA.push v).toList (kz.take (j + 1))
    rw [e1, e2]
    exact each_snoc (stays ⟨as, hr, kk, old⟩) (EachIs.mono (fun u d ⟨bs, r, z⟩ => stays ⟨bs, PyProof.Rows.Reads.keeps hg r, z⟩) ks)
  · rw [Nat.zero_add] at z
    obtain ⟨g, tk, kA, e, rfl, kpg, gS, ga, ks⟩ := z
    have ks2 : EachIs (fun v k => ∃ as, Reads g v k as) kA.toList kz := by
      have e3 : kz.take vs.length = kz := List.take_of_length_le (by omega)
      unfold KeysL at ks
      rw [e3] at ks
      exact EachIs.mono (fun _ _ ⟨bs, r, _⟩ => ⟨bs, r⟩) ks
    have sz : kA.size = vs.length := by
      have := EachIs.length ks2
      rw [Array.length_toList] at this
      omega
    refine wpAny_bind (listItems_at gS rfl ?_)
    exact keyH_end (κ := dataKind g kz) (h₁ := h₁) kpg fresh gS ga ne (SortsAt.data (s := { s with heap := g, toks := tk }) ks2 al so room) sz fits fun g3 tk3 c k3 n3 => fin g3 tk3 _ c k3 n3 ⟨g, kA.toList, al, rfl, ks2⟩
/-- sorted(xs, key=f): the items, arranged; all that stood stays -/
theorem sorted_keyL {s : Shared} {l : Addr} {f : Value} {vs : List Value} {kz : List PyData} {Q : Value → Shared → Prop} (hl : s.heap.IsList l vs.toArray) (len : kz.length = vs.length) (fits : vs.length ≤ sizeLine) (al : AllAlike kz) (so : Sortable kz)
    (room : ∀ d, d ∈ kz → A.units + 2 + d.depth < cLine) (okS : argsOk "sorted" ⟨[.ref l], [(Str.ofString "key", f)]⟩) (okL : ∀ x, argsOk "list.sort" ⟨[.ref x], [(Str.ofString "key", f)]⟩) (tree : ∀ x, Builtin.«list.sort» ⟨[.ref x], [(Str.ofString "key", f)]⟩ = ksk_tree x f false)
    (turn : ∀ (i : Nat) (v : Value) (k : PyData), vs[i]? = some v → kz[i]? = some k → ∀ (g : Heap) (tk : Nat), (∀ b o, s.heap.get? b = some o → g.get? b = some o) →
      wpAny (model prog w) A.in1.in1 (call f [v]) (KeyL s.heap k { s with heap := g, toks := tk }) (fun _ _ => False) { s with heap := g, toks := tk })
    (fin : ∀ out c g tk, (∀ b o, s.heap.get? b = some o → g.get? b = some o) → g.get? (s.heap.objs.size + 1) = some (seqObj "list" (List.toArray out) c) → KeyedOut false kz vs out → Q (.ref (s.heap.objs.size + 1)) { s with heap := g, toks := tk }) :
    wpAny (model prog w) A (call (.builtin "sorted") [.ref l] [(Str.ofString "key", f)]) Q E s := by
  have up : ∀ {g : Heap}, KeepsBut (s.heap.objs.size + 1) (copyHeap s.heap vs) g → ∀ b o, s.heap.get? b = some o → g.get? b = some o := fun {g} k b o z => k b o (by have := Heap.lt_size z; exact Nat.ne_of_lt (Nat.lt_succ_of_lt this)) (copyHeap_old z)
  refine sorted_of_sort hl fits okS okL fun E' => ?_
  rw [tree]
  have at0 := copyHeap_at s.heap vs
  generalize hC : copyHeap s.heap vs = C at at0 up ⊢
  have inC := Heap.lt_size at0
  obtain ⟨e1, at1⟩ : ∃ e1, (C.update (s.heap.objs.size + 1) (Obj.mapSeq fun _ => (#[] : Array Value))).get? (s.heap.objs.size + 1) = some (seqObj "list" #[] e1) := ⟨_, get?_update_seq at0 fun _ => #[]⟩
  have size2 : ((C.update (s.heap.objs.size + 1) (Obj.mapSeq fun _ => (#[] : Array Value))).push (seqObj "tuple" vs.toArray 0)).objs.size = C.objs.size + 1 := by rw [size_push', Heap.size_update]
  unfold ksk_tree
  refine wpAny_bind (listItems_at at0 rfl ?_)
  refine wpAny_bind (listUpdate_at at0 rfl ?_ (by rw [List.size_toArray]; exact fits) (Nat.zero_le _))
  refine wpAny_bind (seqEpoch_at at1 rfl ?_)
  refine wpAny_bind (wpAny_newTuple ?_ (by show vs.length ≤ _; exact fits))
  refine wpAny_bind (wpAny_newList ?_ (Nat.zero_le _))
  refine wpAny_holding ?_
  have kp : KeepsBut (s.heap.objs.size + 1) C (sortingHeap C (s.heap.objs.size + 1) vs) := fun b o hb z => sortingHeap_old hb z
  refine keys_run (A := A.in1.in1) (s := { s with heap := sortingHeap C (s.heap.objs.size + 1) vs }) (S := ((C.update (s.heap.objs.size + 1) (Obj.mapSeq fun _ => (#[] : Array Value))).push (seqObj "tuple" vs.toArray 0)).objs.size) (h₁ := C) (kz := kz) kp
    (Heap.get?_none_of_le (by rw [size2]; exact Nat.le_succ _)) (Heap.get?_push_size _ rfl) (Heap.get?_push_of_some _ (Heap.get?_push_of_some _ at1)) (by rw [size2]; exact Nat.ne_of_gt (Nat.lt_succ_of_lt inC)) len fits al so (fun d hd => room d hd) (fun i v k hv hk g tk kpg => ?_) fun g tk out c kpg atg ko => ⟨rfl, fin out c g tk (up kpg) atg ko⟩
  refine wpAny_mono (turn i v k hv hk g tk (up kpg)) (fun u s2 z => ?_) fun _ _ z => z
  obtain ⟨g2, tk2, as, e, h1, h2, h3⟩ := z
  refine ⟨g2, tk2, as, e, h1, h2, fun b hb => ?_⟩
  obtain ⟨o, ho⟩ := h3 b hb
  exact ⟨o, by rw [← hC]; exact copyHeap_old ho⟩
end
end Kw

set_option maxRecDepth 100000
set_option maxHeartbeats 4000000
/-! sorted(xs, key=lambda p: (len(p), p)) for a list of lists of ints -/
namespace Kw
open PySem PySem.W PySem.Spec PySem.Calls PyProof.Rows
/-- the parameters, the text and the names of such a lambda -/
def lenPs (p : Str) (p0 : Pos) : Arguments := { posonlyargs := [], args := [{ arg := p, annotation := none, pos := p0 }], vararg := none, kwonlyargs := [], kw_defaults := [], kwarg := none, defaults := [] }
def lenEx (p : Str) (p1 p2 p3 p4 p5 : Pos) : Expr := .Tuple [.Call (.Name "len" p1) [.Name p p2] [] p3, .Name p p4] 0 p5
def lenSc (p : Str) : Scope := { kind := .function, names := [(p, .local), ("len", .globalImplicit)], isGenerator := false, isCoroutine := false, more := [] }
section
variable {prog : Program} {w : World} {A : Around} {s : Shared}
/-- called with a list: its length and itself, in a new tuple; all that stood stays -/
theorem lam_key {f t c' : Addr} {q p : Str} {p0 p1 p2 p3 p4 p5 : Pos} {pm ctv : Value} {its : Array Value} {mg mb : Str → Option Value} {ns : List PyData} {as : List Addr} (hf : s.heap.get? f = some (kla_obj "<lambda>" q (lenPs p p0) (lenEx p p1 p2 p3 p4 p5) (lenSc p) [] pm c' ctv))
    (code : s.heap.CodeRec (.ref c') q) (lim : s.heap.NoLimit) (glob : s.heap.Ns mainGlobals mg) (free : mg "len" = none) (blt : s.heap.Ns builtinsNs mb) (boot : mb "len" = some (.builtin "len")) (hl : s.heap.IsList t its) (fit : (its.size : Int) < 2 ^ 63)
    (hns : ReadsAll s.heap its.toList ns as) (deep : A.depth < recursionLimit) (hp : (p == ("__debug__" : Str)) = false) (hq : (("len" : Str) == p) = false) (rd : bindArgs (kla_fn "<lambda>" q (lenPs p p0) (lenEx p p1 p2 p3 p4 p5) (lenSc p) [] pm (.ref c') ctv) ⟨[.ref t], []⟩ = pure [(p, .ref t)]) :
    wpAny (model prog w) A (call (.ref f) [.ref t]) (fun v s2 => ∃ g tk, s2 = { s with heap := g, toks := tk } ∧ (∀ b o, s.heap.get? b = some o → g.get? b = some o) ∧ Reads g v (.tuple [.int its.size, .list ns]) (t :: as)) (fun _ _ => False) s := by
  refine wpAny_call ?_
  refine kla_callFunE deep hf rfl rfl rfl rfl code ?_
  rw [rd]
  refine wpAny_pure (wpAny_newFunctionEnv (fun x hx => ?_) (fun x hx => ?_) (fun h₁ hns1 hsb => ⟨lim.fresh _ hsb, ?_⟩) rfl)
  · rcases List.mem_cons.mp hx with rfl | hx
    · exact fun z => by cases z
    · rw [List.mem_singleton.mp hx]
      exact fun z => by cases z
  · rw [List.mem_singleton.mp hx]
    show List.lookup p [(p, NameKind.local), ("len", NameKind.globalImplicit)] = _
    rw [List.lookup_cons, beq_self_eq_true]
  have kp : ∀ b o, s.heap.get? b = some o → h₁.get? b = some o := fun b o e => hsb.extBut b o (Nat.ne_of_lt (Heap.lt_size e)) (Heap.get?_push_of_some _ e)
  show codeAny _ _ (.expr (lenEx p p1 p2 p3 p4 p5) (envX q (lenSc p) s.heap.objs.size f (.ref c') [])) _ _
  have loc : ∀ {E : Value → Shared → Prop} {Q : Value → Shared → Prop} {B : Around} {h2 : Heap} {tk : Nat} {pos : Pos}, h2.Ns s.heap.objs.size (fun x => ([(p, Value.ref t)] : List (Str × Value)).reverse.lookup x) → Q (.ref t) { s with heap := h2, toks := tk } →
      wpAny (model prog w) B (eval (.Name p pos) (envX q (lenSc p) s.heap.objs.size f (.ref c') [])) Q E { s with heap := h2, toks := tk } := fun {E Q B h2 tk pos} n z => by
    refine wpAny_Name (wpAny_loadName_local rfl ?_ n ?_ z) hp
    · show List.lookup p [(p, NameKind.local), ("len", NameKind.globalImplicit)] = _
      rw [List.lookup_cons, beq_self_eq_true]
    · show List.lookup p [(p, Value.ref t)] = _
      rw [List.lookup_cons, beq_self_eq_true]
  have kl : (envX q (lenSc p) s.heap.objs.size f (.ref c') []).kindOf "len" = some .globalImplicit := by
    show List.lookup ("len" : Str) [(p, NameKind.local), ("len", NameKind.globalImplicit)] = _
    rw [List.lookup_cons, hq]
    rfl
  refine kla_codeExpr ?_
  unfold lenEx
  refine wpAny_Tuple_spliced ?_
  refine Calls.spliced_cons (wpAny_Call_Name_kw (Calls.Name_function_global rfl kl (Calls.loadGlobal_builtin (glob.keeps kp) free (blt.keeps kp) boot ?_)))
  refine PyProof.Rows.callWith_builtin1 (Calls.spliced_cons (loc hns1 (Calls.spliced_nil ?_)))
  refine Calls.call_len_list (l := t) (items := its) (by obtain ⟨o, ho, r⟩ := hl; exact ⟨o, kp _ _ ho, r⟩) fit ?_
  refine Calls.spliced_cons (loc hns1 (Calls.spliced_nil ⟨by show 2 ≤ sizeLine; decide, ?_⟩))
  have kp2 : ∀ b o, s.heap.get? b = some o → (h₁.push { cls := .type "tuple", data := .seq #[.int its.size (s.toks + ([(p, Value.ref t)] : List (Str × Value)).length + 1), .ref t] }).get? b = some o := fun b o e => Heap.get?_push_of_some _ (kp b o e)
  obtain ⟨o, ho, hc, n, hd⟩ := hl
  refine ⟨_, _, rfl, kp2, ?_⟩
  refine Reads.tuple (Heap.get?_push_size _ rfl) rfl rfl ?_
  have r1 : ReadsAll (h₁.push { cls := .type "tuple", data := .seq #[.int its.size (s.toks + ([(p, Value.ref t)] : List (Str × Value)).length + 1), .ref t] }) [Value.ref t] [.list ns] ((t :: as) ++ []) := .cons (.list (kp2 _ _ ho) hc hd (PyProof.Rows.ReadsAll.keeps kp2 hns)) .nil
  rw [List.append_nil] at r1
  exact ReadsAll.cons (as := []) (.int _ _) r1
end
/-- lists of ints, tracked -/
def LsAt (H : L2.Hp) : List L2.V → List (List Nat) → Prop := Paired fun v l => ∃ t, v = L2.V.ref t ∧ H t = some (.lst (l.map fun (n : Nat) => L2.V.int (n : Int)))
def lenKey (l : List Nat) : PyData := .tuple [.int (l.length : Int), .list (l.map fun (n : Nat) => PyData.int (n : Int))]
/-- the order by length, then by the lists -/
def byLen : L2.V × List Nat → L2.V × List Nat → Bool := dataLe false fun b => lenKey b.2
theorem vals_reads {h : Heap} : ∀ {l : List Nat} {us : List Value}, L2.Vals (l.map fun (n : Nat) => L2.V.int (n : Int)) us → ReadsAll h us (l.map fun (n : Nat) => PyData.int (n : Int)) []
  | [], us, r => by
    cases r
    exact .nil
  | n :: l, us, r => by
    cases r with
    | cons r1 r2 =>
      obtain ⟨t, rfl⟩ := r1
      exact ReadsAll.cons (as := []) (.int _ _) (vals_reads r2)
theorem keys_alike (bs : List (List Nat)) : AllAlike (bs.map lenKey) := AllAlike.of fun a b => by
  have h : ∀ l : List Nat, (l.map fun (n : Nat) => PyData.int (n : Int)) = (l.map fun (n : Nat) => (n : Int)).map .int := fun l => by rw [List.map_map]; rfl
  unfold lenKey
  rw [h a, h b]
  simp only [alike, alikeAll, Bool.and_true, Bool.true_and]
  exact alike_ints _ _
theorem key_depth (l : List Nat) : (lenKey l).depth ≤ 2 := by
  have h : ∀ l : List Nat, PyData.depthAll (l.map fun (n : Nat) => PyData.int (n : Int)) = 0 := fun l => by
    induction l with
    | nil => rfl
    | cons a r ih =>
      rw [List.map_cons]
      simp [PyData.depthAll, PyData.depth, ih]
  unfold lenKey
  simp only [PyData.depth, PyData.depthAll, h]
  omega
theorem LsAt.at {H : L2.Hp} : ∀ {us : List L2.V} {bs : List (List Nat)} {i : Nat} {v : L2.V}, LsAt H us bs → us[i]? = some v → ∃ l t, bs[i]? = some l ∧ v = .ref t ∧ H t = some (.lst (l.map fun (n : Nat) => L2.V.int (n : Int)))
  | [], [], _, _, _, e => by simp at e
  | _ :: _, b :: _, 0, _, .cons ⟨t, e1, h⟩ _, e => by
    obtain rfl := Option.some.inj e
    exact ⟨b, t, rfl, e1, h⟩
  | _ :: _, _ :: _, i + 1, _, .cons _ r, e => LsAt.at (i := i) r e
theorem vals_at : ∀ {us : List L2.V} {its : List Value} {i : Nat} {v : Value}, L2.Vals us its → its[i]? = some v → ∃ x, us[i]? = some x ∧ L2.RelV x v
  | [], [], _, _, _, e => by simp at e
  | u :: _, _ :: _, 0, _, .cons h _, e => by
    obtain rfl := Option.some.inj e
    exact ⟨u, rfl, h⟩
  | _ :: _, _ :: _, i + 1, _, .cons _ r, e => vals_at (i := i) r e
theorem each_zip {γ : Type} : ∀ {us : List L2.V} {its : List Value} {bs : List γ}, L2.Vals us its → us.length = bs.length → EachIs (fun (v : Value) (b : L2.V × γ) => L2.RelV b.1 v) its (us.zip bs)
  | [], [], [], _, _ => .nil
  | _ :: _, _ :: _, _ :: _, .cons h r, e => .cons h (each_zip r (Nat.succ.inj e))
theorem vals_each {γ : Type} : ∀ {zs : List (L2.V × γ)} {out : List Value}, EachIs (fun (v : Value) (b : L2.V × γ) => L2.RelV b.1 v) out zs → L2.Vals (zs.map (·.1)) out
  | [], [], _ => .nil
  | _ :: _, _ :: _, .cons h r => .cons h (vals_each r)
open L2 LamX in
/-- sorted(xs, key=lambda p: (len(p), p)) -/
def tSortLam (T : List (Addr × Str)) (te : TE) : TE := fun σ H Q => tCons te tNil σ H fun vs H1 => ∃ (a : Addr) (us : List V) (bs : List (List Nat)), vs = [V.ref a] ∧ H1 a = some (.lst us) ∧ LsAt H1 us bs ∧ Tabs T H1 ∧
  ∀ (H2 : Hp) (r : Addr) (zs : List (V × List Nat)), ExtN H1 H2 → Tabs T H2 → H2 r = none → zs = (us.zip bs).mergeSort byLen → Q (.ref r) (upd H2 r (.lst (zs.map (·.1))))
open L2 LamX in
theorem pe_sortLam {X : Cx} {T : List (Addr × Str)} {c P : Addr} {e : Expr} {te : TE} {p : Str} {p0 p1 p2 p3 p4 p5 pn pos lpos kpos : Pos} (hg : Gl X "sorted") (hm : X.mg "sorted" = none) (hlen : X.mg "len" = none) (he : PE X e te) (TB : TabB X.base X.mg c P) (hcode : X.env.code = .ref c)
    (hmT : (P, X.env.qual ++ "<lambda>") ∈ T) (hu : ∀ q ∈ T, q.1 = P → q.2 = X.env.qual ++ "<lambda>") (hr : Room 1 X.A) (hd : (p == ("__debug__" : Str)) = false) (hl : (("len" : Str) == p) = false)
    (rd : ∀ (q : Str) (pm cv ctv u : Value), bindArgs (kla_fn "<lambda>" q (lenPs p p0) (lenEx p p1 p2 p3 p4 p5) (lenSc p) [] pm cv ctv) ⟨[u], []⟩ = pure [(p, u)])
    (hst : starEach [e] X.env = (false, eval e X.env) :: starEach [] X.env := by rfl) :
    PE X (.Call (.Name "sorted" pn) [e] [⟨some "key", .Lambda (lenPs p p0) (lenEx p p1 p2 p3 p4 p5) (lenSc p) lpos, kpos⟩] pos) (tSortLam T te) := by
  refine ⟨fun pins s σ H Q I h => ?_⟩
  refine wpAny_Call_Name_kw (ld_blt I hg hm boot_sorted ?_)
  refine PyProof.Rows.callWith_kw (thn ((pa_cons he pa_nil (hs := hst)).run pos pins s σ H _ I h) fun us1 s1 ⟨vs, H1, I1, r1, q1⟩ => ?_) (by rw [hst]; rfl) (by rw [hst]; rfl)
  obtain ⟨a, us, bs, rfl, ha, hU, hT, q⟩ := q1
  obtain rfl := Vals.ref1 r1
  show wpAny _ _ (evalAll ((do let v ← eval (.Lambda (lenPs p p0) (lenEx p p1 p2 p3 p4 p5) (lenSc p) lpos) X.env; standAt pos; pure v) :: [])) _ _ s1
  refine wpAny_evalAll_cons (wpAny_bind (lam_make2 I1 TB hcode hmT hu hT rfl (fun y hy z => ?_) fun f c' pm ctv H2 s2 I2 eN T2 hf hfn hfr hco => wpAny_bind (wpAny_standAt (wpAny_pure (wpAny_evalAll_nil ?_)))))
  · rcases List.mem_cons.mp hy with rfl | hy
    · cases z
    · rw [List.mem_singleton.mp hy] at z
      cases z
  have ha2 := eN _ _ ha (fun ps z => by cases z)
  have hU2 : LsAt H2 us bs := by
    have go : ∀ {us : List V} {bs : List (List Nat)}, LsAt H1 us bs → LsAt H2 us bs := fun z => by
      induction z with
      | nil => exact .nil
      | cons y _ ih =>
        obtain ⟨t, e1, e2⟩ := y
        exact .cons ⟨t, e1, eN _ _ e2 (fun ps z => by cases z)⟩ ih
    exact go hU
  obtain ⟨its, rv, pl, hz⟩ := I2.list (.inl (.inl ha2))
  have lens : us.length = bs.length := Paired.length hU2
  have lenv : us.length = its.length := rv.length
  obtain ⟨⟨oc, ovs, ot, hoc, hdc, hvc⟩, _, _⟩ := I2.hok c' _ hco
  show wpAny _ _ (call (.builtin "sorted") [.ref a] [(Str.ofString "key", .ref f)]) _ _ s2
  refine sorted_keyL (kz := bs.map lenKey) pl.isList (by rw [List.length_map]; omega) (by omega) (keys_alike bs) (.inl fun d hd => by
      obtain ⟨b, _, rfl⟩ := List.mem_map.mp hd
      exact ⟨_, _, rfl⟩) (fun d hd => by
      obtain ⟨b, _, rfl⟩ := List.mem_map.mp hd
      have h1 := key_depth b
      have h2 := hr.un
      omega) (ksk_s1 _ _) (fun _ => ksk_l1 _ _) (fun _ => ksk_t1 _ _) (fun i v k hv hk g tk kp => ?_) fun out cc g tk kp atg ko => ?_
  · rw [List.getElem?_map] at hk
    obtain ⟨l, hl1, rfl⟩ := Option.map_eq_some_iff.mp hk
    obtain ⟨x, hx, rx⟩ := vals_at rv hv
    obtain ⟨l2, t, e1, rfl, e2⟩ := hU2.at hx
    rw [hl1] at e1
    obtain rfl := Option.some.inj e1
    obtain rfl : v = Value.ref t := rx
    obtain ⟨lits, rl, pll, hzl⟩ := I2.list (.inl (.inl e2))
    have ll : lits.length = l.length := by
      have := rl.length
      rw [List.length_map] at this
      exact this.symm
    obtain ⟨mb, b1, b2⟩ := I2.mod.blt
    have isl := pll.isList
    obtain ⟨ol, hol, rl2⟩ := id isl
    refine wpAny_mono (lam_key (s := { s2 with heap := g, toks := tk }) (its := lits.toArray) (kp _ _ hf) ⟨c', oc, ovs, ot, rfl, kp _ _ hoc, hdc, hvc⟩ (I2.nolimit.keeps kp) ((I2.mod.glob.keeps I2.bk).keeps kp) hlen ((b1.keeps I2.bk).keeps kp) ((b2 "len" (by decide)).trans PySem.boot_len) ⟨ol, kp _ _ hol, rl2⟩ ?_
      (PyProof.Rows.ReadsAll.keeps kp (vals_reads rl)) ?_ hd hl (rd _ _ _ _ _)) (fun u s3 z => ?_) fun _ _ z => z
    · rw [List.size_toArray, ll]
      rw [List.length_map] at hzl
      have : sizeLine = 2 ^ 24 := by decide
      omega
    · have := hr.dp
      show X.A.depth < _
      omega
    · obtain ⟨g2, tk2, e3, k3, r3⟩ := z
      refine ⟨g2, tk2, [t], e3, k3, ?_, fun b hb => ?_⟩
      · rw [List.size_toArray, ll] at r3
        exact r3
      · rw [List.mem_singleton.mp hb]
        exact ⟨ol, hol⟩
  · have ez : (us.zip bs).map (fun b => lenKey b.2) = bs.map lenKey := by
      have : (us.zip bs).map (fun b => lenKey b.2) = ((us.zip bs).map Prod.snd).map lenKey := by
        rw [List.map_map]
        rfl
      rw [this, List.map_snd_zip (by omega)]
    rw [← ez] at ko
    have ex := keyedOut_each (fun b : V × List Nat => lenKey b.2) ko (each_zip rv lens)
    have vo := vals_each ex
    have lo : (((us.zip bs).mergeSort byLen).map (·.1)).length ≤ sizeLine := by
      rw [List.length_map, List.length_mergeSort, List.length_zip]
      omega
    refine ⟨.ref _, _, I2.laid (a := s2.heap.objs.size + 1) (o := .lst (((us.zip bs).mergeSort byLen).map (·.1))) (t' := tk) kp (Nat.le_succ _) ⟨lo, out, cc, vo, atg⟩, rfl, q H2 _ _ eN T2 (I2.hok.fresh (Nat.le_succ _)) rfl⟩
end Kw

set_option maxRecDepth 100000
set_option maxHeartbeats 4000000
/-! a def that makes a lambda, a law that prints and has such defs -/
namespace Kw
open PySem PySem.Spec PyProof.Rows L2 LamX
section
variable {P : Program} {w : World} {K : PySem.W.Frag} {mg : Str → Option Value} {base : Heap} {x qual : Str} {params : Arguments} {body : List Stmt} {scope : Scope} {dvs : List V} {kws : List (Str × V)} {f : Addr} {fd : FuncData}
/-- by the body, the code object known -/
theorem FunD.okC {CX : CXT} {N ps : List Str} {k : Nat} {sp : Sp} {c : Addr} (F : FunD K x qual params body scope dvs kws f fd) (hc : fd.code = .ref c) (S : FnScope N ps scope) (len : ∀ vs H Q E, sp vs H Q E → vs.length = ps.length)
    (run : ∀ (A : Around) (outer : List Env) (s : Shared) (H : Hp) (vs : List V) (Q : VK) (E : XK), Room k (A.deeper (envOfC qual scope s.heap.objs.size f (.ref c))) → sp vs H Q E →
      ∃ t, PSs (cxOf CX P w K mg base N qual scope f (.ref c) A outer s H E) body t ∧ t { nx := fun _ H' => Q .non H', rt := Q } (L2.start N vs) H) : FnOk P w K mg base CX (k + 1) f fd ps sp := by
  obtain ⟨oc, od, dV, kV, doc, pm, an, cdv, ct, osl, rfl, lk, hcd, _, _⟩ := F.ex
  have e : cdv = .ref c := hc
  subst e
  exact fn_of lk hcd S len fun A outer s H vs Q E hr h => run A outer s H vs Q E hr h
theorem FunD.codeAt {p : Str × Option Str} (F : FunD K x qual params body scope dvs kws (He.fAd K p) fd) : fd.code = .ref (He.codeOf K p) := by
  obtain ⟨oc, od, dV, kV, doc, pm, an, cdv, ct, osl, rfl, lk, hcd, _, _⟩ := F.ex
  obtain ⟨c, e⟩ := He.codeIn_ref hcd
  have e : cdv = .ref c := e
  subst e
  rw [He.codeOf_eq lk rfl]
end
section
variable {P : Program} {w : World} {K : PySem.W.Frag} {mg : Str → Option Value}
/-- the abstract heap ahead of such a law: its script, the defs' tables -/
def scriptTabs (K : PySem.W.Frag) (a : Addr) (o : Obj) (u : HO) (ts : List Addr) : Hp := fun b => if b = a then (if K.lookup a = none then some (.frz o u) else none) else if b ∈ ts then some (.tbl #[]) else none
theorem call_hereT {mb : Str → Option Value} {CX : CXT} {fa a : Addr} {s : Shared} {vs : List Value} {ns : List Int} {cs : List (Addr × Addr)}
    (inK : K.In s.heap) (nsG : s.heap.Ns mainGlobals mg) (nsB : s.heap.Ns builtinsNs mb) (boot : ∀ x : Str, x ≠ "__name__" → mb x = bootBuiltins x) (nolim : s.heap.NoLimit) (nogen : s.gens = #[])
    (empty : ∀ p ∈ cs, s.heap.get? p.2 = some { cls := .none, data := .fields #[] }) (apart : ∀ p ∈ cs, K.lookup p.2 = none) (codes : ∀ p ∈ cs, PySem.W.CodeHd s.heap p.1 p.2)
    (bmod : ∃ (bm : Addr) (ob : Obj), mg "__builtins__" = some (.ref bm) ∧ bm ≠ builtinsNs ∧ s.heap.get? bm = some ob ∧ ob.cls = .type "module" ∧ ob.dict = some builtinsNs ∧ ob.data = .plain)
    (obj : s.heap.get? a = some { cls := .type "list", data := .seq vs.toArray }) (nums : IntsAre vs ns) (size : ns.length ≤ sizeLine)
    (noErr : ∀ H e s', CX [] H s (fun _ _ _ => False) e s' → False)
    (F : ∀ (base : Heap) (H : Hp), K.In base → base.Ns mainGlobals mg → (∀ p ∈ cs, TabB base mg p.1 p.2) → (∀ p ∈ cs, H p.2 = some (.tbl #[])) → Env0 P w K mg base callerA [] s H → SqL K H a (ns.map V.int) →
      codeAny (model P w) callerA (.call (.ref fa) ⟨[.ref a], []⟩) (CR CX [] P w H s (fun v _ => v = .bl true) (fun _ _ _ => False)) s) :
    codeAny (model P w) callerA (.call (.ref fa) ⟨[.ref a], []⟩) (fun r s' => r = .ok (.ret (.bool true)) ∧ OldK s.heap s'.heap ∧ s'.os = s.os ∧ AllBare s'.gens) s := by
  have rel := vals_ints nums
  have lenV := nums.length
  generalize hO : ({ cls := .type "list", data := .seq vs.toArray } : Obj) = O at obj
  have Oc : O.cls = .type "list" := by rw [← hO]
  have Od : O.data = .seq vs.toArray 0 := by rw [← hO]
  have Odd : O.dict = none := by rw [← hO]
  have tabAt : ∀ b ∈ cs.map (·.2), s.heap.get? b = some { cls := .none, data := .fields #[] } := fun b hb => by
    obtain ⟨p, hp, rfl⟩ := List.mem_map.mp hb
    exact empty p hp
  have aNo : a ∉ cs.map (·.2) := fun z => by
    have := tabAt a z
    rw [obj] at this
    rw [Option.some.inj this] at Od
    cases Od
  generalize hH : scriptTabs K a O (.lst (ns.map V.int)) (cs.map (·.2)) = H
  have Hs : ∀ {b : Addr} {v : HO}, H b = some v → (b = a ∧ K.lookup a = none ∧ v = .frz O (.lst (ns.map V.int))) ∨ (b ∈ cs.map (·.2) ∧ v = .tbl #[]) := fun {b v} z => by
    rw [← hH] at z
    unfold scriptTabs at z
    by_cases q : b = a
    · rw [if_pos q] at z
      by_cases q2 : K.lookup a = none
      · rw [if_pos q2] at z
        exact .inl ⟨q, q2, (Option.some.inj z).symm⟩
      · rw [if_neg q2] at z
        cases z
    · rw [if_neg q] at z
      by_cases q2 : b ∈ cs.map (·.2)
      · rw [if_pos q2] at z
        exact .inr ⟨q2, (Option.some.inj z).symm⟩
      · rw [if_neg q2] at z
        cases z
  have Ht : ∀ p ∈ cs, H p.2 = some (.tbl #[]) := fun p hp => by
    have m : p.2 ∈ cs.map (·.2) := List.mem_map.mpr ⟨p, hp, rfl⟩
    rw [← hH]
    unfold scriptTabs
    rw [if_neg (fun z => aNo (by rw [← z]; exact m)), if_pos m]
  -- an object of another make is not ours
  have free : ∀ {b : Addr} {o : Obj}, s.heap.get? b = some o → (∀ vs n, o.data ≠ .seq vs n) → o.data ≠ .fields #[] → H b = none := fun {b o} e h1 h2 => by
    cases z : H b with
    | none => rfl
    | some v =>
      rcases Hs z with ⟨r1, _, _⟩ | ⟨r1, _⟩
      · rw [r1, obj] at e
        rw [← Option.some.inj e] at h1
        exact (h1 _ _ Od).elim
      · rw [tabAt b r1] at e
        rw [← Option.some.inj e] at h2
        exact (h2 rfl).elim
  have hid : ∀ {b : Addr} {o : Obj}, s.heap.get? b = some o → H b = none → (hidT s.heap H).get? b = some o := fun e n => hidT_get e n
  have look : K.In (hidT s.heap H) := fun b o e => hid (inK b o e) (by
    cases z : H b with
    | none => rfl
    | some v =>
      rcases Hs z with ⟨r1, r2, _⟩ | ⟨r1, _⟩
      · rw [r1, r2] at e
        cases e
      · obtain ⟨p, hp, ep⟩ := List.mem_map.mp r1
        rw [← ep, apart p hp] at e
        cases e)
  have spaces : ∀ {b : Addr} {m : Str → Option Value}, s.heap.Ns b m → (hidT s.heap H).Ns b m := fun {b m} z => by
    obtain ⟨o, es, ep, e, d, r⟩ := z
    exact ⟨o, es, ep, hid e (free e (fun vs n y => by rw [d] at y; cases y) (fun y => by rw [d] at y; cases y)), d, r⟩
  obtain ⟨ml, l1, l2⟩ := nolim
  have held : HOk P w H s.heap := fun b v z => by
    rcases Hs z with ⟨r1, _, r3⟩ | ⟨r1, r2⟩
    · rw [r1, r3]
      exact ⟨obj, by rw [List.length_map]; exact size, vs, 0, rel, by rw [obj, ← hO]⟩
    · rw [r2]
      exact tabAt b r1
  have env0 : Env0 P w K mg (hidT s.heap H) callerA [] s H := ⟨rfl, ⟨look, spaces nsG, ⟨mb, spaces nsB, boot⟩, ⟨ml, spaces l1, l2⟩⟩, fun b o e => of_hidT e, Nat.le_of_eq (hidT_size _ _), trivial, fun b hb => absurd (show b ∈ ([] : List Addr) from hb) List.not_mem_nil, held, .of_eq nogen⟩
  have script : SqL K H a (ns.map V.int) := by
    cases kl : K.lookup a with
    | none =>
      refine .inl (.inr ⟨O, ?_⟩)
      rw [← hH]
      unfold scriptTabs
      rw [if_pos rfl, if_pos kl]
    | some o =>
      have e := inK a o kl
      rw [obj] at e
      obtain rfl := Option.some.inj e
      exact .inr ⟨O, vs.toArray, 0, kl, Oc, Odd, Od, by rw [List.size_toArray, lenV]; exact size, by simpa using rel⟩
  have tabs : ∀ p ∈ cs, TabB (hidT s.heap H) mg p.1 p.2 := fun p hp => by
    have at_ := empty p hp
    refine ⟨?_, ?_, fun z => ?_⟩
    · obtain ⟨o, us, file, tf, flags, tg, inF, text, tt, e1, r1, r2, r3, rest⟩ := codes p hp
      refine ⟨o, us, file, tf, flags, tg, inF, text, tt, hid e1 (free e1 (fun vs n y => by rw [r2] at y; cases y) (fun y => ?_)), r1, r2, r3, rest⟩
      rw [r2] at y
      cases y
      simp at r3
    · obtain ⟨bm, ob, b1, b2, b3, b4, b5, b6⟩ := bmod
      refine ⟨bm, ob, b1, b2, fun z => ?_, fun z => ?_, hid b3 (free b3 (fun vs n y => by rw [b6] at y; cases y) (fun y => by rw [b6] at y; cases y)), b4, b5, b6⟩
      · obtain ⟨o, es, ep, e, d, _⟩ := nsG
        rw [z, e] at b3
        rw [Option.some.inj b3, b6] at d
        cases d
      · rw [z, at_] at b3
        rw [← Option.some.inj b3] at b6
        cases b6
    · obtain ⟨o, es, ep, e, d, _⟩ := nsG
      rw [z, at_] at e
      rw [← Option.some.inj e] at d
      cases d
  refine codeAny_mono (F _ H look (spaces nsG) tabs Ht env0 script) fun r s' got => ?_
  rcases r with er | fl
  · exact (noErr H er s' got).elim
  cases fl with
  | ret u =>
    obtain ⟨v, H', os, bare, un, held', rv, qv⟩ := got
    obtain rfl : v = .bl true := qv
    obtain rfl : u = Value.bool true := rv
    have kept : ∀ b o, b ∉ cs.map (·.2) → s.heap.get? b = some o → s'.heap.get? b = some o := fun b o nb e => by
      cases z : H b with
      | none => exact un.keep b o e z (fun y => absurd (show b ∈ ([] : List Addr) from y) List.not_mem_nil) (by simp)
      | some v =>
        rcases Hs z with ⟨r1, _, r3⟩ | ⟨r1, _⟩
        · rw [r3] at z
          obtain ⟨e2, _⟩ := held' b _ (un.frzs b O _ z)
          rw [r1] at e e2
          rw [r1]
          rw [obj] at e
          rw [← Option.some.inj e]
          exact e2
        · exact absurd r1 nb
    have grown : ∀ p ∈ cs, ∃ more : Array Value, s'.heap.get? p.2 = some { cls := .none, data := .fields more } := fun p hp => by
      obtain ⟨more, z⟩ := un.tbls p.2 #[] (Ht p hp)
      exact ⟨_, held' p.2 _ z⟩
    refine ⟨rfl, ⟨fun b o e => ?_, fun b o e => ?_⟩, os, bare⟩
    · by_cases m : b ∈ cs.map (·.2)
      · obtain ⟨p, hp, ep⟩ := List.mem_map.mp m
        obtain ⟨more, hm⟩ := grown p hp
        rw [← ep] at e ⊢
        rw [empty p hp] at e
        obtain rfl := Option.some.inj e
        exact .inr (.inl ⟨((codes p hp).tab (empty p hp)).isCodeTable, rfl, #[], more, rfl, by rw [Array.empty_append]; exact hm⟩)
      · exact .inl (kept b o m e)
    · by_cases m : b ∈ cs.map (·.2)
      · obtain ⟨p, hp, ep⟩ := List.mem_map.mp m
        obtain ⟨more, hm⟩ := grown p hp
        rw [← ep]
        exact ⟨_, hm⟩
      · exact ⟨o, kept b o m e⟩
  | next => exact got.elim
  | brk => exact got.elim
  | cont => exact got.elim
/-- such a law: run at the one place from which it is called -/
theorem walk_hereT {l : PySem.W.OpenLaw} {n : Nat} {q : Program} {loose : List Str} {XP : (Str → Option Value) → Heap → Prop} {YP : World → Heap → Prop} {d : DefRec} {CX : CXT}
    (hn : l.most = some n) (hn2 : n ≤ sizeLine) (hdf : d.params.defaults = [])
    (F : ∀ (w : World) (mg : Str → Option Value) (fa : Addr) (h : Heap), YP w h → h.Ns mainGlobals mg → mg d.name = some (.ref fa) →
      ∃ (K : PySem.W.Frag) (cs : List (Addr × Addr)), K.In h ∧ (∀ p ∈ cs, h.get? p.2 = some { cls := .none, data := .fields #[] }) ∧ (∀ p ∈ cs, K.lookup p.2 = none) ∧ (∀ p ∈ cs, PySem.W.CodeHd h p.1 p.2) ∧
        ∀ (base : Heap) (H : Hp) (s : Shared) (a : Addr) (ns : List Int), K.In base → base.Ns mainGlobals mg → (∀ p ∈ cs, TabB base mg p.1 p.2) → (∀ p ∈ cs, H p.2 = some (.tbl #[])) → ns.length ≤ n → Env0 l.prog w K mg base callerA [] s H → SqL K H a (ns.map V.int) →
        codeAny (model l.prog w) callerA (.call (.ref fa) ⟨[.ref a], []⟩) (CR CX [] l.prog w H s (fun v _ => v = .bl true) (fun _ _ _ => False)) s)
    (hCX : ∀ (H : Hp) (s : Shared) (e : Value) (s' : Shared), CX [] H s (fun _ _ _ => False) e s' → False) :
    PySem.W.WalkO q loose XP YP l.row.toRowW d [] (fun f vs => PySem.call f vs) := by
  refine Att.attach_call hn hdf fun w s₀ s₁ mg mb fa o pm cd doc a vs ns G Y ho hd hcd hmg hobj hints hlen hg => ?_
  obtain ⟨K, cs, KX, h1, h2, h3, hF⟩ := F w mg fa _ Y G.T.g hmg
  exact call_hereT KX G.T.g G.T.b G.T.builtins G.T.nolimit hg h1 h2 h3 G.T.bmain hobj hints (Nat.le_trans hlen hn2) (fun H e s' => hCX H s₁ e s') fun base H hb hbn htb ht e0 hS => hF base H s₁ a ns hb hbn htb ht hlen e0 hS
end
end Kw

set_option maxRecDepth 100000
set_option maxHeartbeats 4000000
namespace Kw
open PySem PySem.Spec PyProof.Rows L2
/-- a def that prints: called where no repr is under way -/
structure FnOkG (P : Program) (w : World) (K : PySem.W.Frag) (mg : Str → Option Value) (base : Heap) (CX : CXT) (k : Nat) (f : Addr) (fd : FuncData) (ps : List Str) (sp : Sp) : Prop where
  len : ∀ vs H Q E, sp vs H Q E → vs.length = ps.length
  run : ∀ (A : Around) (outer : List Env) (s : Shared) (H : Hp) (args : Args) (us : List Value) (vs : List V) (Q : VK) (E : XK), A.guards = some [] → Room k A → Env0 P w K mg base A outer s H → BindsTo s fd args (ps.zip us) → Vals vs us → sp vs H Q E →
    codeAny (model P w) A (.call (.ref f) args) (CR CX outer P w H s Q E) s
section
variable {P : Program} {w : World} {K : PySem.W.Frag} {mg : Str → Option Value} {base : Heap} {x qual : Str} {params : Arguments} {body : List Stmt} {scope : Scope} {dvs : List V} {kws : List (Str × V)} {f : Addr} {fd : FuncData}
theorem FunD.okG {CX : CXT} {N ps : List Str} {k : Nat} {sp : Sp} (D : FunD K x qual params body scope dvs kws f fd) (S : FnScope N ps scope) (len : ∀ vs H Q E, sp vs H Q E → vs.length = ps.length)
    (run : ∀ (cdv : Value) (A : Around) (outer : List Env) (s : Shared) (H : Hp) (vs : List V) (Q : VK) (E : XK), A.guards = some [] → Room k (A.deeper (envOfC qual scope s.heap.objs.size f cdv)) → sp vs H Q E →
      ∃ t, PSs (cxOf CX P w K mg base N qual scope f cdv A outer s H E) body t ∧ t { nx := fun _ H' => Q .non H', rt := Q } (L2.start N vs) H) : FnOkG P w K mg base CX (k + 1) f fd ps sp :=
  ⟨len, fun A outer s H args us vs Q E g hr e0 bd rel h => def_at D S (len vs H Q E h) hr e0 bd rel fun cdv => run cdv A outer s H vs Q E g (hr.deeper _) h⟩
end
section
variable {X : Cx} {CX : CXT} {k : Nat} {f : Addr} {fd : FuncData} {ps : List Str} {sp : Sp} {E : XK} {x : Str} {p pos : Pos} {e : Expr} {es : List Expr} {t : TA}
theorem pe_callG (F : FnOkG X.prog X.w X.K X.mg X.base CX k f fd ps sp) (quiet : X.A.guards = some []) (hr : Room k X.A) (hg : Gl X x) (hm : X.mg x = some (.ref f)) (hk : PySem.W.keepIn X.K (.ref f) = true) (hb : Binds X.K fd ps []) (hx : Passes CX X E)
    (ha : PA X (e :: es) t) (hdb : (x == ("__debug__" : Str)) = false := by decide) (he : starEach (e :: es) X.env = (false, eval e X.env) :: starEach es X.env := by rfl) (hpl : (backTo pos (starEach es X.env)).any (·.1) = false := by rfl) :
    PE X (.Call (.Name x p) (e :: es) [] pos) (tCall sp [] E t) := by
  refine ⟨fun pins s σ H Q I h => ?_⟩
  refine wpAny_Call_Name_kw (ld_glob I hg hm ?_ hdb)
  refine PySem.W.callWith_K (h₀ := X.base) I.ok.mod.kin hk (thn (ha.run pos pins s σ H _ I h) fun us s1 ⟨vs, H1, I1, r, q⟩ => ⟨I1.kIn, ?_⟩) he hpl
  have q : sp vs H1 Q E := by
    have q2 : sp (vs ++ []) H1 Q E := q
    rw [List.append_nil] at q2
    exact q2
  have lu : us.length = ps.length := by rw [← r.length]; exact F.len _ _ _ _ q
  have bd : BindsTo s1 fd ⟨us, []⟩ (ps.zip us) := by
    have := hb s1 us I1.kIn (by rw [List.append_nil]; exact lu)
    rw [List.append_nil] at this
    exact this
  refine wpAny_call (codeAny_mono (F.run X.A X.stack s1 H1 ⟨us, []⟩ us vs Q E quiet hr I1.env0 bd r q) fun r s' hq => ?_)
  rcases r with er | fl
  · exact hx pins σ H1 s1 er s' I1 hq
  cases fl with
  | ret u => exact I1.after hq
  | next => exact hq.elim
  | brk => exact hq.elim
  | cont => exact hq.elim
end
/-! ### comprehensions with two for over lists or tuples that stand -/
section
variable {K : PySem.W.Frag} {a : Addr} {xs : List V}
theorem lc2_inT {g1 : TG} {tt1 : TT} {te : TE} {vs1 : List Nat} {σ2 : L2.St} {H4 : Hp} {D : Addr} {Nx : Hp → Prop} (Pw : Nat → Hp → Prop) (h0 : Pw 0 H4) (hl : ∀ i H, i ≤ xs.length → Pw i H → SqT K H a xs)
    (hs : ∀ j x H, xs[j]? = some x → Pw j H → g1 x (wipe σ2 vs1) H fun σ3 H5 => wipe σ3 vs1 = wipe σ2 vs1 ∧ tt1 σ3 H5 fun b H6 =>
        if b = true then te σ3 H6 fun y H7 => ∃ acc, H7 D = some (.lst acc) ∧ acc.length < sizeLine ∧ Pw (j + 1) (upd H7 D (.lst (acc ++ [y]))) else Pw (j + 1) H6)
    (hd : ∀ H, Pw xs.length H → Nx H) :
    ∃ W1 : Nat → Nat → Hp → Prop, (∃ m, W1 0 m H4) ∧ ∀ j k H, W1 j k H →
        ((Itt K a).stop j H ∧ Nx H) ∨ ((Itt K a).go j H ∧ ∃ Nx1 : Hp → Prop, (∀ H', Nx1 H' → ∃ k', k' < k ∧ W1 (j + 1) k' H') ∧ ∀ x H', (Itt K a).yld j H x H' → g1 x (wipe σ2 vs1) H' fun σ3 H5 => wipe σ3 vs1 = wipe σ2 vs1 ∧ tt1 σ3 H5 fun b H6 =>
          if b = true then te σ3 H6 fun y H7 => ∃ acc, H7 D = some (.lst acc) ∧ acc.length < sizeLine ∧ Nx1 (upd H7 D (.lst (acc ++ [y]))) else Nx1 H6) := by
  refine ⟨fun i m H => m = xs.length - i ∧ i ≤ xs.length ∧ Pw i H, ⟨xs.length, by simp, Nat.zero_le _, h0⟩, ?_⟩
  rintro i m H ⟨rfl, hi, p⟩
  have q := hl i H hi p
  by_cases lt : i < xs.length
  · refine .inr ⟨⟨xs, xs[i], q, by simp [lt]⟩, Pw (i + 1), fun H' p' => ⟨xs.length - (i + 1), by omega, rfl, lt, p'⟩, fun x H' y => ?_⟩
    obtain ⟨e, y⟩ := y
    subst e
    exact hs i x _ (y xs q) p
  · obtain rfl : i = xs.length := by omega
    exact .inl ⟨⟨xs, q, Nat.le_refl _⟩, hd H p⟩
theorem lc2_outT {wi1 : TI} {g g1 : TG} {tt tt1 : TT} {te : TE} {vs vs1 : List Nat} {σ : L2.St} {H1 : Hp} {D : Addr} {Qd : Hp → Prop} (Pv : Nat → Hp → Prop) (h0 : Pv 0 (upd H1 D (.lst []))) (hl : ∀ i H, i ≤ xs.length → Pv i H → SqT K H a xs)
    (hs : ∀ i x H, xs[i]? = some x → Pv i H → ∀ Nx : Hp → Prop, (∀ H', Pv (i + 1) H' → Nx H') → g x (wipe σ vs) H fun σ2 H2 => wipe σ2 vs = wipe σ vs ∧ tt σ2 H2 fun b H3 => if b = true then wi1 σ2 H3 fun J1 H4 => ∃ W1 : Nat → Nat → Hp → Prop, (∃ m, W1 0 m H4) ∧ ∀ j k H, W1 j k H →
        (J1.stop j H ∧ Nx H) ∨ (J1.go j H ∧ ∃ Nx1 : Hp → Prop, (∀ H', Nx1 H' → ∃ k', k' < k ∧ W1 (j + 1) k' H') ∧ ∀ x H', J1.yld j H x H' → g1 x (wipe σ2 vs1) H' fun σ3 H5 => wipe σ3 vs1 = wipe σ2 vs1 ∧ tt1 σ3 H5 fun b H6 =>
          if b = true then te σ3 H6 fun y H7 => ∃ acc, H7 D = some (.lst acc) ∧ acc.length < sizeLine ∧ Nx1 (upd H7 D (.lst (acc ++ [y]))) else Nx1 H6) else Nx H3)
    (hd : ∀ H, Pv xs.length H → Qd H) :
    ∃ W : Nat → Nat → Hp → Prop, (∃ m, W 0 m (upd H1 D (.lst []))) ∧ ∀ i m H, W i m H →
  ((Itt K a).stop i H ∧ Qd H) ∨ ((Itt K a).go i H ∧ ∃ Nx : Hp → Prop, (∀ H', Nx H' → ∃ m', m' < m ∧ W (i + 1) m' H') ∧ ∀ x H', (Itt K a).yld i H x H' → g x (wipe σ vs) H' fun σ2 H2 => wipe σ2 vs = wipe σ vs ∧ tt σ2 H2 fun b H3 =>
    if b = true then wi1 σ2 H3 fun J1 H4 => ∃ W1 : Nat → Nat → Hp → Prop, (∃ m, W1 0 m H4) ∧ ∀ j k H, W1 j k H →
        (J1.stop j H ∧ Nx H) ∨ (J1.go j H ∧ ∃ Nx1 : Hp → Prop, (∀ H', Nx1 H' → ∃ k', k' < k ∧ W1 (j + 1) k' H') ∧ ∀ x H', J1.yld j H x H' → g1 x (wipe σ2 vs1) H' fun σ3 H5 => wipe σ3 vs1 = wipe σ2 vs1 ∧ tt1 σ3 H5 fun b H6 =>
          if b = true then te σ3 H6 fun y H7 => ∃ acc, H7 D = some (.lst acc) ∧ acc.length < sizeLine ∧ Nx1 (upd H7 D (.lst (acc ++ [y]))) else Nx1 H6) else Nx H3) := by
  refine ⟨fun i m H => m = xs.length - i ∧ i ≤ xs.length ∧ Pv i H, ⟨xs.length, by simp, Nat.zero_le _, h0⟩, ?_⟩
  rintro i m H ⟨rfl, hi, p⟩
  have q := hl i H hi p
  by_cases lt : i < xs.length
  · refine .inr ⟨⟨xs, xs[i], q, by simp [lt]⟩, Pv (i + 1), fun H' p' => ⟨xs.length - (i + 1), by omega, rfl, lt, p'⟩, fun x H' y => ?_⟩
    obtain ⟨e, y⟩ := y
    subst e
    exact hs i x _ (y xs q) p _ fun _ z => z
  · obtain rfl : i = xs.length := by omega
    exact .inl ⟨⟨xs, q, Nat.le_refl _⟩, hd H p⟩
end
end Kw

set_option maxRecDepth 100000
set_option maxHeartbeats 8000000
namespace K83
open PySem PySem.Spec PyProof.Rows L2 Kw
/-- the outer walk, over enumerate of a tuple -/
theorem lc2_outE {K : PySem.W.Frag} {a : Addr} {xs : List V} {wi1 : TI} {g g1 : TG} {tt tt1 : TT} {te : TE} {vs vs1 : List Nat} {σ : L2.St} {H1 : Hp} {D : Addr} {Qd : Hp → Prop} (Pv : Nat → Hp → Prop) (h0 : Pv 0 (upd H1 D (.lst []))) (hl : ∀ i H, i ≤ xs.length → Pv i H → SqT K H a xs)
    (hs : ∀ i x H T, xs[i]? = some x → Pv i H → H T = none → ∀ Nx : Hp → Prop, (∀ H', Pv (i + 1) H' → Nx H') → g (.ref T) (wipe σ vs) (upd H T (.tup [.int (i : Nat), x])) fun σ2 H2 => wipe σ2 vs = wipe σ vs ∧ tt σ2 H2 fun b H3 => if b = true then wi1 σ2 H3 fun J1 H4 => ∃ W1 : Nat → Nat → Hp → Prop, (∃ m, W1 0 m H4) ∧ ∀ j k H, W1 j k H →
        (J1.stop j H ∧ Nx H) ∨ (J1.go j H ∧ ∃ Nx1 : Hp → Prop, (∀ H', Nx1 H' → ∃ k', k' < k ∧ W1 (j + 1) k' H') ∧ ∀ x H', J1.yld j H x H' → g1 x (wipe σ2 vs1) H' fun σ3 H5 => wipe σ3 vs1 = wipe σ2 vs1 ∧ tt1 σ3 H5 fun b H6 =>
          if b = true then te σ3 H6 fun y H7 => ∃ acc, H7 D = some (.lst acc) ∧ acc.length < sizeLine ∧ Nx1 (upd H7 D (.lst (acc ++ [y]))) else Nx1 H6) else Nx H3)
    (hd : ∀ H, Pv xs.length H → Qd H) :
    ∃ W : Nat → Nat → Hp → Prop, (∃ m, W 0 m (upd H1 D (.lst []))) ∧ ∀ i m H, W i m H →
  ((Itet K a).stop i H ∧ Qd H) ∨ ((Itet K a).go i H ∧ ∃ Nx : Hp → Prop, (∀ H', Nx H' → ∃ m', m' < m ∧ W (i + 1) m' H') ∧ ∀ x H', (Itet K a).yld i H x H' → g x (wipe σ vs) H' fun σ2 H2 => wipe σ2 vs = wipe σ vs ∧ tt σ2 H2 fun b H3 =>
    if b = true then wi1 σ2 H3 fun J1 H4 => ∃ W1 : Nat → Nat → Hp → Prop, (∃ m, W1 0 m H4) ∧ ∀ j k H, W1 j k H →
        (J1.stop j H ∧ Nx H) ∨ (J1.go j H ∧ ∃ Nx1 : Hp → Prop, (∀ H', Nx1 H' → ∃ k', k' < k ∧ W1 (j + 1) k' H') ∧ ∀ x H', J1.yld j H x H' → g1 x (wipe σ2 vs1) H' fun σ3 H5 => wipe σ3 vs1 = wipe σ2 vs1 ∧ tt1 σ3 H5 fun b H6 =>
          if b = true then te σ3 H6 fun y H7 => ∃ acc, H7 D = some (.lst acc) ∧ acc.length < sizeLine ∧ Nx1 (upd H7 D (.lst (acc ++ [y]))) else Nx1 H6) else Nx H3) := by
  refine ⟨fun i m H => m = xs.length - i ∧ i ≤ xs.length ∧ Pv i H, ⟨xs.length, by simp, Nat.zero_le _, h0⟩, ?_⟩
  rintro i m H ⟨rfl, hi, p⟩
  have q := hl i H hi p
  by_cases hlt : i < xs.length
  · refine .inr ⟨⟨xs, xs[i], q, by simp [hlt]⟩, Pv (i + 1), fun H' p' => ⟨xs.length - (i + 1), by omega, rfl, hlt, p'⟩, fun x H' y => ?_⟩
    obtain ⟨T, z, e1, e2, e3, e4⟩ := y
    subst e1 e3
    exact hs i z H T (e4 xs q) p e2 _ fun _ z => z
  · have e : i = xs.length := by omega
    subst e
    exact .inl ⟨⟨xs, q, rfl⟩, hd H p⟩
theorem pairsOf_mem {ds : List Ent} {c b : Nat} (h : linkB ds c b = true) : (c, b) ∈ pairsOf ds := by
  unfold linkB at h
  rw [Bool.and_eq_true] at h
  exact List.mem_flatMap.mpr ⟨c, List.mem_range.mpr (of_decide_eq_true h.1), List.mem_map.mpr ⟨b, List.contains_iff_mem.mp h.2, rfl⟩⟩
section
variable {P : Program} {w : World} {K : PySem.W.Frag} {mg : Str → Option Value} {base : Heap} {f fI fN fA fG C Cl z0 pA : Addr} {fd fdI fdN fdA fdG : FuncData}
def spAllL (C Cl : Addr) : Sp := fun vs H Q _ => ∃ (p wp : Addr) (ds : List Ent) (ls : List (Nat × Nat)), vs = [.ref p] ∧ LinksAt H p Cl wp C ds ls ∧ DsOk ds ∧ ds.length ≤ 12 ∧ ∀ t us H', Same H H' → H' t = some (.tup us) → PairsAt H' us (pairsOf ds) → Q (.ref t) H'
theorem sc_allL : FnScope ["self", "c", "bases", "base"] ["self"] (defScope (inClass (top 17) 1)) := ⟨rfl, rfl, rfl, by decide +kernel, rfl, by decide +kernel, by decide +kernel⟩
theorem ok_allL (F : FnM K "all_links" "Links.all_links" (inClass (top 17) 1) f fd) (B : Fr mg) (TC : ClsWorld K mg C) (TL : ClsF K Cl ["world", "shared"]) : FnOk P w K mg base CX0 1 f fd ["self"] (spAllL C Cl) := by
  refine F.ok sc_allL (fun vs H Q E h => ?_) (fun cdv A outer s H vs Q E hr h => ?_)
  · obtain ⟨p, wp, ds, ls, rfl, _⟩ := h
    rfl
  · obtain ⟨p, wp, ds, ls, rfl, hL, ok, h12, k⟩ := h
    refine ⟨_, PSs.nox (pss_one (ps_ret (pe_callTy (T := "tuple") (r := rTupOf K) (call_tup (X := _)) (by rfl) B.tuple (by decide +kernel) (pa_cons
      (pe_lc2 (own := [("c", 1), ("bases", 2), ("base", 3)]) (vs1 := [3]) (g := gTup K 2 (gCons (gName 1) (gCons (gName 2) gNil))) (g1 := gName 3) (tt := tYes) (tt1 := tYes) (te := tTup (tCons (tVar 1) (tCons (tVar 3) tNil))) (wi1 := iTup K (tVar 2)) rfl sc_allL.nd (pi_enumT (by rfl) B.enumerate (pa_cons (pe_fld (pe_fld (pv 0) rfl) rfl) pa_nil)) (blkOk_by (N := ["self", "c", "bases", "base"]) (sc := defScope (inClass (top 17) 1)) (by decide +kernel)) (by decide)
        (fun _ _ _ _ _ => pg_tup (by rfl) (pgs_cons (pg_name (i := 1) sc_allL.nd rfl (Or.inl rfl)) (pgs_cons (pg_name (i := 2) sc_allL.nd rfl (Or.inl rfl)) pgs_nil))) (fun _ _ _ _ _ => pts_nil)
        (fun _ _ _ _ _ => pi_tup (pv 2))
        (fun _ _ _ _ _ => pg_name (i := 3) sc_allL.nd rfl (Or.inl rfl)) (fun _ _ _ _ _ => pts_nil) (fun _ _ _ _ _ => pe_tup (pa_cons (pv 1) (pa_cons (pv 3) pa_nil)))) pa_nil)))), ?_⟩
    obtain ⟨dl, st, sus, l1, hw, l3, l4⟩ := hL
    obtain ⟨dx, ac, ab, ao, am, ae, ah, cs, bs, ms, es, hs, h1, h2, h3, h4, h5, _⟩ := hw
    have lbs : bs.length = ds.length := by
      have := Paired.length h5
      rw [List.length_map] at this
      exact this
    refine ⟨_, rfl, p, Cl, dl, _, _, rfl, l1, TL.cl, TL.no _ (List.mem_of_getElem? (i := 0) rfl), rfl, wp, C, dx, _, _, rfl, h1, TC.cl, TC.no _ (List.mem_of_getElem? (i := 1) rfl), rfl, ab, bs, rfl, SqT.of h4, fun D hD => lc2_outE (K := K) (a := ab) (xs := bs) (fun i H' => Same H H' ∧ ∃ us, H' D = some (.lst us) ∧ PairsAt H' us (pairsUp ds i)) ⟨same_new hD, [], upd_same, .nil⟩ (fun i H' _ z => SqT.of (z.1 _ _ h4)) ?_ ?_⟩
    · rintro i x H1 T hi ⟨s1, us, hD1, hP⟩ hT Nx hNx
      have il := (List.getElem?_eq_some_iff.mp hi).1
      obtain ⟨d, hd⟩ : ∃ d, ds[i]? = some d := ⟨_, List.getElem?_eq_getElem (by omega)⟩
      have ed : basesOf ds i = d.1 := by
        unfold basesOf
        rw [List.getD_eq_getElem?_getD, hd]
        rfl
      obtain ⟨t, e1, e2⟩ := h5.get (i := i) (l := d.1) (by rw [List.getElem?_map, hd]; rfl)
      rw [hi] at e1
      obtain rfl := Option.some.inj e1
      have sT := same_new (o := .tup [.int (i : Nat), .ref t]) hT
      have s2 := s1.trans sT
      have D2 := sT _ _ hD1
      have P2 := hP.same sT
      have pl := pairsUp_len ok i
      have dl3 := (ok i d hd).2.2.1
      refine ⟨T, _, rfl, SqT.of upd_same, rfl, _, _, rfl, _, _, rfl, rfl, rfl, _, rfl, t, rfl, ⟨_, SqT.of (s2 _ _ e2)⟩, ?_⟩
      refine lc2_inT (K := K) (a := t) (xs := d.1.map natV) (fun j H' => Same H H' ∧ ∃ us, H' D = some (.lst us) ∧ PairsAt H' us (pairsUp ds i ++ (d.1.take j).map fun b => (i, b))) ⟨s2, us, D2, by rw [List.take_zero, List.map_nil, List.append_nil]; exact P2⟩ (fun j H' _ z => SqT.of (z.1 _ _ e2)) ?_ ?_
      · rintro j v H3 hj ⟨s3, us3, D3, P3⟩
        rw [List.getElem?_map] at hj
        obtain ⟨b, hb, rfl⟩ := Option.map_eq_some_iff.mp hj
        refine ⟨rfl, _, rfl, _, rfl, (by show 2 ≤ sizeLine; decide), fun T2 hT2 => ?_⟩
        have sT2 := same_new (o := .tup [natV i, natV b]) hT2
        have D4 := sT2 _ _ D3
        have TD : T2 ≠ D := Ne.symm (ne_of_none D3 hT2)
        have ul := P3.len
        rw [List.length_append, List.length_map, List.length_take] at ul
        refine ⟨us3, D4, (by show _ < 2 ^ 24; omega), same_upd (s3.trans sT2) hD, us3 ++ [.ref T2], upd_same, ?_⟩
        rw [List.take_add_one, hb, Option.toList_some, List.map_append, ← List.append_assoc]
        exact (PairsAt.updL' D4 (P3.same sT2)).app (.cons ⟨T2, rfl, upB TD upd_same⟩ .nil)
      · rintro H3 ⟨s3, us3, D3, P3⟩
        refine hNx _ ⟨s3, us3, D3, ?_⟩
        rw [List.length_map, List.take_length] at P3
        rw [pairsUp_succ, ed]
        exact P3
    · rintro H1 ⟨s1, us, hD1, hP⟩
      rw [lbs] at hP
      exact tup_q (.inl hD1) fun t H2 s2 ht => k t us H2 (s1.trans s2) ht (hP.same s2)
def spWithSh (C Cl : Addr) : Sp := fun vs H Q _ => ∃ (p wp : Addr) (ds : List Ent) (ls : List (Nat × Nat)) (c b : Nat), vs = [.ref p, natV c, natV b] ∧ LinksAt H p Cl wp C ds ls ∧ DsOk ds ∧ ds.length ≤ 12 ∧ LsOk ds ls ∧ linkB ds c b = true ∧ (c, b) ∉ ls ∧
  ∀ q H' ls', Same H H' → LinksAt H' q Cl wp C ds ls' → ls'.Perm (ls ++ [(c, b)]) → Q (.ref q) H'
theorem links_q {Q : VK} {E : XK} {H : Hp} {y dy x t : Addr} {ds : List Ent} {us : List V} {qs : List (Nat × Nat)} (hy : H y = none) (hdy : H dy = none) (ne : dy ≠ y) (hW : WorldAt H x C ds) (h12 : ds.length ≤ 12) (ht : H t = some (.tup us)) (hP : PairsAt H us qs) (ok : DsOk ds) (lok : LsOk ds qs)
    (q : ∀ H' ls', Same H H' → LinksAt H' y Cl x C ds ls' → ls'.Perm qs → Q .non H') : spLinksI C Cl (.ref y :: ([.ref x, .ref t] ++ [])) (upd (upd H dy (.own y)) y (.ins Cl dy [])) Q E := by
  have sX := (same_new (o := .own y) hdy).trans (same_new (o := .ins Cl dy []) (by rw [upd_ne (Ne.symm ne)]; exact hy))
  have X1 : upd (upd H dy (.own y)) y (.ins Cl dy []) y = some (.ins Cl dy []) := upd_same
  have hWX := hW.mono sX
  have hPX := hP.same sX
  have htX := sX _ _ ht
  have few := lok.few ok
  have xy : x ≠ y := fun z => by
    obtain ⟨dw, _, _, _, _, _, _, _, _, _, _, _, w1, _⟩ := hW
    rw [z, hy] at w1
    cases w1
  generalize upd (upd H dy (.own y)) y (.ins Cl dy []) = G at sX X1 hWX hPX htX ⊢
  exact ⟨y, dy, x, t, ds, us, qs, rfl, X1, hWX, h12, .inr htX, hPX.couples, lok.1, lok.2, by omega, xy, fun H6 ls' O6 pm so hLk => q H6 ls' (fun b o e => O6 b o (ne_of_none e hy) (sX _ _ e)) hLk pm⟩
def spFlat (C Cl : Addr) : Sp := fun vs H Q _ => ∃ (p wp : Addr) (ds : List Ent) (ls : List (Nat × Nat)), vs = [.ref p] ∧ LinksAt H p Cl wp C ds ls ∧ DsOk ds ∧ ds.length ≤ 12 ∧ ∀ q H' ls', Same H H' → LinksAt H' q Cl wp C ds ls' → ls'.Perm (pairsOf ds) → Q (.ref q) H'
end
end K83

set_option maxRecDepth 100000
set_option maxHeartbeats 8000000
namespace K83
open PySem PySem.Spec PyProof.Rows L2 Kw
/-! ### the block of a part -/
abbrev Cell : Type := List Nat × Option Nat
def ownsN (ds : List Ent) (c : Nat) : Nat := (ds.getD c ([], 0, [])).2.1
def ownC (ds : List Ent) (ws : List Nat) (c : Nat) : List Cell := (ws, none) :: (List.range (ownsN ds c)).map fun i => (ws, some i)
def noteB (nt : List Nat) (b : Nat) : List Nat := if b ∈ nt then nt else nt ++ [b]
def stepK (ls : List (Nat × Nat)) (blk : List Nat → Nat → List Nat → List Cell × List Nat) (ws : List Nat) (c : Nat) (acc : List Cell × List Nat) (b : Nat) : List Cell × List Nat :=
  if (c, b) ∈ ls then (acc.1, noteB acc.2 b) else (acc.1 ++ (blk (ws ++ [b]) b acc.2).1, (blk (ws ++ [b]) b acc.2).2)
def blk (ds : List Ent) (ls : List (Nat × Nat)) : Nat → List Nat → Nat → List Nat → List Cell × List Nat
  | 0, ws, c, nt => (ownC ds ws c, nt)
  | n + 1, ws, c, nt => (((basesOf ds c).foldl (stepK ls (blk ds ls n) ws c) ([], nt)).1 ++ ownC ds ws c, ((basesOf ds c).foldl (stepK ls (blk ds ls n) ws c) ([], nt)).2)
theorem foldl_take {α β : Type} (f : β → α → β) (x : β) {l : List α} {i : Nat} {a : α} (h : l[i]? = some a) : (l.take (i + 1)).foldl f x = f ((l.take i).foldl f x) a := by
  rw [List.take_add_one, h, Option.toList_some, List.foldl_append]
  rfl
def NtOk (ds : List Ent) (nt : List Nat) : Prop := nt.Nodup ∧ ∀ x ∈ nt, x < ds.length
theorem NtOk.note {ds : List Ent} {nt : List Nat} {b : Nat} (h : NtOk ds nt) (hb : b < ds.length) : NtOk ds (noteB nt b) := by
  unfold noteB
  by_cases z : b ∈ nt
  · rw [if_pos z]
    exact h
  · rw [if_neg z]
    refine ⟨List.nodup_append.mpr ⟨h.1, by simp, fun a ha x hx e => z ?_⟩, fun x hx => ?_⟩
    · rw [List.mem_singleton.mp hx] at e
      exact e ▸ ha
    · rcases List.mem_append.mp hx with hx | hx
      · exact h.2 x hx
      · rw [List.mem_singleton.mp hx]
        exact hb
theorem NtOk.len {ds : List Ent} {nt : List Nat} (h : NtOk ds nt) : nt.length ≤ ds.length := by
  have := nodup_len (m := List.range ds.length) h.1 fun x hx => List.mem_range.mpr (h.2 x hx)
  rw [List.length_range] at this
  exact this
/-- sums of powers of unlike numbers -/
theorem pow_sum : ∀ (c : Nat) (l : List Nat), l.Nodup → (∀ b ∈ l, b < c) → (l.map fun b => 2 ^ b).sum + 1 ≤ 2 ^ c
  | 0, [], _, _ => Nat.le_refl _
  | 0, b :: _, _, h => absurd (h b List.mem_cons_self) (Nat.not_lt_zero _)
  | c + 1, l, nd, h => by
    by_cases z : c ∈ l
    · have p := List.perm_cons_erase z
      have e : (l.map fun b => 2 ^ b).sum = 2 ^ c + ((l.erase c).map fun b => 2 ^ b).sum := by
        rw [(p.map _).sum_nat, List.map_cons, List.sum_cons]
      have ih := pow_sum c (l.erase c) (nd.erase c) fun b hb => by
        have h1 := h b (List.mem_of_mem_erase hb)
        have h2 : b ≠ c := fun q => by
          rw [q] at hb
          exact nd.not_mem_erase hb
        omega
      rw [Nat.pow_succ]
      omega
    · have ih := pow_sum c l nd fun b hb => by
        have h1 := h b hb
        have h2 : b ≠ c := fun q => z (q ▸ hb)
        omega
      rw [Nat.pow_succ]
      omega
theorem ownsN_le {ds : List Ent} (ok : DsOk ds) (c : Nat) : ownsN ds c ≤ 3 := by
  unfold ownsN
  rw [List.getD_eq_getElem?_getD]
  cases e : ds[c]? with
  | none => exact Nat.zero_le _
  | some d => exact (ok c d e).2.2.2.1
theorem ownC_len {ds : List Ent} (ok : DsOk ds) (ws : List Nat) (c : Nat) : (ownC ds ws c).length ≤ 4 := by
  unfold ownC
  rw [List.length_cons, List.length_map, List.length_range]
  have := ownsN_le ok c
  omega
theorem basesOf_nodup {ds : List Ent} (ok : DsOk ds) (c : Nat) : (basesOf ds c).Nodup := by
  unfold basesOf
  rw [List.getD_eq_getElem?_getD]
  cases e : ds[c]? with
  | none => exact .nil
  | some d => exact (ok c d e).1
theorem foldK_len {ds : List Ent} {ls : List (Nat × Nat)} {n : Nat} (ih : ∀ ws c nt, (blk ds ls n ws c nt).1.length ≤ 4 * 2 ^ c) (ws : List Nat) (c : Nat) : ∀ (l : List Nat) (acc : List Cell × List Nat), (l.foldl (stepK ls (blk ds ls n) ws c) acc).1.length ≤ acc.1.length + 4 * (l.map fun b => 2 ^ b).sum
  | [], acc => by simp
  | b :: l, acc => by
    rw [List.foldl_cons, List.map_cons, List.sum_cons]
    have h := foldK_len ih ws c l (stepK ls (blk ds ls n) ws c acc b)
    have h2 : (stepK ls (blk ds ls n) ws c acc b).1.length ≤ acc.1.length + 4 * 2 ^ b := by
      unfold stepK
      split
      · exact Nat.le_add_right _ _
      · rw [List.length_append]
        have := ih (ws ++ [b]) b acc.2
        omega
    omega
theorem blk_len {ds : List Ent} (ok : DsOk ds) {ls : List (Nat × Nat)} : ∀ (n : Nat) (ws : List Nat) (c : Nat) (nt : List Nat), (blk ds ls n ws c nt).1.length ≤ 4 * 2 ^ c
  | 0, ws, c, nt => by
    have h1 := ownC_len ok ws c
    have h2 : 1 ≤ 2 ^ c := Nat.one_le_pow _ _ (by decide)
    show (ownC ds ws c).length ≤ 4 * 2 ^ c
    omega
  | n + 1, ws, c, nt => by
    unfold blk
    have h1 := ownC_len ok ws c
    have h2 := foldK_len (ls := ls) (n := n) (blk_len ok n) ws c (basesOf ds c) ([], nt)
    have h3 := pow_sum c (basesOf ds c) (basesOf_nodup ok c) fun b hb => (basesOf_lt ok hb).1
    rw [List.length_append]
    have h4 : (([], nt) : List Cell × List Nat).1.length = 0 := rfl
    omega
theorem foldK_nt {ds : List Ent} {ls : List (Nat × Nat)} {n : Nat} (ih : ∀ ws c nt, c < ds.length → NtOk ds nt → NtOk ds (blk ds ls n ws c nt).2) (ws : List Nat) (c : Nat) : ∀ (l : List Nat) (acc : List Cell × List Nat), (∀ b ∈ l, b < ds.length) → NtOk ds acc.2 → NtOk ds (l.foldl (stepK ls (blk ds ls n) ws c) acc).2
  | [], acc, _, h => h
  | b :: l, acc, hl, h => by
    rw [List.foldl_cons]
    refine foldK_nt ih ws c l _ (fun x hx => hl x (List.mem_cons_of_mem _ hx)) ?_
    unfold stepK
    split
    · exact h.note (hl b List.mem_cons_self)
    · exact ih _ _ _ (hl b List.mem_cons_self) h
theorem blk_nt {ds : List Ent} (ok : DsOk ds) {ls : List (Nat × Nat)} : ∀ (n : Nat) (ws : List Nat) (c : Nat) (nt : List Nat), c < ds.length → NtOk ds nt → NtOk ds (blk ds ls n ws c nt).2
  | 0, _, _, _, _, h => h
  | n + 1, ws, c, nt, hc, h => by
    unfold blk
    exact foldK_nt (blk_nt ok n) ws c _ _ (fun b hb => by have := basesOf_lt ok hb; omega) h
end K83

set_option maxRecDepth 100000
set_option maxHeartbeats 8000000
namespace K83
open PySem PySem.Spec PyProof.Rows L2 Kw
theorem TupK.updL {H : Hp} {D : Addr} {us ws : List V} (hD : H D = some (.lst us)) : TupK H (upd H D (.lst ws)) := fun b zs e => upB (fun z => by rw [z, hD] at e; cases e) e
theorem stepK_in {ls : List (Nat × Nat)} {bk : List Nat → Nat → List Nat → List Cell × List Nat} {ws : List Nat} {c b : Nat} {acc : List Cell × List Nat} (z : (c, b) ∈ ls) : stepK ls bk ws c acc b = (acc.1, noteB acc.2 b) := if_pos z
theorem stepK_out {ls : List (Nat × Nat)} {bk : List Nat → Nat → List Nat → List Cell × List Nat} {ws : List Nat} {c b : Nat} {acc : List Cell × List Nat} (z : (c, b) ∉ ls) : stepK ls bk ws c acc b = (acc.1 ++ (bk (ws ++ [b]) b acc.2).1, (bk (ws ++ [b]) b acc.2).2) := if_neg z
def whatV : Option Nat → V
  | none => .str "head"
  | some i => natV i
def CellsAt (H : Hp) : List V → List Cell → Prop := Paired fun v cl => ∃ t wt, v = .ref t ∧ H t = some (.tup [.ref wt, whatV cl.2]) ∧ H wt = some (.tup (cl.1.map natV))
theorem CellsAt.mono {H H' : Hp} (k : TupK H H') {us : List V} {cs : List Cell} (h : CellsAt H us cs) : CellsAt H' us cs := paired_imp (fun _ _ ⟨t, wt, e, h1, h2⟩ => ⟨t, wt, e, k _ _ h1, k _ _ h2⟩) h
theorem CellsAt.app {H : Hp} {us vs : List V} {cs es : List Cell} (h : CellsAt H us cs) (g : CellsAt H vs es) : CellsAt H (us ++ vs) (cs ++ es) := paired_app h g
theorem CellsAt.len {H : Hp} {us : List V} {cs : List Cell} (h : CellsAt H us cs) : us.length = cs.length := Paired.length h
/-- all stands but two lists -/
def Ex2 (A B : Addr) (H H' : Hp) : Prop := ∀ x o, x ≠ A → x ≠ B → H x = some o → H' x = some o
theorem Ex2.trans {A B : Addr} {H H1 H2 : Hp} (a : Ex2 A B H H1) (b : Ex2 A B H1 H2) : Ex2 A B H H2 := fun x o n1 n2 e => b x o n1 n2 (a x o n1 n2 e)
theorem Ex2.of {A B : Addr} {H H' : Hp} (s : Same H H') : Ex2 A B H H' := fun x o _ _ e => s x o e
theorem Ex2.updA {A B : Addr} {H H' : Hp} {o : HO} (h : Ex2 A B H H') : Ex2 A B H (upd H' A o) := fun x u n1 n2 e => upB n1 (h x u n1 n2 e)
theorem Ex2.updB {A B : Addr} {H H' : Hp} {o : HO} (h : Ex2 A B H H') : Ex2 A B H (upd H' B o) := fun x u n1 n2 e => upB n2 (h x u n1 n2 e)
theorem Ex2.tupK {A B : Addr} {H H' : Hp} {xs ys : List V} (h : Ex2 A B H H') (hA : H A = some (.lst xs)) (hB : H B = some (.lst ys)) : TupK H H' := fun b zs e => h b _ (fun z => by rw [z, hA] at e; cases e) (fun z => by rw [z, hB] at e; cases e) e
theorem PairsAt.tk {H H' : Hp} (k : TupK H H') : ∀ {us : List V} {ps : List (Nat × Nat)}, PairsAt H us ps → PairsAt H' us ps
  | [], [], _ => .nil
  | _ :: _, _ :: _, .cons ⟨t, e, h⟩ r => .cons ⟨t, e, k _ _ h⟩ (PairsAt.tk k r)
theorem LinksAt.ex2 {A B : Addr} {H H' : Hp} {xs ys : List V} {p Cl wp C : Addr} {ds : List Ent} {ls : List (Nat × Nat)} (L : LinksAt H p Cl wp C ds ls) (h : Ex2 A B H H') (hA : H A = some (.lst xs)) (hB : H B = some (.lst ys)) : LinksAt H' p Cl wp C ds ls := by
  have kt := h.tupK hA hB
  have ki : ∀ {b C' dx : Addr} {fs : List (Str × V)}, H b = some (.ins C' dx fs) → H' b = some (.ins C' dx fs) := fun e => h _ _ (fun z => by rw [z, hA] at e; cases e) (fun z => by rw [z, hB] at e; cases e) e
  obtain ⟨dl, st, us, l1, hw, l3, l4⟩ := L
  obtain ⟨dx, ac, ab, ao, am, ae, ah, cs, bs, ms, es, hs, h1, h2, h3, h4, h5, h6, h7, h8, h9, h10, h11, h12⟩ := hw
  exact ⟨dl, st, us, ki l1, ⟨dx, ac, ab, ao, am, ae, ah, cs, bs, ms, es, hs, ki h1, kt _ _ h2, h3.mono kt, kt _ _ h4, h5.mono kt, kt _ _ h6, kt _ _ h7, h8.mono kt, kt _ _ h9, h10.mono kt, kt _ _ h11, h12.mono kt⟩, kt _ _ l3, PairsAt.tk kt l4⟩
theorem lsIn_nat {nt : List Nat} {b : Nat} : inV (natV b) (nt.map natV) = decide (b ∈ nt) := by
  rw [show inV (natV b) (nt.map natV) = nt.contains b from inV_nat _ _]
  by_cases z : b ∈ nt
  · rw [List.contains_iff_mem.mpr z, decide_eq_true z]
  · rw [decide_eq_false z]
    exact Bool.eq_false_iff.mpr fun q => z (List.contains_iff_mem.mp q)
section
variable {P : Program} {w : World} {K : PySem.W.Frag} {mg : Str → Option Value} {base : Heap} {f fP fSh C Cl Cp : Addr} {fd fdP fdSh : FuncData}
def spPartI (Cp : Addr) : Sp := fun vs H Q _ => ∃ (p dx : Addr) (x y : V), vs = [.ref p, x, y] ∧ H p = some (.ins Cp dx []) ∧ ∀ H', Oth p H H' → H' p = some (.ins Cp dx [("way", x), ("place", y)]) → Q .non H'
theorem sc_partI : FnScope ["self", "way", "place"] ["self", "way", "place"] (defScope (inClass (top 23) 0)) := ⟨rfl, rfl, rfl, by decide +kernel, rfl, by decide +kernel, by decide +kernel⟩
theorem ok_partI (F : FnM K "__init__" "Part.__init__" (inClass (top 23) 0) f fd) (TP : ClsF K Cp ["way", "place"]) : FnOk P w K mg base CX0 1 f fd ["self", "way", "place"] (spPartI Cp) := by
  refine F.ok sc_partI (fun vs H Q E h => ?_) (fun cdv A outer s H vs Q E hr h => ?_)
  · obtain ⟨p, dx, x, y, rfl, _⟩ := h
    rfl
  · obtain ⟨p, dx, x, y, rfl, hp, k⟩ := h
    refine ⟨_, PSs.nox (pss_cons (ps_fld (pv 0) (pv 1) rfl) (pss_one (ps_fld (pv 0) (pv 2) rfl))), ?_⟩
    refine ⟨_, rfl, _, rfl, p, Cp, dx, [], rfl, hp, TP.cl, TP.no _ (List.mem_of_getElem? (i := 0) rfl), (by show 0 < _; decide), ?_⟩
    refine ⟨_, rfl, _, rfl, p, Cp, dx, _, rfl, upd_same, TP.cl, TP.no _ (List.mem_of_getElem? (i := 1) rfl), (by show 1 < _; decide), ?_⟩
    exact k _ (fun b o n e => upB n (upB n e)) upd_same
def spBlk (n : Nat) (C Cl : Addr) : Sp := fun vs H Q _ => ∃ (p wp t A B : Addr) (ds : List Ent) (ls : List (Nat × Nat)) (ws nt : List Nat) (c : Nat) (us : List V), vs = [.ref p, .ref t, .ref A, .ref B] ∧ LinksAt H p Cl wp C ds ls ∧ DsOk ds ∧ ds.length ≤ 12 ∧ H t = some (.tup (ws.map natV)) ∧ ws.getLast? = some c ∧ c < ds.length ∧ c ≤ n ∧ ws.length + c ≤ 30 ∧
  H A = some (.lst us) ∧ us.length + 4 * 2 ^ c ≤ 1000000 ∧ H B = some (.lst (nt.map natV)) ∧ NtOk ds nt ∧ A ≠ B ∧
  ∀ H' us', Ex2 A B H H' → H' A = some (.lst (us ++ us')) → CellsAt H' us' (blk ds ls n ws c nt).1 → H' B = some (.lst ((blk ds ls n ws c nt).2.map natV)) → Q .non H'
theorem sc_blk : FnScope ["links", "way", "cells", "noted", "c", "base", "index"] ["links", "way", "cells", "noted"] (defScope (top 25)) := ⟨rfl, rfl, rfl, by decide +kernel, rfl, by decide +kernel, by decide +kernel⟩
theorem ok_blk (F : FnP K "lay_block" 25 f fd) (B : Fr mg) (zh : ∃ t, mg "HEAD" = some (.str "head" t)) (mF : mg "lay_block" = some (.ref f)) (TC : ClsWorld K mg C) (TL : ClsF K Cl ["world", "shared"]) (MS : Meth K Cl "is_shared" fSh) (FS : FnM K "is_shared" "Links.is_shared" (inClass (top 17) 2) fSh fdSh) (GS : FnOk P w K mg base CX0 4 fSh fdSh ["self", "c", "base"] (spShared C Cl)) : ∀ n : Nat, FnOk P w K mg base CX0 (n + 5) f fd ["links", "way", "cells", "noted"] (spBlk n C Cl) := by
  have bF : L2.Binds K fd ["links", "way", "cells", "noted"] [] := F.bindsN fun _ _ _ _ _ _ us hl => match us, hl with | [_, _, _, _], _ => rfl
  have bS : L2.Binds K fdSh ["self", "c", "base"] [] := FS.bindsN fun _ _ _ _ _ _ us hl => match us, hl with | [_, _, _], _ => rfl
  obtain ⟨th, zh⟩ := zh
  intro n
  induction n with
  | zero =>
    refine F.ok sc_blk (fun vs H Q E h => ?_) (fun cdv A outer s H vs Q E hr h => ?_)
    · obtain ⟨p, wp, t, A, B, ds, ls, ws, nt, c, us, rfl, _⟩ := h
      rfl
    · obtain ⟨p, wp, t, A1, B1, ds, ls, ws, nt, c, us, rfl, hL, ok, h12, ht, hl, hc, cn, wl, hA, ub, hB, nok, ab1, k⟩ := h
      refine ⟨_, PSs.nox (pss_cons (ps_set (i := 4) sc_blk.nd rfl (Or.inl rfl) (pe_ix (r := rIxT K) ix_tup (pv 1) (pe_un un_neg pe_int) (fun _ _ => rfl)))
        (pss_cons (ps_for PassesOwn.never rfl (pi_tup (pe_ix (r := rIxT K) ix_tup (pe_fld (pe_fld (pv 0) rfl) rfl) (pv 4) (fun _ _ => rfl))) (pg_name (i := 5) sc_blk.nd rfl (Or.inl rfl))
          (pss_one ps_never))
        (pss_cons (ps_expr (pe_bm PySem.F.plainAttrs_list PySem.F.slot_list_append PySem.F.type_list_append mt_append (pv 2) (pa_cons (pe_tup (pa_cons (pv 1) (pa_cons (pe_glob (v := .str "head") (by rfl) zh ⟨_, rfl⟩) pa_nil))) pa_nil)))
        (pss_one (ps_for PassesOwn.never rfl (pi_range1 (by rfl) B.range (pa_cons (pe_ix (r := rIxT K) ix_tup (pe_fld (pe_fld (pv 0) rfl) rfl) (pv 4) (fun _ _ => rfl)) pa_nil)) (pg_name (i := 6) sc_blk.nd rfl (Or.inl rfl))
          (pss_one (ps_expr (pe_bm PySem.F.plainAttrs_list PySem.F.slot_list_append PySem.F.type_list_append mt_append (pv 2) (pa_cons (pe_tup (pa_cons (pv 1) (pa_cons (pv 6) pa_nil))) pa_nil))))))))), ?_⟩
      have hL0 := hL
      obtain ⟨dl, st, sus, l1, hw, l3, l4⟩ := hL
      obtain ⟨dx, ac, ab, ao, am, ae, ah, cs, bs, ms, es, hs, h1, h2, h3, h4, h5, h6, _⟩ := hw
      obtain ⟨d, hd⟩ : ∃ d, ds[c]? = some d := ⟨_, List.getElem?_eq_getElem hc⟩
      have ed : basesOf ds c = d.1 := by
        unfold basesOf
        rw [List.getD_eq_getElem?_getD, hd]
        rfl
      have eo : ownsN ds c = d.2.1 := by
        unfold ownsN
        rw [List.getD_eq_getElem?_getD, hd]
        rfl
      have o3 := ownsN_le ok c
      obtain ⟨tb, e1, e2⟩ := h5.get (i := c) (l := d.1) (by rw [List.getElem?_map, hd]; rfl)
      have eog : ((ds.map (·.2.1)).map natV)[c]? = some (natV (ownsN ds c)) := by rw [List.getElem?_map, List.getElem?_map, hd, eo]; rfl
      rw [← ed] at e2
      have kk : ∀ {H' : Hp}, Ex2 A1 B1 H H' → TupK H H' ∧ LinksAt H' p Cl wp C ds ls := fun h => ⟨h.tupK hA hB, hL0.ex2 h hA hB⟩
      have ki : ∀ {H' : Hp} {b C' dx : Addr} {fs : List (Str × V)}, Ex2 A1 B1 H H' → H b = some (.ins C' dx fs) → H' b = some (.ins C' dx fs) := fun h e => h _ _ (fun z => by rw [z, hA] at e; cases e) (fun z => by rw [z, hB] at e; cases e) e
      refine ⟨_, rfl, _, rfl, t, _, _, _, rfl, rfl, SqT.of ht, last_atI hl, ?_⟩
      refine ⟨_, rfl, p, Cl, dl, _, _, rfl, l1, TL.cl, TL.no _ (List.mem_of_getElem? (i := 0) rfl), rfl, wp, C, dx, _, _, rfl, h1, TC.cl, TC.no _ (List.mem_of_getElem? (i := 1) rfl), rfl, _, rfl, ab, bs, (c : Int), .ref tb, rfl, rfl, SqT.of h4, atI_nat e1, tb, rfl, ⟨_, SqT.of e2⟩, ?_⟩
      have e0 : basesOf ds c = [] := by
        cases h : basesOf ds c with
        | nil => rfl
        | cons b l =>
          have := (basesOf_lt ok (c := c) (b := b) (by rw [h]; exact List.mem_cons_self)).1
          omega
      refine for_tup (K := K) (a := tb) (xs := (basesOf ds c).map natV) (fun i σ H' => ∃ (x5 : Option V) (us' : List V), σ = [some (.ref p), some (.ref t), some (.ref A1), some (.ref B1), some (natV c), x5, none] ∧ Ex2 A1 B1 H H' ∧ H' A1 = some (.lst (us ++ us')) ∧ CellsAt H' us' ([] : List Cell) ∧ H' B1 = some (.lst (nt.map natV)))
        ⟨none, [], rfl, Ex2.of (Same.refl _), by rw [List.append_nil]; exact hA, .nil, hB⟩ (fun i σ H' _ ⟨_, _, _, h, _⟩ => SqT.of ((kk h).1 _ _ e2)) ?_ ?_
      · rintro i y σ H1 hi _
        rw [e0] at hi
        simp at hi
      · rintro σ H1 ⟨x5, us1, rfl, E1, A1', C1, B1'⟩
        have al : (([] : List Cell)).length + (ownC ds ws c).length ≤ 4 * 2 ^ c := by
          have h := blk_len ok (ls := ls) 0 ws c nt
          rw [List.length_nil, Nat.zero_add]
          exact h
        have cl := C1.len
        have oc : (ownC ds ws c).length = 1 + ownsN ds c := by
          unfold ownC
          rw [List.length_cons, List.length_map, List.length_range]
          omega
        refine ⟨_, rfl, .inl ⟨rfl, _, SqL.of A1'⟩, _, rfl, (by show 2 ≤ sizeLine; decide), fun T hT => ?_⟩
        have sT := same_new (o := .tup [.ref t, .str "head"]) hT
        have A2 := sT _ _ A1'
        have TA : T ≠ A1 := Ne.symm (ne_of_none A1' hT)
        refine ⟨A1, _, _, rfl, rfl, A2, (by rw [List.length_append]; show _ < 2 ^ 24; omega), ?_⟩
        have E2 : Ex2 A1 B1 H (upd (upd H1 T (.tup [.ref t, .str "head"])) A1 (.lst (us ++ us1 ++ [.ref T]))) := (E1.trans (Ex2.of sT)).updA
        have A3 : upd (upd H1 T (.tup [.ref t, .str "head"])) A1 (.lst (us ++ us1 ++ [.ref T])) A1 = some (.lst (us ++ (us1 ++ [.ref T]))) := by rw [upd_same, List.append_assoc]
        have B3 : upd (upd H1 T (.tup [.ref t, .str "head"])) A1 (.lst (us ++ us1 ++ [.ref T])) B1 = some (.lst (nt.map natV)) := upB (Ne.symm ab1) (sT _ _ B1')
        have C3 : CellsAt (upd (upd H1 T (.tup [.ref t, .str "head"])) A1 (.lst (us ++ us1 ++ [.ref T]))) (us1 ++ [.ref T]) (([] : List Cell) ++ [(ws, none)]) := ((C1.mono (TupK.of sT)).mono (TupK.updL A2)).app (.cons ⟨T, t, rfl, upB TA upd_same, (kk E2).1 _ _ ht⟩ .nil)
        generalize upd (upd H1 T (.tup [.ref t, .str "head"])) A1 (.lst (us ++ us1 ++ [.ref T])) = H2 at E2 A3 B3 C3 ⊢
        refine ⟨_, rfl, p, Cl, dl, _, _, rfl, ki E2 l1, TL.cl, TL.no _ (List.mem_of_getElem? (i := 0) rfl), rfl, wp, C, dx, _, _, rfl, ki E2 h1, TC.cl, TC.no _ (List.mem_of_getElem? (i := 2) rfl), rfl, _, rfl, ao, _, (c : Int), _, rfl, rfl, SqT.of ((kk E2).1 _ _ h6), atI_nat eog, _, rfl, by omega, by omega, ?_⟩
        refine for_range (n := ownsN ds c) (fun j σ H' => ∃ (x6 : Option V) (us' : List V), σ = [some (.ref p), some (.ref t), some (.ref A1), some (.ref B1), some (natV c), x5, x6] ∧ Ex2 A1 B1 H H' ∧ H' A1 = some (.lst (us ++ us')) ∧ CellsAt H' us' (([] : List Cell) ++ ((ws, none) :: (List.range j).map fun i => (ws, some i))) ∧ H' B1 = some (.lst (nt.map natV)))
          ⟨none, _, rfl, E2, A3, C3, B3⟩ ?_ ?_
        · rintro j σ H3 hj ⟨x6, us3, rfl, E3, A3', C3', B3'⟩
          have ej : (0 : Int) + (j : Int) = (j : Int) := Int.zero_add _
          rw [ej]
          have c3l := C3'.len
          rw [List.length_append, List.length_cons, List.length_map, List.length_range] at c3l
          refine ⟨_, rfl, .inl ⟨rfl, _, SqL.of A3'⟩, _, rfl, _, rfl, (by show 2 ≤ sizeLine; decide), fun T hT => ?_⟩
          have sT := same_new (o := .tup [.ref t, natV j]) hT
          have A4 := sT _ _ A3'
          have TA : T ≠ A1 := Ne.symm (ne_of_none A3' hT)
          have E4 : Ex2 A1 B1 H (upd (upd H3 T (.tup [.ref t, natV j])) A1 (.lst (us ++ us3 ++ [.ref T]))) := (E3.trans (Ex2.of sT)).updA
          refine ⟨A1, _, _, rfl, rfl, A4, (by rw [List.length_append]; show _ < 2 ^ 24; omega), _, us3 ++ [.ref T], rfl, E4, by rw [upd_same, List.append_assoc], ?_, upB (Ne.symm ab1) (sT _ _ B3')⟩
          rw [List.range_succ, List.map_append, ← List.cons_append, ← List.append_assoc]
          exact ((C3'.mono (TupK.of sT)).mono (TupK.updL A4)).app (.cons ⟨T, t, rfl, upB TA upd_same, (kk E4).1 _ _ ht⟩ .nil)
        · rintro σ H3 ⟨x6, us3, rfl, E3, A3', C3', B3'⟩
          exact k H3 us3 E3 A3' C3' B3'
  | succ n ih =>
    refine F.ok sc_blk (fun vs H Q E h => ?_) (fun cdv A outer s H vs Q E hr h => ?_)
    · obtain ⟨p, wp, t, A, B, ds, ls, ws, nt, c, us, rfl, _⟩ := h
      rfl
    · obtain ⟨p, wp, t, A1, B1, ds, ls, ws, nt, c, us, rfl, hL, ok, h12, ht, hl, hc, cn, wl, hA, ub, hB, nok, ab1, k⟩ := h
      refine ⟨_, PSs.nox (pss_cons (ps_set (i := 4) sc_blk.nd rfl (Or.inl rfl) (pe_ix (r := rIxT K) ix_tup (pv 1) (pe_un un_neg pe_int) (fun _ _ => rfl)))
        (pss_cons (ps_for PassesOwn.never rfl (pi_tup (pe_ix (r := rIxT K) ix_tup (pe_fld (pe_fld (pv 0) rfl) rfl) (pv 4) (fun _ _ => rfl))) (pg_name (i := 5) sc_blk.nd rfl (Or.inl rfl))
          (pss_one (ps_if (pt_not (pt_val (pe_meth (pv 0) TL.cl MS GS (hr.mono (by omega)) bS .nil pass0 (pa_cons (pv 4) (pa_cons (pv 5) pa_nil)))))
            (pss_one (ps_expr (pe_call ih hr (by rfl) mF F.kp bF .nil pass0 (pa_cons (pv 0) (pa_cons (pe_op (r := rCatQ K) op_catQ (pv 1) (pe_tup (pa_cons (pv 5) pa_nil))) (pa_cons (pv 2) (pa_cons (pv 3) pa_nil)))))))
            (pss_one (ps_if (pt_cmpR (r := rIn K true) op_notIn_seq (pv 5) (pv 3) (by rfl)) (pss_one (ps_expr (pe_bm PySem.F.plainAttrs_list PySem.F.slot_list_append PySem.F.type_list_append mt_append (pv 3) (pa_cons (pv 5) pa_nil)))) pss_nil)))))
        (pss_cons (ps_expr (pe_bm PySem.F.plainAttrs_list PySem.F.slot_list_append PySem.F.type_list_append mt_append (pv 2) (pa_cons (pe_tup (pa_cons (pv 1) (pa_cons (pe_glob (v := .str "head") (by rfl) zh ⟨_, rfl⟩) pa_nil))) pa_nil)))
        (pss_one (ps_for PassesOwn.never rfl (pi_range1 (by rfl) B.range (pa_cons (pe_ix (r := rIxT K) ix_tup (pe_fld (pe_fld (pv 0) rfl) rfl) (pv 4) (fun _ _ => rfl)) pa_nil)) (pg_name (i := 6) sc_blk.nd rfl (Or.inl rfl))
          (pss_one (ps_expr (pe_bm PySem.F.plainAttrs_list PySem.F.slot_list_append PySem.F.type_list_append mt_append (pv 2) (pa_cons (pe_tup (pa_cons (pv 1) (pa_cons (pv 6) pa_nil))) pa_nil))))))))), ?_⟩
      have hL0 := hL
      obtain ⟨dl, st, sus, l1, hw, l3, l4⟩ := hL
      obtain ⟨dx, ac, ab, ao, am, ae, ah, cs, bs, ms, es, hs, h1, h2, h3, h4, h5, h6, _⟩ := hw
      obtain ⟨d, hd⟩ : ∃ d, ds[c]? = some d := ⟨_, List.getElem?_eq_getElem hc⟩
      have ed : basesOf ds c = d.1 := by
        unfold basesOf
        rw [List.getD_eq_getElem?_getD, hd]
        rfl
      have eo : ownsN ds c = d.2.1 := by
        unfold ownsN
        rw [List.getD_eq_getElem?_getD, hd]
        rfl
      have o3 := ownsN_le ok c
      obtain ⟨tb, e1, e2⟩ := h5.get (i := c) (l := d.1) (by rw [List.getElem?_map, hd]; rfl)
      have eog : ((ds.map (·.2.1)).map natV)[c]? = some (natV (ownsN ds c)) := by rw [List.getElem?_map, List.getElem?_map, hd, eo]; rfl
      rw [← ed] at e2
      have kk : ∀ {H' : Hp}, Ex2 A1 B1 H H' → TupK H H' ∧ LinksAt H' p Cl wp C ds ls := fun h => ⟨h.tupK hA hB, hL0.ex2 h hA hB⟩
      have ki : ∀ {H' : Hp} {b C' dx : Addr} {fs : List (Str × V)}, Ex2 A1 B1 H H' → H b = some (.ins C' dx fs) → H' b = some (.ins C' dx fs) := fun h e => h _ _ (fun z => by rw [z, hA] at e; cases e) (fun z => by rw [z, hB] at e; cases e) e
      refine ⟨_, rfl, _, rfl, t, _, _, _, rfl, rfl, SqT.of ht, last_atI hl, ?_⟩
      refine ⟨_, rfl, p, Cl, dl, _, _, rfl, l1, TL.cl, TL.no _ (List.mem_of_getElem? (i := 0) rfl), rfl, wp, C, dx, _, _, rfl, h1, TC.cl, TC.no _ (List.mem_of_getElem? (i := 1) rfl), rfl, _, rfl, ab, bs, (c : Int), .ref tb, rfl, rfl, SqT.of h4, atI_nat e1, tb, rfl, ⟨_, SqT.of e2⟩, ?_⟩
      refine for_tup (K := K) (a := tb) (xs := (basesOf ds c).map natV) (fun i σ H' => ∃ (x5 : Option V) (us' : List V), σ = [some (.ref p), some (.ref t), some (.ref A1), some (.ref B1), some (natV c), x5, none] ∧ Ex2 A1 B1 H H' ∧ H' A1 = some (.lst (us ++ us')) ∧ CellsAt H' us' (((basesOf ds c).take i).foldl (stepK ls (blk ds ls n) ws c) ([], nt)).1 ∧ H' B1 = some (.lst ((((basesOf ds c).take i).foldl (stepK ls (blk ds ls n) ws c) ([], nt)).2.map natV)))
        ⟨none, [], rfl, Ex2.of (Same.refl _), by rw [List.append_nil]; exact hA, .nil, hB⟩ (fun i σ H' _ ⟨_, _, _, h, _⟩ => SqT.of ((kk h).1 _ _ e2)) ?_ ?_
      · rintro i y σ H1 hi ⟨x5, us1, rfl, E1, A1', C1, B1'⟩
        rw [List.getElem?_map] at hi
        obtain ⟨b, hb, rfl⟩ := Option.map_eq_some_iff.mp hi
        have bm := List.mem_of_getElem? hb
        have bl := (basesOf_lt ok bm).1
        have ft := foldl_take (stepK ls (blk ds ls n) ws c) ([], nt) hb
        have ntk : NtOk ds (((basesOf ds c).take i).foldl (stepK ls (blk ds ls n) ws c) ([], nt)).2 := foldK_nt (blk_nt ok n) ws c _ _ (fun x hx => by have := (basesOf_lt ok (List.mem_of_mem_take hx)).1; omega) nok
        have fl := foldK_len (ls := ls) (n := n) (blk_len ok n) ws c ((basesOf ds c).take i) ([], nt)
        have ps := pow_sum c ((basesOf ds c).take (i + 1)) ((basesOf_nodup ok c).sublist (List.take_sublist _ _)) fun x hx => (basesOf_lt ok (List.mem_of_mem_take hx)).1
        rw [List.take_add_one, hb, Option.toList_some, List.map_append, List.sum_append, List.map_cons, List.sum_cons, List.map_nil, List.sum_nil] at ps
        rw [show (([], nt) : List Cell × List Nat).1.length = 0 from rfl] at fl
        generalize (((basesOf ds c).take i).foldl (stepK ls (blk ds ls n) ws c) ([], nt)) = acc at ft C1 B1' ntk fl
        have cl := C1.len
        have lkb : linkB ds c b = true := by
          unfold linkB
          rw [decide_eq_true hc, Bool.true_and]
          exact List.contains_iff_mem.mpr bm
        refine ⟨_, rfl, p, _, _, rfl, ki E1 l1, rfl, _, rfl, _, rfl, p, wp, ds, ls, c, b, rfl, (kk E1).2, h12, lkb, fun H2 s2 => ⟨_, rfl, ?_⟩⟩
        have E2 := E1.trans (Ex2.of s2)
        have A2 := s2 _ _ A1'
        have B2 := s2 _ _ B1'
        have C2 := C1.mono (TupK.of s2)
        have nl := ntk.len
        by_cases z : (c, b) ∈ ls
        · rw [decide_eq_true z]
          rw [stepK_in z] at ft
          refine iteF' rfl ⟨_, rfl, _, rfl, B1, _, rfl, .inl (SqL.of B2), rfl, flat_nats _, _, rfl, ?_⟩
          show (if (!inV (natV b) (acc.2.map natV)) = true then _ else _)
          rw [lsIn_nat]
          by_cases y : b ∈ acc.2
          · rw [decide_eq_true y]
            have en : noteB acc.2 b = acc.2 := if_pos y
            refine iteF' rfl ⟨_, us1, rfl, E2, A2, by rw [ft]; exact C2, by rw [ft, en]; exact B2⟩
          · rw [decide_eq_false y]
            have en : noteB acc.2 b = acc.2 ++ [b] := if_neg y
            refine iteT' rfl ⟨_, rfl, .inl ⟨rfl, _, SqL.of B2⟩, _, rfl, B1, _, _, rfl, rfl, B2, (by rw [List.length_map]; show _ < 2 ^ 24; omega), _, us1, rfl, E2.updB, upB ab1 A2, ?_, ?_⟩
            · rw [ft]
              exact C2.mono (TupK.updL B2)
            · rw [upd_same, ft, en, List.map_append]
              rfl
        · rw [decide_eq_false z]
          rw [stepK_out z] at ft
          refine iteT' rfl ⟨_, rfl, _, rfl, _, rfl, (by show 1 ≤ sizeLine; decide), fun T hT => ?_⟩
          have sT := same_new (o := .tup [natV b]) hT
          have big : 1000000 < sizeLine := by decide
          refine cat_q (H0 := upd H2 T (.tup [natV b])) (sT _ _ ((kk E2).1 _ _ ht)) upd_same (by rw [List.length_map, List.length_singleton]; omega) (Same.refl _) fun t2 H3 s3 ht2 => ?_
          have s23 := sT.trans s3
          have E3 := E2.trans (Ex2.of s23)
          refine ⟨_, rfl, _, rfl, p, wp, t2, A1, B1, ds, ls, ws ++ [b], acc.2, b, us ++ us1, rfl, (kk E3).2, ok, h12, ?_, by rw [List.getLast?_append]; rfl, by omega, by omega, by rw [List.length_append, List.length_singleton]; omega, s23 _ _ A2, by rw [List.length_append]; omega, s23 _ _ B2, ntk, ab1, fun H4 us4 E4 A4 C4 B4 => ?_⟩
          · rw [List.map_append]
            exact ht2
          · have kt := E4.tupK (s23 _ _ A2) (s23 _ _ B2)
            refine ⟨_, us1 ++ us4, rfl, E3.trans E4, by rw [← List.append_assoc]; exact A4, ?_, by rw [ft]; exact B4⟩
            rw [ft]
            exact ((C2.mono (TupK.of s23)).mono kt).app C4
      · rintro σ H1 ⟨x5, us1, rfl, E1, A1', C1, B1'⟩
        rw [List.length_map, List.take_length] at C1 B1'
        have al : (((basesOf ds c).foldl (stepK ls (blk ds ls n) ws c) ([], nt)).1).length + (ownC ds ws c).length ≤ 4 * 2 ^ c := by
          have := blk_len ok (ls := ls) (n + 1) ws c nt
          unfold blk at this
          rw [List.length_append] at this
          exact this
        have cl := C1.len
        have oc : (ownC ds ws c).length = 1 + ownsN ds c := by
          unfold ownC
          rw [List.length_cons, List.length_map, List.length_range]
          omega
        refine ⟨_, rfl, .inl ⟨rfl, _, SqL.of A1'⟩, _, rfl, (by show 2 ≤ sizeLine; decide), fun T hT => ?_⟩
        have sT := same_new (o := .tup [.ref t, .str "head"]) hT
        have A2 := sT _ _ A1'
        have TA : T ≠ A1 := Ne.symm (ne_of_none A1' hT)
        refine ⟨A1, _, _, rfl, rfl, A2, (by rw [List.length_append]; show _ < 2 ^ 24; omega), ?_⟩
        have E2 : Ex2 A1 B1 H (upd (upd H1 T (.tup [.ref t, .str "head"])) A1 (.lst (us ++ us1 ++ [.ref T]))) := (E1.trans (Ex2.of sT)).updA
        have A3 : upd (upd H1 T (.tup [.ref t, .str "head"])) A1 (.lst (us ++ us1 ++ [.ref T])) A1 = some (.lst (us ++ (us1 ++ [.ref T]))) := by rw [upd_same, List.append_assoc]
        have B3 : upd (upd H1 T (.tup [.ref t, .str "head"])) A1 (.lst (us ++ us1 ++ [.ref T])) B1 = some (.lst (((basesOf ds c).foldl (stepK ls (blk ds ls n) ws c) ([], nt)).2.map natV)) := upB (Ne.symm ab1) (sT _ _ B1')
        have C3 : CellsAt (upd (upd H1 T (.tup [.ref t, .str "head"])) A1 (.lst (us ++ us1 ++ [.ref T]))) (us1 ++ [.ref T]) (((basesOf ds c).foldl (stepK ls (blk ds ls n) ws c) ([], nt)).1 ++ [(ws, none)]) := ((C1.mono (TupK.of sT)).mono (TupK.updL A2)).app (.cons ⟨T, t, rfl, upB TA upd_same, (kk E2).1 _ _ ht⟩ .nil)
        generalize upd (upd H1 T (.tup [.ref t, .str "head"])) A1 (.lst (us ++ us1 ++ [.ref T])) = H2 at E2 A3 B3 C3 ⊢
        refine ⟨_, rfl, p, Cl, dl, _, _, rfl, ki E2 l1, TL.cl, TL.no _ (List.mem_of_getElem? (i := 0) rfl), rfl, wp, C, dx, _, _, rfl, ki E2 h1, TC.cl, TC.no _ (List.mem_of_getElem? (i := 2) rfl), rfl, _, rfl, ao, _, (c : Int), _, rfl, rfl, SqT.of ((kk E2).1 _ _ h6), atI_nat eog, _, rfl, by omega, by omega, ?_⟩
        refine for_range (n := ownsN ds c) (fun j σ H' => ∃ (x6 : Option V) (us' : List V), σ = [some (.ref p), some (.ref t), some (.ref A1), some (.ref B1), some (natV c), x5, x6] ∧ Ex2 A1 B1 H H' ∧ H' A1 = some (.lst (us ++ us')) ∧ CellsAt H' us' (((basesOf ds c).foldl (stepK ls (blk ds ls n) ws c) ([], nt)).1 ++ ((ws, none) :: (List.range j).map fun i => (ws, some i))) ∧ H' B1 = some (.lst (((basesOf ds c).foldl (stepK ls (blk ds ls n) ws c) ([], nt)).2.map natV)))
          ⟨none, _, rfl, E2, A3, C3, B3⟩ ?_ ?_
        · rintro j σ H3 hj ⟨x6, us3, rfl, E3, A3', C3', B3'⟩
          have ej : (0 : Int) + (j : Int) = (j : Int) := Int.zero_add _
          rw [ej]
          have c3l := C3'.len
          rw [List.length_append, List.length_cons, List.length_map, List.length_range] at c3l
          refine ⟨_, rfl, .inl ⟨rfl, _, SqL.of A3'⟩, _, rfl, _, rfl, (by show 2 ≤ sizeLine; decide), fun T hT => ?_⟩
          have sT := same_new (o := .tup [.ref t, natV j]) hT
          have A4 := sT _ _ A3'
          have TA : T ≠ A1 := Ne.symm (ne_of_none A3' hT)
          have E4 : Ex2 A1 B1 H (upd (upd H3 T (.tup [.ref t, natV j])) A1 (.lst (us ++ us3 ++ [.ref T]))) := (E3.trans (Ex2.of sT)).updA
          refine ⟨A1, _, _, rfl, rfl, A4, (by rw [List.length_append]; show _ < 2 ^ 24; omega), _, us3 ++ [.ref T], rfl, E4, by rw [upd_same, List.append_assoc], ?_, upB (Ne.symm ab1) (sT _ _ B3')⟩
          rw [List.range_succ, List.map_append, ← List.cons_append, ← List.append_assoc]
          exact ((C3'.mono (TupK.of sT)).mono (TupK.updL A4)).app (.cons ⟨T, t, rfl, upB TA upd_same, (kk E4).1 _ _ ht⟩ .nil)
        · rintro σ H3 ⟨x6, us3, rfl, E3, A3', C3', B3'⟩
          exact k H3 us3 E3 A3' C3' B3'
end
end K83

set_option maxRecDepth 100000
set_option maxHeartbeats 8000000
namespace K83
open PySem PySem.Spec PyProof.Rows L2 Kw
theorem WorldAt.heir {H : Hp} {p C : Addr} {ds : List Ent} (h : WorldAt H p C ds) {x : Nat} (hx : x < ds.length) : ∃ (dx : Addr) (fs : List (Str × V)) (ah : Addr) (hs : List V) (t : Addr), H p = some (.ins C dx fs) ∧ List.lookup ("heirs" : Str) fs = some (V.ref ah) ∧ H ah = some (.tup hs) ∧ hs[x]? = some (.ref t) ∧ H t = some (.tup ((heirRow (elsOf ds) ds.length x).map natV)) := by
  obtain ⟨dx, ac, ab, ao, am, ae, ah, cs, bs, ms, es, hs, h1, h2, h3, h4, h5, h6, h7, h8, h9, h10, h11, h12⟩ := h
  have hl : (heirs (elsOf ds))[x]? = some (heirRow (elsOf ds) ds.length x) := by
    unfold heirs
    rw [List.getElem?_map, List.getElem?_range (by rw [elsOf_len]; exact hx), elsOf_len]
    rfl
  obtain ⟨t, e1, e2⟩ := h12.get hl
  exact ⟨dx, _, ah, hs, t, h1, rfl, h11, e1, e2⟩
/-- a class and its heirs -/
def lotOf (ds : List Ent) (c : Nat) : List Nat := c :: heirRow (elsOf ds) ds.length c
theorem mem_lotOf {ds : List Ent} {c x : Nat} (hc : c < ds.length) : x ∈ lotOf ds c ↔ x < ds.length ∧ c ∈ (kins (elsOf ds)).getD x [] := by
  unfold lotOf heirRow
  rw [List.mem_cons, List.mem_filter, List.mem_range, List.contains_iff_mem]
  constructor
  · rintro (rfl | ⟨h1, h2⟩)
    · exact ⟨hc, by rw [kins_els hc]; exact List.mem_append_right _ List.mem_cons_self⟩
    · exact ⟨h1, by rw [kins_els h1]; exact List.mem_append_left _ h2⟩
  · rintro ⟨h1, h2⟩
    rw [kins_els h1] at h2
    rcases List.mem_append.mp h2 with h2 | h2
    · exact .inr ⟨h1, h2⟩
    · exact .inl (List.mem_singleton.mp h2).symm
section
variable {P : Program} {w : World} {K : PySem.W.Frag} {mg : Str → Option Value} {base : Heap} {f fW fN fC C Cn : Addr} {fd fdW fdN fdC : FuncData}
def spLot (C : Addr) : Sp := fun vs H Q _ => ∃ (p : Addr) (ds : List Ent) (c : Nat), vs = [.ref p, natV c] ∧ WorldAt H p C ds ∧ c < ds.length ∧ ds.length ≤ 12 ∧
  ∀ t H', Same H H' → H' t = some (.tup ((lotOf ds c).map natV)) → Q (.ref t) H'
end
end K83

set_option maxRecDepth 100000
set_option maxHeartbeats 8000000
namespace K83
open PySem PySem.Spec PyProof.Rows L2 Kw
/-- a comprehension over enumerate(xs) -/
theorem lc_enumT {K : PySem.W.Frag} {a : Addr} {xs : List V} {g : TG} {tt : TT} {te : TE} {vs : List Nat} {σ : L2.St} {H1 : Hp} {D : Addr} {Qd : Hp → Prop} (Pv : Nat → Hp → Prop) (h0 : Pv 0 (upd H1 D (.lst []))) (hl : ∀ i H, i ≤ xs.length → Pv i H → SqT K H a xs)
    (hs : ∀ i x H T, xs[i]? = some x → Pv i H → H T = none → g (.ref T) (wipe σ vs) (upd H T (.tup [.int (i : Nat), x])) fun σ2 H2 => wipe σ2 vs = wipe σ vs ∧ tt σ2 H2 fun b H3 =>
      if b = true then te σ2 H3 fun y H4 => ∃ acc, H4 D = some (.lst acc) ∧ acc.length < sizeLine ∧ Pv (i + 1) (upd H4 D (.lst (acc ++ [y]))) else Pv (i + 1) H3) (hd : ∀ H, Pv xs.length H → Qd H) :
    ∃ W : Nat → Nat → Hp → Prop, (∃ m, W 0 m (upd H1 D (.lst []))) ∧ ∀ i m H, W i m H →
      ((Itet K a).stop i H ∧ Qd H) ∨ ((Itet K a).go i H ∧ ∃ Nx : Hp → Prop, (∀ H', Nx H' → ∃ m', m' < m ∧ W (i + 1) m' H') ∧ ∀ x H', (Itet K a).yld i H x H' → g x (wipe σ vs) H' fun σ2 H2 => wipe σ2 vs = wipe σ vs ∧ tt σ2 H2 fun b H3 =>
        if b = true then te σ2 H3 fun y H4 => ∃ acc, H4 D = some (.lst acc) ∧ acc.length < sizeLine ∧ Nx (upd H4 D (.lst (acc ++ [y]))) else Nx H3) := by
  refine ⟨fun i m H => m = xs.length - i ∧ i ≤ xs.length ∧ Pv i H, ⟨xs.length, by simp, Nat.zero_le _, h0⟩, ?_⟩
  rintro i m H ⟨rfl, hi, p⟩
  have q := hl i H hi p
  by_cases hlt : i < xs.length
  · refine .inr ⟨⟨xs, xs[i], q, by simp [hlt]⟩, Pv (i + 1), fun H' p' => ⟨xs.length - (i + 1), by omega, rfl, hlt, p'⟩, fun x H' y => ?_⟩
    obtain ⟨T, z, e1, e2, e3, e4⟩ := y
    subst e1 e3
    exact hs i z H T (e4 xs q) p e2
  · have e : i = xs.length := by omega
    subst e
    exact .inl ⟨⟨xs, q, rfl⟩, hd H p⟩
/-- a comprehension over enumerate(xs) -/
theorem lc_enumL {K : PySem.W.Frag} {a : Addr} {xs : List V} {g : TG} {tt : TT} {te : TE} {vs : List Nat} {σ : L2.St} {H1 : Hp} {D : Addr} {Qd : Hp → Prop} (Pv : Nat → Hp → Prop) (h0 : Pv 0 (upd H1 D (.lst []))) (hl : ∀ i H, i ≤ xs.length → Pv i H → SqL K H a xs)
    (hs : ∀ i x H T, xs[i]? = some x → Pv i H → H T = none → g (.ref T) (wipe σ vs) (upd H T (.tup [.int (i : Nat), x])) fun σ2 H2 => wipe σ2 vs = wipe σ vs ∧ tt σ2 H2 fun b H3 =>
      if b = true then te σ2 H3 fun y H4 => ∃ acc, H4 D = some (.lst acc) ∧ acc.length < sizeLine ∧ Pv (i + 1) (upd H4 D (.lst (acc ++ [y]))) else Pv (i + 1) H3) (hd : ∀ H, Pv xs.length H → Qd H) :
    ∃ W : Nat → Nat → Hp → Prop, (∃ m, W 0 m (upd H1 D (.lst []))) ∧ ∀ i m H, W i m H →
      ((Ite K a).stop i H ∧ Qd H) ∨ ((Ite K a).go i H ∧ ∃ Nx : Hp → Prop, (∀ H', Nx H' → ∃ m', m' < m ∧ W (i + 1) m' H') ∧ ∀ x H', (Ite K a).yld i H x H' → g x (wipe σ vs) H' fun σ2 H2 => wipe σ2 vs = wipe σ vs ∧ tt σ2 H2 fun b H3 =>
        if b = true then te σ2 H3 fun y H4 => ∃ acc, H4 D = some (.lst acc) ∧ acc.length < sizeLine ∧ Nx (upd H4 D (.lst (acc ++ [y]))) else Nx H3) := by
  refine ⟨fun i m H => m = xs.length - i ∧ i ≤ xs.length ∧ Pv i H, ⟨xs.length, by simp, Nat.zero_le _, h0⟩, ?_⟩
  rintro i m H ⟨rfl, hi, p⟩
  have q := hl i H hi p
  by_cases hlt : i < xs.length
  · refine .inr ⟨⟨xs, xs[i], q, by simp [hlt]⟩, Pv (i + 1), fun H' p' => ⟨xs.length - (i + 1), by omega, rfl, hlt, p'⟩, fun x H' y => ?_⟩
    obtain ⟨T, z, e1, e2, e3, e4⟩ := y
    subst e1 e3
    exact hs i z H T (e4 xs q) p e2
  · have e : i = xs.length := by omega
    subst e
    exact .inl ⟨⟨xs, q, Nat.le_refl _⟩, hd H p⟩
end K83

set_option maxRecDepth 100000
set_option maxHeartbeats 8000000
namespace K83
open PySem PySem.Spec PyProof.Rows L2 Kw
/-- the object of a class behind the first m blocks: its cells, the classes noted -/
def layK (ds : List Ent) (ls : List (Nat × Nat)) (c : Nat) : Nat → List Cell × List Nat
  | 0 => ([], [c])
  | m + 1 => ((layK ds ls c m).1 ++ (blk ds ls 11 [(layK ds ls c m).2.getD m 0] ((layK ds ls c m).2.getD m 0) (layK ds ls c m).2).1, (blk ds ls 11 [(layK ds ls c m).2.getD m 0] ((layK ds ls c m).2.getD m 0) (layK ds ls c m).2).2)
/-- all noted have their block -/
def LaidEnd (ds : List Ent) (ls : List (Nat × Nat)) (c m : Nat) : Prop := (∀ j, j < m → j < (layK ds ls c j).2.length) ∧ (layK ds ls c m).2.length ≤ m
theorem layK_nt {ds : List Ent} (ok : DsOk ds) {ls : List (Nat × Nat)} {c : Nat} (hc : c < ds.length) : ∀ m, (∀ j, j < m → j < (layK ds ls c j).2.length) → NtOk ds (layK ds ls c m).2
  | 0, _ => ⟨by simp [layK], fun x hx => by rw [List.mem_singleton.mp hx]; exact hc⟩
  | m + 1, h => by
    have ih := layK_nt ok (ls := ls) hc m fun j hj => h j (by omega)
    have lm := h m (Nat.lt_succ_self m)
    refine blk_nt ok 11 _ _ _ ?_ ih
    rw [List.getD_eq_getElem?_getD, List.getElem?_eq_getElem lm]
    exact ih.2 _ (List.getElem_mem lm)
theorem layK_len {ds : List Ent} (ok : DsOk ds) {ls : List (Nat × Nat)} {c : Nat} (hc : c < ds.length) (h12 : ds.length ≤ 12) : ∀ m, (∀ j, j < m → j < (layK ds ls c j).2.length) → (layK ds ls c m).1.length ≤ m * 8192
  | 0, _ => Nat.le_refl _
  | m + 1, h => by
    have ih := layK_len ok (ls := ls) hc h12 m fun j hj => h j (by omega)
    have nt := layK_nt ok (ls := ls) hc m fun j hj => h j (by omega)
    have lm := h m (Nat.lt_succ_self m)
    have b := blk_len ok (ls := ls) 11 [(layK ds ls c m).2.getD m 0] ((layK ds ls c m).2.getD m 0) (layK ds ls c m).2
    have gl : (layK ds ls c m).2.getD m 0 < ds.length := by
      rw [List.getD_eq_getElem?_getD, List.getElem?_eq_getElem lm]
      exact nt.2 _ (List.getElem_mem lm)
    have pw : 2 ^ ((layK ds ls c m).2.getD m 0) ≤ 2 ^ 11 := Nat.pow_le_pow_right (by decide) (by omega)
    show ((layK ds ls c m).1 ++ (blk ds ls 11 [(layK ds ls c m).2.getD m 0] ((layK ds ls c m).2.getD m 0) (layK ds ls c m).2).1).length ≤ _
    rw [List.length_append]
    omega
/-- the parts: way and place -/
def partsF : List Cell → Nat → List (List Nat × Nat)
  | [], _ => []
  | (ws, none) :: r, i => (ws, i) :: partsF r (i + 1)
  | (_, some _) :: r, i => partsF r (i + 1)
theorem partsF_app : ∀ (l : List Cell) (i : Nat) (ws : List Nat) (o : Option Nat), partsF (l ++ [(ws, o)]) i = partsF l i ++ (if o = none then [(ws, i + l.length)] else [])
  | [], i, ws, o => by
    cases o <;> simp [partsF]
  | (vs, none) :: r, i, ws, o => by
    rw [List.cons_append, partsF, partsF, partsF_app r, List.cons_append, List.length_cons, show i + 1 + r.length = i + (r.length + 1) by omega]
  | (vs, some _) :: r, i, ws, o => by
    rw [List.cons_append, partsF, partsF, partsF_app r, List.length_cons, show i + 1 + r.length = i + (r.length + 1) by omega]
theorem partsF_take {cs : List Cell} {i : Nat} {ws : List Nat} {o : Option Nat} (h : cs[i]? = some (ws, o)) : partsF (cs.take (i + 1)) 0 = partsF (cs.take i) 0 ++ (if o = none then [(ws, i)] else []) := by
  have il := (List.getElem?_eq_some_iff.mp h).1
  rw [List.take_add_one, h, Option.toList_some, partsF_app, List.length_take, Nat.zero_add, Nat.min_eq_left (by omega)]
theorem partsF_len : ∀ (l : List Cell) (i : Nat), (partsF l i).length ≤ l.length
  | [], _ => Nat.le_refl _
  | (_, none) :: r, i => by
    rw [partsF, List.length_cons, List.length_cons]
    have := partsF_len r (i + 1)
    omega
  | (_, some _) :: r, i => by
    rw [partsF, List.length_cons]
    have := partsF_len r (i + 1)
    omega
def PartsAt (Cp : Addr) (H : Hp) : List V → List (List Nat × Nat) → Prop := Paired fun v d => ∃ a dx wt, v = .ref a ∧ H a = some (.ins Cp dx [("way", .ref wt), ("place", natV d.2)]) ∧ H wt = some (.tup (d.1.map natV))
def endsW (y : Nat) (w : List Nat) : Bool := decide (w.getLast? = some y)
section
variable {P : Program} {w : World} {K : PySem.W.Frag} {mg : Str → Option Value} {base : Heap} {f fC fB fL fP fPa C Cl Cp Cn : Addr} {fd fdC fdB fdL fdP fdPa : FuncData}
def spLaid (C Cl : Addr) : Sp := fun vs H Q _ => ∃ (p wp : Addr) (ds : List Ent) (ls : List (Nat × Nat)) (c : Nat), vs = [.ref p, natV c] ∧ LinksAt H p Cl wp C ds ls ∧ DsOk ds ∧ ds.length ≤ 12 ∧ c < ds.length ∧
  ∀ D us m H', Same H H' → H D = none → H' D = some (.lst us) → LaidEnd ds ls c m → CellsAt H' us (layK ds ls c m).1 → us.length ≤ 100000 → Q (.ref D) H'
theorem sc_laid : FnScope ["links", "c", "cells", "noted", "at"] ["links", "c"] (defScope (top 24)) := ⟨rfl, rfl, rfl, by decide +kernel, rfl, by decide +kernel, by decide +kernel⟩
theorem ok_laid (F : FnP K "laid_cells" 24 f fd) (B : Fr mg) (TC : ClsWorld K mg C) (TL : ClsF K Cl ["world", "shared"]) (FC : FnP K "check_class" 15 fC fdC) (mC : mg "check_class" = some (.ref fC)) (GC : FnOk P w K mg base (L2.CX P w) 3 fC fdC ["world", "c"] (spCheck C Cn))
    (FB : FnP K "lay_block" 25 fB fdB) (mB : mg "lay_block" = some (.ref fB)) (GB : FnOk P w K mg base CX0 16 fB fdB ["links", "way", "cells", "noted"] (spBlk 11 C Cl)) : FnOk P w K mg base CX0 17 f fd ["links", "c"] (spLaid C Cl) := by
  have bC : L2.Binds K fdC ["world", "c"] [] := FC.bindsN fun _ _ _ _ _ _ us hl => match us, hl with | [_, _], _ => rfl
  have bB : L2.Binds K fdB ["links", "way", "cells", "noted"] [] := FB.bindsN fun _ _ _ _ _ _ us hl => match us, hl with | [_, _, _, _], _ => rfl
  refine F.ok sc_laid (fun vs H Q E h => ?_) (fun cdv A outer s H vs Q E hr h => ?_)
  · obtain ⟨p, wp, ds, ls, c, rfl, _⟩ := h
    rfl
  · obtain ⟨p, wp, ds, ls, c, rfl, hL, ok, h12, hc, k⟩ := h
    refine ⟨_, PSs.nox (pss_cons (ps_expr (pe_call GC (hr.mono (by decide)) (by rfl) mC FC.kp bC .nil (passOut (E := fun _ _ _ => False)) (pa_cons (pe_fld (pv 0) rfl) (pa_cons (pv 1) pa_nil))))
      (pss_cons (ps_set (i := 2) sc_laid.nd rfl (Or.inl rfl) (pe_lst pa_nil))
      (pss_cons (ps_set (i := 3) sc_laid.nd rfl (Or.inl rfl) (pe_lst (pa_cons (pv 1) pa_nil)))
      (pss_cons (ps_set (i := 4) sc_laid.nd rfl (Or.inl rfl) pe_int)
      (pss_cons (ps_while PassesOwn.never (pt_cmpR op_lt (pv 4) (pe_callB call_len_seq (by rfl) B.len PySem.boot_len (pa_cons (pv 3) pa_nil)) (nomark _))
        (pss_cons (ps_expr (pe_call GB hr (by rfl) mB FB.kp bB .nil pass0 (pa_cons (pv 0) (pa_cons (pe_tup (pa_cons (pe_ix (r := rIxL K) ix_list (pv 3) (pv 4) (fun _ _ => rfl)) pa_nil)) (pa_cons (pv 2) (pa_cons (pv 3) pa_nil))))))
        (pss_one (ps_set (i := 4) sc_laid.nd rfl (Or.inl rfl) (pe_op op_add (pv 4) pe_int)))))
      (pss_one (ps_ret (pv 2)))))))), ?_⟩
    have hL0 := hL
    obtain ⟨dl, st, sus, l1, hw, l3, l4⟩ := hL
    refine ⟨_, rfl, p, Cl, dl, _, _, rfl, l1, TL.cl, TL.no _ (List.mem_of_getElem? (i := 0) rfl), rfl, _, rfl, wp, natV c, "int", ds, rfl, hw, .int _, .inl ⟨whole_of hc, fun H1 s1 => ?_⟩⟩
    refine ⟨by decide, fun A1 hA => ⟨_, rfl, (by show 1 ≤ sizeLine; decide), fun B1 hB => ?_⟩⟩
    have sA := same_new (o := .lst []) hA
    have sB := same_new (o := .lst [natV c]) hB
    have s12 := sA.trans sB
    have s2 := s1.trans s12
    have A2 := sB _ _ (upd_same (H := H1) (a := A1) (o := .lst []))
    have B2 : upd (upd H1 A1 (.lst [])) B1 (.lst [natV c]) B1 = some (.lst [natV c]) := upd_same
    have AB : A1 ≠ B1 := ne_of_none (upd_same (H := H1) (a := A1) (o := .lst [])) hB
    have HA : H A1 = none := by
      cases e : H A1 with
      | none => rfl
      | some o => rw [s1 _ _ e] at hA; cases hA
    have HB : H B1 = none := by
      cases e : H B1 with
      | none => rfl
      | some o => rw [(s1.trans sA) _ _ e] at hB; cases hB
    generalize upd (upd H1 A1 (.lst [])) B1 (.lst [natV c]) = H2 at s2 A2 B2 ⊢
    have hL2 := hL0.mono s2
    refine ⟨fun mm σ H' => ∃ (m : Nat) (us : List V), mm = 12 - m ∧ σ = [some (.ref p), some (natV c), some (.ref A1), some (.ref B1), some (natV m)] ∧ Ex2 A1 B1 H2 H' ∧ H' A1 = some (.lst us) ∧ CellsAt H' us (layK ds ls c m).1 ∧ H' B1 = some (.lst ((layK ds ls c m).2.map natV)) ∧ (∀ j, j < m → j < (layK ds ls c j).2.length), ⟨12, 0, [], rfl, rfl, Ex2.of (Same.refl _), A2, .nil, B2, fun j hj => absurd hj (Nat.not_lt_zero _)⟩, ?_⟩
    rintro mm σ H3 ⟨m, us, rfl, rfl, E3, A3, C3, B3, hm⟩
    have nt := layK_nt ok (ls := ls) hc m hm
    have cl := layK_len ok (ls := ls) hc h12 m hm
    have ntl := nt.len
    have ul := C3.len
    have m12 : m ≤ 12 := by
      cases m with
      | zero => omega
      | succ m =>
        have h1 := hm m (Nat.lt_succ_self m)
        have h2 := (layK_nt ok (ls := ls) hc m fun j hj => hm j (by omega)).len
        omega
    refine ⟨_, rfl, _, rfl, B1, _, rfl, .inl (SqL.of B3), _, _, rfl, rfl, _, rfl, ?_⟩
    rw [List.length_map]
    by_cases lm : m < (layK ds ls c m).2.length
    · rw [decide_eq_true (show (m : Int) < ((layK ds ls c m).2.length : Int) by omega)]
      obtain ⟨nm, hnm⟩ : ∃ nm, (layK ds ls c m).2[m]? = some nm := ⟨_, List.getElem?_eq_getElem lm⟩
      have gn : (layK ds ls c m).2.getD m 0 = nm := by
        rw [List.getD_eq_getElem?_getD, hnm]
        rfl
      have nml := nt.2 nm (List.mem_of_getElem? hnm)
      have pw : 2 ^ nm ≤ 2 ^ 11 := Nat.pow_le_pow_right (by decide) (by omega)
      have es : layK ds ls c (m + 1) = ((layK ds ls c m).1 ++ (blk ds ls 11 [nm] nm (layK ds ls c m).2).1, (blk ds ls 11 [nm] nm (layK ds ls c m).2).2) := by
        rw [← gn]
        rfl
      refine iteT' rfl ⟨fun σ' H' => ∃ us', σ' = [some (.ref p), some (natV c), some (.ref A1), some (.ref B1), some (natV (m + 1))] ∧ Ex2 A1 B1 H2 H' ∧ H' A1 = some (.lst us') ∧ CellsAt H' us' (layK ds ls c (m + 1)).1 ∧ H' B1 = some (.lst ((layK ds ls c (m + 1)).2.map natV)), fun σ' H' ⟨us', e1, e2, e3, e4, e5⟩ => ⟨12 - (m + 1), by omega, m + 1, us', rfl, e1, e2, e3, e4, e5, fun j hj => ?_⟩, ?_⟩
      · by_cases q : j = m
        · rw [q]
          exact lm
        · exact hm j (by omega)
      · refine ⟨_, rfl, _, rfl, _, rfl, B1, _, (m : Int), natV nm, rfl, rfl, SqL.of B3, atI_nat (by rw [List.getElem?_map, hnm]; rfl), (by show 1 ≤ sizeLine; decide), fun T hT => ?_⟩
        have sT := same_new (o := .tup [natV nm]) hT
        have E4 := E3.trans (Ex2.of sT)
        refine ⟨_, rfl, _, rfl, p, wp, T, A1, B1, ds, ls, [nm], (layK ds ls c m).2, nm, us, rfl, hL2.ex2 E4 A2 B2, ok, h12, upd_same, rfl, nml, by omega, by show 1 + nm ≤ 30; omega, sT _ _ A3, by omega, sT _ _ B3, nt, AB, fun H5 us2 E5 A5 C5 B5 => ?_⟩
        refine ⟨_, rfl, _, _, rfl, rfl, us ++ us2, ?_, E4.trans E5, A5, ?_, by rw [es]; exact B5⟩
        · have en : V.int ((m : Int) + 1) = natV (m + 1) := congrArg V.int (by omega)
          show [_, _, _, _, some (V.int ((m : Int) + 1))] = _
          rw [en]
        · rw [es]
          exact ((C3.mono (TupK.of sT)).mono (E5.tupK (sT _ _ A3) (sT _ _ B3))).app C5
    · rw [decide_eq_false (show ¬ (m : Int) < ((layK ds ls c m).2.length : Int) by omega)]
      refine iteF' rfl ⟨_, rfl, k A1 us m H3 (fun b o e => E3 b o (ne_of_none e HA) (ne_of_none e HB) (s2 _ _ e)) HA A3 ⟨hm, by omega⟩ C3 (by omega)⟩
def spParts (C Cl Cp : Addr) : Sp := fun vs H Q _ => ∃ (p wp : Addr) (ds : List Ent) (ls : List (Nat × Nat)) (c : Nat), vs = [.ref p, natV c] ∧ LinksAt H p Cl wp C ds ls ∧ DsOk ds ∧ ds.length ≤ 12 ∧ c < ds.length ∧
  ∀ t us m H', Same H H' → H' t = some (.tup us) → LaidEnd ds ls c m → PartsAt Cp H' us (partsF (layK ds ls c m).1 0) → us.length ≤ 100000 → Q (.ref t) H'
theorem PartsAt.mono {H H' : Hp} (s : Same H H') {us : List V} {ps : List (List Nat × Nat)} (h : PartsAt Cp H us ps) : PartsAt Cp H' us ps := paired_imp (fun _ _ ⟨a, dx, wt, e, h1, h2⟩ => ⟨a, dx, wt, e, s _ _ h1, s _ _ h2⟩) h
theorem PartsAt.updL {H : Hp} {D : Addr} {xs ys us : List V} {ps : List (List Nat × Nat)} (h : PartsAt Cp H us ps) (hD : H D = some (.lst xs)) : PartsAt Cp (upd H D (.lst ys)) us ps := paired_imp (fun _ _ ⟨a, dx, wt, e, h1, h2⟩ => ⟨a, dx, wt, e, upB (fun z => by rw [z, hD] at h1; cases h1) h1, upB (fun z => by rw [z, hD] at h2; cases h2) h2⟩) h
theorem PartsAt.app {H : Hp} {us vs : List V} {ps qs : List (List Nat × Nat)} (h : PartsAt Cp H us ps) (g : PartsAt Cp H vs qs) : PartsAt Cp H (us ++ vs) (ps ++ qs) := paired_app h g
theorem PartsAt.len {H : Hp} {us : List V} {ps : List (List Nat × Nat)} (h : PartsAt Cp H us ps) : us.length = ps.length := Paired.length h
theorem sc_parts : FnScope ["links", "c", "place", "way", "what"] ["links", "c"] (defScope (top 26)) := ⟨rfl, rfl, rfl, by decide +kernel, rfl, by decide +kernel, by decide +kernel⟩
theorem ok_parts (F : FnP K "parts_of" 26 f fd) (B : Fr mg) (zh : ∃ t, mg "HEAD" = some (.str "head" t)) (FL : FnP K "laid_cells" 24 fL fdL) (mL : mg "laid_cells" = some (.ref fL)) (GL : FnOk P w K mg base CX0 17 fL fdL ["links", "c"] (spLaid C Cl)) (FP : FnM K "__init__" "Part.__init__" (inClass (top 23) 0) fP fdP) (MP : Mk K Cp fP) (mP : mg "Part" = some (.ref Cp)) (GP : FnOk P w K mg base CX0 1 fP fdP ["self", "way", "place"] (spPartI Cp)) : FnOk P w K mg base CX0 18 f fd ["links", "c"] (spParts C Cl Cp) := by
  have bL : L2.Binds K fdL ["links", "c"] [] := FL.bindsN fun _ _ _ _ _ _ us hl => match us, hl with | [_, _], _ => rfl
  have bP : L2.Binds K fdP ["self", "way", "place"] [] := FP.bindsN fun _ _ _ _ _ _ us hl => match us, hl with | [_, _, _], _ => rfl
  obtain ⟨th, zh⟩ := zh
  refine F.ok sc_parts (fun vs H Q E h => ?_) (fun cdv A outer s H vs Q E hr h => ?_)
  · obtain ⟨p, wp, ds, ls, c, rfl, _⟩ := h
    rfl
  · obtain ⟨p, wp, ds, ls, c, rfl, hL, ok, h12, hc, k⟩ := h
    refine ⟨_, PSs.nox (pss_one (ps_ret (pe_callTy (T := "tuple") (r := rTupOf K) (call_tup (X := _)) (by rfl) B.tuple (by decide +kernel) (pa_cons
      (pe_lc (own := [("place", 2), ("way", 3), ("what", 4)]) (g := gTup K 2 (gCons (gName 2) (gCons (gTup K 2 (gCons (gName 3) (gCons (gName 4) gNil))) gNil))) (tt := tTest (tOp rEq (tVar 4) (tC (.str "head")))) (te := tMake Cp (spPartI Cp) [] E0 (tCons (tVar 3) (tCons (tVar 2) tNil))) rfl sc_parts.nd (pi_enum (by rfl) B.enumerate (pa_cons (pe_call GL hr (by rfl) mL FL.kp bL .nil pass0 (pa_cons (pv 0) (pa_cons (pv 1) pa_nil))) pa_nil)) (blkOk_by (N := ["links", "c", "place", "way", "what"]) (sc := defScope (top 26)) (by decide +kernel))
        (fun _ _ _ _ _ => pg_tup (by rfl) (pgs_cons (pg_name (i := 2) sc_parts.nd rfl (Or.inl rfl)) (pgs_cons (pg_tup (by rfl) (pgs_cons (pg_name (i := 3) sc_parts.nd rfl (Or.inl rfl)) (pgs_cons (pg_name (i := 4) sc_parts.nd rfl (Or.inl rfl)) pgs_nil))) pgs_nil)))
        (fun _ _ _ _ _ => pts_one (pt_cmpR op_eq (pv 4) (pe_glob (v := .str "head") (by rfl) zh ⟨_, rfl⟩) (nomark _))) (fun _ _ _ _ _ => pe_make MP GP (hr.mono (by decide)) (by rfl) mP bP .nil pass0 (pa_cons (pv 3) (pa_cons (pv 2) pa_nil)))) pa_nil)))), ?_⟩
    refine ⟨_, rfl, _, rfl, p, wp, ds, ls, c, rfl, hL, ok, h12, hc, fun L us m H1 s1 hLn hL1 he hC ul => ?_⟩
    refine ⟨L, us, rfl, SqL.of hL1, fun D hD => lc_enumL (K := K) (a := L) (xs := us) (fun i H' => Same H1 H' ∧ ∃ vs, H' D = some (.lst vs) ∧ PartsAt Cp H' vs (partsF ((layK ds ls c m).1.take i) 0)) ⟨same_new hD, [], upd_same, .nil⟩ (fun i H' _ z => SqL.of (z.1 _ _ hL1)) ?_ ?_⟩
    · rintro i x H2 T hi ⟨s2, vs, D2, V2⟩ hT
      obtain ⟨⟨ws, o⟩, hcl, t, wt, rfl, ht, hwt⟩ := paired_get hC hi
      have sT := same_new (o := .tup [.int (i : Nat), .ref t]) hT
      have s3 := s2.trans sT
      have D3 := sT _ _ D2
      have V3 := V2.mono sT
      have il := (List.getElem?_eq_some_iff.mp hi).1
      have pf := partsF_take hcl
      refine ⟨T, _, rfl, SqT.of upd_same, rfl, _, _, rfl, _, _, rfl, t, _, rfl, SqT.of ((s2.trans sT) _ _ ht), rfl, _, _, rfl, _, _, rfl, rfl, rfl, rfl, ?_⟩
      cases o with
      | some i' =>
        refine ⟨_, rfl, rfl, _, rfl, iteF' rfl ⟨s3, vs, D3, ?_⟩⟩
        rw [pf, if_neg (by simp), List.append_nil]
        exact V3
      | none =>
        rw [if_pos rfl] at pf
        refine ⟨_, rfl, rfl, _, rfl, iteT' (decide_eq_true rfl) ⟨_, rfl, _, rfl, fun y dy hy hdy ne => ?_⟩⟩
        have sX := (same_new (o := .own y) hdy).trans (same_new (o := .ins Cp dy []) (by rw [upd_ne (Ne.symm ne)]; exact hy))
        refine ⟨y, dy, .ref wt, natV i, rfl, upd_same, fun H4 O4 y4 => ⟨rfl, ?_⟩⟩
        have s34 : Same (upd H2 T (.tup [.int (i : Nat), .ref t])) H4 := fun b o e => O4 b o (ne_of_none e hy) (sX _ _ e)
        have D4 := s34 _ _ D3
        have vl := V2.len
        have pl := partsF_len ((layK ds ls c m).1.take i) 0
        rw [List.length_take] at pl
        have yD : y ≠ D := Ne.symm (ne_of_none D3 hy)
        refine ⟨vs, D4, (by show _ < 2 ^ 24; omega), same_upd (s3.trans s34) hD, vs ++ [.ref y], upd_same, ?_⟩
        rw [pf]
        exact ((V3.mono s34).app (.cons ⟨y, dy, wt, rfl, y4, (s3.trans s34) _ _ hwt⟩ .nil)).updL D4
    · rintro H2 ⟨s2, vs, D2, V2⟩
      rw [hC.len, List.take_length] at V2
      refine tup_q (.inl D2) fun t H3 s3 ht => k t vs m H3 (s1.trans (s2.trans s3)) ht he (V2.mono s3) ?_
      have h1 := V2.len
      have h2 := partsF_len (layK ds ls c m).1 0
      have h3 := hC.len
      omega
end
end K83

set_option maxRecDepth 100000
set_option maxHeartbeats 4000000
namespace Kw
open PySem PySem.Spec PyProof.Rows L2
/-- len(set(xs)), xs a list of fewer than 64 tuples of ints: the number of unlike ones -/
def tLenSetC (K : PySem.W.Frag) (ta : TE) : TE := fun σ H Q => ta σ H fun x H1 => ∃ (l : Addr) (ks : List (Addr × List Int)), x = V.ref l ∧ SqL K H1 l (ks.map fun p => V.ref p.1) ∧ (∀ p ∈ ks, SqT K H1 p.1 (p.2.map V.int)) ∧ ks.length < 64 ∧
  ∀ L : List (List Int), L.Nodup → (∀ x, x ∈ L ↔ x ∈ ks.map (·.2)) → Q (.int L.length) H1
theorem pe_lenSetC {X : Cx} {a : Expr} {ta : TE} {p p2 q pos : Pos} (hu : X.A.units + 64 < cLine) (hg : Gl X "len") (hm : X.mg "len" = none) (hg2 : Gl X "set") (hm2 : X.mg "set" = none) (ha : PE X a ta) (hc : X.calm = true := by rfl)
    (na : starEach [a] X.env = (false, eval a X.env) :: starEach [] X.env := by rfl) : PE X (.Call (.Name "len" p) [.Call (.Name "set" p2) [a] [] q] [] pos) (tLenSetC X.K ta) := by
  refine ⟨fun pins s σ H Q I h => Call_ (ld_blt I hg hm PySem.boot_len ?_)⟩
  refine callWith_builtin1 (args_cons (Call_ (ld_blt I hg2 hm2 PyProof.Rows.boot_set ?_)) rfl) rfl rfl
  refine callWith_type1 (args_cons (thn (ha.run pins s σ H _ I h) fun v s1 ⟨x, H1, I1, r1, q1⟩ => args_nil ?_) na) na rfl
  obtain ⟨l, ks, ex, hq, hk, hf, q2⟩ := q1
  subst ex
  obtain rfl : v = Value.ref l := r1
  obtain ⟨its, rv, pl, hz⟩ := I1.list hq
  refine call_set_tups (P := X.prog) (w := X.w) ks (I1.ok.hd hc) pl.isList (by simpa using refs_of_vals rv) (fun p hp => I1.isT (hk p hp)) hf (by omega) fun h' tk L es ep t R g k => args_nil ?_
  obtain ⟨o, ho, hex, hd⟩ := R.ob
  have sz := SetTR.size (s := { s1 with heap := h', toks := tk }) R
  have I2 : Inv X pins σ H1 { s1 with heap := h', toks := tk } := I1.kept fun b o e => k b o e
  have mem : ∀ x, x ∈ L.map (·.2) ↔ x ∈ ks.map (·.2) := fun x => by
    constructor
    · intro hx
      obtain ⟨p, hp, rfl⟩ := List.mem_map.mp hx
      exact List.mem_map_of_mem (List.mem_of_mem_take (g.sub p hp))
    · intro hx
      obtain ⟨p, hp, rfl⟩ := List.mem_map.mp hx
      exact g.all p (by rw [List.take_length]; exact hp)
  have q3 := q2 (L.map (·.2)) R.nd mem
  rw [List.length_map] at q3
  exact call_len_set ho hex hd (SetTR.fits (s := { s1 with heap := h', toks := tk }) R) (by have := R.few; rw [sz]; omega) ⟨.int es.size, H1, I2.tok _, ⟨_, rfl⟩, by rw [sz]; exact q3⟩
end Kw

set_option maxRecDepth 100000
set_option maxHeartbeats 8000000
namespace K83
open PySem PySem.Spec PyProof.Rows L2 Kw
section
variable {P : Program} {w : World} {K : PySem.W.Frag} {mg : Str → Option Value} {base : Heap} {f fC fPa C Cl Cp Cn : Addr} {fd fdC fdPa : FuncData}
def spCopies (C Cl : Addr) : Sp := fun vs H Q _ => ∃ (p wp : Addr) (ds : List Ent) (ls : List (Nat × Nat)) (c tg : Nat), vs = [.ref p, natV c, natV tg] ∧ LinksAt H p Cl wp C ds ls ∧ DsOk ds ∧ ds.length ≤ 12 ∧ c < ds.length ∧ tg < ds.length ∧
  ∀ m H', Same H H' → LaidEnd ds ls c m → Q (natV ((partsF (layK ds ls c m).1 0).filter fun x => endsW tg x.1).length) H'
theorem sc_copies : FnScope ["links", "c", "target", "part"] ["links", "c", "target"] (defScope (top 27)) := ⟨rfl, rfl, rfl, by decide +kernel, rfl, by decide +kernel, by decide +kernel⟩
/-- all ways of the parts end somewhere -/
def WaysL (cs : List Cell) : Prop := ∀ x ∈ cs, ∃ y, x.1.getLast? = some y
theorem partsF_mem {x : List Nat × Nat} : ∀ {l : List Cell} {i : Nat}, x ∈ partsF l i → ∃ o, (x.1, o) ∈ l
  | [], _, h => by cases h
  | (ws, none) :: r, i, h => by
    rcases List.mem_cons.mp h with rfl | h
    · exact ⟨none, List.mem_cons_self⟩
    · obtain ⟨o, ho⟩ := partsF_mem h
      exact ⟨o, List.mem_cons_of_mem _ ho⟩
  | (ws, some _) :: r, i, h => by
    obtain ⟨o, ho⟩ := partsF_mem (l := r) h
    exact ⟨o, List.mem_cons_of_mem _ ho⟩
theorem ownC_ends {ds : List Ent} {ws : List Nat} {c : Nat} (h : ws.getLast? = some c) : WaysL (ownC ds ws c) := fun x hx => by
  rcases List.mem_cons.mp hx with rfl | hx
  · exact ⟨c, h⟩
  · obtain ⟨i, _, rfl⟩ := List.mem_map.mp hx
    exact ⟨c, h⟩
theorem foldK_ends {ds : List Ent} {ls : List (Nat × Nat)} {n : Nat} (ih : ∀ ws c nt, ws.getLast? = some c → WaysL (blk ds ls n ws c nt).1) (ws : List Nat) (c : Nat) : ∀ (l : List Nat) (acc : List Cell × List Nat), WaysL acc.1 → WaysL (l.foldl (stepK ls (blk ds ls n) ws c) acc).1
  | [], _, h => h
  | b :: l, acc, h => by
    rw [List.foldl_cons]
    refine foldK_ends ih ws c l _ ?_
    by_cases z : (c, b) ∈ ls
    · rw [stepK_in z]
      exact h
    · rw [stepK_out z]
      intro x hx
      rcases List.mem_append.mp hx with hx | hx
      · exact h x hx
      · exact ih (ws ++ [b]) b acc.2 (by rw [List.getLast?_append]; rfl) x hx
theorem blk_ends {ds : List Ent} {ls : List (Nat × Nat)} : ∀ (n : Nat) (ws : List Nat) (c : Nat) (nt : List Nat), ws.getLast? = some c → WaysL (blk ds ls n ws c nt).1
  | 0, ws, c, nt, h => ownC_ends h
  | n + 1, ws, c, nt, h => by
    unfold blk
    intro x hx
    rcases List.mem_append.mp hx with hx | hx
    · exact foldK_ends (blk_ends n) ws c _ _ (fun _ h => by cases h) x hx
    · exact ownC_ends h x hx
theorem layK_ends {ds : List Ent} {ls : List (Nat × Nat)} {c : Nat} : ∀ m, WaysL (layK ds ls c m).1
  | 0 => fun _ h => by cases h
  | m + 1 => fun x hx => by
    rcases List.mem_append.mp hx with hx | hx
    · exact layK_ends m x hx
    · exact blk_ends 11 _ _ _ rfl x hx
theorem ok_copies (F : FnP K "copies_of" 27 f fd) (B : Fr mg) (TL : ClsF K Cl ["world", "shared"]) (TP : ClsF K Cp ["way", "place"]) (FC : FnP K "check_class" 15 fC fdC) (mC : mg "check_class" = some (.ref fC)) (GC : FnOk P w K mg base (L2.CX P w) 3 fC fdC ["world", "c"] (spCheck C Cn))
    (FPa : FnP K "parts_of" 26 fPa fdPa) (mPa : mg "parts_of" = some (.ref fPa)) (GPa : FnOk P w K mg base CX0 18 fPa fdPa ["links", "c"] (spParts C Cl Cp)) : FnOk P w K mg base CX0 19 f fd ["links", "c", "target"] (spCopies C Cl) := by
  have bC : L2.Binds K fdC ["world", "c"] [] := FC.bindsN fun _ _ _ _ _ _ us hl => match us, hl with | [_, _], _ => rfl
  have bPa : L2.Binds K fdPa ["links", "c"] [] := FPa.bindsN fun _ _ _ _ _ _ us hl => match us, hl with | [_, _], _ => rfl
  refine F.ok sc_copies (fun vs H Q E h => ?_) (fun cdv A outer s H vs Q E hr h => ?_)
  · obtain ⟨p, wp, ds, ls, c, tg, rfl, _⟩ := h
    rfl
  · obtain ⟨p, wp, ds, ls, c, tg, rfl, hL, ok, h12, hc, ht, k⟩ := h
    refine ⟨_, PSs.nox (pss_cons (ps_expr (pe_call GC (hr.mono (by decide)) (by rfl) mC FC.kp bC .nil (passOut (E := fun _ _ _ => False)) (pa_cons (pe_fld (pv 0) rfl) (pa_cons (pv 1) pa_nil))))
      (pss_cons (ps_expr (pe_call GC (hr.mono (by decide)) (by rfl) mC FC.kp bC .nil (passOut (E := fun _ _ _ => False)) (pa_cons (pe_fld (pv 0) rfl) (pa_cons (pv 2) pa_nil))))
      (pss_one (ps_ret (pe_callB call_len_seq (by rfl) B.len PySem.boot_len (pa_cons (pe_lc (own := [("part", 3)]) (g := gName 3) (tt := tTest (tOp rEq (tOp (rIxT K) (tFld K (tVar 3) "way") (tUn (rU fun i => V.int (-i)) (tC (.int 1)))) (tVar 2))) (te := tVar 3) rfl sc_copies.nd (pi_tup (pe_call GPa hr (by rfl) mPa FPa.kp bPa .nil pass0 (pa_cons (pv 0) (pa_cons (pv 1) pa_nil)))) (blkOk_by (N := ["links", "c", "target", "part"]) (sc := defScope (top 27)) (by decide +kernel))
        (fun _ _ _ _ _ => pg_name (i := 3) sc_copies.nd rfl (Or.inl rfl)) (fun _ _ _ _ _ => pts_one (pt_cmpR op_eq (pe_ix (r := rIxT K) ix_tup (pe_fld (pv 3) rfl) (pe_un un_neg pe_int) (fun _ _ => rfl)) (pv 2) (nomark _))) (fun _ _ _ _ _ => pv 3)) pa_nil)))))), ?_⟩
    have hL0 := hL
    obtain ⟨dl, st, sus, l1, hw, l3, l4⟩ := hL
    refine ⟨_, rfl, p, Cl, dl, _, _, rfl, l1, TL.cl, TL.no _ (List.mem_of_getElem? (i := 0) rfl), rfl, _, rfl, wp, natV c, "int", ds, rfl, hw, .int _, .inl ⟨whole_of hc, fun H1 s1 => ?_⟩⟩
    refine ⟨_, rfl, p, Cl, dl, _, _, rfl, s1 _ _ l1, TL.cl, TL.no _ (List.mem_of_getElem? (i := 0) rfl), rfl, _, rfl, wp, natV tg, "int", ds, rfl, hw.mono s1, .int _, .inl ⟨whole_of ht, fun H2 s2 => ?_⟩⟩
    have s12 := s1.trans s2
    refine ⟨_, rfl, _, rfl, p, wp, ds, ls, c, rfl, hL0.mono s12, ok, h12, hc, fun t us m H3 s3 ht3 he hP ul => ?_⟩
    refine ⟨t, rfl, ⟨us, SqT.of ht3⟩, fun D hD => lc_tup (K := K) (a := t) (xs := us) (fun i H' => Same H3 H' ∧ ∃ vs, H' D = some (.lst vs) ∧ vs.length = ((((partsF (layK ds ls c m).1 0).take i)).filter fun x => endsW tg x.1).length) ⟨same_new hD, [], upd_same, rfl⟩ (fun i H' _ z => SqT.of (z.1 _ _ ht3)) ?_ ?_⟩
    · rintro i x H4 hi ⟨s4, vs, D4, vl⟩
      obtain ⟨⟨ws, pl⟩, hpt, a, dx, wt, rfl, ha, hwt⟩ := paired_get hP hi
      have il := (List.getElem?_eq_some_iff.mp hi).1
      have pm := List.mem_of_getElem? hpt
      obtain ⟨o, ho⟩ := partsF_mem pm
      obtain ⟨y, hy⟩ := layK_ends m _ ho
      have tf := take_filter (p := fun x : List Nat × Nat => endsW tg x.1) hpt
      have vl2 : vs.length ≤ 100000 := by
        rw [vl]
        refine Nat.le_trans (List.length_filter_le _ _) ?_
        rw [List.length_take, ← hP.len]
        omega
      refine ⟨rfl, _, rfl, a, Cp, dx, _, _, rfl, s4 _ _ ha, TP.cl, TP.no _ (List.mem_of_getElem? (i := 0) rfl), rfl, _, rfl, wt, _, _, _, rfl, rfl, SqT.of (s4 _ _ hwt), last_atI hy, _, rfl, rfl, _, rfl, ?_⟩
      have ey : endsW tg ws = decide (y = tg) := by
        unfold endsW
        rw [hy]
        by_cases z : y = tg
        · rw [z, decide_eq_true rfl, decide_eq_true rfl]
        · rw [decide_eq_false z, decide_eq_false fun e => z (Option.some.inj e)]
      rw [eq_nat]
      by_cases z : y = tg
      · rw [decide_eq_true z]
        refine iteT' rfl ⟨_, rfl, vs, D4, (by show _ < 2 ^ 24; omega), same_upd s4 hD, vs ++ [.ref a], upd_same, ?_⟩
        rw [tf]
        show (vs ++ [V.ref a]).length = List.length (α := List Nat × Nat) (_ ++ (if endsW tg ws = true then _ else _))
        rw [ey, decide_eq_true z, if_pos rfl, List.length_append, List.length_append, vl]
        rfl
      · rw [decide_eq_false z]
        refine iteF' rfl ⟨s4, vs, D4, ?_⟩
        rw [tf]
        show vs.length = List.length (α := List Nat × Nat) (_ ++ (if endsW tg ws = true then _ else _))
        rw [ey, decide_eq_false z, if_neg (by simp), List.append_nil, vl]
    · rintro H4 ⟨s4, vs, D4, vl⟩
      rw [hP.len, List.take_length] at vl
      refine ⟨D, vs, rfl, .inl (SqL.of D4), ?_⟩
      rw [vl]
      exact k m H4 (s12.trans (s3.trans s4)) he
end
end K83

set_option maxRecDepth 100000
set_option maxHeartbeats 8000000
namespace K83
open PySem PySem.Spec PyProof.Rows L2 Kw
/-! ### shared links in a way -/
theorem begN_step {ls : List (Nat × Nat)} {ws : List Nat} {j : Nat} : begN ls ws (j + 1) = if (ws.getD j 0, ws.getD (j + 1) 0) ∈ ls then j + 1 else begN ls ws j := rfl
theorem begN_zero {ls : List (Nat × Nat)} {ws : List Nat} : ∀ {j : Nat}, begN ls ws j = 0 ↔ ∀ i, i < j → (ws.getD i 0, ws.getD (i + 1) 0) ∉ ls
  | 0 => ⟨fun _ i h => absurd h (Nat.not_lt_zero _), fun _ => rfl⟩
  | j + 1 => by
    rw [begN_step]
    by_cases z : (ws.getD j 0, ws.getD (j + 1) 0) ∈ ls
    · rw [if_pos z]
      exact ⟨fun h => absurd h (Nat.succ_ne_zero _), fun h => absurd z (h j (Nat.lt_succ_self j))⟩
    · rw [if_neg z, begN_zero]
      constructor
      · intro h i hi
        by_cases q : i = j
        · rw [q]
          exact z
        · exact h i (by omega)
      · exact fun h i hi => h i (by omega)
theorem begN_pos {ls : List (Nat × Nat)} {ws : List Nat} {g : Nat} : ∀ {j : Nat}, begN ls ws j = g + 1 → g < j ∧ (ws.getD g 0, ws.getD (g + 1) 0) ∈ ls ∧ ∀ i, g + 1 ≤ i → i < j → (ws.getD i 0, ws.getD (i + 1) 0) ∉ ls
  | 0, h => absurd h.symm (Nat.succ_ne_zero _)
  | j + 1, h => by
    rw [begN_step] at h
    by_cases z : (ws.getD j 0, ws.getD (j + 1) 0) ∈ ls
    · rw [if_pos z] at h
      obtain rfl : j = g := by omega
      exact ⟨Nat.lt_succ_self _, z, fun i h1 h2 => by omega⟩
    · rw [if_neg z] at h
      obtain ⟨a, b, c⟩ := begN_pos h
      refine ⟨by omega, b, fun i h1 h2 => ?_⟩
      by_cases q : i = j
      · rw [q]
        exact z
      · exact c i h1 (by omega)
theorem begN_ge {ls : List (Nat × Nat)} {ws : List Nat} {i : Nat} (h : (ws.getD i 0, ws.getD (i + 1) 0) ∈ ls) : ∀ {j : Nat}, i < j → i + 1 ≤ begN ls ws j
  | 0, h => absurd h (Nat.not_lt_zero _)
  | j + 1, hj => by
    rw [begN_step]
    by_cases z : (ws.getD j 0, ws.getD (j + 1) 0) ∈ ls
    · rw [if_pos z]
      omega
    · rw [if_neg z]
      have q : i ≠ j := fun q => z (q ▸ h)
      exact begN_ge h (by omega)
theorem begN_drop {ls : List (Nat × Nat)} {ws : List Nat} {g : Nat} : ∀ k, begN ls (ws.drop g) k = begN ls ws (g + k) - g
  | 0 => by
    have := begN_le (ls := ls) (ws := ws) (j := g)
    show 0 = begN ls ws g - g
    omega
  | k + 1 => by
    have e : ∀ i, (ws.drop g).getD i 0 = ws.getD (g + i) 0 := fun i => by
      rw [List.getD_eq_getElem?_getD, List.getD_eq_getElem?_getD, List.getElem?_drop]
    rw [begN_step, e, e, show g + (k + 1) = g + k + 1 by omega, begN_step, begN_drop k, show g + k + 1 = g + (k + 1) by omega]
    split
    · omega
    · rfl
/-- what more shared links cut, they cut of the cut -/
theorem cut_cut {ls ms : List (Nat × Nat)} (h : ∀ q, q ∈ ls → q ∈ ms) (ws : List Nat) : cutW ms (cutW ls ws) = cutW ms ws := by
  have bl := begN_le (ls := ls) (ws := ws) (j := ws.length - 1)
  have ge : begN ls ws (ws.length - 1) ≤ begN ms ws (ws.length - 1) := by
    cases e : begN ls ws (ws.length - 1) with
    | zero => exact Nat.zero_le _
    | succ g =>
      obtain ⟨a, b, _⟩ := begN_pos e
      exact begN_ge (h _ b) a
  unfold cutW
  rw [begN_drop, List.length_drop, List.drop_drop]
  cases ws with
  | nil => rfl
  | cons x r =>
    rw [List.length_cons, Nat.add_sub_cancel] at bl ge ⊢
    rw [show begN ls (x :: r) r.length + (r.length + 1 - begN ls (x :: r) r.length - 1) = r.length by omega]
    congr 1
    omega
def noSh (ls : List (Nat × Nat)) (ws : List Nat) : Bool := decide (begN ls ws (ws.length - 1) = 0)
theorem noSh_cons {ls : List (Nat × Nat)} {c b : Nat} {ws : List Nat} (h : ws[0]? = some b) : noSh ls ([c] ++ ws) = (!decide ((c, b) ∈ ls) && noSh ls ws) := by
  have wl := (List.getElem?_eq_some_iff.mp h).1
  have g0 : ws.getD 0 0 = b := by rw [List.getD_eq_getElem?_getD, h]; rfl
  have key : begN ls ([c] ++ ws) (([c] ++ ws).length - 1) = 0 ↔ (c, b) ∉ ls ∧ begN ls ws (ws.length - 1) = 0 := by
    rw [begN_zero, begN_zero]
    have e0 : ([c] ++ ws).getD 0 0 = c := rfl
    have e1 : ∀ i, ([c] ++ ws).getD (i + 1) 0 = ws.getD i 0 := fun i => rfl
    constructor
    · intro h
      refine ⟨?_, fun i hi => ?_⟩
      · have := h 0 (by rw [List.length_append, List.length_singleton]; omega)
        rw [e0, e1, g0] at this
        exact this
      · have := h (i + 1) (by rw [List.length_append, List.length_singleton]; omega)
        rw [e1, e1] at this
        exact this
    · rintro ⟨h1, h2⟩ i hi
      rw [List.length_append, List.length_singleton] at hi
      cases i with
      | zero =>
        rw [e0, e1, g0]
        exact h1
      | succ i =>
        rw [e1, e1]
        exact h2 i (by omega)
  unfold noSh
  by_cases z : (c, b) ∈ ls
  · rw [decide_eq_true z, decide_eq_false fun q => (key.mp q).1 z]
    rfl
  · by_cases y : begN ls ws (ws.length - 1) = 0
    · rw [decide_eq_false z, decide_eq_true y, decide_eq_true (key.mpr ⟨z, y⟩)]
      rfl
    · rw [decide_eq_false z, decide_eq_false y, decide_eq_false fun q => y (key.mp q).2]
      rfl
/-- the ways of doubled links alone -/
def dwF (ds : List Ent) (ls : List (Nat × Nat)) : Nat → Nat → List (List Nat)
  | 0, c => [[c]]
  | n + 1, c => [c] :: (basesOf ds c).flatMap fun b => if (c, b) ∈ ls then [] else (dwF ds ls n b).map fun w => [c] ++ w
theorem ways_head {ds : List Ent} : ∀ {n c : Nat} {ws : List Nat}, ws ∈ waysF ds n c → ws[0]? = some c
  | 0, c, ws, h => by
    obtain rfl : ws = [c] := List.mem_singleton.mp h
    rfl
  | n + 1, c, ws, h => by
    unfold waysF at h
    rcases List.mem_cons.mp h with rfl | h
    · rfl
    · obtain ⟨b, _, h⟩ := List.mem_flatMap.mp h
      obtain ⟨u, _, rfl⟩ := List.mem_map.mp h
      rfl
theorem flatMap_cong {α β : Type} {f g : α → List β} : ∀ {l : List α}, (∀ x ∈ l, f x = g x) → l.flatMap f = l.flatMap g
  | [], _ => rfl
  | x :: l, h => by
    rw [List.flatMap_cons, List.flatMap_cons, h x List.mem_cons_self, flatMap_cong fun y hy => h y (List.mem_cons_of_mem _ hy)]
theorem dwF_eq {ds : List Ent} {ls : List (Nat × Nat)} : ∀ n c, dwF ds ls n c = (waysF ds n c).filter (noSh ls)
  | 0, c => rfl
  | n + 1, c => by
    have e : noSh ls [c] = true := rfl
    unfold dwF waysF
    rw [List.filter_cons, e, if_pos rfl, List.filter_flatMap]
    congr 1
    refine flatMap_cong fun b _ => ?_
    rw [List.filter_map]
    have f : ∀ l : List (List Nat), (∀ w ∈ l, w[0]? = some b) → l.filter (noSh ls ∘ fun w => [c] ++ w) = if (c, b) ∈ ls then [] else l.filter (noSh ls) := by
      intro l hl
      induction l with
      | nil => simp
      | cons w l ih =>
        have e1 : (noSh ls ∘ fun w => [c] ++ w) w = (!decide ((c, b) ∈ ls) && noSh ls w) := noSh_cons (hl w List.mem_cons_self)
        rw [List.filter_cons, List.filter_cons, e1, ih fun x hx => hl x (List.mem_cons_of_mem _ hx)]
        by_cases z : (c, b) ∈ ls
        · rw [decide_eq_true z, if_pos z, if_pos z]
          rfl
        · rw [decide_eq_false z, if_neg z, if_neg z, show (!false && noSh ls w) = noSh ls w from Bool.true_and _]
    rw [f _ fun w hw => ways_head hw, dwF_eq n b]
    by_cases z : (c, b) ∈ ls
    · rw [if_pos z, if_pos z]
      rfl
    · rw [if_neg z, if_neg z]
theorem mem_waysF {ds : List Ent} (ok : DsOk ds) : ∀ (n c : Nat), c ≤ n → ∀ ws, IsWay ds ws → ws[0]? = some c → ws ∈ waysF ds n c := by
  intro n
  induction n with
  | zero =>
    intro c hc ws hw h0
    match ws, h0 with
    | [x], h0 =>
      obtain rfl := Option.some.inj h0
      exact List.mem_singleton.mpr rfl
    | x :: y :: r, h0 =>
      obtain rfl : x = c := Option.some.inj h0
      have := basesOf_lt ok (hw.2 0 x y rfl rfl)
      omega
  | succ n ih =>
    intro c hc ws hw h0
    match ws, h0 with
    | [x], h0 =>
      obtain rfl := Option.some.inj h0
      unfold waysF
      exact List.mem_cons_self
    | x :: y :: r, h0 =>
      obtain rfl : x = c := Option.some.inj h0
      have hb := hw.2 0 x y rfl rfl
      have lt := basesOf_lt ok hb
      have hr : IsWay ds (y :: r) := ⟨⟨y, rfl, by omega⟩, fun i a b ha hb => hw.2 (i + 1) a b ha hb⟩
      unfold waysF
      exact List.mem_cons_of_mem _ (List.mem_flatMap.mpr ⟨y, hb, List.mem_map.mpr ⟨y :: r, ih y (by omega) _ hr rfl, rfl⟩⟩)
theorem ways_nodup {ds : List Ent} (ok : DsOk ds) : ∀ n c, (waysF ds n c).Nodup
  | 0, c => by simp [waysF]
  | n + 1, c => by
    unfold waysF
    refine List.nodup_cons.mpr ⟨fun h => ?_, ?_⟩
    · obtain ⟨b, _, h⟩ := List.mem_flatMap.mp h
      obtain ⟨u, hu, e⟩ := List.mem_map.mp h
      have := ways_head hu
      have ul := (List.getElem?_eq_some_iff.mp this).1
      have := congrArg List.length e
      rw [List.length_append, List.length_singleton] at this
      simp at this
      rw [this] at ul
      simp at ul
    · refine List.pairwise_flatMap.mpr ⟨fun b _ => ?_, ?_⟩
      · exact List.Pairwise.map _ (fun x y (h : x ≠ y) z => h (List.append_cancel_left z)) (ways_nodup ok n b)
      · refine (basesOf_nodup ok c).imp ?_
        intro b b' ne x hx y hy e
        obtain ⟨u, hu, rfl⟩ := List.mem_map.mp hx
        obtain ⟨v, hv, rfl⟩ := List.mem_map.mp hy
        have e2 := List.append_cancel_left e
        have h1 := ways_head hu
        have h2 := ways_head hv
        rw [e2, h2] at h1
        exact ne (Option.some.inj h1).symm
end K83

set_option maxRecDepth 100000
set_option maxHeartbeats 8000000
namespace K83
open PySem PySem.Spec PyProof.Rows L2 Kw
/-! ### the parts: the ways of doubled links of the classes noted -/
def headsL : List Cell → List (List Nat)
  | [] => []
  | (ws, none) :: r => ws :: headsL r
  | (_, some _) :: r => headsL r
theorem headsL_app : ∀ (a b : List Cell), headsL (a ++ b) = headsL a ++ headsL b
  | [], _ => rfl
  | (_, none) :: r, b => by
    show _ :: headsL (r ++ b) = _
    rw [headsL_app r b]
    rfl
  | (_, some _) :: r, b => headsL_app r b
theorem headsL_some {ws : List Nat} : ∀ l : List Nat, headsL (l.map fun i => (ws, some i)) = []
  | [] => rfl
  | _ :: l => headsL_some l
theorem headsL_own {ds : List Ent} {ws : List Nat} {c : Nat} : headsL (ownC ds ws c) = [ws] := by
  show ws :: headsL _ = [ws]
  rw [headsL_some]
theorem partsF_heads : ∀ (l : List Cell) (i : Nat), (partsF l i).map (·.1) = headsL l
  | [], _ => rfl
  | (ws, none) :: r, i => by
    show ws :: (partsF r (i + 1)).map (·.1) = _
    rw [partsF_heads r]
    rfl
  | (_, some _) :: r, i => partsF_heads r (i + 1)
theorem parts_count (p : List Nat → Bool) (l : List Cell) (i : Nat) : ((partsF l i).filter fun x => p x.1).length = ((headsL l).filter p).length := by
  rw [← partsF_heads l i, List.filter_map, List.length_map]
  rfl
def dwS (ds : List Ent) (ls : List (Nat × Nat)) (n c : Nat) (ws : List Nat) (b : Nat) : List (List Nat) := if (c, b) ∈ ls then [] else (dwF ds ls n b).map fun w => ws ++ w
theorem foldK_heads {ds : List Ent} {ls : List (Nat × Nat)} {n : Nat} (ih : ∀ ws c nt, ws.getLast? = some c → (headsL (blk ds ls n ws c nt).1).Perm ((dwF ds ls n c).map fun w => ws.dropLast ++ w)) (ws : List Nat) (c : Nat) : ∀ (l : List Nat) (acc : List Cell × List Nat),
    (headsL (l.foldl (stepK ls (blk ds ls n) ws c) acc).1).Perm (headsL acc.1 ++ l.flatMap (dwS ds ls n c ws))
  | [], acc => by
    rw [List.flatMap_nil, List.append_nil]
    exact List.Perm.refl _
  | b :: l, acc => by
    rw [List.foldl_cons, List.flatMap_cons, ← List.append_assoc]
    refine (foldK_heads ih ws c l _).trans (List.Perm.append_right _ ?_)
    unfold dwS
    by_cases z : (c, b) ∈ ls
    · rw [stepK_in z, if_pos z, List.append_nil]
    · rw [stepK_out z, if_neg z]
      show (headsL (acc.1 ++ _)).Perm _
      rw [headsL_app]
      refine List.Perm.append_left _ ((ih (ws ++ [b]) b acc.2 (by rw [List.getLast?_append]; rfl)).trans ?_)
      rw [List.dropLast_concat]
theorem blk_heads {ds : List Ent} {ls : List (Nat × Nat)} : ∀ (n : Nat) (ws : List Nat) (c : Nat) (nt : List Nat), ws.getLast? = some c → (headsL (blk ds ls n ws c nt).1).Perm ((dwF ds ls n c).map fun w => ws.dropLast ++ w)
  | 0, ws, c, nt, h => by
    have e : ws.dropLast ++ [c] = ws := by
      obtain ⟨r, rfl⟩ := List.getLast?_eq_some_iff.mp h
      rw [List.dropLast_concat]
    show (headsL (ownC ds ws c)).Perm [ws.dropLast ++ [c]]
    rw [headsL_own, e]
  | n + 1, ws, c, nt, h => by
    have e : ws.dropLast ++ [c] = ws := by
      obtain ⟨r, rfl⟩ := List.getLast?_eq_some_iff.mp h
      rw [List.dropLast_concat]
    unfold blk
    rw [headsL_app, headsL_own]
    have f := foldK_heads (ds := ds) (ls := ls) (n := n) (blk_heads n) ws c (basesOf ds c) ([], nt)
    refine (f.append_right [ws]).trans ?_
    show (headsL [] ++ _ ++ [ws]).Perm (((dwF ds ls (n + 1) c)).map _)
    unfold dwF
    rw [List.map_cons, e, List.map_flatMap]
    have g : ((basesOf ds c).flatMap fun a => List.map (fun w => ws.dropLast ++ w) (if (c, a) ∈ ls then [] else List.map (fun w => [c] ++ w) (dwF ds ls n a))) = (basesOf ds c).flatMap (dwS ds ls n c ws) := flatMap_cong fun b _ => by
      unfold dwS
      split
      · rfl
      · rw [List.map_map]
        refine List.map_congr_left fun w _ => ?_
        show ws.dropLast ++ ([c] ++ w) = ws ++ w
        rw [← List.append_assoc, e]
    rw [g]
    exact List.perm_append_comm
/-! ### the classes noted -/
inductive Rch (ds : List Ent) (c : Nat) : Nat → Prop where
  | refl : Rch ds c c
  | step {y b : Nat} (h : Rch ds c y) (hb : b ∈ basesOf ds y) : Rch ds c b
theorem Rch.head {ds : List Ent} {c b y : Nat} (hb : b ∈ basesOf ds c) (h : Rch ds b y) : Rch ds c y := by
  induction h with
  | refl => exact .step .refl hb
  | step _ hb' ih => exact .step ih hb'
theorem Rch.trans {ds : List Ent} {c b y : Nat} (a : Rch ds c b) (h : Rch ds b y) : Rch ds c y := by
  induction h with
  | refl => exact a
  | step _ hb' ih => exact .step ih hb'
/-- along doubled links alone -/
inductive DRch (ds : List Ent) (ls : List (Nat × Nat)) : Nat → Nat → Prop where
  | refl (c : Nat) : DRch ds ls c c
  | head {c b y : Nat} (hb : b ∈ basesOf ds c) (nl : (c, b) ∉ ls) (h : DRch ds ls b y) : DRch ds ls c y
theorem DRch.snoc {ds : List Ent} {ls : List (Nat × Nat)} {c y b : Nat} (h : DRch ds ls c y) (hb : b ∈ basesOf ds y) (nl : (y, b) ∉ ls) : DRch ds ls c b := by
  induction h with
  | refl c => exact .head hb nl (.refl _)
  | head hb' nl' _ ih => exact .head hb' nl' (ih hb nl)
theorem noteB_sub {nt : List Nat} {b x : Nat} (h : x ∈ nt) : x ∈ noteB nt b := by
  unfold noteB
  split
  · exact h
  · exact List.mem_append_left _ h
theorem noteB_self {nt : List Nat} {b : Nat} : b ∈ noteB nt b := by
  unfold noteB
  split
  · assumption
  · exact List.mem_append_right _ (List.mem_singleton.mpr rfl)
theorem noteB_pre {nt : List Nat} {b : Nat} : nt <+: noteB nt b := by
  unfold noteB
  split
  · exact List.prefix_rfl
  · exact List.prefix_append _ _
theorem foldK_pre {ds : List Ent} {ls : List (Nat × Nat)} {n : Nat} (ih : ∀ ws c nt, nt <+: (blk ds ls n ws c nt).2) (ws : List Nat) (c : Nat) : ∀ (l : List Nat) (acc : List Cell × List Nat), acc.2 <+: (l.foldl (stepK ls (blk ds ls n) ws c) acc).2
  | [], _ => List.prefix_rfl
  | b :: l, acc => by
    rw [List.foldl_cons]
    refine List.IsPrefix.trans ?_ (foldK_pre ih ws c l _)
    by_cases z : (c, b) ∈ ls
    · rw [stepK_in z]
      exact noteB_pre
    · rw [stepK_out z]
      exact ih _ _ _
theorem blk_pre {ds : List Ent} {ls : List (Nat × Nat)} : ∀ (n : Nat) (ws : List Nat) (c : Nat) (nt : List Nat), nt <+: (blk ds ls n ws c nt).2
  | 0, _, _, _ => List.prefix_rfl
  | n + 1, ws, c, nt => by
    exact foldK_pre (ds := ds) (ls := ls) (n := n) (blk_pre n) ws c (basesOf ds c) ([], nt)
theorem foldK_in {ds : List Ent} {ls : List (Nat × Nat)} {n : Nat} (ih : ∀ ws d nt x, x ∈ (blk ds ls n ws d nt).2 → x ∈ nt ∨ ∃ y, Rch ds d y ∧ (y, x) ∈ ls) (ws : List Nat) (c : Nat) : ∀ (l : List Nat) (acc : List Cell × List Nat), (∀ b ∈ l, b ∈ basesOf ds c) → ∀ x, x ∈ (l.foldl (stepK ls (blk ds ls n) ws c) acc).2 → x ∈ acc.2 ∨ ∃ y, Rch ds c y ∧ (y, x) ∈ ls
  | [], _, _, x, h => .inl h
  | b :: l, acc, hl, x, h => by
    rw [List.foldl_cons] at h
    rcases foldK_in ih ws c l _ (fun y hy => hl y (List.mem_cons_of_mem _ hy)) x h with h | h
    · by_cases z : (c, b) ∈ ls
      · rw [stepK_in z] at h
        have h' : x ∈ noteB acc.2 b := h
        unfold noteB at h'
        split at h'
        · exact .inl h'
        · rcases List.mem_append.mp h' with h' | h'
          · exact .inl h'
          · rw [List.mem_singleton.mp h']
            exact .inr ⟨c, .refl, z⟩
      · rw [stepK_out z] at h
        rcases ih _ _ _ _ h with h | ⟨y, r, m⟩
        · exact .inl h
        · exact .inr ⟨y, r.head (hl b List.mem_cons_self), m⟩
    · exact .inr h
theorem blk_in {ds : List Ent} {ls : List (Nat × Nat)} : ∀ (n : Nat) (ws : List Nat) (d : Nat) (nt : List Nat) (x : Nat), x ∈ (blk ds ls n ws d nt).2 → x ∈ nt ∨ ∃ y, Rch ds d y ∧ (y, x) ∈ ls
  | 0, _, _, _, _, h => .inl h
  | n + 1, ws, d, nt, x, h => by
    unfold blk at h
    exact foldK_in (blk_in n) ws d _ _ (fun b hb => hb) x h
theorem foldK_all {ds : List Ent} {ls : List (Nat × Nat)} {n : Nat} (ws : List Nat) (c : Nat) : ∀ (l : List Nat) (acc : List Cell × List Nat) (b x : Nat), b ∈ l → ((c, b) ∈ ls → x = b) → ((c, b) ∉ ls → ∀ ws' nt, x ∈ (blk ds ls n ws' b nt).2) → x ∈ (l.foldl (stepK ls (blk ds ls n) ws c) acc).2
  | b' :: l, acc, b, x, hb, h1, h2 => by
    rw [List.foldl_cons]
    rcases List.mem_cons.mp hb with rfl | hb
    · refine (foldK_pre (blk_pre n) ws c l _).subset ?_
      by_cases z : (c, b) ∈ ls
      · rw [stepK_in z, h1 z]
        exact noteB_self
      · rw [stepK_out z]
        exact h2 z _ _
    · exact foldK_all ws c l _ b x hb h1 h2
theorem blk_all {ds : List Ent} (ok : DsOk ds) {ls : List (Nat × Nat)} : ∀ (n d y b : Nat), d ≤ n → DRch ds ls d y → b ∈ basesOf ds y → (y, b) ∈ ls → ∀ (ws nt : List Nat), b ∈ (blk ds ls n ws d nt).2 := by
  intro n
  induction n with
  | zero =>
    intro d y b hd h hb hm ws nt
    cases h with
    | refl =>
      have := basesOf_lt ok hb
      omega
    | head hb' _ _ =>
      have := basesOf_lt ok hb'
      omega
  | succ n ih =>
    intro d y b hd h hb hm ws nt
    unfold blk
    cases h with
    | refl => exact foldK_all ws d _ _ b b hb (fun _ => rfl) fun z => absurd hm z
    | head hb' nl h =>
      rename_i b'
      have := basesOf_lt ok hb'
      exact foldK_all ws d _ _ b' b hb' (fun z => absurd z nl) fun _ ws' nt' => ih b' y b (by omega) h hb hm ws' nt'
/-! ### the whole object -/
theorem layK_pre {ds : List Ent} {ls : List (Nat × Nat)} {c : Nat} : ∀ {j m : Nat}, j ≤ m → (layK ds ls c j).2 <+: (layK ds ls c m).2 := by
  intro j m h
  induction h with
  | refl => exact List.prefix_rfl
  | step _ ih => exact ih.trans (blk_pre 11 _ _ _)
theorem LaidEnd.len {ds : List Ent} {ls : List (Nat × Nat)} {c m : Nat} (h : LaidEnd ds ls c m) : (layK ds ls c m).2.length = m := by
  refine Nat.le_antisymm h.2 ?_
  cases m with
  | zero => exact Nat.zero_le _
  | succ m =>
    have h1 := h.1 m (Nat.lt_succ_self m)
    have h2 := (layK_pre (ds := ds) (ls := ls) (c := c) (show m ≤ m + 1 by omega)).length_le
    omega
theorem layK_at {ds : List Ent} {ls : List (Nat × Nat)} {c m j : Nat} (h : LaidEnd ds ls c m) (hj : j < m) : (layK ds ls c m).2[j]? = some ((layK ds ls c j).2.getD j 0) := by
  have h1 := h.1 j hj
  obtain ⟨r, hr⟩ := layK_pre (ds := ds) (ls := ls) (c := c) (Nat.le_of_lt hj)
  rw [← hr, List.getElem?_append_left h1, List.getD_eq_getElem?_getD, List.getElem?_eq_getElem h1]
  rfl
theorem layK_heads {ds : List Ent} {ls : List (Nat × Nat)} {c : Nat} : ∀ m, (headsL (layK ds ls c m).1).Perm ((List.range m).flatMap fun j => dwF ds ls 11 ((layK ds ls c j).2.getD j 0))
  | 0 => List.Perm.refl _
  | m + 1 => by
    rw [List.range_succ, List.flatMap_append, List.flatMap_cons, List.flatMap_nil, List.append_nil]
    show (headsL (_ ++ _)).Perm _
    rw [headsL_app]
    refine (layK_heads m).append ?_
    have h := blk_heads (ds := ds) (ls := ls) 11 [(layK ds ls c m).2.getD m 0] ((layK ds ls c m).2.getD m 0) (layK ds ls c m).2 rfl
    refine h.trans ?_
    rw [show ([(layK ds ls c m).2.getD m 0] : List Nat).dropLast = [] from rfl]
    have e : ∀ l : List (List Nat), (l.map fun w => [] ++ w) = l := fun l => by simp
    rw [e]
theorem range_flat {α : Type} (f : Nat → List α) (l : List Nat) (g : Nat → Nat) (h : ∀ j, j < l.length → l[j]? = some (g j)) : ((List.range l.length).flatMap fun j => f (g j)) = l.flatMap f := by
  induction l generalizing g with
  | nil => rfl
  | cons a l ih =>
    rw [List.length_cons, List.range_succ_eq_map, List.flatMap_cons, List.flatMap_map, List.flatMap_cons]
    have h0 := h 0 (by rw [List.length_cons]; omega)
    obtain rfl : a = g 0 := Option.some.inj h0
    congr 1
    exact ih (fun j => g (j + 1)) fun j hj => h (j + 1) (by rw [List.length_cons]; omega)
theorem laid_heads {ds : List Ent} {ls : List (Nat × Nat)} {c m : Nat} (h : LaidEnd ds ls c m) : (headsL (layK ds ls c m).1).Perm ((layK ds ls c m).2.flatMap (dwF ds ls 11)) := by
  have e := range_flat (dwF ds ls 11) (layK ds ls c m).2 (fun j => (layK ds ls c j).2.getD j 0) fun j hj => layK_at h (by rw [h.len] at hj; exact hj)
  rw [← e, h.len]
  exact layK_heads m
theorem laid_mem {ds : List Ent} (ok : DsOk ds) {ls : List (Nat × Nat)} (lok : LsOk ds ls) {c m : Nat} (hc : c < ds.length) (h12 : ds.length ≤ 12) (h : LaidEnd ds ls c m) (x : Nat) : x ∈ (layK ds ls c m).2 ↔ x = c ∨ ∃ y, Rch ds c y ∧ (y, x) ∈ ls := by
  have lnk : ∀ {y x}, (y, x) ∈ ls → x ∈ basesOf ds y := fun hm => by
    have := lok.2 _ hm
    unfold linkB at this
    rw [Bool.and_eq_true] at this
    exact List.contains_iff_mem.mp this.2
  have sub : ∀ m, (∀ j, j < m → j < (layK ds ls c j).2.length) → ∀ x ∈ (layK ds ls c m).2, x = c ∨ ∃ y, Rch ds c y ∧ (y, x) ∈ ls := by
    intro m
    induction m with
    | zero => exact fun _ x hx => .inl (List.mem_singleton.mp hx)
    | succ m ih =>
      intro hm x hx
      have ih := ih fun j hj => hm j (by omega)
      rcases blk_in 11 _ _ _ _ hx with hx | ⟨y, r, hy⟩
      · exact ih x hx
      · have lm := hm m (Nat.lt_succ_self m)
        have nm : (layK ds ls c m).2.getD m 0 ∈ (layK ds ls c m).2 := by
          rw [List.getD_eq_getElem?_getD, List.getElem?_eq_getElem lm]
          exact List.getElem_mem lm
        have rn : Rch ds c ((layK ds ls c m).2.getD m 0) := by
          rcases ih _ nm with e | ⟨z, r', hz⟩
          · rw [e]
            exact .refl
          · exact .step r' (lnk hz)
        exact .inr ⟨y, rn.trans r, hy⟩
  have nt := layK_nt ok (ls := ls) hc m h.1
  have cin : c ∈ (layK ds ls c m).2 := (layK_pre (Nat.zero_le m)).subset (List.mem_singleton.mpr rfl)
  have all : ∀ k ∈ (layK ds ls c m).2, ∀ y b, DRch ds ls k y → b ∈ basesOf ds y → (y, b) ∈ ls → b ∈ (layK ds ls c m).2 := by
    intro k hk y b dr hb hm
    obtain ⟨j, hj⟩ := List.mem_iff_getElem?.mp hk
    have jl := (List.getElem?_eq_some_iff.mp hj).1
    rw [h.len] at jl
    have e := layK_at h jl
    rw [hj] at e
    have e2 := Option.some.inj e
    have kl := nt.2 k hk
    refine (layK_pre (show j + 1 ≤ m by omega)).subset ?_
    show b ∈ (blk ds ls 11 [(layK ds ls c j).2.getD j 0] ((layK ds ls c j).2.getD j 0) (layK ds ls c j).2).2
    rw [← e2]
    exact blk_all ok 11 k y b (by omega) dr hb hm _ _
  have reach : ∀ y, Rch ds c y → ∃ k ∈ (layK ds ls c m).2, DRch ds ls k y := by
    intro y r
    induction r with
    | refl => exact ⟨c, cin, .refl c⟩
    | step _ hb ih =>
      rename_i y b _
      obtain ⟨k, hk, dr⟩ := ih
      by_cases z : (y, b) ∈ ls
      · exact ⟨b, all k hk y b dr hb z, .refl b⟩
      · exact ⟨k, hk, dr.snoc hb z⟩
  constructor
  · exact sub m h.1 x
  · rintro (rfl | ⟨y, r, hy⟩)
    · exact cin
    · obtain ⟨k, hk, dr⟩ := reach y r
      exact all k hk y x dr (lnk hy) hy
end K83

set_option maxRecDepth 100000
set_option maxHeartbeats 8000000
namespace K83
open PySem PySem.Spec PyProof.Rows L2 Kw
theorem nodup_perm {α : Type} [DecidableEq α] : ∀ {l m : List α}, l.Nodup → m.Nodup → (∀ x, x ∈ l ↔ x ∈ m) → l.Perm m
  | [], m, _, _, h => by
    cases m with
    | nil => exact List.Perm.refl _
    | cons a r => exact absurd ((h a).mpr List.mem_cons_self) (by simp)
  | a :: l, m, hl, hm, h => by
    have hl' := List.nodup_cons.mp hl
    have am := (h a).mp List.mem_cons_self
    refine (List.Perm.cons a (nodup_perm hl'.2 (hm.erase a) fun x => ?_)).trans (List.perm_cons_erase am).symm
    rw [hm.mem_erase_iff]
    constructor
    · intro hx
      exact ⟨fun e => hl'.1 (e ▸ hx), (h x).mp (List.mem_cons_of_mem _ hx)⟩
    · rintro ⟨ne, hx⟩
      exact (List.mem_cons.mp ((h x).mpr hx)).resolve_left ne
/-! ### elders, and what can be reached -/
theorem els_mem {ds : List Ent} (ok : DsOk ds) {c : Nat} (hc : c < ds.length) (x : Nat) : x ∈ (elsOf ds).getD c [] ↔ ∃ b ∈ basesOf ds c, x = b ∨ x ∈ (elsOf ds).getD b [] := by
  obtain ⟨d, hd⟩ : ∃ d, ds[c]? = some d := ⟨_, List.getElem?_eq_getElem hc⟩
  have ed : basesOf ds c = d.1 := by
    unfold basesOf
    rw [List.getD_eq_getElem?_getD, hd]
    rfl
  rw [ed]
  exact elders_mem ok.valid (c := c) (row := d.1) (by rw [List.getElem?_map, hd]; rfl) x
theorem rch_els {ds : List Ent} (ok : DsOk ds) {c : Nat} (hc : c < ds.length) (y : Nat) : Rch ds c y ↔ y = c ∨ y ∈ (elsOf ds).getD c [] := by
  constructor
  · intro h
    induction h with
    | refl => exact .inl rfl
    | step _ hb ih =>
      rename_i y b _
      rcases ih with rfl | h
      · exact .inr ((els_mem ok hc b).mpr ⟨b, hb, .inl rfl⟩)
      · have yl := (basesOf_lt ok hb).2
        exact .inr (elders_trans ok.valid c h ((els_mem ok yl b).mpr ⟨b, hb, .inl rfl⟩))
  · have key : ∀ n c, c ≤ n → c < ds.length → y ∈ (elsOf ds).getD c [] → Rch ds c y := by
      intro n
      induction n with
      | zero =>
        intro c cn hc h
        obtain ⟨b, hb, _⟩ := (els_mem ok hc y).mp h
        have := basesOf_lt ok hb
        omega
      | succ n ih =>
        intro c cn hc h
        obtain ⟨b, hb, h⟩ := (els_mem ok hc y).mp h
        have := basesOf_lt ok hb
        rcases h with rfl | h
        · exact .step .refl hb
        · exact (ih b (by omega) (by omega) h).head hb
    rintro (rfl | h)
    · exact .refl
    · exact key c c (Nat.le_refl _) hc h
theorem way_rch {ds : List Ent} {ws : List Nat} (h : IsWay ds ws) {c : Nat} (h0 : ws[0]? = some c) : ∀ {i y : Nat}, ws[i]? = some y → Rch ds c y
  | 0, y, e => by
    rw [h0] at e
    obtain rfl := Option.some.inj e
    exact .refl
  | i + 1, y, e => by
    obtain ⟨x, hx⟩ : ∃ x, ws[i]? = some x := ⟨_, List.getElem?_eq_getElem (by have := (List.getElem?_eq_some_iff.mp e).1; omega)⟩
    exact .step (way_rch h h0 hx) (h.2 i x y hx e)
theorem rch_way {ds : List Ent} {c y : Nat} (hc : c < ds.length) (h : Rch ds c y) : ∃ ws, IsWay ds ws ∧ ws[0]? = some c ∧ ws.getLast? = some y := by
  induction h with
  | refl => exact ⟨[c], ⟨⟨c, rfl, hc⟩, fun i x y _ hy => by simp at hy⟩, rfl, rfl⟩
  | step _ hb ih =>
    rename_i y b _
    obtain ⟨ws, hw, h0, hl⟩ := ih
    have wl := (List.getElem?_eq_some_iff.mp h0).1
    refine ⟨ws ++ [b], ?_, by rw [List.getElem?_append_left wl]; exact h0, by rw [List.getLast?_append]; rfl⟩
    obtain ⟨c0, hc0, l0⟩ := id hw.1
    rw [List.getLast?_eq_getElem?] at hl
    refine ⟨⟨c0, by rw [List.getElem?_append_left wl]; exact hc0, l0⟩, fun i x z hx hz => ?_⟩
    by_cases q : i + 1 < ws.length
    · rw [List.getElem?_append_left (by omega)] at hx
      rw [List.getElem?_append_left q] at hz
      exact hw.2 i x z hx hz
    · have il := (List.getElem?_eq_some_iff.mp hz).1
      rw [List.length_append, List.length_singleton] at il
      rw [List.getElem?_append_left (by omega), show i = ws.length - 1 by omega, hl] at hx
      obtain rfl := Option.some.inj hx
      rw [List.getElem?_append_right (by omega), show i + 1 - ws.length = 0 by omega] at hz
      obtain rfl : b = z := Option.some.inj hz
      exact hb
/-! ### the count -/
def srcL (ds : List Ent) (ls : List (Nat × Nat)) (c : Nat) : List Nat := (List.range ds.length).filter fun x => ls.any fun q => decide (q.2 = x) && ((elsOf ds).getD c [] ++ [c]).contains q.1
theorem mem_srcL {ds : List Ent} (ok : DsOk ds) {ls : List (Nat × Nat)} (lok : LsOk ds ls) {c : Nat} (hc : c < ds.length) (x : Nat) : x ∈ srcL ds ls c ↔ ∃ y, Rch ds c y ∧ (y, x) ∈ ls := by
  unfold srcL
  rw [List.mem_filter, List.mem_range, List.any_eq_true]
  constructor
  · rintro ⟨_, ⟨y, z⟩, hq, h⟩
    rw [Bool.and_eq_true] at h
    obtain rfl : z = x := of_decide_eq_true h.1
    refine ⟨y, (rch_els ok hc y).mpr ?_, hq⟩
    rcases List.mem_append.mp (List.contains_iff_mem.mp h.2) with h | h
    · exact .inr h
    · exact .inl (List.mem_singleton.mp h)
  · rintro ⟨y, r, hq⟩
    have hl := lok.2 _ hq
    unfold linkB at hl
    rw [Bool.and_eq_true] at hl
    have bl := basesOf_lt ok (List.contains_iff_mem.mp hl.2)
    refine ⟨by omega, (y, x), hq, ?_⟩
    rw [Bool.and_eq_true]
    refine ⟨decide_eq_true rfl, List.contains_iff_mem.mpr (List.mem_append.mpr ?_)⟩
    rcases (rch_els ok hc y).mp r with rfl | h
    · exact .inr (List.mem_singleton.mpr rfl)
    · exact .inl h
theorem lnk_base {ds : List Ent} {ls : List (Nat × Nat)} (lok : LsOk ds ls) {y x : Nat} (h : (y, x) ∈ ls) : x ∈ basesOf ds y := by
  have := lok.2 _ h
  unfold linkB at this
  rw [Bool.and_eq_true] at this
  exact List.contains_iff_mem.mp this.2
theorem rch_le {ds : List Ent} (ok : DsOk ds) {c y : Nat} (h : Rch ds c y) : y ≤ c := by
  induction h with
  | refl => exact Nat.le_refl _
  | step _ hb ih =>
    have := (basesOf_lt ok hb).1
    omega
theorem src_nodup {ds : List Ent} (ok : DsOk ds) {ls : List (Nat × Nat)} (lok : LsOk ds ls) {c : Nat} (hc : c < ds.length) : (c :: srcL ds ls c).Nodup := by
  refine List.nodup_cons.mpr ⟨fun h => ?_, List.Nodup.sublist List.filter_sublist List.nodup_range⟩
  obtain ⟨y, r, hq⟩ := (mem_srcL ok lok hc c).mp h
  have h1 := rch_le ok r
  have h2 := (basesOf_lt ok (lnk_base lok hq)).1
  omega
def cutsL (ds : List Ent) (ls : List (Nat × Nat)) (c t : Nat) : List (List Nat) := (c :: srcL ds ls c).flatMap fun s => (dwF ds ls 11 s).filter (endsW t)
def cntN (ds : List Ent) (ls : List (Nat × Nat)) (c t : Nat) : Nat := (cutsL ds ls c t).length
theorem copies_eq {ds : List Ent} (ok : DsOk ds) {ls : List (Nat × Nat)} (lok : LsOk ds ls) {c m : Nat} (hc : c < ds.length) (h12 : ds.length ≤ 12) (h : LaidEnd ds ls c m) (t : Nat) : ((partsF (layK ds ls c m).1 0).filter fun x => endsW t x.1).length = cntN ds ls c t := by
  rw [parts_count (endsW t)]
  have p1 := ((laid_heads h).filter (endsW t)).length_eq
  have nt := layK_nt ok (ls := ls) hc m h.1
  have p2 : (layK ds ls c m).2.Perm (c :: srcL ds ls c) := nodup_perm nt.1 (src_nodup ok lok hc) fun x => by
    rw [laid_mem ok lok hc h12 h, List.mem_cons, mem_srcL ok lok hc]
  rw [p1, List.filter_flatMap]
  exact (p2.flatMap_right _).length_eq
def dblN (ds : List Ent) (ls : List (Nat × Nat)) (s t : Nat) : Nat := ((waysTo ds 11 s t).filter (noSh ls)).length
theorem dbl_eq {ds : List Ent} {ls : List (Nat × Nat)} (s t : Nat) : dblN ds ls s t = ((dwF ds ls 11 s).filter (endsW t)).length := by
  unfold dblN waysTo
  rw [dwF_eq, List.filter_filter, List.filter_filter]
  congr 1
  refine List.filter_congr fun w _ => ?_
  exact Bool.and_comm _ _
theorem closed_eq {ds : List Ent} {ls : List (Nat × Nat)} (c t : Nat) : cntN ds ls c t = dblN ds ls c t + ((srcL ds ls c).map fun s => dblN ds ls s t).sum := by
  unfold cntN cutsL
  rw [List.flatMap_cons, List.length_append, List.length_flatMap, ← dbl_eq]
  congr 2
  refine List.map_congr_left fun s _ => ?_
  exact (dbl_eq s t).symm
theorem mem_dwF {ds : List Ent} (ok : DsOk ds) {ls : List (Nat × Nat)} {s : Nat} (hs : s < ds.length) (h12 : ds.length ≤ 12) (x : List Nat) : x ∈ dwF ds ls 11 s ↔ IsWay ds x ∧ x[0]? = some s ∧ begN ls x (x.length - 1) = 0 := by
  rw [dwF_eq, List.mem_filter]
  constructor
  · rintro ⟨h1, h2⟩
    obtain ⟨a, b⟩ := ways_isWay ok 11 s hs x h1
    exact ⟨a, b, of_decide_eq_true h2⟩
  · rintro ⟨a, b, h⟩
    exact ⟨mem_waysF ok 11 s (by omega) x a b, decide_eq_true h⟩
theorem mem_cuts {ds : List Ent} (ok : DsOk ds) {ls : List (Nat × Nat)} (lok : LsOk ds ls) {c : Nat} (hc : c < ds.length) (h12 : ds.length ≤ 12) (t : Nat) (x : List Nat) : x ∈ cutsL ds ls c t ↔ ∃ w ∈ waysTo ds 11 c t, cutW ls w = x := by
  unfold cutsL waysTo
  rw [List.mem_flatMap]
  constructor
  · rintro ⟨s, hs, hx⟩
    obtain ⟨hx, he⟩ := List.mem_filter.mp hx
    have hl : x.getLast? = some t := of_decide_eq_true he
    rcases List.mem_cons.mp hs with rfl | hs
    · obtain ⟨a, b, z⟩ := (mem_dwF ok hc h12 x).mp hx
      refine ⟨x, List.mem_filter.mpr ⟨mem_waysF ok 11 s (by omega) x a b, decide_eq_true hl⟩, ?_⟩
      unfold cutW
      rw [z]
      rfl
    · obtain ⟨y, r, hq⟩ := (mem_srcL ok lok hc s).mp hs
      have hb := lnk_base lok hq
      have bl := basesOf_lt ok hb
      obtain ⟨a, b, z⟩ := (mem_dwF ok (show s < ds.length by omega) h12 x).mp hx
      obtain ⟨w0, wa, w0c, w0l⟩ := rch_way hc r
      have w0p := (List.getElem?_eq_some_iff.mp w0c).1
      have xp := (List.getElem?_eq_some_iff.mp b).1
      rw [List.getLast?_eq_getElem?] at w0l
      have lo : ∀ i, i < w0.length → (w0 ++ x)[i]? = w0[i]? := fun i hi => List.getElem?_append_left hi
      have hi : ∀ i, (w0 ++ x)[w0.length + i]? = x[i]? := fun i => by
        rw [List.getElem?_append_right (by omega)]
        congr 1
        omega
      have hw : IsWay ds (w0 ++ x) := by
        obtain ⟨c0, hc0, l0⟩ := id wa.1
        refine ⟨⟨c0, by rw [lo 0 w0p]; exact hc0, l0⟩, fun i u v hu hv => ?_⟩
        by_cases q : i + 1 < w0.length
        · rw [lo i (by omega)] at hu
          rw [lo (i + 1) q] at hv
          exact wa.2 i u v hu hv
        · by_cases q2 : i + 1 = w0.length
          · rw [lo i (by omega), show i = w0.length - 1 by omega, w0l] at hu
            obtain rfl := Option.some.inj hu
            rw [q2, show w0.length = w0.length + 0 by omega, hi 0, b] at hv
            obtain rfl := Option.some.inj hv
            exact hb
          · rw [show i = w0.length + (i - w0.length) by omega, hi] at hu
            rw [show i + 1 = w0.length + (i - w0.length + 1) by omega, hi] at hv
            exact a.2 _ u v hu hv
      refine ⟨w0 ++ x, List.mem_filter.mpr ⟨mem_waysF ok 11 c (by omega) _ hw (by rw [lo 0 w0p]; exact w0c), decide_eq_true ?_⟩, ?_⟩
      · rw [List.getLast?_append, hl]
        rfl
      · have gd : ∀ i, (w0 ++ x).getD (w0.length + i) 0 = x.getD i 0 := fun i => by
          rw [List.getD_eq_getElem?_getD, List.getD_eq_getElem?_getD, hi]
        have pr : ((w0 ++ x).getD (w0.length - 1) 0, (w0 ++ x).getD (w0.length - 1 + 1) 0) ∈ ls := by
          have e1 : (w0 ++ x).getD (w0.length - 1) 0 = y := by
            rw [List.getD_eq_getElem?_getD, lo _ (by omega), w0l]
            rfl
          have e2 : (w0 ++ x).getD (w0.length - 1 + 1) 0 = s := by
            rw [show w0.length - 1 + 1 = w0.length + 0 by omega, gd, List.getD_eq_getElem?_getD, b]
            rfl
          rw [e1, e2]
          exact hq
        have ge := begN_ge pr (j := (w0 ++ x).length - 1) (by rw [List.length_append]; omega)
        have eb : begN ls (w0 ++ x) ((w0 ++ x).length - 1) = w0.length := by
          cases e : begN ls (w0 ++ x) ((w0 ++ x).length - 1) with
          | zero => omega
          | succ g =>
            obtain ⟨g1, g2, _⟩ := begN_pos e
            rw [List.length_append] at g1
            by_cases q : g + 1 = w0.length
            · exact q
            · exfalso
              rw [e] at ge
              have z0 := begN_zero.mp z (g - w0.length) (by omega)
              rw [← gd, ← gd, show w0.length + (g - w0.length) = g by omega, show w0.length + (g - w0.length + 1) = g + 1 by omega] at z0
              exact z0 g2
        unfold cutW
        rw [eb, List.drop_left]
  · rintro ⟨w, hw, rfl⟩
    obtain ⟨hw, hl⟩ := List.mem_filter.mp hw
    have hl : w.getLast? = some t := of_decide_eq_true hl
    obtain ⟨wa, w0⟩ := ways_isWay ok 11 c hc w hw
    have wp := (List.getElem?_eq_some_iff.mp w0).1
    cases e : begN ls w (w.length - 1) with
    | zero =>
      have ec : cutW ls w = w := by
        unfold cutW
        rw [e]
        rfl
      rw [ec]
      exact ⟨c, List.mem_cons_self, List.mem_filter.mpr ⟨(mem_dwF ok hc h12 w).mpr ⟨wa, w0, e⟩, decide_eq_true hl⟩⟩
    | succ g =>
      obtain ⟨g1, g2, g3⟩ := begN_pos e
      obtain ⟨y, hy⟩ : ∃ y, w[g]? = some y := ⟨_, List.getElem?_eq_getElem (by omega)⟩
      obtain ⟨s, hs⟩ : ∃ s, w[g + 1]? = some s := ⟨_, List.getElem?_eq_getElem (by omega)⟩
      have gy : w.getD g 0 = y := by rw [List.getD_eq_getElem?_getD, hy]; rfl
      have gs : w.getD (g + 1) 0 = s := by rw [List.getD_eq_getElem?_getD, hs]; rfl
      rw [gy, gs] at g2
      have sl := wa.lt ok hs
      have ec : cutW ls w = w.drop (g + 1) := by
        unfold cutW
        rw [e]
      rw [ec]
      refine ⟨s, List.mem_cons_of_mem _ ((mem_srcL ok lok hc s).mpr ⟨y, way_rch wa w0 hy, g2⟩), List.mem_filter.mpr ⟨(mem_dwF ok sl h12 _).mpr ⟨⟨⟨s, ?_, sl⟩, fun i u v hu hv => ?_⟩, ?_, ?_⟩, decide_eq_true ?_⟩⟩
      · rw [List.getElem?_drop]
        exact hs
      · rw [List.getElem?_drop] at hu hv
        exact wa.2 (g + 1 + i) u v hu hv
      · rw [List.getElem?_drop]
        exact hs
      · rw [begN_drop, List.length_drop, show g + 1 + (w.length - (g + 1) - 1) = w.length - 1 by omega, e]
        omega
      · rw [List.getLast?_drop, if_neg (by omega)]
        exact hl
theorem cuts_nodup {ds : List Ent} (ok : DsOk ds) {ls : List (Nat × Nat)} (lok : LsOk ds ls) {c : Nat} (hc : c < ds.length) (t : Nat) : (cutsL ds ls c t).Nodup := by
  unfold cutsL
  refine List.pairwise_flatMap.mpr ⟨fun s _ => ?_, ?_⟩
  · rw [dwF_eq]
    exact ((ways_nodup ok 11 s).sublist List.filter_sublist).sublist List.filter_sublist
  · refine (src_nodup ok lok hc).imp ?_
    intro s s' ne x hx y hy e
    rw [dwF_eq] at hx hy
    have h1 := ways_head (List.mem_filter.mp (List.mem_filter.mp hx).1).1
    have h2 := ways_head (List.mem_filter.mp (List.mem_filter.mp hy).1).1
    rw [e, h2] at h1
    exact ne (Option.some.inj h1).symm
/-- more shared links, no more parts -/
theorem cnt_more {ds : List Ent} (ok : DsOk ds) {ls ms : List (Nat × Nat)} (lok : LsOk ds ls) (mok : LsOk ds ms) (h : ∀ q, q ∈ ls → q ∈ ms) {c : Nat} (hc : c < ds.length) (h12 : ds.length ≤ 12) (t : Nat) : cntN ds ms c t ≤ cntN ds ls c t ∧ (cntN ds ms c t = 0 ↔ cntN ds ls c t = 0) := by
  have le : cntN ds ms c t ≤ cntN ds ls c t := by
    unfold cntN
    rw [← List.length_map (f := cutW ms) (as := cutsL ds ls c t)]
    refine nodup_len (cuts_nodup ok mok hc t) fun x hx => ?_
    obtain ⟨w, hw, rfl⟩ := (mem_cuts ok mok hc h12 t x).mp hx
    rw [← cut_cut h]
    exact List.mem_map.mpr ⟨_, (mem_cuts ok lok hc h12 t _).mpr ⟨w, hw, rfl⟩, rfl⟩
  have zero : ∀ {ks : List (Nat × Nat)}, LsOk ds ks → (cntN ds ks c t = 0 ↔ waysTo ds 11 c t = []) := fun {ks} kok => by
    unfold cntN
    rw [List.length_eq_zero_iff]
    constructor
    · intro e
      cases hw : waysTo ds 11 c t with
      | nil => rfl
      | cons w r =>
        have := (mem_cuts ok kok hc h12 t (cutW ks w)).mpr ⟨w, by rw [hw]; exact List.mem_cons_self, rfl⟩
        rw [e] at this
        cases this
    · intro e
      cases hx : cutsL ds ks c t with
      | nil => rfl
      | cons x r =>
        obtain ⟨w, hw, _⟩ := (mem_cuts ok kok hc h12 t x).mp (by rw [hx]; exact List.mem_cons_self)
        rw [e] at hw
        cases hw
  exact ⟨le, (zero mok).trans (zero lok).symm⟩
/-- with all links shared each elder stands once -/
theorem cnt_flat {ds : List Ent} (ok : DsOk ds) {ls : List (Nat × Nat)} (lok : LsOk ds ls) (all : ∀ q, linkB ds q.1 q.2 = true → q ∈ ls) {c : Nat} (hc : c < ds.length) (h12 : ds.length ≤ 12) (t : Nat) : cntN ds ls c t = if t = c ∨ t ∈ (elsOf ds).getD c [] then 1 else 0 := by
  have lk : ∀ {s b}, b ∈ basesOf ds s → (s, b) ∈ ls := fun hb => all _ (by
    unfold linkB
    rw [decide_eq_true (basesOf_lt ok hb).2, Bool.true_and]
    exact List.contains_iff_mem.mpr hb)
  have dw : ∀ s, dwF ds ls 11 s = [[s]] := fun s => by
    unfold dwF
    have e : ((basesOf ds s).flatMap fun b => if (s, b) ∈ ls then [] else (dwF ds ls 10 b).map fun w => [s] ++ w) = (basesOf ds s).flatMap fun _ => ([] : List (List Nat)) := flatMap_cong fun b hb => if_pos (lk hb)
    rw [e]
    simp
  have sub : ∀ x ∈ cutsL ds ls c t, x ∈ [[t]] ∧ t ∈ c :: srcL ds ls c := fun x hx => by
    unfold cutsL at hx
    obtain ⟨s, hs, hx⟩ := List.mem_flatMap.mp hx
    rw [dw] at hx
    obtain ⟨hx, he⟩ := List.mem_filter.mp hx
    obtain rfl := List.mem_singleton.mp hx
    have : ([s] : List Nat).getLast? = some t := of_decide_eq_true he
    obtain rfl : s = t := Option.some.inj this
    exact ⟨List.mem_singleton.mpr rfl, hs⟩
  have le : cntN ds ls c t ≤ 1 := nodup_len (m := [[t]]) (cuts_nodup ok lok hc t) fun x hx => (sub x hx).1
  by_cases z : t = c ∨ t ∈ (elsOf ds).getD c []
  · rw [if_pos z]
    have tm : t ∈ c :: srcL ds ls c := by
      rcases z with rfl | z
      · exact List.mem_cons_self
      · refine List.mem_cons_of_mem _ ((mem_srcL ok lok hc t).mpr ?_)
        have r := (rch_els ok hc t).mpr (.inr z)
        cases r with
        | refl =>
          have := elders_below (bs := ds.map (·.1)) z
          exact absurd this (Nat.lt_irrefl _)
        | step r hb => exact ⟨_, r, lk hb⟩
    have m : [t] ∈ cutsL ds ls c t := by
      unfold cutsL
      refine List.mem_flatMap.mpr ⟨t, tm, ?_⟩
      rw [dw]
      exact List.mem_filter.mpr ⟨List.mem_singleton.mpr rfl, decide_eq_true rfl⟩
    have := List.length_pos_of_mem m
    unfold cntN at le ⊢
    omega
  · rw [if_neg z]
    unfold cntN
    rw [List.length_eq_zero_iff]
    cases hx : cutsL ds ls c t with
    | nil => rfl
    | cons x r =>
      obtain ⟨_, h⟩ := sub x (by rw [hx]; exact List.mem_cons_self)
      exfalso
      apply z
      rcases List.mem_cons.mp h with e | h
      · exact .inl e
      · obtain ⟨y, r, hq⟩ := (mem_srcL ok lok hc t).mp h
        exact (rch_els ok hc t).mp (.step r (lnk_base lok hq))
end K83

set_option maxRecDepth 100000
set_option maxHeartbeats 8000000
namespace K83
open PySem PySem.Spec PyProof.Rows L2 Kw
/-! ### not too many ways -/
def pw : Nat → Nat
  | 0 => 1
  | k + 1 => 2 ^ k
theorem pw_sum : ∀ (c : Nat) (l : List Nat), l.Nodup → (∀ b ∈ l, b ≤ c) → (l.map pw).sum ≤ 2 ^ c
  | 0, l, nd, h => by
    match l, nd, h with
    | [], _, _ => exact Nat.zero_le _
    | [a], _, h =>
      have : a = 0 := Nat.le_zero.mp (h a List.mem_cons_self)
      rw [this]
      decide
    | a :: b :: r, nd, h =>
      have e1 : a = 0 := Nat.le_zero.mp (h a List.mem_cons_self)
      have e2 : b = 0 := Nat.le_zero.mp (h b (List.mem_cons_of_mem _ List.mem_cons_self))
      rw [e1, e2] at nd
      exact absurd List.mem_cons_self (List.nodup_cons.mp nd).1
  | c + 1, l, nd, h => by
    by_cases z : c + 1 ∈ l
    · have p := List.perm_cons_erase z
      have e : (l.map pw).sum = 2 ^ c + ((l.erase (c + 1)).map pw).sum := by
        rw [(p.map _).sum_nat, List.map_cons, List.sum_cons]
        rfl
      have ih := pw_sum c (l.erase (c + 1)) (nd.erase _) fun b hb => by
        have h1 := h b (List.mem_of_mem_erase hb)
        have h2 : b ≠ c + 1 := fun q => by
          rw [q] at hb
          exact nd.not_mem_erase hb
        omega
      rw [Nat.pow_succ]
      omega
    · have ih := pw_sum c l nd fun b hb => by
        have h1 := h b hb
        have h2 : b ≠ c + 1 := fun q => z (q ▸ hb)
        omega
      rw [Nat.pow_succ]
      omega
theorem pw_three3 : ∀ a b d : Fin 7, a.1 ≠ b.1 → a.1 ≠ d.1 → b.1 ≠ d.1 → pw a.1 + (pw b.1 + (pw d.1 + 0)) ≤ 56 := by decide +kernel
theorem pw_three (a : Nat) (ha : a < 7) (b : Nat) (hb : b < 7) (d : Nat) (hd : d < 7) (h1 : a ≠ b) (h2 : a ≠ d) (h3 : b ≠ d) : pw a + (pw b + (pw d + 0)) ≤ 56 := pw_three3 ⟨a, ha⟩ ⟨b, hb⟩ ⟨d, hd⟩ h1 h2 h3
theorem flat_nil {α β : Type} : ∀ l : List α, (l.flatMap fun _ => ([] : List β)) = []
  | [] => rfl
  | _ :: l => flat_nil l
theorem pw_two2 : ∀ a b : Fin 7, a.1 ≠ b.1 → pw a.1 + (pw b.1 + 0) ≤ 56 := by decide +kernel
theorem pw_two (a : Nat) (ha : a < 7) (b : Nat) (hb : b < 7) (h1 : a ≠ b) : pw a + (pw b + 0) ≤ 56 := pw_two2 ⟨a, ha⟩ ⟨b, hb⟩ h1
theorem pw_one : ∀ a, a < 7 → pw a + 0 ≤ 56 := by decide +kernel
theorem pw_top {l : List Nat} (nd : l.Nodup) (h : ∀ b ∈ l, b < 7) (h3 : l.length ≤ 3) : (l.map pw).sum ≤ 56 := by
  match l, nd, h, h3 with
  | [], _, _, _ => exact Nat.zero_le _
  | [a], _, h, _ => exact pw_one a (h a (by simp))
  | [a, b], nd, h, _ => exact pw_two a (h a (by simp)) b (h b (by simp)) (by simp at nd; exact nd)
  | [a, b, d], nd, h, _ =>
    simp only [List.nodup_cons, List.mem_cons, List.not_mem_nil, or_false, not_or] at nd
    exact pw_three a (h a (by simp)) b (h b (by simp)) d (h d (by simp)) nd.1.1 nd.1.2 nd.2.1
  | _ :: _ :: _ :: _ :: _, _, _, h3 =>
    simp only [List.length_cons] at h3
    omega
theorem waysTo_none {ds : List Ent} (ok : DsOk ds) {n b t : Nat} (hb : b < ds.length) (h : b < t) : waysTo ds n b t = [] := by
  unfold waysTo
  rw [List.filter_eq_nil_iff]
  intro w hw e
  have hl : w.getLast? = some t := of_decide_eq_true e
  obtain ⟨wa, w0⟩ := ways_isWay ok n b hb w hw
  rw [List.getLast?_eq_getElem?] at hl
  have := rch_le ok (way_rch wa w0 hl)
  omega
theorem waysTo_step {ds : List Ent} {n c t : Nat} : waysTo ds (n + 1) c t = (if c = t then [[c]] else []) ++ (basesOf ds c).flatMap fun b => (waysTo ds n b t).map fun w => [c] ++ w := by
  unfold waysTo
  rw [waysF, List.filter_cons, List.filter_flatMap]
  have e0 : ([c] : List Nat).getLast? = some c := rfl
  have g : ((basesOf ds c).flatMap fun a => List.filter (fun w => decide (w.getLast? = some t)) (List.map (fun w => [c] ++ w) (waysF ds n a))) = (basesOf ds c).flatMap fun b => ((waysF ds n b).filter fun w => decide (w.getLast? = some t)).map fun w => [c] ++ w := flatMap_cong fun b _ => by
    rw [List.filter_map]
    congr 1
    refine List.filter_congr fun w hw => ?_
    have hh := ways_head hw
    have wl := (List.getElem?_eq_some_iff.mp hh).1
    show decide (([c] ++ w).getLast? = some t) = decide (w.getLast? = some t)
    congr 2
    rw [List.getLast?_append]
    cases e : w.getLast? with
    | none =>
      rw [List.getLast?_eq_none_iff] at e
      rw [e] at wl
      simp at wl
    | some y => rfl
  rw [g, e0]
  by_cases z : c = t
  · rw [if_pos z, if_pos (decide_eq_true (by rw [z]))]
    rfl
  · rw [if_neg z, if_neg (by rw [decide_eq_false fun q => z (Option.some.inj q)]; decide)]
    rfl
theorem sum_le {α : Type} {f g : α → Nat} : ∀ {l : List α}, (∀ x ∈ l, f x ≤ g x) → (l.map f).sum ≤ (l.map g).sum
  | [], _ => Nat.le_refl _
  | a :: l, h => by
    rw [List.map_cons, List.map_cons, List.sum_cons, List.sum_cons]
    have h1 := h a List.mem_cons_self
    have h2 := sum_le (f := f) (g := g) fun x hx => h x (List.mem_cons_of_mem _ hx)
    omega
theorem waysTo_sum {ds : List Ent} (ok : DsOk ds) {n c t : Nat} (hc : c < ds.length) : (waysTo ds (n + 1) c t).length ≤ 1 ∨ (waysTo ds (n + 1) c t).length = ((basesOf ds c).map fun b => (waysTo ds n b t).length).sum := by
  rw [waysTo_step]
  by_cases z : c = t
  · refine .inl ?_
    have e : ((basesOf ds c).flatMap fun b => (waysTo ds n b t).map fun w => [c] ++ w) = (basesOf ds c).flatMap fun _ => ([] : List (List Nat)) := flatMap_cong fun b hb => by
      have := basesOf_lt ok hb
      rw [waysTo_none ok (by omega) (by omega)]
      rfl
    rw [if_pos z, e, flat_nil]
    exact Nat.le_refl _
  · refine .inr ?_
    rw [if_neg z, List.nil_append, List.length_flatMap]
    congr 1
    refine List.map_congr_left fun b _ => ?_
    rw [List.length_map]
theorem waysTo_pw {ds : List Ent} (ok : DsOk ds) : ∀ (n c t : Nat), c < ds.length → c ≤ n → (waysTo ds n c t).length ≤ pw c := by
  intro n
  induction n with
  | zero =>
    intro c t hc cn
    obtain rfl : c = 0 := by omega
    unfold waysTo waysF
    exact List.length_filter_le _ _
  | succ n ih =>
    intro c t hc cn
    rcases waysTo_sum ok (n := n) (t := t) hc with h | h
    · refine Nat.le_trans h ?_
      cases c with
      | zero => exact Nat.le_refl _
      | succ c => exact Nat.one_le_pow _ _ (by decide)
    · rw [h]
      have h2 : ((basesOf ds c).map fun b => (waysTo ds n b t).length).sum ≤ ((basesOf ds c).map pw).sum := sum_le fun b hb => by
        have := basesOf_lt ok hb
        exact ih b t (by omega) (by omega)
      cases c with
      | zero =>
        have e : basesOf ds 0 = [] := by
          cases h : basesOf ds 0 with
          | nil => rfl
          | cons b l =>
            have := (basesOf_lt ok (c := 0) (b := b) (by rw [h]; exact List.mem_cons_self)).1
            omega
        rw [e]
        exact Nat.zero_le _
      | succ c =>
        exact Nat.le_trans h2 (pw_sum c _ (basesOf_nodup ok _) fun b hb => by have := (basesOf_lt ok hb).1; omega)
/-- at most 8 classes: fewer than 64 ways -/
theorem waysTo_few {ds : List Ent} (ok : DsOk ds) {c t : Nat} (hc : c < ds.length) (h8 : ds.length ≤ 8) : (waysTo ds 11 c t).length < 64 := by
  rcases waysTo_sum ok (n := 10) (t := t) hc with h | h
  · exact Nat.lt_of_le_of_lt h (by decide)
  · rw [h]
    refine Nat.lt_of_le_of_lt (sum_le (g := pw) fun b hb => ?_) (Nat.lt_of_le_of_lt (pw_top (basesOf_nodup ok c) (fun b hb => ?_) (basesOf_len ok c)) (by decide))
    · have := basesOf_lt ok hb
      exact waysTo_pw ok 10 b t (by omega) (by omega)
    · have := (basesOf_lt ok hb).1
      omega
end K83

set_option maxRecDepth 100000
set_option maxHeartbeats 8000000
namespace K83
open PySem PySem.Spec PyProof.Rows L2 Kw
/-- a doubled link to the target -/
def dblB (ls : List (Nat × Nat)) (tg : Nat) (q : Nat × Nat) : Bool := decide (q.2 = tg) && !decide (q ∈ ls)
def looseL (ds : List Ent) (ls : List (Nat × Nat)) (tg : Nat) : List Nat := ((pairsOf ds).filter (dblB ls tg)).map (·.1)
theorem loose_mem {ds : List Ent} {ls : List (Nat × Nat)} {tg x : Nat} : x ∈ looseL ds ls tg ↔ linkB ds x tg = true ∧ (x, tg) ∉ ls := by
  unfold looseL
  rw [List.mem_map]
  constructor
  · rintro ⟨q, hq, rfl⟩
    obtain ⟨h1, h2⟩ := List.mem_filter.mp hq
    unfold dblB at h2
    rw [Bool.and_eq_true] at h2
    have e := of_decide_eq_true h2.1
    have n : q ∉ ls := fun z => by
      have := h2.2
      rw [decide_eq_true z] at this
      cases this
    subst e
    exact ⟨pairsOf_link h1, n⟩
  · rintro ⟨h1, h2⟩
    refine ⟨(x, tg), List.mem_filter.mpr ⟨pairsOf_mem h1, ?_⟩, rfl⟩
    unfold dblB
    rw [decide_eq_true rfl, decide_eq_false h2]
    rfl
section
variable {P : Program} {w : World} {K : PySem.W.Frag} {mg : Str → Option Value} {base : Heap} {f fCk fA fIs fWl fSv fRm fTm C Cl Cs Cn Ct pA z1 : Addr} {fd fdCk fdA fdIs fdWl fdSv fdRm fdTm : FuncData}
def spSevI (Cs : Addr) : Sp := fun vs H Q _ => ∃ (p dx : Addr) (x y z : V), vs = [.ref p, x, y, z] ∧ H p = some (.ins Cs dx []) ∧ ∀ H', Oth p H H' → H' p = some (.ins Cs dx [("links", x), ("first", y), ("second", z)]) → Q .non H'
theorem sc_sevI : FnScope ["self", "links", "first", "second"] ["self", "links", "first", "second"] (defScope (inClass (top 38) 0)) := ⟨rfl, rfl, rfl, by decide +kernel, rfl, by decide +kernel, by decide +kernel⟩
theorem ok_sevI (F : FnM K "__init__" "Several.__init__" (inClass (top 38) 0) f fd) (TP : ClsF K Cs ["links", "first", "second"]) : FnOk P w K mg base CX0 1 f fd ["self", "links", "first", "second"] (spSevI Cs) := by
  refine F.ok sc_sevI (fun vs H Q E h => ?_) (fun cdv A outer s H vs Q E hr h => ?_)
  · obtain ⟨p, dx, x, y, z, rfl, _⟩ := h
    rfl
  · obtain ⟨p, dx, x, y, z, rfl, hp, k⟩ := h
    refine ⟨_, PSs.nox (pss_cons (ps_fld (pv 0) (pv 1) rfl) (pss_cons (ps_fld (pv 0) (pv 2) rfl) (pss_one (ps_fld (pv 0) (pv 3) rfl)))), ?_⟩
    refine ⟨_, rfl, _, rfl, p, Cs, dx, [], rfl, hp, TP.cl, TP.no _ (List.mem_of_getElem? (i := 0) rfl), (by show 0 < _; decide), ?_⟩
    refine ⟨_, rfl, _, rfl, p, Cs, dx, _, rfl, upd_same, TP.cl, TP.no _ (List.mem_of_getElem? (i := 1) rfl), (by show 1 < _; decide), ?_⟩
    refine ⟨_, rfl, _, rfl, p, Cs, dx, _, rfl, upd_same, TP.cl, TP.no _ (List.mem_of_getElem? (i := 2) rfl), (by show 2 < _; decide), ?_⟩
    exact k _ (fun b o n e => upB n (upB n (upB n e))) upd_same
theorem sc_tooMany : FnScope ["self", "count"] ["self", "count"] (defScope (inClass (top 4) 0)) := ⟨rfl, rfl, rfl, by decide +kernel, rfl, by decide +kernel, by decide +kernel⟩
theorem ok_tooMany (F : FnM K "__init__" "TooMany.__init__" (inClass (top 4) 0) f fd) (T : ErrX K mg "TooMany" ["count"] C f) : FnOk P w K mg base CX0 1 f fd ["self", "count"] (spR C ["count"]) ∧ Binds K fd ["self", "count"] [] := by
  refine ⟨F.ok sc_tooMany (fun vs H Q E h => ?_) (fun cdv A outer s H vs Q E hr h => ?_), F.bindsN fun _ _ _ _ _ _ us hl => match us, hl with | [_, _], _ => rfl⟩
  · obtain ⟨a, xs, rfl, hl, _⟩ := h
    exact congrArg Nat.succ hl
  · obtain ⟨a, xs, rfl, hl, ha, k⟩ := h
    match xs, hl with
    | [x1], _ =>
      refine ⟨_, PSs.nox (pss_one (ps_ost (pv 0) (pv 1))), ?_⟩
      refine ⟨_, rfl, _, rfl, a, C, rfl, T.oex, T.no _ (List.mem_of_getElem? (i := 0) rfl), .inl ⟨ha, fun dx hd ne => ?_⟩⟩
      exact k dx _ hd ne upd_same (upB ne upd_same) fun b o hb e => upB hb (upB (ne_of_none e hd) e)
/-- room for a class more, or TooMany -/
def spRoom (C Cl Ct : Addr) : Sp := fun vs H Q E => ∃ (p wp : Addr) (ds : List Ent) (ls : List (Nat × Nat)), vs = [.ref p] ∧ LinksAt H p Cl wp C ds ls ∧
  ((ds.length < 12 ∧ Q .non H) ∨ (ds.length = 12 ∧ ∀ d H', Same H H' → H' d = some (.xd (errF ["count"] [.int 13])) → E (.ref Ct) (some d) H'))
theorem sc_room : FnScope ["links", "count"] ["links"] (defScope (top 40)) := ⟨rfl, rfl, rfl, by decide +kernel, rfl, by decide +kernel, by decide +kernel⟩
theorem ok_room (F : FnP K "check_room" 40 f fd) (B : Fr mg) (Z : Cst mg) (TC : ClsWorld K mg C) (TL : ClsF K Cl ["world", "shared"]) (FT : FnM K "__init__" "TooMany.__init__" (inClass (top 4) 0) fTm fdTm) (TT : ErrX K mg "TooMany" ["count"] Ct fTm) : FnOk P w K mg base (L2.CX P w) 3 f fd ["links"] (spRoom C Cl Ct) := by
  obtain ⟨GN, bN⟩ : FnOk P w K mg base CX0 1 fTm fdTm ["self", "count"] (spR Ct ["count"]) ∧ Binds K fdTm ["self", "count"] [] := ok_tooMany FT TT
  obtain ⟨tc, zc⟩ := Z.mc
  refine F.ok sc_room (fun vs H Q E h => ?_) (fun cdv A outer s H vs Q E hr h => ?_)
  · obtain ⟨p, wp, ds, ls, rfl, _⟩ := h
    rfl
  · obtain ⟨p, wp, ds, ls, rfl, hL, h⟩ := h
    refine ⟨_, (pss_cons (ps_set (i := 1) sc_room.nd rfl (Or.inl rfl) (pe_op op_add (pe_callB call_len_seq (by rfl) B.len PySem.boot_len (pa_cons (pe_fld (pe_fld (pv 0) rfl) rfl) pa_nil)) pe_int))
      (pss_one (ps_if (pt_cmpR op_gt (pv 1) (pe_glob (v := .int 12) (by rfl) zc ⟨_, rfl⟩) (nomark _))
        (pss_one (ps_raise rfl (takes_of rfl rfl rfl rfl) (pmk_oex TT.oex TT.ini TT.inT GN (hr.mono (by decide)) bN .nil pass0 (by rfl) TT.mg (pa_cons (pv 1) pa_nil)))) pss_nil))), ?_⟩
    obtain ⟨dl, st, us, l1, hw, l3, l4⟩ := hL
    obtain ⟨dx, ac, _, _, _, _, _, cs, _, _, _, _, h1, h2, h3, _⟩ := hw
    refine ⟨_, rfl, p, Cl, dl, _, _, rfl, l1, TL.cl, TL.no _ (List.mem_of_getElem? (i := 0) rfl), rfl, wp, C, dx, _, _, rfl, h1, TC.cl, TC.no _ (List.mem_of_getElem? (i := 0) rfl), rfl, ac, cs, rfl, .inr (SqT.of h2), _, _, rfl, rfl, ?_⟩
    rw [h3.len]
    refine ⟨_, rfl, _, _, rfl, rfl, _, rfl, ?_⟩
    rcases h with ⟨l, k⟩ | ⟨l, k⟩
    · exact iteF' (decide_eq_false (by omega)) k
    · refine iteT' (decide_eq_true (by omega)) ⟨_, rfl, raise_q rfl (by decide) fun d H' s1 _ e => k d H' s1 ?_⟩
      rw [e]
      have e13 : V.int ((ds.length : Int) + 1) = V.int 13 := congrArg V.int (by omega)
      exact congrArg (fun z => some (HO.xd (errF ["count"] [z]))) e13
/-- what one_part tells: two ways of an heir to come -/
def SevAt (H : Hp) (r Cs q a b : Addr) : Prop := ∃ dx, H r = some (.ins Cs dx [("links", .ref q), ("first", .ref a), ("second", .ref b)])
def spOne (C Cl Cs Cn Ct : Addr) : Sp := fun vs H Q E => ∃ (p wp : Addr) (x : V) (ds : List Ent) (ls : List (Nat × Nat)), vs = [.ref p, x] ∧ LinksAt H p Cl wp C ds ls ∧ DsOk ds ∧ LsOk ds ls ∧ ds.length ≤ 12 ∧
  ((∃ t, Ty0 H x t ∧ wholeB (.int 0) (.int ((ds.length : Int) - 1)) x = false ∧ ∀ d H', Same H H' → H' d = some (.xd (errF ["cls"] [x])) → E (.ref Cn) (some d) H') ∨
   ∃ tg, x = natV tg ∧ tg < ds.length ∧
    ((looseL ds ls tg = [] ∧ ∀ H', Same H H' → Q .non H') ∨
     (looseL ds ls tg ≠ [] ∧ ds.length = 12 ∧ ∀ d H', Same H H' → H' d = some (.xd (errF ["count"] [.int 13])) → E (.ref Ct) (some d) H') ∨
     ∃ x0 rest, looseL ds ls tg = x0 :: rest ∧ ds.length < 12 ∧ ∀ r q wq a b ls' H', Same H H' → SevAt H' r Cs q a b → LinksAt H' q Cl wq C (ds ++ [([x0, tg], 0, [])]) ls' → ls'.Perm (ls ++ [(ds.length, tg)]) → SortP ls' → H' a = some (.tup ([ds.length, x0, tg].map natV)) → H' b = some (.tup ([ds.length, tg].map natV)) → Q (.ref r) H'))
theorem sc_one : FnScope ["links", "target", "doubled", "c", "base", "heir", "longer"] ["links", "target"] (defScope (top 41)) := ⟨rfl, rfl, rfl, by decide +kernel, rfl, by decide +kernel, by decide +kernel⟩
theorem ok_one (F : FnP K "one_part" 41 f fd) (B : Fr mg) (TC : ClsWorld K mg C) (TL : ClsF K Cl ["world", "shared"])
    (FC : FnP K "check_class" 15 fCk fdCk) (mC : mg "check_class" = some (.ref fCk)) (GC : FnOk P w K mg base (L2.CX P w) 3 fCk fdCk ["world", "c"] (spCheck C Cn))
    (PA : PropOf K Cl "all_links" pA fA) (FA : FnM K "all_links" "Links.all_links" (inClass (top 17) 1) fA fdA) (GA : FnOk P w K mg base CX0 1 fA fdA ["self"] (spAllL C Cl))
    (MI : Meth K Cl "is_shared" fIs) (GI : FnOk P w K mg base CX0 4 fIs fdIs ["self", "c", "base"] (spShared C Cl)) (FI : FnM K "is_shared" "Links.is_shared" (inClass (top 17) 2) fIs fdIs)
    (FR : FnP K "check_room" 40 fRm fdRm) (mR : mg "check_room" = some (.ref fRm)) (GR : FnOk P w K mg base (L2.CX P w) 3 fRm fdRm ["links"] (spRoom C Cl Ct))
    (FWl : FnMd K "with_class" "Links.with_class" (inClass (top 17) 4) [.ref z1] fWl fdWl) (MWl : Meth K Cl "with_class" fWl) (GWl : FnOk P w K mg base CX0 7 fWl fdWl ["self", "bases", "fields", "shared_bases"] (spWithLk C Cl))
    (FS : FnM K "__init__" "Several.__init__" (inClass (top 38) 0) fSv fdSv) (MS : Mk K Cs fSv) (mS : mg "Several" = some (.ref Cs)) (GS : FnOk P w K mg base CX0 1 fSv fdSv ["self", "links", "first", "second"] (spSevI Cs)) :
    FnOk P w K mg base (L2.CX P w) 8 f fd ["links", "target"] (spOne C Cl Cs Cn Ct) := by
  have bC : L2.Binds K fdCk ["world", "c"] [] := FC.bindsN fun _ _ _ _ _ _ us hl => match us, hl with | [_, _], _ => rfl
  have bA : L2.Binds K fdA ["self"] [] := FA.bindsN fun _ _ _ _ _ _ us hl => match us, hl with | [_], _ => rfl
  have bI : L2.Binds K fdIs ["self", "c", "base"] [] := FI.bindsN fun _ _ _ _ _ _ us hl => match us, hl with | [_, _, _], _ => rfl
  have bR : L2.Binds K fdRm ["links"] [] := FR.bindsN fun _ _ _ _ _ _ us hl => match us, hl with | [_], _ => rfl
  have bS : L2.Binds K fdSv ["self", "links", "first", "second"] [] := FS.bindsN fun _ _ _ _ _ _ us hl => match us, hl with | [_, _, _, _], _ => rfl
  have bWl := binds_withLk FWl
  refine F.ok sc_one (fun vs H Q E h => ?_) (fun cdv A outer s H vs Q E hr h => ?_)
  · obtain ⟨p, wp, x, ds, ls, rfl, _⟩ := h
    rfl
  · obtain ⟨p, wp, x, ds, ls, rfl, hL, ok, lok, h12, h⟩ := h
    refine ⟨_, (pss_cons (ps_expr (pe_callS GC (hr.mono (by decide)) (by rfl) mC FC.kp bC (fun σ => passAt (takes_of rfl rfl rfl rfl) σ) (pa_cons (pe_fld (pv 0) rfl) (pa_cons (pv 1) pa_nil))))
      (pss_cons (ps_setLc (i := 2) (own := [("c", 3), ("base", 4)]) (g := gTup K 2 (gCons (gName 3) (gCons (gName 4) gNil))) (tt := tAnd (tTest (tOp rEq (tVar 4) (tVar 1))) (tNot (tB (tMeth Cl "is_shared" (spShared C Cl) [] E0 (tVar 0) (tCons (tVar 3) (tCons (tVar 4) tNil)))))) (te := tVar 3) rfl sc_one.nd rfl rfl (sw_true rfl rfl rfl (by decide +kernel)) (pi_tup (pe_prop (pv 0) TL.cl PA GA (hr.mono (by decide)) bA .nil pass0 rfl)) (blkOk_by (N := ["links", "target", "doubled", "c", "base", "heir", "longer"]) (sc := defScope (top 41)) (by decide +kernel))
        (fun _ _ _ _ _ => pg_tup (by rfl) (pgs_cons (pg_name (i := 3) sc_one.nd rfl (Or.inl rfl)) (pgs_cons (pg_name (i := 4) sc_one.nd rfl (Or.inl rfl)) pgs_nil))) (fun _ _ _ _ _ => ?tt) (fun _ _ _ _ _ => pv 3))
      (pss_cons (ps_if (pt_cmpR op_eq (pe_callB call_len_seq (by rfl) B.len PySem.boot_len (pa_cons (pv 2) pa_nil)) pe_int (nomark _)) (pss_one (ps_ret pe_non)) pss_nil)
      (pss_cons (ps_expr (pe_callS GR (hr.mono (by decide)) (by rfl) mR FR.kp bR (fun σ => passAt (takes_of rfl rfl rfl rfl) σ) (pa_cons (pv 0) pa_nil)))
      (pss_cons (ps_set (i := 5) sc_one.nd rfl (Or.inl rfl) (pe_callB call_len_seq (by rfl) B.len PySem.boot_len (pa_cons (pe_fld (pe_fld (pv 0) rfl) rfl) pa_nil)))
      (pss_cons (ps_set (i := 6) sc_one.nd rfl (Or.inl rfl) (pe_meth (pv 0) TL.cl MWl GWl hr bWl .nil pass0 (pa_cons (pe_tup (pa_cons (pe_ix (r := rIxL K) ix_list (pv 2) pe_int (fun _ _ => rfl)) (pa_cons (pv 1) pa_nil))) (pa_cons pe_int (pa_cons (pe_tup (pa_cons (pv 1) pa_nil)) pa_nil)))))
      (pss_one (ps_ret (pe_make MS GS (hr.mono (by decide)) (by rfl) mS bS .nil pass0 (pa_cons (pv 6) (pa_cons (pe_tup (pa_cons (pv 5) (pa_cons (pe_ix (r := rIxL K) ix_list (pv 2) pe_int (fun _ _ => rfl)) (pa_cons (pv 1) pa_nil)))) (pa_cons (pe_tup (pa_cons (pv 5) (pa_cons (pv 1) pa_nil))) pa_nil)))))))))))), ?_⟩
    case tt => exact pts_one (PW.pt (pw_and (pt_cmpR op_eq (pv 4) (pv 1) (nomark _)) (pw_and1 (pt_not (pt_val (pe_meth (pv 0) TL.cl MI GI (hr.mono (by decide)) bI .nil pass0 (pa_cons (pv 3) (pa_cons (pv 4) pa_nil))))))))
    obtain ⟨dl, st, us, l1, hw, l3, l4⟩ := id hL
    have hw0 := hw
    obtain ⟨dx, ac, _, _, _, _, _, cs, _, _, _, _, h1, h2, h3, _⟩ := hw0
    rcases h with ⟨t, ty, eb, k⟩ | ⟨tg, rfl, tgl, h⟩
    · exact ⟨_, rfl, p, Cl, dl, _, _, rfl, l1, TL.cl, TL.no _ (List.mem_of_getElem? (i := 0) rfl), rfl, _, rfl, wp, x, t, ds, rfl, hw, ty, .inr ⟨eb, k⟩⟩
    · have eb : wholeB (.int 0) (.int ((ds.length : Int) - 1)) (natV tg) = true := by
        show (decide ((0 : Int) ≤ (tg : Int)) && decide ((tg : Int) ≤ (ds.length : Int) - 1)) = true
        rw [decide_eq_true (by omega), decide_eq_true (by omega)]
        rfl
      refine ⟨_, rfl, p, Cl, dl, _, _, rfl, l1, TL.cl, TL.no _ (List.mem_of_getElem? (i := 0) rfl), rfl, _, rfl, wp, natV tg, "int", ds, rfl, hw, .int _, .inl ⟨eb, fun H1 s1 => ?_⟩⟩
      refine ⟨_, rfl, p, dl, _, rfl, s1 _ _ l1, p, wp, ds, ls, rfl, hL.mono s1, ok, h12, fun t us2 H2 s2 ht hP => ⟨t, rfl, ⟨_, SqT.of ht⟩, fun D hD => ?_⟩⟩
      have s02 := s1.trans s2
      have plen : (pairsOf ds).length ≤ 60 := by
        have h2 := pairsUp_len ok ds.length
        have h3 : (pairsOf ds).length = (pairsUp ds ds.length).length := rfl
        omega
      refine lc_tup (K := K) (a := t) (xs := us2) (fun n H' => Same H2 H' ∧ H' D = some (.lst (((((pairsOf ds).take n).filter (dblB ls tg)).map (·.1)).map natV))) ⟨same_new hD, upd_same⟩ (fun n H' _ z => SqT.of (z.1 _ _ ht)) ?_ ?_
      · rintro n y H3 hn ⟨s3, D3⟩
        obtain ⟨pr, tp, hpr, rfl, htp⟩ := hP.at hn
        have lk := pairsOf_link (List.mem_of_getElem? hpr)
        have tf := take_filter (p := dblB ls tg) hpr
        have s03 := s02.trans s3
        have dlen : ((((pairsOf ds).take n).filter (dblB ls tg)).map (·.1)).length < sizeLine := by
          rw [List.length_map]
          refine Nat.lt_of_le_of_lt (List.length_filter_le _ _) ?_
          rw [List.length_take]
          show _ < 2 ^ 24
          omega
        refine ⟨tp, _, rfl, SqT.of (s3 _ _ htp), rfl, _, _, rfl, _, _, rfl, rfl, rfl, _, rfl, _, rfl, rfl, _, rfl, ?_⟩
        by_cases z : pr.2 = tg
        · refine iteT' (decide_eq_true (congrArg natV z)) ?_
          refine ⟨_, rfl, p, dl, _, rfl, s03 _ _ l1, rfl, _, rfl, _, rfl, p, wp, ds, ls, pr.1, pr.2, rfl, hL.mono s03, h12, lk, fun H4 s4 => ⟨_, rfl, ?_⟩⟩
          have eb2 : dblB ls tg pr = !decide ((pr.1, pr.2) ∈ ls) := by
            unfold dblB
            rw [decide_eq_true z, Bool.true_and]
          show (if (!decide ((pr.1, pr.2) ∈ ls)) = true then _ else _)
          rw [← eb2]
          cases q : dblB ls tg pr with
          | true =>
            refine iteT' rfl ⟨_, rfl, _, s4 _ _ D3, (by rw [List.length_map]; exact dlen), same_upd (s3.trans s4) hD, ?_⟩
            rw [upd_same, tf, q, if_pos rfl, List.map_append, List.map_append]
            rfl
          | false =>
            refine iteF' rfl ⟨s3.trans s4, ?_⟩
            rw [tf, q, if_neg (by decide), List.append_nil]
            exact s4 _ _ D3
        · have q : dblB ls tg pr = false := by
            unfold dblB
            rw [decide_eq_false z]
            rfl
          refine iteF' (decide_eq_false fun e => z (Int.ofNat.inj (V.int.inj e))) ?_
          refine iteF' rfl ⟨s3, ?_⟩
          rw [tf, q, if_neg (by decide), List.append_nil]
          exact D3
      · rintro H3 ⟨s3, D3⟩
        have s03 := s02.trans s3
        have usl := hP.len
        rw [usl, List.take_length] at D3
        have D3 : H3 D = some (.lst ((looseL ds ls tg).map natV)) := D3
        refine ⟨_, rfl, D, _, rfl, .inl (SqL.of D3), rfl, _, rfl, ?_⟩
        rcases h with ⟨e, k⟩ | ⟨ne, n12, k⟩ | ⟨x0, rest, e, nl, k⟩
        · rw [e]
          exact iteT' rfl (k _ s03)
        · have nz : decide (V.int (((looseL ds ls tg).map natV).length : Int) = V.int 0) = false := decide_eq_false fun z => by
            have z1 := V.int.inj z
            rw [List.length_map] at z1
            exact ne (List.length_eq_zero_iff.mp (by omega))
          refine iteF' nz ?_
          exact ⟨_, rfl, p, wp, ds, ls, rfl, hL.mono s03, .inr ⟨n12, fun d H' s4 he => k d H' (s03.trans s4) he⟩⟩
        · have nz : decide (V.int (((looseL ds ls tg).map natV).length : Int) = V.int 0) = false := decide_eq_false fun z => by
            have z1 := V.int.inj z
            rw [List.length_map, e, List.length_cons] at z1
            omega
          refine iteF' nz ?_
          have g0 : ((looseL ds ls tg).map natV)[0]? = some (natV x0) := by rw [e]; rfl
          obtain ⟨lk0, _⟩ := loose_mem.mp (show x0 ∈ looseL ds ls tg by rw [e]; exact List.mem_cons_self)
          have x0l := linkB_lt lk0
          have ne0 : x0 ≠ tg := fun z => by
            unfold linkB at lk0
            rw [Bool.and_eq_true] at lk0
            have := basesOf_lt ok (List.contains_iff_mem.mp lk0.2)
            omega
          refine ⟨_, rfl, p, wp, ds, ls, rfl, hL.mono s03, .inl ⟨nl, ?_⟩⟩
          refine ⟨_, rfl, p, Cl, dl, _, _, rfl, s03 _ _ l1, TL.cl, TL.no _ (List.mem_of_getElem? (i := 0) rfl), rfl, wp, C, dx, _, _, rfl, s03 _ _ h1, TC.cl, TC.no _ (List.mem_of_getElem? (i := 0) rfl), rfl, ac, cs, rfl, .inr (SqT.of (s03 _ _ h2)), ?_⟩
          rw [h3.len]
          refine ⟨_, rfl, p, dl, _, rfl, s03 _ _ l1, rfl, _, rfl, D, _, ((0 : Nat) : Int), _, rfl, rfl, SqL.of D3, atI_nat g0, _, rfl, (by show 2 ≤ sizeLine; decide), fun T1 hT1 => ?_⟩
          have sT1 := same_new (o := .tup [natV x0, natV tg]) hT1
          refine ⟨_, rfl, (by show 1 ≤ sizeLine; decide), fun T2 hT2 => ?_⟩
          have sT2 := same_new (o := .tup [natV tg]) hT2
          have s04 := (s03.trans sT1).trans sT2
          have eok : EOk ds.length ([x0, tg], 0, []) := ⟨by simp [ne0], fun b hb => by rcases List.mem_cons.mp hb with rfl | hb; exact x0l; rw [List.mem_singleton.mp hb]; exact tgl, (by show 2 ≤ 3; decide), (by show 0 ≤ 3; decide), .nil, (fun m hm => by cases hm), (by show 0 ≤ 3; decide)⟩
          refine ⟨p, wp, T1, T2, ds, ls, [x0, tg], [tg], 0, rfl, hL.mono s04, ok, by omega, lok, .inr (sT2 _ _ upd_same), eok, .inr upd_same, (by simp), fun x hx => by rw [List.mem_singleton.mp hx]; simp, fun q wq H5 ls' s5 Lq pm so => ?_⟩
          have s05 := s04.trans s5
          have D5 := ((sT1.trans sT2).trans s5) _ _ D3
          have g0' : ((looseL ds ls tg).map natV)[(0 : Nat)]? = some (natV x0) := g0
          refine ⟨_, rfl, _, rfl, _, rfl, D, _, ((0 : Nat) : Int), _, rfl, rfl, SqL.of D5, atI_nat g0', _, rfl, (by show 3 ≤ sizeLine; decide), fun T3 hT3 => ?_⟩
          have sT3 := same_new (o := .tup [V.int (ds.length : Int), natV x0, natV tg]) hT3
          refine ⟨_, rfl, _, rfl, (by show 2 ≤ sizeLine; decide), fun T4 hT4 => ?_⟩
          have sT4 := same_new (o := .tup [V.int (ds.length : Int), natV tg]) hT4
          intro r rdx hr0 hrdx rne
          have s34 := sT3.trans sT4
          have T36 : _ = some (HO.tup ([ds.length, x0, tg].map natV)) := sT4 _ _ (upd_same (H := H5) (a := T3) (o := .tup [V.int (ds.length : Int), natV x0, natV tg]))
          have T46 : _ = some (HO.tup ([ds.length, tg].map natV)) := upd_same (H := upd H5 T3 (.tup [V.int (ds.length : Int), natV x0, natV tg])) (a := T4) (o := .tup [V.int (ds.length : Int), natV tg])
          have Lq6 := Lq.mono s34
          have s06 := s05.trans s34
          generalize upd (upd H5 T3 (.tup [V.int (ds.length : Int), natV x0, natV tg])) T4 (.tup [V.int (ds.length : Int), natV tg]) = H6 at s06 Lq6 T36 T46 hr0 hrdx ⊢
          have s7 := (same_new (o := .own r) hrdx).trans (same_new (o := .ins Cs rdx []) (by rw [upd_ne (Ne.symm rne)]; exact hr0))
          have R7 : upd (upd H6 rdx (.own r)) r (.ins Cs rdx []) r = some (.ins Cs rdx []) := upd_same
          generalize upd (upd H6 rdx (.own r)) r (.ins Cs rdx []) = H7 at s7 R7 ⊢
          refine ⟨r, rdx, _, _, _, rfl, R7, fun H8 O8 hR => ⟨rfl, ?_⟩⟩
          have s68 : Same H6 H8 := fun b u e => O8 b u (ne_of_none e hr0) (s7 _ _ e)
          exact k r q wq T3 T4 ls' H8 (s06.trans s68) ⟨rdx, hR⟩ (Lq6.mono s68) pm so (s68 _ _ T36) (s68 _ _ T46)
end
end K83

set_option maxRecDepth 100000
set_option maxHeartbeats 8000000
/-! several clauses `except X as n`: the suite of a clause has the exception under its name, which goes behind it -/
namespace L2
open PySem PySem.Spec PyProof.Rows
/-- what a suite under the name of slot i promises at its ends: the slot is unset -/
def endsAs (i : Nat) (D : Ends) : Ends := { nx := fun σ' H' => D.nx (σ'.set i none) H', rt := D.rt, bk := fun σ' H' => D.bk (σ'.set i none) H', ct := fun σ' H' => D.ct (σ'.set i none) H' }
def wManyAs (K : PySem.W.Frag) (i : Nat) (Wout : WX) (D : Ends) : List (Value × (Addr → Value → Option Addr → TS)) → WX
  | [] => Wout
  | (c, ts) :: r => fun cls d σ H => ∃ b, PySem.W.exmOne K cls c = some b ∧ (b = true → ∀ a, H a = none → ts a cls d (endsAs i D) (σ.set i (some (.ref a))) H) ∧ (b = false → wManyAs K i Wout D r cls d σ H)
inductive HdsAs (X : Cx) (n : Str) : List ExceptHandler → List (Value × (Addr → Value → Option Addr → TS)) → Prop
  | nil : HdsAs X n [] []
  | cons {x : Str} {c : Value} {ts : Addr → Value → Option Addr → TS} {b₀ : Stmt} {suite : List Stmt} {np pos' : Pos} {hds : List ExceptHandler} {l : List (Value × (Addr → Value → Option Addr → TS))} (hc : Names X x c)
      (hsu : ∀ (a : Addr) (oe : Obj) (cls : Value) (d : Option Addr) (pn : List (Addr × Obj)), Zc cls d oe → (∃ vs, oe.data = .fields vs) → PSs (X.suite a ((a, oe) :: pn)) (b₀ :: suite) (ts a cls d)) (r : HdsAs X n hds l) :
      HdsAs X n (.ExceptHandler (some (.Name x np)) (some n) (b₀ :: suite) pos' :: hds) ((c, ts) :: l)
section
variable {X : Cx} {n : Str} {i : Nat} {body : List Stmt} {h₀ : ExceptHandler} {hds : List ExceptHandler} {l : List (Value × (Addr → Value → Option Addr → TS))} {pos : Pos} {tb : WX → TS} {Wout : WX}
theorem ps_try_manyAs (hs : X.stack = X.env :: X.outer) (hf : X.env.frame = some X.env.locals) (hN : X.N.Nodup) (hi : X.N[i]? = some n) (hln : X.env.kindOf n = some .local) (tk : Takes X Wout)
    (hb : ∀ (W : WX) (pn : List (Addr × Obj)) (xe : Value → Shared → Prop), Takes (X.tr pn xe) W → PassesOwn (model X.prog X.w) X.A X.env xe → PSs (X.tr pn xe) body (tb W))
    (hh : HdsAs X n (h₀ :: hds) l) : PS X (.Try body (h₀ :: hds) [] [] pos) (fun D σ H => tb (wManyAs X.K i Wout D l) D σ H) := by
  refine ⟨fun pins s σ H D I h => ?_⟩
  have ok := I.ok
  have hfr : X.A.frames = some (X.env :: X.outer) := by rw [ok.frames, hs]
  have hloc : Loc X.env.scope n := .inl hln
  refine wpAny_Try_except ?_
  refine wpAny_mono ((hb (wManyAs X.K i Wout D l) (X.pn ++ pins) (fun e s₁ => wpAny (model X.prog X.w) X.A (noteFrame e X.env) (fun _ s₂ => wpAny (model X.prog X.w) X.A (setFlight e none) (fun _ s₃ =>
    wpAny (model X.prog X.w) X.A (handleBy e X.env (h₀ :: hds)) (SP X pins D) X.xe s₃) X.xe s₂) X.xe s₁) (fun u s' xx => ?_) PassesOwn.looking).run [] s σ H D (I.toTry _) h) (fun f s1 hsp => ?_) (fun e s1 he => he)
  · obtain ⟨a, B, sI, pins', σ', H', cls, d, rfl, J', nb, up, sky, na, os, ag, w⟩ := xx
    have J : Inv X pins σ' H' sI := J'.ofTry ok
    have sky' : Sky B (X.env :: X.outer) a (Zc cls d) X.env.locals s'.heap := by rw [← hs]; exact sky
    show wpAny (model X.prog X.w) X.A (noteFrame (.ref a) X.env) _ _ _
    refine Sky.land Zc.steady hfr hf sky' fun h3 fl3 up3 => ?_
    have J3 : Inv X pins σ' H' { s' with heap := h3 } := J.landed nb fl3.1 (up.trans up3) os ag
    obtain ⟨oe3, vs3, he3, hz3, hd3⟩ := fl3.there
    have notFr : ∀ {h : Heap} {o : Obj} {vs : Array Value}, h.FunFrames B (X.env :: X.outer) → h.get? a = some o → o.data = .fields vs → a ∉ frs (X.env :: X.outer) := fun {h o vs} ff e dd hm => by
      obtain ⟨_, o', e', hnf⟩ := ff.mem hm
      rw [e] at e'; cases e'
      exact hnf _ dd
    have nfr := notFr fl3.2.2.1 he3 hd3
    have nL : a ≠ X.env.locals := fun z => nfr (List.mem_filterMap.mpr ⟨X.env, List.mem_cons_self, by rw [hf, z]⟩)
    have nF : a ∉ X.fs := fun hm => by
      obtain ⟨e, he, q⟩ := List.mem_filterMap.mp hm
      exact nfr (List.mem_filterMap.mpr ⟨e, List.mem_cons_of_mem _ he, q⟩)
    have S3 := J3.suite he3 hd3 na nL nF
    have go : ∀ {hds' : List ExceptHandler} {l' : List (Value × (Addr → Value → Option Addr → TS))}, HdsAs X n hds' l' → wManyAs X.K i Wout D l' cls d σ' H' →
        wpAny (model X.prog X.w) X.A (handleBy (.ref a) X.env hds') (SP X pins D) X.xe { s' with heap := h3 } := by
      intro hds' l' hk
      induction hk with
      | nil =>
        intro w
        refine wpAny_handleBy_nil ?_
        obtain ⟨k1, k2, k3, oe, vs, T, oT, ts', he, hz, hd, h1, hr⟩ := id fl3
        unfold PySem.passOn
        refine wpAny_bind (wpAny_field he hd h1 ?_)
        rw [if_neg (show ¬ ((Value.ref T == Value.none) = true) from by simp)]
        have fin : wpAny (model X.prog X.w) X.A (setFlight (.ref a) X.env.frame) (fun _ s4 => wpAny (model X.prog X.w) X.A (throw (.ref a) : Sem Flow) (SP X pins D) X.xe s4) X.xe { s' with heap := h3 } := by
          rw [hf]
          refine HandSPX.setFlight_upZ fl3 fun h4 hh4 up4 => wpAny_throw (tk _ _ ?_)
          exact ⟨a, B, sI, pins, σ', H', cls, d, rfl, J, nb, (up.trans up3).trans up4, .inr (.inr (by rw [hs]; exact hh4)), na, os, ag, w⟩
        first
          | exact wpAny_bind (wpAny_pure (wpAny_bind fin))
          | exact wpAny_bind fin
      | @cons x c ts b₀ suite np pos' hds2 l2 hc hsu r ih =>
        intro w
        obtain ⟨b, hb1, hyes, hno⟩ := w
        refine wpAny_handleBy_cons (codeAny_handlers_test ?_) (by intro q; cases q)
        have LT : PySem.W.Looks (model X.prog X.w) h3 (typeOf (.ref a)) cls := fun A Q E s k q => wpAny_typeOf_ref (k _ _ he3) (by rw [hz3.1]; exact q)
        have LM := PySem.W.exm_one (M := model X.prog X.w) (J3.kIn) LT hb1
        have test : ∀ {Q : Value → Shared → Prop} {E : Value → Shared → Prop}, Q c { s' with heap := h3 } → wpAny (model X.prog X.w) (X.A.mark (some (.ref a))) (eval (.Name x np) X.env) Q E { s' with heap := h3 } := fun {Q E} q => by
          obtain ⟨hg, hdbg, hm | ⟨hm, hv, hnn⟩⟩ := hc
          · exact ld_glob (X := X.suite a ((a, oe3) :: (X.pn ++ pins))) S3 hg hm q hdbg
          · exact ld_blt (X := X.suite a ((a, oe3) :: (X.pn ++ pins))) S3 hg hm hv q hnn hdbg
        refine test (LM.here ?_)
        cases b with
        | true =>
          refine codeAny_handlers_suite_as ?_
          refine HandSPX.lands_againZ fl3 fun h4 fl4 up4 => ?_
          have J4 : Inv X pins σ' H' { s' with heap := h4 } := J.landed nb fl4.1 ((up.trans up3).trans up4) os ag
          obtain ⟨oe4, vs4, he4, hz4, hd4⟩ := fl4.there
          have S4 := J4.suite he4 hd4 na nL nF
          refine store_ok (X := X.suite a ((a, oe4) :: (X.pn ++ pins))) (v := .ref a) S4 hN hi hloc rfl (fun s5 S5 => ?_) (.inr hln)
          refine wpAny_mono ((hsu a oe4 cls d (X.pn ++ pins) hz4 ⟨_, hd4⟩).run [] s5 _ H' _ S5 (hyes rfl a na)) (fun f s6 hsp => ?_) (fun _ _ z => False.elim z)
          have end_ : ∀ {σ6 : St} {H6 : Hp} {Q : Shared → Prop}, Inv (X.suite a ((a, oe4) :: (X.pn ++ pins))) [] σ6 H6 s6 → (∀ s7, Inv X pins (σ6.set i none) H6 s7 → Q s7) →
              wpAny (model X.prog X.w) X.A (do bindName X.env n .none; unbindBehindTheSuite X.env n pos') (fun _ s7 => Q s7) X.xe s6 := fun {σ6 H6 Q} S6 hq => gone_ok (S6.unsuite ok) hN hi hln hq
          cases f with
          | next =>
            obtain ⟨σ6, H6, S6, q6⟩ := hsp
            exact end_ S6 fun s7 J7 => ⟨_, _, J7, q6⟩
          | brk =>
            obtain ⟨σ6, H6, S6, q6⟩ := hsp
            exact end_ S6 fun s7 J7 => ⟨_, _, J7, q6⟩
          | cont =>
            obtain ⟨σ6, H6, S6, q6⟩ := hsp
            exact end_ S6 fun s7 J7 => ⟨_, _, J7, q6⟩
          | ret u =>
            obtain ⟨v6, σ6, H6, S6, r6, q6⟩ := hsp
            exact end_ S6 fun s7 J7 => ⟨_, _, _, J7, r6, q6⟩
        | false =>
          show wpAny _ X.A (handleBy (.ref a) X.env hds2) _ _ _
          exact ih (hno rfl)
    exact go hh w
  · cases f with
    | next =>
      obtain ⟨σ', H', J', q⟩ := hsp
      exact wpAny_execs_nil ⟨σ', H', J'.ofTry ok, q⟩
    | brk =>
      obtain ⟨σ', H', J', q⟩ := hsp
      exact ⟨σ', H', J'.ofTry ok, q⟩
    | cont =>
      obtain ⟨σ', H', J', q⟩ := hsp
      exact ⟨σ', H', J'.ofTry ok, q⟩
    | ret u =>
      obtain ⟨v, σ', H', J', r, q⟩ := hsp
      exact ⟨v, σ', H', J'.ofTry ok, r, q⟩
end
end L2

set_option maxRecDepth 100000
set_option maxHeartbeats 8000000
namespace K83
open PySem PySem.Spec PyProof.Rows L2 Kw
/-- an odd thing in the place of a class -/
def OddV (many : Nat) (H : Hp) (x : V) : Prop := x = .non ∨ x = .str "ab" ∨ (∃ b, x = .bl b) ∨ (x = .int (-1)) ∨ x = .int (many : Int) ∨ x = .int ((many : Int) + 10 ^ 12) ∨ ∃ t, x = .ref t ∧ H t = some (.tup [.int 1])
theorem OddV.same {many : Nat} {H H' : Hp} {x : V} (h : OddV many H x) (s : Same H H') : OddV many H' x := by
  rcases h with h | h | h | h | h | h | ⟨t, e, h⟩
  · exact .inl h
  · exact .inr (.inl h)
  · exact .inr (.inr (.inl h))
  · exact .inr (.inr (.inr (.inl h)))
  · exact .inr (.inr (.inr (.inr (.inl h))))
  · exact .inr (.inr (.inr (.inr (.inr (.inl h)))))
  · exact .inr (.inr (.inr (.inr (.inr (.inr ⟨t, e, s _ _ h⟩)))))
theorem OddV.ty {many : Nat} {H : Hp} {x : V} (h : OddV many H x) : (∃ t, Ty0 H x t) ∧ wholeB (.int 0) (.int ((many : Int) - 1)) x = false := by
  have wi : ∀ i : Int, ¬ (0 ≤ i ∧ i ≤ (many : Int) - 1) → wholeB (.int 0) (.int ((many : Int) - 1)) (.int i) = false := fun i n => by
    show (decide ((0 : Int) ≤ i) && decide (i ≤ (many : Int) - 1)) = false
    by_cases z : 0 ≤ i
    · rw [decide_eq_true z, decide_eq_false (fun y => n ⟨z, y⟩)]
      rfl
    · rw [decide_eq_false z]
      rfl
  rcases h with rfl | rfl | ⟨b, rfl⟩ | rfl | rfl | rfl | ⟨t, rfl, h⟩
  · exact ⟨⟨_, .non⟩, rfl⟩
  · exact ⟨⟨_, .str _⟩, rfl⟩
  · exact ⟨⟨_, .bl _⟩, rfl⟩
  · exact ⟨⟨_, .int _⟩, wi _ (by omega)⟩
  · exact ⟨⟨_, .int _⟩, wi _ (by omega)⟩
  · exact ⟨⟨_, .int _⟩, wi _ (by omega)⟩
  · exact ⟨⟨_, .tup h⟩, rfl⟩
theorem sm_big : ∀ m : Nat, m < 16 → (PyData.shown (.int ((m : Int) + 10 ^ 12))).length ≤ 13 ∧ PyData.weight (.int ((m : Int) + 10 ^ 12)) ≤ 60 ∧ PyData.showable (.int ((m : Int) + 10 ^ 12)) = true := by decide +kernel
theorem Sm.big {m : Nat} (h : m < 16) : Sm 0 60 (.int ((m : Int) + 10 ^ 12)) := by
  obtain ⟨h1, h2, h3⟩ := sm_big m h
  exact ⟨by simp [PyData.canLay0], by simp [PyData.depth], h2, by simpa [PyData.intsShort] using h1, h3⟩
theorem Sm.neg : Sm 0 60 (.int (-1)) := by
  have h : (PyData.shown (.int (-1))).length ≤ 13 ∧ PyData.weight (.int (-1)) ≤ 60 ∧ PyData.showable (.int (-1)) = true := by decide +kernel
  exact ⟨by simp [PyData.canLay0], by simp [PyData.depth], h.2.1, by simpa [PyData.intsShort] using h.1, h.2.2⟩
theorem Sm.bool (b : Bool) : Sm 0 60 (.bool b) := by
  have h : PyData.weight (.bool b) ≤ 60 ∧ PyData.showable (.bool b) = true := by cases b <;> decide +kernel
  exact ⟨by simp [PyData.canLay0], by simp [PyData.depth], h.1, by simp [PyData.intsShort], h.2⟩
theorem Sm.strc (z : Str) (h : (PyData.weight (.str z) ≤ 60 ∧ PyData.showable (.str z) = true ∧ PyData.canLay0 (.str z) = true) := by decide +kernel) : Sm 0 60 (.str z) :=
  ⟨h.2.2, by simp [PyData.depth], h.1, by simp [PyData.intsShort], h.2.1⟩
theorem OddV.dp {K : PySem.W.Frag} {many : Nat} {H : Hp} {x : V} (h : OddV many H x) (m12 : many ≤ 12) : ∃ d, Dp K H x d ∧ Sm 1 100 d := by
  rcases h with rfl | rfl | ⟨b, rfl⟩ | rfl | rfl | rfl | ⟨t, rfl, h⟩
  · exact ⟨.none, .non, Sm.non.le (by decide) (by decide)⟩
  · exact ⟨.str "ab", .str _, (Sm.strc "ab").le (by decide) (by decide)⟩
  · exact ⟨.bool b, .bl _, (Sm.bool b).le (by decide) (by decide)⟩
  · exact ⟨.int (-1), .int _, Sm.neg.le (by decide) (by decide)⟩
  · exact ⟨.int _, .int _, (Sm.nat (m := many) (by omega)).le (by decide) (by decide)⟩
  · exact ⟨.int _, .int _, (Sm.big (m := many) (by omega)).le (by decide) (by decide)⟩
  · refine ⟨.tuple [.int ((1 : Nat) : Int)], .tup (SqT.of h) (.cons (.int _) .nil), ?_⟩
    exact (Sm.tuple (l := 1) (n := 0) (b := 4) (fun d hd => by rw [List.mem_singleton.mp hd]; exact Sm.nat (by decide)) (Nat.le_refl _)).le (by decide) (by decide)
section
variable {P : Program} {w : World} {K : PySem.W.Frag} {mg : Str → Option Value} {base : Heap} {f fM fT fO fX fY C Cl Cs Cn Ct : Addr} {fd fdM fdT fdO : FuncData}
def spNamed : Sp := fun vs H Q _ => ∃ (p q r : Addr) (us : List V) (ds : List Ent), vs = [.ref p, .ref r] ∧ HandAt H p q ∧ H r = some (.lst us) ∧ RwN r H us ds ∧ DsOk ds ∧ ds.length ≤ 12 ∧
  ∀ D us' es H', Oth p H H' → HandAt H' p q → H D = none → H' D = some (.lst us') → RwN D H' us' es → DsOk es → es.length = ds.length → Q (.ref D) H'
theorem sc_named : FnScope ["_law_hand_here", "_law_rows", "_law_row_here"] ["_law_hand_here", "_law_rows"] (defScope (top 63)) := ⟨rfl, rfl, rfl, by decide +kernel, rfl, by decide +kernel, by decide +kernel⟩
theorem ok_named (F : FnP K "_law_named" 63 f fd) (FM : FnP K "_law_methods" 47 fM fdM) (mM : mg "_law_methods" = some (.ref fM)) (GM : FnOk P w K mg base CX0 3 fM fdM ["_law_hand_here"] spMethods) : FnOk P w K mg base CX0 4 f fd ["_law_hand_here", "_law_rows"] spNamed := by
  have bM : L2.Binds K fdM ["_law_hand_here"] [] := FM.bindsN fun _ _ _ _ _ _ us hl => match us, hl with | [_], _ => rfl
  refine F.ok sc_named (fun vs H Q E h => ?_) (fun cdv A outer s H vs Q E hr h => ?_)
  · obtain ⟨p, q, r, us, ds, rfl, _⟩ := h
    rfl
  · obtain ⟨p, q, r, us, ds, rfl, hh, hr0, hR, ok, h12, k⟩ := h
    refine ⟨_, PSs.nox (pss_one (ps_ret (pe_lc (own := [("_law_row_here", 2)]) (g := gName 2) (tt := tYes) (te := tTup (tCons (tOp (rIxT K) (tVar 2) (tC (.int 0))) (tCons (tOp (rIxT K) (tVar 2) (tC (.int 1))) (tCons (tCall spMethods [] E0 (tCons (tVar 0) tNil)) tNil)))) rfl sc_named.nd (pi_list (pv 1)) (blkOk_by (N := ["_law_hand_here", "_law_rows", "_law_row_here"]) (sc := defScope (top 63)) (by decide +kernel))
      (fun _ _ _ _ _ => pg_name (i := 2) sc_named.nd rfl (Or.inl rfl)) (fun _ _ _ _ _ => pts_nil) (fun _ _ _ _ _ => pe_tup (pa_cons (pe_ix (r := rIxT K) ix_tup (pv 2) pe_int (fun _ _ => rfl)) (pa_cons (pe_ix (r := rIxT K) ix_tup (pv 2) pe_int (fun _ _ => rfl)) (pa_cons (pe_call GM hr (by rfl) mM FM.kp bM .nil pass0 (pa_cons (pv 0) pa_nil)) pa_nil))))))), ?_⟩
    have rp : r ≠ p := (hh.ne_of hr0 (nh_refs hR.refs))
    refine ⟨_, rfl, r, rfl, ⟨_, SqL.of hr0⟩, fun D hD => ?_⟩
    obtain ⟨Dp, Dq⟩ := hh.ne hD
    have rD : r ≠ D := ne_of_none hr0 hD
    refine lc_list (K := K) (a := r) (xs := us) (fun i H' => Oth p H H' ∧ HandAt H' p q ∧ ∃ ws es, H' D = some (.lst ws) ∧ RwN D H' ws es ∧ es.length = i ∧ DsOk es) ⟨Oth.of (same_new hD), hh.same (same_new hD), [], [], upd_same, .nil, rfl, (fun i d e => by cases e)⟩ (fun i H' _ z => SqL.of (z.1 _ _ rp hr0)) ?_ ?_
    · rintro i y H1 hi ⟨O1, h1, ws, es, D1, hW, el, eok⟩
      have il := (List.getElem?_eq_some_iff.mp hi).1
      have rl := hR.len
      obtain ⟨d, hd⟩ : ∃ d, ds[i]? = some d := ⟨_, List.getElem?_eq_getElem (by omega)⟩
      obtain ⟨t, b, m, e1, ht, hb, hm⟩ := hR.get hd
      rw [hi] at e1
      obtain rfl := Option.some.inj e1
      have k1 := KI.oth O1 hh
      have t1 := k1 _ _ ht nh_tup
      refine ⟨rfl, _, rfl, t, _, ((0 : Nat) : Int), _, rfl, rfl, SqT.of t1, atI_nat rfl, _, rfl, t, _, ((1 : Nat) : Int), _, rfl, rfl, SqT.of t1, atI_nat rfl, _, rfl, p, q, rfl, h1, fun l H2 ms O2 h2 hln hl up m6 m3 => ⟨(by show 3 ≤ sizeLine; decide), fun T hT => ?_⟩⟩
      have k2 := KI.oth O2 h1
      have D2 := O2 _ _ Dp D1
      have sT := same_new (o := .tup [.ref b, natV d.2.1, .ref l]) hT
      have D3 := sT _ _ D2
      have TD : T ≠ D := Ne.symm (ne_of_none D2 hT)
      have bD : b ≠ D := ne_of_none hb hD
      have lD : l ≠ D := fun z => by rw [z, D1] at hln; cases hln
      have W3 : RwN D (upd H2 T (.tup [.ref b, natV d.2.1, .ref l])) ws es := (hW.ki k2).ki (KI.of sT)
      have wl := hW.len
      refine ⟨ws, D3, (by show _ < 2 ^ 24; omega), ((O1.trans O2).trans (Oth.of sT)).updN hD, (h2.same sT).upd Dp Dq, ws ++ [.ref T], es ++ [(d.1, d.2.1, ms)], upd_same, ?_, by rw [List.length_append, el]; rfl, eok.app ?_⟩
      · refine RwN.app (W3.keep KeepX.upd) (.cons ⟨T, b, l, rfl, TD, upB TD upd_same, bD, upB bD (sT _ _ (k2 _ _ (k1 _ _ hb nh_nats) nh_nats)), lD, upB lD (sT _ _ hl)⟩ .nil)
      · rw [el]
        obtain ⟨z1, z2, z3, z4, _⟩ := ok i d hd
        exact ⟨z1, z2, z3, z4, up, m6, m3⟩
    · rintro H1 ⟨O1, h1, ws, es, D1, hW, el, eok⟩
      exact k D ws es H1 O1 h1 hD D1 hW eok (by rw [el, hR.len])
end
end K83

set_option maxRecDepth 100000
set_option maxHeartbeats 8000000
namespace K83
open PySem PySem.Spec PyProof.Rows L2 Kw
section
variable {P : Program} {w : World} {K : PySem.W.Frag} {mg : Str → Option Value} {base : Heap} {f fM fT fO fX fY C Cl Cs Cn Ct : Addr} {fd fdM fdT fdO : FuncData}
def spStr : Sp := fun vs H Q _ => ∃ (p q : Addr) (many : Nat), vs = [.ref p, natV many] ∧ many ≤ 12 ∧ HandAt H p q ∧ ∀ x H', Oth p H H' → HandAt H' p q → OddV many H' x → Q x H'
theorem sc_str : FnScope ["_law_hand_here", "_law_many"] ["_law_hand_here", "_law_many"] (defScope (top 65)) := ⟨rfl, rfl, rfl, by decide +kernel, rfl, by decide +kernel, by decide +kernel⟩
theorem ok_str (F : FnP K "_law_stranger" 65 f fd) (FT : FnP K "_law_take" 45 fT fdT) (mT : mg "_law_take" = some (.ref fT)) (GT : FnOk P w K mg base CX0 2 fT fdT ["_law_hand_here", "_law_many"] spTake) : FnOk P w K mg base CX0 3 f fd ["_law_hand_here", "_law_many"] spStr := by
  have bT : L2.Binds K fdT ["_law_hand_here", "_law_many"] [] := FT.bindsN fun _ _ _ _ _ _ us hl => match us, hl with | [_, _], _ => rfl
  refine F.ok sc_str (fun vs H Q E h => ?_) (fun cdv A outer s H vs Q E hr h => ?_)
  · obtain ⟨p, q, many, rfl, _⟩ := h
    rfl
  · obtain ⟨p, q, many, rfl, m12, hh, k⟩ := h
    refine ⟨_, PSs.nox (pss_one (ps_ret (pe_ix (r := rIxT K) ix_tup (pe_tup (pa_cons pe_non (pa_cons pe_str (pa_cons pe_bl (pa_cons pe_bl (pa_cons (pe_un un_neg pe_int) (pa_cons (pv 1) (pa_cons (pe_op op_add (pv 1) (pe_op op_pow pe_int pe_int)) (pa_cons (pe_tup (pa_cons pe_int pa_nil)) pa_nil)))))))))
      (pe_call GT hr (by rfl) mT FT.kp bT .nil pass0 (pa_cons (pv 0) (pa_cons pe_int pa_nil))) (fun _ _ => rfl)))), ?_⟩
    refine ⟨_, rfl, _, rfl, _, rfl, _, _, rfl, rfl, ⟨by decide, by decide, by decide⟩, _, _, rfl, rfl, (by show 1 ≤ sizeLine; decide), fun U hU => ⟨(by show 8 ≤ sizeLine; decide), fun T hT => ?_⟩⟩
    have sU := same_new (o := .tup [.int 1]) hU
    have sT := same_new (o := .tup [.non, .str "ab", .bl true, .bl false, .int (-1), natV many, .int ((many : Int) + 10 ^ 12), .ref U]) hT
    have s2 := sU.trans sT
    have U2 : _ = some (HO.tup [V.int 1]) := sT _ _ (upd_same (H := H) (a := U) (o := .tup [.int 1]))
    have T2 := upd_same (H := upd H U (.tup [.int 1])) (a := T) (o := .tup [.non, .str "ab", .bl true, .bl false, .int (-1), natV many, .int ((many : Int) + 10 ^ 12), .ref U])
    have h2 := hh.same s2
    refine ⟨_, rfl, p, q, 8, rfl, by decide, by decide, h2, fun z H3 z0 z1 h3 e3 => ?_⟩
    have O3 := Oth.take e3
    have O03 := (Oth.of s2).trans O3
    have k3 := KI.oth O3 h2
    have T3 := k3 _ _ T2 nh_tup
    have U3 := k3 _ _ U2 nh_tup
    have z8 : z = ((0 : Nat) : Int) ∨ z = ((1 : Nat) : Int) ∨ z = ((2 : Nat) : Int) ∨ z = ((3 : Nat) : Int) ∨ z = ((4 : Nat) : Int) ∨ z = ((5 : Nat) : Int) ∨ z = ((6 : Nat) : Int) ∨ z = ((7 : Nat) : Int) := by omega
    rcases z8 with rfl | rfl | rfl | rfl | rfl | rfl | rfl | rfl
    · exact ⟨T, _, _, _, rfl, rfl, SqT.of T3, atI_nat rfl, k _ _ O03 h3 (.inl rfl)⟩
    · exact ⟨T, _, _, _, rfl, rfl, SqT.of T3, atI_nat rfl, k _ _ O03 h3 (.inr (.inl rfl))⟩
    · exact ⟨T, _, _, _, rfl, rfl, SqT.of T3, atI_nat rfl, k _ _ O03 h3 (.inr (.inr (.inl ⟨_, rfl⟩)))⟩
    · exact ⟨T, _, _, _, rfl, rfl, SqT.of T3, atI_nat rfl, k _ _ O03 h3 (.inr (.inr (.inl ⟨_, rfl⟩)))⟩
    · exact ⟨T, _, _, _, rfl, rfl, SqT.of T3, atI_nat rfl, k _ _ O03 h3 (.inr (.inr (.inr (.inl rfl))))⟩
    · exact ⟨T, _, _, _, rfl, rfl, SqT.of T3, atI_nat rfl, k _ _ O03 h3 (.inr (.inr (.inr (.inr (.inl rfl)))))⟩
    · exact ⟨T, _, _, _, rfl, rfl, SqT.of T3, atI_nat rfl, k _ _ O03 h3 (.inr (.inr (.inr (.inr (.inr (.inl rfl))))))⟩
    · exact ⟨T, _, _, _, rfl, rfl, SqT.of T3, atI_nat rfl, k _ _ O03 h3 (.inr (.inr (.inr (.inr (.inr (.inr ⟨U, rfl, U3⟩))))))⟩
def spAlike (K : PySem.W.Frag) : Sp := fun vs H Q _ => ∃ (x y : V) (d : PyData) (n b : Nat), vs = [x, y] ∧ Dp K H x d ∧ Dp K H y d ∧ Sm n b d ∧ n ≤ 60 ∧ b ≤ 10000 ∧ Q (.bl true) H
theorem sc_alike : FnScope ["_law_a", "_law_b"] ["_law_a", "_law_b"] (defScope (top 66)) := ⟨rfl, rfl, rfl, by decide +kernel, rfl, by decide +kernel, by decide +kernel⟩
theorem ok_alike (F : FnP K "_law_alike" 66 f fd) (gRp : mg "repr" = none) : FnOkG P w K mg base CX0 1 f fd ["_law_a", "_law_b"] (spAlike K) := by
  refine FunD.okG F sc_alike (fun vs H Q E h => ?_) (fun cdv A outer s H vs Q E quiet hr h => ?_)
  · obtain ⟨x, y, d, n, b, rfl, _⟩ := h
    rfl
  · obtain ⟨x, y, d, n, b, rfl, hx, hy, sm, hn, hb, k⟩ := h
    have hu : (A.deeper (envOfC ("_law_alike" : Str) (defScope (top 66)) s.heap.objs.size f cdv)).units + 65 < cLine := by
      have := hr.un
      omega
    refine ⟨_, PSs.nox (pss_one (ps_ret (pe_cmpR op_eq (pe_callB (id := "repr") (r := rReprA K) (call_reprA quiet hu) (by rfl) gRp (by decide +kernel) (pa_cons (pv 0) pa_nil)) (pe_callB (id := "repr") (r := rReprA K) (call_reprA quiet hu) (by rfl) gRp (by decide +kernel) (pa_cons (pv 1) pa_nil)) (nomark _)))), ?_⟩
    refine ⟨_, rfl, x, d, n, b, rfl, hx, sm, hn, hb, _, rfl, y, d, n, b, rfl, hy, sm, hn, hb, rfl, ?_⟩
    rw [decide_eq_true rfl]
    exact k
def spAskO (C Cl Cs : Addr) : Sp := fun vs H Q _ => ∃ (p wp : Addr) (x : V) (ds : List Ent) (ls : List (Nat × Nat)), vs = [.ref p, x] ∧ LinksAt H p Cl wp C ds ls ∧ DsOk ds ∧ LsOk ds ls ∧ ds.length ≤ 12 ∧
  ((∃ t, Ty0 H x t ∧ wholeB (.int 0) (.int ((ds.length : Int) - 1)) x = false ∧ ∀ T H', Same H H' → H' T = some (.tup [.str "class", x]) → Q (.ref T) H') ∨
   ∃ tg, x = natV tg ∧ tg < ds.length ∧
    ((looseL ds ls tg = [] ∧ ∀ H', Same H H' → Q .non H') ∨
     (looseL ds ls tg ≠ [] ∧ ds.length = 12 ∧ ∀ T H', Same H H' → H' T = some (.tup [.str "many", .int 13]) → Q (.ref T) H') ∨
     ∃ x0 rest, looseL ds ls tg = x0 :: rest ∧ ds.length < 12 ∧ ∀ r q wq a b ls' H', Same H H' → SevAt H' r Cs q a b → LinksAt H' q Cl wq C (ds ++ [([x0, tg], 0, [])]) ls' → ls'.Perm (ls ++ [(ds.length, tg)]) → SortP ls' → H' a = some (.tup ([ds.length, x0, tg].map natV)) → H' b = some (.tup ([ds.length, tg].map natV)) → Q (.ref r) H'))
theorem sc_askO : FnScope ["_law_links", "_law_target", "raised"] ["_law_links", "_law_target"] (defScope (top 69)) := ⟨rfl, rfl, rfl, by decide +kernel, rfl, by decide +kernel, by decide +kernel⟩
theorem ok_askO (F : FnP K "_law_asked" 69 f fd) (FO : FnP K "one_part" 41 fO fdO) (mO : mg "one_part" = some (.ref fO)) (GO : FnOk P w K mg base (L2.CX P w) 8 fO fdO ["links", "target"] (spOne C Cl Cs Cn Ct))
    (TX : ErrX K mg "NoClass" ["cls"] Cn fX) (XX : XfC K Cn) (TY : ErrX K mg "TooMany" ["count"] Ct fY) (XY : XfC K Ct)
    (e1 : PySem.W.exmOne K (.ref Cn) (.ref Cn) = some true) (e2 : PySem.W.exmOne K (.ref Ct) (.ref Cn) = some false) (e3 : PySem.W.exmOne K (.ref Ct) (.ref Ct) = some true) : FnOk P w K mg base CX0 9 f fd ["_law_links", "_law_target"] (spAskO C Cl Cs) := by
  have bO : L2.Binds K fdO ["links", "target"] [] := FO.bindsN fun _ _ _ _ _ _ us hl => match us, hl with | [_, _], _ => rfl
  refine F.ok sc_askO (fun vs H Q E h => ?_) (fun cdv A outer s H vs Q E hr h => ?_)
  · obtain ⟨p, wp, x, ds, ls, rfl, _⟩ := h
    rfl
  · obtain ⟨p, wp, x, ds, ls, rfl, hL, ok, lok, h12, h⟩ := h
    refine ⟨_, PSs.nox (pss_one (ps_try_manyAs (i := 2) rfl rfl sc_askO.nd rfl rfl takes0
          (fun W pn xe tk _ => pss_one (ps_ret (pe_callS GO hr (by rfl) mO FO.kp bO (fun σ => passAt tk σ) (pa_cons (pv 0) (pa_cons (pv 1) pa_nil)))))
          (.cons ⟨rfl, by decide, .inl TX.mg⟩ (fun a oe cls d pn hz hf => pss_one (ps_ret (pe_tup (pa_cons pe_str (pa_cons (pe_xf XX (TX.no _ (List.mem_of_getElem? (i := 0) rfl)) hz hf (pv 2)) pa_nil)))))
          (.cons ⟨rfl, by decide, .inl TY.mg⟩ (fun a oe cls d pn hz hf => pss_one (ps_ret (pe_tup (pa_cons pe_str (pa_cons (pe_xf XY (TY.no _ (List.mem_of_getElem? (i := 0) rfl)) hz hf (pv 2)) pa_nil))))) .nil)))), ?_⟩
    refine ⟨_, rfl, _, rfl, p, wp, x, ds, ls, rfl, hL, ok, lok, h12, ?_⟩
    rcases h with ⟨t, ty, eb, k⟩ | ⟨tg, rfl, tgl, h⟩
    · refine .inl ⟨t, ty, eb, fun d H1 s1 he => ⟨true, e1, fun _ xa hxa => ?_, fun q => nomatch q⟩⟩
      refine ⟨_, rfl, rfl, rfl, d, _, _, rfl, he, rfl, (by show 2 ≤ sizeLine; decide), fun T hT => ?_⟩
      exact k _ _ (s1.trans (same_new hT)) upd_same
    · refine .inr ⟨tg, rfl, tgl, ?_⟩
      rcases h with ⟨e, k⟩ | ⟨ne, n12, k⟩ | ⟨x0, rest, e, nl, k⟩
      · exact .inl ⟨e, fun H1 s1 => k H1 s1⟩
      · refine .inr (.inl ⟨ne, n12, fun d H1 s1 he => ⟨false, e2, (fun q => nomatch q), fun _ => ⟨true, e3, fun _ xa hxa => ?_, fun q => nomatch q⟩⟩⟩)
        refine ⟨_, rfl, rfl, rfl, d, _, _, rfl, he, rfl, (by show 2 ≤ sizeLine; decide), fun T hT => ?_⟩
        exact k _ _ (s1.trans (same_new hT)) upd_same
      · exact .inr (.inr ⟨x0, rest, e, nl, fun r q wq a b ls' H1 s1 hS Lq pm so ha hb => k r q wq a b ls' H1 s1 hS Lq pm so ha hb⟩)
end
end K83

set_option maxRecDepth 100000
set_option maxHeartbeats 8000000
namespace K83
open PySem PySem.Spec PyProof.Rows L2 Kw
theorem sortN_up {l : List Nat} (up : l.Pairwise (· < ·)) (h6 : ∀ m ∈ l, m < 6) : sortN l = l := by
  have e := sortN_nat up h6
  have inj : ∀ {a b : List Nat}, a.map natV = b.map natV → a = b := fun {a} => by
    induction a with
    | nil =>
      intro b h
      cases b with
      | nil => rfl
      | cons _ _ => cases h
    | cons x a ih =>
      intro b h
      cases b with
      | nil => cases h
      | cons y b =>
        rw [List.map_cons, List.map_cons] at h
        have h1 := (List.cons.inj h).1
        rw [ih (List.cons.inj h).2, Int.ofNat.inj (V.int.inj h1)]
  exact inj e
/-- a row of rows that came out as tuples, as data -/
theorem out_dp {K : PySem.W.Frag} {H : Hp} {y : V} {ds : List Ent} (h : OutAt H 3 y (rowsT ds)) (ok : DsOk ds) : Dp K H y (dEnts ds) := by
  obtain ⟨a, us, rfl, ha, hP⟩ := h
  refine .tup (SqT.of ha) ?_
  have key : ∀ {us : List V} {es : List Ent}, (∀ e ∈ es, e.2.2.Pairwise (· < ·) ∧ ∀ m ∈ e.2.2, m < 6) → Paired (OutAt H 2) us (es.map entT) → DpAll K H us (es.map dEnt) := fun {us es} hz hp => by
    induction es generalizing us with
    | nil =>
      match us, hp with
      | [], _ => exact .nil
    | cons e r ih =>
      match us, hp with
      | _ :: _, .cons h1 h2 =>
        obtain ⟨t, b, m, rfl, ht, hb, hm⟩ := out_ent h1
        obtain ⟨z1, z2⟩ := hz e List.mem_cons_self
        have es := sortN_up z1 z2
        refine .cons (.tup (SqT.of ht) (.cons (dp_ns hb) (.cons (.int _) (.cons ?_ .nil)))) (ih (fun e he => hz e (List.mem_cons_of_mem _ he)) h2)
        rw [es]
        exact dp_ns hm
  refine key (fun e he => ?_) hP
  obtain ⟨i, hi⟩ := List.mem_iff_getElem?.mp he
  obtain ⟨_, _, _, _, z5, z6, _⟩ := ok i e hi
  exact ⟨z5, z6⟩
theorem cut_to {ds : List Ent} (ok : DsOk ds) {ls : List (Nat × Nat)} {c t : Nat} (hc : c < ds.length) (all : ∀ x, linkB ds x t = true → (x, t) ∈ ls) {w : List Nat} (hw : w ∈ waysTo ds 11 c t) : cutW ls w = [t] := by
  obtain ⟨hw, hl⟩ := List.mem_filter.mp hw
  have hl : w.getLast? = some t := of_decide_eq_true hl
  obtain ⟨wa, w0⟩ := ways_isWay ok 11 c hc w hw
  have wp := (List.getElem?_eq_some_iff.mp w0).1
  rw [List.getLast?_eq_getElem?] at hl
  have eb : begN ls w (w.length - 1) = w.length - 1 := by
    cases e : w.length - 1 with
    | zero => rfl
    | succ m =>
      obtain ⟨x, hx⟩ : ∃ x, w[m]? = some x := ⟨_, List.getElem?_eq_getElem (by omega)⟩
      rw [e] at hl
      have hb := wa.2 m x t hx hl
      have lk : linkB ds x t = true := by
        unfold linkB
        rw [decide_eq_true (basesOf_lt ok hb).2, Bool.true_and]
        exact List.contains_iff_mem.mpr hb
      rw [begN, List.getD_eq_getElem?_getD, List.getD_eq_getElem?_getD, hx, hl]
      exact if_pos (all x lk)
  have il := (List.getElem?_eq_some_iff.mp hl).1
  have ed : cutW ls w = w.drop (w.length - 1) := by
    unfold cutW
    rw [eb]
  rw [ed, List.drop_eq_getElem_cons il, (List.getElem?_eq_some_iff.mp hl).2, List.drop_of_length_le (by omega)]
/-- with all links to a class shared, it stands once at most -/
theorem cnt_to {ds : List Ent} (ok : DsOk ds) {ls : List (Nat × Nat)} (lok : LsOk ds ls) {c t : Nat} (hc : c < ds.length) (h12 : ds.length ≤ 12) (all : ∀ x, linkB ds x t = true → (x, t) ∈ ls) : cntN ds ls c t = if t = c ∨ t ∈ (elsOf ds).getD c [] then 1 else 0 := by
  have aok : LsOk ds (pairsOf ds) := ⟨pairsUp_nodup ok _, fun q hq => pairsOf_link hq⟩
  obtain ⟨_, zz⟩ := cnt_more ok lok aok (fun q hq => pairsOf_mem (lok.2 q hq)) hc h12 t
  rw [cnt_flat ok aok (fun q hq => pairsOf_mem hq) hc h12 t] at zz
  have le : cntN ds ls c t ≤ 1 := nodup_len (m := [[t]]) (cuts_nodup ok lok hc t) fun x hx => by
    obtain ⟨w, hw, rfl⟩ := (mem_cuts ok lok hc h12 t x).mp hx
    rw [cut_to ok hc all hw]
    exact List.mem_singleton.mpr rfl
  by_cases z : t = c ∨ t ∈ (elsOf ds).getD c []
  · rw [if_pos z] at zz ⊢
    have : cntN ds ls c t ≠ 0 := fun q => by
      have := zz.mpr q
      omega
    omega
  · rw [if_neg z] at zz ⊢
    exact zz.mp rfl
/-- the two ways of the told heir -/
theorem told_cuts {ds : List Ent} {ls ls' : List (Nat × Nat)} (lok : LsOk ds ls) {x0 tg : Nat} (pm : ls'.Perm (ls ++ [(ds.length, tg)])) (hx : x0 < ds.length) (n0 : (x0, tg) ∉ ls) : cutW ls' [ds.length, x0, tg] ≠ cutW ls' [ds.length, tg] := by
  have m1 : (ds.length, tg) ∈ ls' := pm.mem_iff.mpr (List.mem_append_right _ (List.mem_singleton.mpr rfl))
  have m2 : (x0, tg) ∉ ls' := fun h => by
    rcases List.mem_append.mp (pm.mem_iff.mp h) with h | h
    · exact n0 h
    · have := (Prod.mk.inj (List.mem_singleton.mp h)).1
      omega
  have e2 : cutW ls' [ds.length, tg] = [tg] := by
    have : begN ls' [ds.length, tg] 1 = 1 := if_pos m1
    show List.drop (begN ls' [ds.length, tg] 1) [ds.length, tg] = [tg]
    rw [this]
    rfl
  have e1 : 2 ≤ (cutW ls' [ds.length, x0, tg]).length := by
    have h1 : begN ls' [ds.length, x0, tg] 2 = begN ls' [ds.length, x0, tg] 1 := if_neg m2
    have h2 : begN ls' [ds.length, x0, tg] 1 ≤ 1 := begN_le
    show 2 ≤ (List.drop (begN ls' [ds.length, x0, tg] 2) [ds.length, x0, tg]).length
    rw [h1, List.length_drop]
    show 2 ≤ 3 - _
    omega
  intro e
  rw [e, e2] at e1
  exact absurd e1 (by show ¬ 2 ≤ 1; decide)
theorem told_ways {ds : List Ent} (ok : DsOk ds) {x0 tg : Nat} (hx : linkB ds x0 tg = true) : IsWay (ds ++ [([x0, tg], 0, [])]) [ds.length, x0, tg] ∧ IsWay (ds ++ [([x0, tg], 0, [])]) [ds.length, tg] := by
  have bn : basesOf (ds ++ [([x0, tg], 0, [])]) ds.length = [x0, tg] := by
    unfold basesOf
    rw [List.getD_eq_getElem?_getD, List.getElem?_append_right (Nat.le_refl _), Nat.sub_self]
    rfl
  have xl := linkB_lt hx
  have bx : tg ∈ basesOf (ds ++ [([x0, tg], 0, [])]) x0 := by
    unfold linkB at hx
    rw [Bool.and_eq_true] at hx
    have h := List.contains_iff_mem.mp hx.2
    unfold basesOf at h ⊢
    rw [List.getD_eq_getElem?_getD] at h ⊢
    rw [List.getElem?_append_left xl]
    exact h
  have l1 : ds.length < (ds ++ [([x0, tg], 0, [])] : List Ent).length := by
    rw [List.length_append]
    exact Nat.lt_succ_self _
  refine ⟨⟨⟨ds.length, rfl, l1⟩, fun i a b ha hb => ?_⟩, ⟨⟨ds.length, rfl, l1⟩, fun i a b ha hb => ?_⟩⟩
  · match i with
    | 0 =>
      obtain rfl := Option.some.inj ha
      obtain rfl := Option.some.inj hb
      rw [bn]
      exact List.mem_cons_self
    | 1 =>
      obtain rfl := Option.some.inj ha
      obtain rfl := Option.some.inj hb
      exact bx
    | i + 2 => simp at hb
  · match i with
    | 0 =>
      obtain rfl := Option.some.inj ha
      obtain rfl := Option.some.inj hb
      rw [bn]
      exact List.mem_cons_of_mem _ List.mem_cons_self
    | i + 1 => simp at hb
end K83

set_option maxRecDepth 100000
set_option maxHeartbeats 8000000
namespace K83
open PySem PySem.Spec PyProof.Rows L2 Kw
theorem TupsAt.ks {H : Hp} : ∀ {us : List V} {ls : List (List Nat)}, TupsAt H us ls → ∃ ks : List (Addr × List Int), us = ks.map (fun p => V.ref p.1) ∧ ks.map (·.2) = ls.map (·.map fun n : Nat => (n : Int)) ∧ ∀ p ∈ ks, H p.1 = some (.tup (p.2.map V.int))
  | [], [], _ => ⟨[], rfl, rfl, fun p h => by cases h⟩
  | _ :: _, l :: _, .cons ⟨t, e, h⟩ r => by
    obtain ⟨ks, e1, e2, e3⟩ := TupsAt.ks r
    refine ⟨(t, l.map fun n : Nat => (n : Int)) :: ks, by rw [e, e1]; rfl, by rw [List.map_cons, e2]; rfl, fun p hp => ?_⟩
    rcases List.mem_cons.mp hp with rfl | hp
    · show H t = some (.tup ((l.map fun n : Nat => (n : Int)).map V.int))
      rw [List.map_map]
      exact h
    · exact e3 p hp
theorem ofNats_inj {a b : List Nat} (h : (a.map fun n : Nat => (n : Int)) = b.map fun n : Nat => (n : Int)) : a = b := by
  induction a generalizing b with
  | nil =>
    cases b with
    | nil => rfl
    | cons _ _ => simp at h
  | cons x a ih =>
    cases b with
    | nil => simp at h
    | cons y b =>
      simp only [List.map_cons, List.cons.injEq] at h
      rw [ih h.2, show x = y by omega]
theorem eqv_dlist (r : List Nat) : PyData.eqv (.list (r.map dN)) (.list []) = r.isEmpty := by
  cases r with
  | nil => decide +kernel
  | cons a t => simp [dN, PyData.eqv, PyData.eqvAll]
def atL (ls : List (Nat × Nat)) (ws : List Nat) (j : Nat) : List Nat := ((List.range j).filter fun i => decide ((ws.getD i 0, ws.getD (i + 1) 0) ∈ ls)).map (· + 1)
theorem atL_empty {ls : List (Nat × Nat)} {ws : List Nat} : (atL ls ws (ws.length - 1)).isEmpty = noSh ls ws := by
  have key : atL ls ws (ws.length - 1) = [] ↔ begN ls ws (ws.length - 1) = 0 := by
    unfold atL
    rw [List.map_eq_nil_iff, List.filter_eq_nil_iff, begN_zero]
    constructor
    · intro h i hi z
      exact h i (List.mem_range.mpr hi) (decide_eq_true z)
    · intro h i hi z
      exact h i (List.mem_range.mp hi) (of_decide_eq_true z)
  unfold noSh
  by_cases z : begN ls ws (ws.length - 1) = 0
  · rw [key.mpr z, decide_eq_true z]
    rfl
  · rw [decide_eq_false z]
    cases e : atL ls ws (ws.length - 1) with
    | nil => exact absurd (key.mp e) z
    | cons _ _ => rfl
section
variable {P : Program} {w : World} {K : PySem.W.Frag} {mg : Str → Option Value} {base : Heap} {f fW fC fA fE fD fS : Addr} {fd fdW fdC fdA fdE fdD fdS : FuncData}
def spAnySh : Sp := fun vs H Q _ => ∃ (S t : Addr) (us : List V) (ls : List (Nat × Nat)) (ws : List Nat), vs = [.ref S, .ref t] ∧ H S = some (.lst us) ∧ PairsAt H us ls ∧ H t = some (.tup (ws.map natV)) ∧ 1 ≤ ws.length ∧ ws.length ≤ 1000 ∧ ∀ H', Same H H' → Q (.bl (!noSh ls ws)) H'
def spLCopies : Sp := fun vs H Q _ => ∃ (r R S : Addr) (us ss : List V) (ds : List Ent) (ls : List (Nat × Nat)) (c tg : Nat), vs = [.ref r, .ref S, natV c, natV tg] ∧ H r = some (.lst us) ∧ RwN R H us ds ∧ DsOk ds ∧ ds.length ≤ 8 ∧ c < ds.length ∧ H S = some (.lst ss) ∧ PairsAt H ss ls ∧ LsOk ds ls ∧ ∀ H', Same H H' → Q (natV (cntN ds ls c tg)) H'
theorem sc_lcopies : FnScope ["_law_rows", "_law_shared", "_law_c", "_law_target", "_law_way"] ["_law_rows", "_law_shared", "_law_c", "_law_target"] (defScope (top 64)) := ⟨rfl, rfl, rfl, by decide +kernel, rfl, by decide +kernel, by decide +kernel⟩
theorem ok_lcopies (F : FnP K "_law_copies" 64 f fd) (B : Fr mg) (FW : FnP K "_law_ways_to" 61 fW fdW) (mW : mg "_law_ways_to" = some (.ref fW)) (GW : FnOk P w K mg base CX0 13 fW fdW ["_law_rows", "_law_c", "_law_target"] (spWaysTo 11)) (FC : FnP K "_law_cut" 62 fC fdC) (mC : mg "_law_cut" = some (.ref fC)) (GC : FnOk P w K mg base CX0 1 fC fdC ["_law_shared", "_law_way"] spLCut) : FnOk P w K mg base CX0 14 f fd ["_law_rows", "_law_shared", "_law_c", "_law_target"] spLCopies := by
  have bW : L2.Binds K fdW ["_law_rows", "_law_c", "_law_target"] [] := FW.bindsN fun _ _ _ _ _ _ us hl => match us, hl with | [_, _, _], _ => rfl
  have bC : L2.Binds K fdC ["_law_shared", "_law_way"] [] := FC.bindsN fun _ _ _ _ _ _ us hl => match us, hl with | [_, _], _ => rfl
  refine F.ok sc_lcopies (fun vs H Q E h => ?_) (fun cdv A outer s H vs Q E hr h => ?_)
  · obtain ⟨r, R, S, us, ss, ds, ls, c, tg, rfl, _⟩ := h
    rfl
  · obtain ⟨r, R, S, us, ss, ds, ls, c, tg, rfl, hr0, hR, ok, h8, hc, hS, hP, lok, k⟩ := h
    refine ⟨_, PSs.nox (pss_one (ps_ret (pe_lenSetC hr.units (by rfl) B.len (by rfl) B.set
      (pe_lc (own := [("_law_way", 4)]) (g := gName 4) (tt := tYes) (te := tCall spLCut [] E0 (tCons (tVar 1) (tCons (tVar 4) tNil))) rfl sc_lcopies.nd (pi_list (pe_call GW hr (by rfl) mW FW.kp bW .nil pass0 (pa_cons (pv 0) (pa_cons (pv 2) (pa_cons (pv 3) pa_nil))))) (blkOk_by (N := ["_law_rows", "_law_shared", "_law_c", "_law_target", "_law_way"]) (sc := defScope (top 64)) (by decide +kernel))
        (fun _ _ _ _ _ => pg_name (i := 4) sc_lcopies.nd rfl (Or.inl rfl)) (fun _ _ _ _ _ => pts_nil) (fun _ _ _ _ _ => pe_call GC (hr.mono (by decide)) (by rfl) mC FC.kp bC .nil pass0 (pa_cons (pv 1) (pa_cons (pv 4) pa_nil))))))), ?_⟩
    refine ⟨_, rfl, _, rfl, _, rfl, r, R, us, ds, c, tg, rfl, hr0, hR, ok, by omega, hc, by omega, fun Dw wus H3 s3 hDwn hDw hW => ⟨Dw, rfl, ⟨_, SqL.of hDw⟩, fun D hD => lc_list (K := K) (a := Dw) (xs := wus) (fun j H' => Same H3 H' ∧ ∃ vs, H' D = some (.lst vs) ∧ TupsAt H' vs (((waysTo ds 11 c tg).take j).map (cutW ls))) ⟨same_new hD, [], upd_same, .nil⟩ (fun j H' _ z => SqL.of (z.1 _ _ hDw)) ?_ ?_⟩⟩
    · rintro j v H4 hj ⟨s4, vs, D4, V4⟩
      obtain ⟨wy, hwy⟩ : ∃ wy, (waysTo ds 11 c tg)[j]? = some wy := ⟨_, List.getElem?_eq_getElem (by rw [← hW.len]; exact (List.getElem?_eq_some_iff.mp hj).1)⟩
      obtain ⟨tw, etw, htw⟩ := hW.get hwy
      rw [hj] at etw
      obtain rfl := Option.some.inj etw
      obtain ⟨wa, w0⟩ := ways_isWay ok 11 c hc wy (List.mem_filter.mp (List.mem_of_getElem? hwy)).1
      have wl := wa.len ok
      have wp := (List.getElem?_eq_some_iff.mp w0).1
      have s34 := s3.trans s4
      refine ⟨rfl, _, rfl, _, rfl, S, tw, ss, ls, wy, rfl, s34 _ _ hS, hP.same s34, s4 _ _ htw, by omega, by omega, fun t5 H5 s5 ht5 => ?_⟩
      have D5 := s5 _ _ D4
      have vl := V4.len
      rw [List.length_map, List.length_take] at vl
      have few := waysTo_few ok (t := tg) hc h8
      have kt : TupK H5 (upd H5 D (.lst (vs ++ [.ref t5]))) := TupK.updL D5
      refine ⟨vs, D5, (by show _ < 2 ^ 24; omega), same_upd (s4.trans s5) hD, vs ++ [.ref t5], upd_same, ?_⟩
      rw [List.take_add_one, hwy, Option.toList_some, List.map_append]
      exact ((V4.same s5).mono kt).app (.cons ⟨t5, rfl, kt _ _ ht5⟩ .nil)
    · rintro H4 ⟨s4, vs, D4, V4⟩
      rw [hW.len, List.take_length] at V4
      obtain ⟨ks, e1, e2, e3⟩ := V4.ks
      have few := waysTo_few ok (t := tg) hc h8
      have kl : ks.length = (waysTo ds 11 c tg).length := by
        have := congrArg List.length e2
        rw [List.length_map, List.length_map, List.length_map] at this
        exact this
      refine ⟨D, ks, rfl, by rw [← e1]; exact SqL.of D4, fun p hp => SqT.of (e3 p hp), by omega, fun L nd hm => ?_⟩
      have el : L.length = cntN ds ls c tg := by
        have nd2 : ((cutsL ds ls c tg).map fun l : List Nat => l.map fun n : Nat => (n : Int)).Nodup := List.Pairwise.map _ (fun x y (h : x ≠ y) z => h (ofNats_inj z)) (cuts_nodup ok lok hc tg)
        have pm := nodup_perm nd nd2 fun x => by
          rw [hm, e2, List.map_map, List.mem_map, List.mem_map]
          constructor
          · rintro ⟨w, hw, rfl⟩
            exact ⟨cutW ls w, (mem_cuts ok lok hc (by omega) tg _).mpr ⟨w, hw, rfl⟩, rfl⟩
          · rintro ⟨l, hl, rfl⟩
            obtain ⟨w, hw, rfl⟩ := (mem_cuts ok lok hc (by omega) tg _).mp hl
            exact ⟨w, hw, rfl⟩
        rw [pm.length_eq, List.length_map]
        rfl
      rw [el]
      exact k H4 (s3.trans s4)
def spDbl : Sp := fun vs H Q _ => ∃ (r R S : Addr) (us ss : List V) (ds : List Ent) (ls : List (Nat × Nat)) (c tg : Nat), vs = [.ref r, .ref S, natV c, natV tg] ∧ H r = some (.lst us) ∧ RwN R H us ds ∧ DsOk ds ∧ ds.length ≤ 12 ∧ c < ds.length ∧ H S = some (.lst ss) ∧ PairsAt H ss ls ∧ ∀ H', Same H H' → Q (natV (dblN ds ls c tg)) H'
end
end K83

set_option maxRecDepth 100000
set_option maxHeartbeats 8000000
namespace K83
open PySem PySem.Spec PyProof.Rows L2 Kw
theorem way_app {ds : List Ent} {ws : List Nat} {c b : Nat} (hw : IsWay ds ws) (hl : ws[ws.length - 1]? = some c) (hb : b ∈ basesOf ds c) : IsWay ds (ws ++ [b]) := by
  obtain ⟨c0, hc0, l0⟩ := id hw.1
  have wl := (List.getElem?_eq_some_iff.mp hc0).1
  refine ⟨⟨c0, by rw [List.getElem?_append_left wl]; exact hc0, l0⟩, fun i x y hx hy => ?_⟩
  by_cases z : i + 1 < ws.length
  · rw [List.getElem?_append_left (by omega)] at hx
    rw [List.getElem?_append_left z] at hy
    exact hw.2 i x y hx hy
  · have il := (List.getElem?_eq_some_iff.mp hy).1
    rw [List.length_append, List.length_singleton] at il
    have ei : i = ws.length - 1 := by omega
    rw [List.getElem?_append_left (by omega), ei, hl] at hx
    obtain rfl := Option.some.inj hx
    rw [List.getElem?_append_right (by omega)] at hy
    rw [show i + 1 - ws.length = 0 by omega] at hy
    obtain rfl : b = y := Option.some.inj hy
    exact hb
theorem mem_natV {v : Int} {l : List Nat} (h : inV (.int v) (l.map natV) = true) : ∃ b, V.int v = natV b ∧ b ∈ l := by
  obtain ⟨z, hz, he⟩ := List.any_eq_true.mp h
  obtain ⟨b, hb, rfl⟩ := List.mem_map.mp hz
  have e : (b : Int) = v := by
    have e1 : ((b : Int) == v) = true := he
    exact eq_of_beq e1
  exact ⟨b, by rw [← e]; rfl, hb⟩
/-- every row of things is a way or has a first fault -/
theorem classify {H : Hp} {ds : List Ent} {a : Addr} {xs : List V} (ok : DsOk ds) (hA : SeqAt H a xs) (hl : xs.length ≤ 1000) (ty : ∀ y ∈ xs, ∃ t, Ty0 H y t) : (∃ ws, GoodWay H ds (.ref a) ws) ∨ ∃ i, WayIs H ds (.ref a) (some i) := by
  cases hx : xs with
  | nil =>
    rw [hx] at hA
    exact .inr ⟨0, .none rfl hA⟩
  | cons y0 r =>
    have h0 : xs[0]? = some y0 := by rw [hx]; rfl
    obtain ⟨t0, ty0⟩ := ty y0 (List.mem_of_getElem? h0)
    cases e0 : wholeB (.int 0) (.int ((ds.length : Int) - 1)) y0 with
    | false => exact .inr ⟨0, .first rfl hA hl h0 ty0 e0⟩
    | true =>
      obtain ⟨c, rfl, hc⟩ : ∃ c : Nat, y0 = natV c ∧ c < ds.length := by
        cases y0 with
        | int v =>
          have e0' : (decide ((0 : Int) ≤ v) && decide (v ≤ (ds.length : Int) - 1)) = true := e0
          rw [Bool.and_eq_true] at e0'
          have z1 := of_decide_eq_true e0'.1
          have z2 := of_decide_eq_true e0'.2
          refine ⟨v.toNat, ?_, by omega⟩
          show V.int v = V.int _
          congr 1
          omega
        | _ => cases e0
      have key : ∀ k, k < xs.length → (∃ i, WayIs H ds (.ref a) (some i)) ∨ ∃ ws, xs.take (k + 1) = ws.map natV ∧ IsWay ds ws := by
        intro k
        induction k with
        | zero =>
          intro _
          refine .inr ⟨[c], ?_, ⟨⟨c, rfl, hc⟩, fun i x y _ hy => by simp at hy⟩⟩
          rw [hx]
          rfl
        | succ k ih =>
          intro hk
          rcases ih (by omega) with h | ⟨ws, pre, hw⟩
          · exact .inl h
          · have wlen : ws.length = k + 1 := by
              have := congrArg List.length pre
              rw [List.length_take, List.length_map] at this
              omega
            obtain ⟨y, hy⟩ : ∃ y, xs[k + 1]? = some y := ⟨_, List.getElem?_eq_getElem hk⟩
            obtain ⟨cc, hcc⟩ : ∃ cc, ws[k]? = some cc := ⟨_, List.getElem?_eq_getElem (by omega)⟩
            obtain ⟨t, tyy⟩ := ty y (List.mem_of_getElem? hy)
            cases e : stepB ds cc y with
            | false => exact .inl ⟨k + 1, .bad rfl hA hl pre hw hcc hy tyy e⟩
            | true =>
              unfold stepB at e
              rw [Bool.and_eq_true] at e
              obtain ⟨v, rfl⟩ : ∃ v, y = .int v := by
                cases y with
                | int v => exact ⟨v, rfl⟩
                | _ => cases e.1
              obtain ⟨b, eb, hb⟩ := mem_natV e.2
              refine .inr ⟨ws ++ [b], ?_, way_app hw (by rw [wlen]; exact hcc) hb⟩
              rw [List.take_add_one, pre, hy, Option.toList_some, List.map_append, eb]
              rfl
      have pos : 1 ≤ xs.length := by rw [hx, List.length_cons]; omega
      rcases key (xs.length - 1) (by omega) with h | ⟨ws, pre, hw⟩
      · exact .inr h
      · rw [show xs.length - 1 + 1 = xs.length by omega, List.take_length] at pre
        rw [pre] at hA
        exact .inl ⟨ws, a, rfl, hA, hw, by rw [pre, List.length_map] at hl; exact hl⟩
end K83

set_option maxRecDepth 100000
set_option maxHeartbeats 8000000
namespace K83
open PySem PySem.Spec PyProof.Rows L2 Kw
/-- a thing of plain type, a tuple at most -/
def ThOk (H : Hp) (x : V) : Prop := (∃ t, Ty0 H x t) ∧ ∀ a, x = .ref a → ∃ xs, H a = some (.tup xs)
theorem ThOk.ki {H H' : Hp} {x : V} (h : ThOk H x) (k : KI H H') : ThOk H' x := by
  obtain ⟨⟨t, ty⟩, hr⟩ := h
  have hr' : ∀ a, x = .ref a → ∃ xs, H' a = some (.tup xs) := fun a e => by
    obtain ⟨xs, hx⟩ := hr a e
    exact ⟨xs, k _ _ hx nh_tup⟩
  refine ⟨?_, hr'⟩
  cases ty with
  | non => exact ⟨_, .non⟩
  | bl x => exact ⟨_, .bl x⟩
  | int i => exact ⟨_, .int i⟩
  | str x => exact ⟨_, .str x⟩
  | lst e =>
    obtain ⟨xs, hx⟩ := hr' _ rfl
    exact ⟨_, .tup hx⟩
  | tup e =>
    obtain ⟨xs, hx⟩ := hr' _ rfl
    exact ⟨_, .tup hx⟩
  | dK e =>
    obtain ⟨xs, hx⟩ := hr' _ rfl
    exact ⟨_, .tup hx⟩
theorem ThOk.updL {H : Hp} {x : V} {D : Addr} {us ws : List V} (h : ThOk H x) (hD : H D = some (.lst us)) : ThOk (upd H D (.lst ws)) x := by
  obtain ⟨⟨t, ty⟩, hr⟩ := h
  have hr' : ∀ a, x = .ref a → ∃ xs, (upd H D (.lst ws)) a = some (.tup xs) := fun a e => by
    obtain ⟨xs, hx⟩ := hr a e
    exact ⟨xs, upB (fun z => by rw [z, hD] at hx; cases hx) hx⟩
  refine ⟨?_, hr'⟩
  cases ty with
  | non => exact ⟨_, .non⟩
  | bl x => exact ⟨_, .bl x⟩
  | int i => exact ⟨_, .int i⟩
  | str x => exact ⟨_, .str x⟩
  | lst e =>
    obtain ⟨xs, hx⟩ := hr' _ rfl
    exact ⟨_, .tup hx⟩
  | tup e =>
    obtain ⟨xs, hx⟩ := hr' _ rfl
    exact ⟨_, .tup hx⟩
  | dK e =>
    obtain ⟨xs, hx⟩ := hr' _ rfl
    exact ⟨_, .tup hx⟩
/-- a thing that may be told as a way: plain, or a row of plain things (not the hand) -/
def Thing (H : Hp) (p : Addr) (x : V) : Prop := (∃ t, (∀ H', Ty0 H' x t) ∧ seqT t = false) ∨ ∃ a xs, x = .ref a ∧ a ≠ p ∧ SeqAt H a xs ∧ xs.length ≤ 1000 ∧ ∀ y ∈ xs, ThOk H y
theorem Thing.oth {H H' : Hp} {p q : Addr} {x : V} (h : Thing H p x) (hh : HandAt H p q) (O : Oth p H H') : Thing H' p x := by
  rcases h with h | ⟨a, xs, e, n, hA, hl, hy⟩
  · exact .inl h
  · exact .inr ⟨a, xs, e, n, hA.imp (O _ _ n) (O _ _ n), hl, fun y hm => (hy y hm).ki (KI.oth O hh)⟩
theorem Thing.cls {H : Hp} {p : Addr} {x : V} {ds : List Ent} (ok : DsOk ds) (h : Thing H p x) : (∃ ws, GoodWay H ds x ws) ∨ ∃ i, WayIs H ds x (some i) := by
  rcases h with ⟨t, ty, hs⟩ | ⟨a, xs, rfl, n, hA, hl, hy⟩
  · exact .inr ⟨0, .odd (ty H) hs⟩
  · exact classify ok hA hl fun y hm => (hy y hm).1
theorem ThOk.nat {H : Hp} (k : Nat) : ThOk H (natV k) := ⟨⟨_, .int _⟩, fun a e => by cases e⟩
section
variable {P : Program} {w : World} {K : PySem.W.Frag} {mg : Str → Option Value} {base : Heap} {f fT fR : Addr} {fd fdT fdR : FuncData}
def spBent : Sp := fun vs H Q _ => ∃ (p q r R t : Addr) (us : List V) (ds : List Ent) (ws : List Nat), vs = [.ref p, .ref r, .ref t] ∧ HandAt H p q ∧ H r = some (.lst us) ∧ RwN R H us ds ∧ DsOk ds ∧ 1 ≤ ds.length ∧ ds.length ≤ 12 ∧ H t = some (.tup (ws.map natV)) ∧ ws.length ≤ 12 ∧
  ∀ x H', Oth p H H' → HandAt H' p q → Thing H' p x → Q x H'
end
end K83

set_option maxRecDepth 100000
set_option maxHeartbeats 8000000
namespace K83
open PySem PySem.Spec PyProof.Rows L2 Kw
/-- a class to come: its bases, fields, and the bases with a shared link -/
def NOk (k : Nat) (d : Ent) : Prop := EOk k (d.1, d.2.1, []) ∧ d.2.2.Nodup ∧ ∀ x ∈ d.2.2, x ∈ d.1
section
variable {P : Program} {w : World} {K : PySem.W.Frag} {mg : Str → Option Value} {base : Heap} {f fT : Addr} {fd fdT : FuncData}
def spNewc : Sp := fun vs H Q _ => ∃ (p q : Addr) (many : Nat), vs = [.ref p, natV many] ∧ 1 ≤ many ∧ many ≤ 12 ∧ HandAt H p q ∧
  ∀ t b m H' (d : Ent), Oth p H H' → HandAt H' p q → H b = none → H m = none → H' t = some (.tup [.ref b, natV d.2.1, .ref m]) → H' b = some (.lst (d.1.map natV)) → H' m = some (.lst (d.2.2.map natV)) → NOk many d → Q (.ref t) H'
theorem sc_newc : FnScope ["_law_hand_here", "_law_many", "_law_bases_here", "_law_step", "_law_base", "_law_style", "_law_found", "_law_bit"] ["_law_hand_here", "_law_many"] (defScope (top 67)) := ⟨rfl, rfl, rfl, by decide +kernel, rfl, by decide +kernel, by decide +kernel⟩
theorem ok_newc (F : FnP K "_law_newclass" 67 f fd) (B : Fr mg) (FT : FnP K "_law_take" 45 fT fdT) (mT : mg "_law_take" = some (.ref fT)) (GT : FnOk P w K mg base CX0 2 fT fdT ["_law_hand_here", "_law_many"] spTake) : FnOk P w K mg base CX0 3 f fd ["_law_hand_here", "_law_many"] spNewc := by
  have bT : L2.Binds K fdT ["_law_hand_here", "_law_many"] [] := FT.bindsN fun _ _ _ _ _ _ us hl => match us, hl with | [_, _], _ => rfl
  refine F.ok sc_newc (fun vs H Q E h => ?_) (fun cdv A outer s H vs Q E hr h => ?_)
  · obtain ⟨p, q, many, rfl, _⟩ := h
    rfl
  · obtain ⟨p, q, many, rfl, n1, n12, hh, k⟩ := h
    refine ⟨_, PSs.nox (pss_cons (ps_set (i := 2) sc_newc.nd rfl (Or.inl rfl) (pe_lst pa_nil))
      (pss_cons (ps_for PassesOwn.never rfl (pi_range1 (by rfl) B.range (pa_cons (pe_ix ix_tup (pe_tup (pa_cons pe_int (pa_cons pe_int (pa_cons pe_int (pa_cons pe_int pa_nil))))) (pe_call GT hr (by rfl) mT FT.kp bT .nil pass0 (pa_cons (pv 0) (pa_cons pe_int pa_nil))) (fun _ _ => rfl)) pa_nil)) (pg_name (i := 3) sc_newc.nd rfl (Or.inl rfl))
        (pss_cons (ps_set (i := 4) sc_newc.nd rfl (Or.inl rfl) (pe_op op_sub (pe_op op_sub (pv 1) pe_int) (pe_call GT hr (by rfl) mT FT.kp bT .nil pass0 (pa_cons (pv 0) (pa_cons (pv 1) pa_nil)))))
        (pss_one (ps_if (pt_cmpR (r := rIn K true) op_notIn_seq (pv 4) (pv 2) (by rfl)) (pss_one (ps_expr (pe_bm PySem.F.plainAttrs_list PySem.F.slot_list_append PySem.F.type_list_append mt_append (pv 2) (pa_cons (pv 4) pa_nil)))) pss_nil))))
      (pss_cons (ps_set (i := 5) sc_newc.nd rfl (Or.inl rfl) (pe_call GT hr (by rfl) mT FT.kp bT .nil pass0 (pa_cons (pv 0) (pa_cons pe_int pa_nil))))
      (pss_cons (ps_set (i := 6) sc_newc.nd rfl (Or.inl rfl) (pe_lst pa_nil))
      (pss_cons (ps_for PassesOwn.never rfl (pi_list (pv 2)) (pg_name (i := 4) sc_newc.nd rfl (Or.inl rfl))
        (pss_cons (ps_set (i := 7) sc_newc.nd rfl (Or.inl rfl) (pe_call GT hr (by rfl) mT FT.kp bT .nil pass0 (pa_cons (pv 0) (pa_cons pe_int pa_nil))))
        (pss_one (ps_if (PW.pt (pw_or (pt_cmpR op_eq (pv 5) pe_int (nomark _)) (pw_or1 (PW.pt (pw_and (pt_cmpR op_gt (pv 5) pe_int (nomark _)) (pw_and1 (pt_cmpR op_eq (pv 7) pe_int (nomark _))))))))
          (pss_one (ps_expr (pe_bm PySem.F.plainAttrs_list PySem.F.slot_list_append PySem.F.type_list_append mt_append (pv 6) (pa_cons (pv 4) pa_nil)))) pss_nil))))
      (pss_one (ps_ret (pe_tup (pa_cons (pv 2) (pa_cons (pe_call GT hr (by rfl) mT FT.kp bT .nil pass0 (pa_cons (pv 0) (pa_cons pe_int pa_nil))) (pa_cons (pv 6) pa_nil))))))))))), ?_⟩
    refine ⟨by decide, fun l hl => ?_⟩
    obtain ⟨lp, lq⟩ := hh.ne hl
    have h1 : HandAt (upd H l (.lst [])) p q := hh.upd lp lq
    refine ⟨by (show 4 ≤ sizeLine); decide, fun t ht => ?_⟩
    obtain ⟨tp, tq⟩ := h1.ne ht
    have tl : t ≠ l := fun z => by
      rw [z, upd_same] at ht
      cases ht
    refine ⟨_, rfl, p, q, 4, rfl, by decide, by decide, h1.upd tp tq, fun r H2 r0 r1 h2 e2 => ?_⟩
    obtain ⟨v, hv, hm⟩ := tab_at (tab := [1, 2, 2, 3]) r0 r1
    have hv3 : 0 ≤ v ∧ v ≤ 3 := (by decide : ∀ v ∈ ([1, 2, 2, 3] : List Int), 0 ≤ v ∧ v ≤ 3) v hm
    have T2 : H2 t = some (.tup (([1, 2, 2, 3] : List Int).map V.int)) := by
      rw [e2 t tp]
      exact upd_same
    have O2 : Oth p H H2 := fun b o nb e => by
      rw [e2 b nb]
      exact upB (ne_of_none (upB (ne_of_none e hl) e) ht) (upB (ne_of_none e hl) e)
    have L2' : H2 l = some (.lst []) := by
      rw [e2 l lp]
      exact upB tl.symm upd_same
    refine ⟨t, _, r, _, rfl, rfl, SqT.of T2, hv, v, rfl, by omega, by omega, for_range (n := v.toNat) (fun i σ H' => ∃ (bs : List Nat) (x3 x4 : Option V), σ = [some (.ref p), some (natV many), some (.ref l), x3, x4, none, none, none] ∧ HandAt H' p q ∧ Oth p H H' ∧ H' l = some (.lst (bs.map natV)) ∧ bs.Nodup ∧ (∀ b ∈ bs, b < many) ∧ bs.length ≤ i)
      ⟨[], none, none, rfl, h2, O2, L2', List.nodup_nil, fun b hb => (by cases hb), Nat.le_refl _⟩ ?_ ?_⟩
    · rintro i σ H3 hi ⟨bs, x3, x4, rfl, h3, O3, L3, nd, hb, hl3⟩
      refine ⟨_, rfl, _, _, rfl, rfl, _, rfl, _, rfl, p, q, (many : Int), rfl, by omega, by omega, h3, fun r H4 r0 r1 h4 e4 => ?_⟩
      obtain ⟨b, eb, bi⟩ : ∃ b : Nat, (many : Int) - 1 - r = (b : Int) ∧ b < many := ⟨((many : Int) - 1 - r).toNat, by omega, by omega⟩
      refine ⟨_, _, rfl, rfl, ?_⟩
      show gName 4 (V.int ((many : Int) - 1 - r)) _ _ _
      rw [eb]
      have L4 := (Oth.take e4) _ _ lp L3
      have O4 := O3.trans (Oth.take e4)
      refine ⟨_, rfl, _, rfl, l, _, rfl, .inl (SqL.of L4), rfl, flat_nats bs, _, rfl, ?_⟩
      have ein : inV (.int (b : Int)) (bs.map natV) = bs.contains b := inV_nat b bs
      show (if (!inV (.int (b : Int)) (bs.map natV)) = true then _ else _)
      rw [ein]
      cases hbc : bs.contains b with
      | true => exact iteF' rfl ⟨bs, _, _, rfl, h4, O4, L4, nd, hb, by omega⟩
      | false =>
        have nb : b ∉ bs := fun z => by
          rw [List.contains_iff_mem.mpr z] at hbc
          cases hbc
        have bl2 : (bs.map natV).length ≤ 3 := by rw [List.length_map]; omega
        refine iteT' rfl ⟨_, rfl, .inl ⟨rfl, _, SqL.of L4⟩, _, rfl, l, _, _, rfl, rfl, L4, (by show _ < 2 ^ 24; omega), bs ++ [b], _, _, rfl, h4.upd lp lq, O4.updN hl, ?_, ?_, ?_, ?_⟩
        · rw [upd_same, List.map_append]
          rfl
        · refine List.nodup_append.mpr ⟨nd, by simp, fun a ha b' hb' z => nb ?_⟩
          rw [List.mem_singleton.mp hb'] at z
          exact z ▸ ha
        · intro a ha
          rcases List.mem_append.mp ha with ha | ha
          · exact hb a ha
          · rw [List.mem_singleton.mp ha]
            exact bi
        · rw [List.length_append, List.length_singleton]
          omega
    · rintro σ H3 ⟨bs, x3, x4, rfl, h3, O3, L3, nd, hb, hl3⟩
      have bl : bs.length ≤ 3 := by omega
      refine ⟨_, rfl, p, q, 4, rfl, by decide, by decide, h3, fun st H4 st0 st1 h4 e4 => ?_⟩
      have L4 := (Oth.take e4) _ _ lp L3
      have O4 := O3.trans (Oth.take e4)
      refine ⟨by decide, fun m hm => ?_⟩
      obtain ⟨mp, mq⟩ := h4.ne hm
      have Hm : H m = none := oth_free O4 mp hm
      have lm : l ≠ m := ne_of_none L4 hm
      have sm := same_new (o := .lst []) hm
      refine ⟨_, rfl, l, rfl, ⟨_, SqL.of (sm _ _ L4)⟩, for_list (K := K) (a := l) (xs := bs.map natV) (fun i σ H' => ∃ (ss : List Nat) (x3 x4 x7 : Option V), σ = [some (.ref p), some (natV many), some (.ref l), x3, x4, some (.int st), some (.ref m), x7] ∧ HandAt H' p q ∧ Oth p H H' ∧ H' l = some (.lst (bs.map natV)) ∧ H' m = some (.lst (ss.map natV)) ∧ ss.Sublist (bs.take i))
        ⟨[], _, _, none, rfl, h4.same sm, O4.trans (Oth.of sm), sm _ _ L4, upd_same, List.nil_sublist _⟩ (fun i σ H' _ ⟨_, _, _, _, _, _, _, h, _⟩ => SqL.of h) ?_ ?_⟩
      · rintro i y σ H5 hi ⟨ss, x3, x4, x7, rfl, h5, O5, L5, M5, sub⟩
        rw [List.getElem?_map] at hi
        obtain ⟨b, hbb, rfl⟩ := Option.map_eq_some_iff.mp hi
        have st1 : bs.take (i + 1) = bs.take i ++ [b] := by rw [List.take_add_one, hbb, Option.toList_some]
        refine ⟨_, rfl, p, q, 2, rfl, by decide, by decide, h5, fun bt H6 b0 b1 h6 e6 => ?_⟩
        have L6 := (Oth.take e6) _ _ lp L5
        have M6 := (Oth.take e6) _ _ mp M5
        have O6 := O5.trans (Oth.take e6)
        have sl := sub.length_le
        have wl : (ss.map natV).length ≤ 3 := by
          rw [List.length_map]
          rw [List.length_take] at sl
          omega
        have no : ∃ (ss' : List Nat) (x3' x4' x7' : Option V), [some (.ref p), some (natV many), some (.ref l), x3, some (natV b), some (.int st), some (.ref m), some (.int bt)] = [some (.ref p), some (natV many), some (.ref l), x3', x4', some (.int st), some (.ref m), x7'] ∧ HandAt H6 p q ∧ Oth p H H6 ∧ H6 l = some (.lst (bs.map natV)) ∧ H6 m = some (.lst (ss'.map natV)) ∧ ss'.Sublist (bs.take (i + 1)) :=
          ⟨ss, _, _, _, rfl, h6, O6, L6, M6, by rw [st1]; exact sub.trans (List.sublist_append_left _ _)⟩
        have yes : ∃ (ss' : List Nat) (x3' x4' x7' : Option V), [some (.ref p), some (natV many), some (.ref l), x3, some (natV b), some (.int st), some (.ref m), some (.int bt)] = [some (.ref p), some (natV many), some (.ref l), x3', x4', some (.int st), some (.ref m), x7'] ∧ HandAt (upd H6 m (.lst (ss.map natV ++ [natV b]))) p q ∧ Oth p H (upd H6 m (.lst (ss.map natV ++ [natV b]))) ∧ (upd H6 m (.lst (ss.map natV ++ [natV b]))) l = some (.lst (bs.map natV)) ∧ (upd H6 m (.lst (ss.map natV ++ [natV b]))) m = some (.lst (ss'.map natV)) ∧ ss'.Sublist (bs.take (i + 1)) :=
          ⟨ss ++ [b], _, _, _, rfl, h6.upd mp mq, O6.updN Hm, upB lm L6, by rw [upd_same, List.map_append]; rfl, by rw [st1]; exact sub.append (List.Sublist.refl _)⟩
        refine ⟨_, rfl, rfl, _, rfl, ite2 (fun _ => iteT' rfl ⟨_, rfl, .inl ⟨rfl, _, SqL.of M6⟩, _, rfl, m, _, _, rfl, rfl, M6, (by show _ < 2 ^ 24; omega), yes⟩) (fun _ => ?_)⟩
        refine ⟨_, rfl, _, _, rfl, rfl, _, rfl, ite2 (fun _ => ?_) (fun _ => iteF' rfl no)⟩
        refine ⟨_, rfl, rfl, _, rfl, ite2 (fun _ => ⟨_, rfl, .inl ⟨rfl, _, SqL.of M6⟩, _, rfl, m, _, _, rfl, rfl, M6, (by show _ < 2 ^ 24; omega), yes⟩) (fun _ => no)⟩
      · rintro σ H5 ⟨ss, x3, x4, x7, rfl, h5, O5, L5, M5, sub⟩
        rw [List.length_map, List.take_length] at sub
        refine ⟨_, rfl, _, rfl, p, q, 3, rfl, by decide, by decide, h5, fun n H6 f0 f1 h6 e6 => ⟨_, rfl, (by show 3 ≤ sizeLine; decide), fun T hT => ?_⟩⟩
        obtain ⟨n, rfl⟩ : ∃ n' : Nat, n = (n' : Int) := ⟨n.toNat, by omega⟩
        have sT := same_new (o := .tup [.ref l, natV n, .ref m]) hT
        have sl := sub.length_le
        exact k T l m _ (bs, n, ss) ((O5.trans (Oth.take e6)).trans (Oth.of sT)) (h6.same sT) hl Hm upd_same (sT _ _ ((Oth.take e6) _ _ lp L5)) (sT _ _ ((Oth.take e6) _ _ mp M5))
          ⟨⟨nd, hb, bl, by show n ≤ 3; omega, .nil, fun _ z => (by cases z), Nat.zero_le _⟩, sub.nodup nd, fun x hx => sub.subset hx⟩
end
end K83

set_option maxRecDepth 100000
set_option maxHeartbeats 8000000
namespace K83
open PySem PySem.Spec PyProof.Rows L2 Kw
def NsOk (many : Nat) (news : List Ent) : Prop := ∀ i d, news[i]? = some d → NOk (many + i) d
theorem NsOk.app {many : Nat} {news : List Ent} {d : Ent} (h : NsOk many news) (z : NOk (many + news.length) d) : NsOk many (news ++ [d]) := fun i r e => by
  by_cases q : i < news.length
  · rw [List.getElem?_append_left q] at e
    exact h i r e
  · rw [List.getElem?_append_right (by omega)] at e
    by_cases q2 : i - news.length = 0
    · rw [q2] at e
      obtain rfl : d = r := Option.some.inj e
      have : i = news.length := by omega
      rw [this]
      exact z
    · rw [List.getElem?_eq_none (by rw [List.length_singleton]; omega)] at e
      cases e
section
variable {P : Program} {w : World} {K : PySem.W.Frag} {mg : Str → Option Value} {base : Heap} {f fN : Addr} {fd fdN : FuncData}
def spHeirsC : Sp := fun vs H Q _ => ∃ (p q : Addr) (many more : Nat), vs = [.ref p, natV many, natV more] ∧ 1 ≤ many ∧ many + more ≤ 12 ∧ HandAt H p q ∧
  ∀ D us H' (news : List Ent), Oth p H H' → HandAt H' p q → H D = none → H' D = some (.lst us) → RwN D H' us news → news.length = more → NsOk many news → Q (.ref D) H'
end
end K83

set_option maxRecDepth 100000
set_option maxHeartbeats 8000000
namespace K83
open PySem PySem.Spec PyProof.Rows L2 Kw
def entN (d : Ent) : Ent := (d.1, d.2.1, [])
/-- the new links of the first i classes to come -/
def newL (many : Nat) (news : List Ent) (i : Nat) : List (Nat × Nat) := (List.range i).flatMap fun j => (news.getD j ([], 0, [])).2.2.map fun b => (many + j, b)
theorem newL_succ {many : Nat} {news : List Ent} {i : Nat} {d : Ent} (h : news[i]? = some d) : newL many news (i + 1) = newL many news i ++ d.2.2.map fun b => (many + i, b) := by
  unfold newL
  rw [List.range_succ, List.flatMap_append, List.flatMap_cons, List.flatMap_nil, List.append_nil, List.getD_eq_getElem?_getD, h]
  rfl
theorem NsOk.few {many : Nat} {news : List Ent} (h : NsOk many news) : ∀ i, i ≤ news.length → (newL many news i).length ≤ 3 * i
  | 0, _ => Nat.le_refl _
  | i + 1, hi => by
    obtain ⟨d, hd⟩ : ∃ d, news[i]? = some d := ⟨_, List.getElem?_eq_getElem (by omega)⟩
    rw [newL_succ hd, List.length_append, List.length_map]
    have h1 := NsOk.few h i (by omega)
    obtain ⟨⟨_, _, z3, _⟩, z1, z2⟩ := h i d hd
    have h2 : d.2.2.length ≤ d.1.length := nodup_len z1 z2
    have z3' : d.1.length ≤ 3 := z3
    omega
theorem RwN.toNew {R W : Addr} {H : Hp} (hW : H W = none) : ∀ {us : List V} {ds : List Ent}, RwN R H us ds → RwN W H us ds
  | [], [], _ => .nil
  | _ :: _, _ :: _, .cons ⟨t, b, m, e, _, h1, _, h2, _, h3⟩ r => .cons ⟨t, b, m, e, ne_of_none h1 hW, h1, ne_of_none h2 hW, h2, ne_of_none h3 hW, h3⟩ (RwN.toNew hW r)
section
variable {P : Program} {w : World} {K : PySem.W.Frag} {mg : Str → Option Value} {base : Heap} {f : Addr} {fd : FuncData}
def spWide : Sp := fun vs H Q _ => ∃ (r S N R : Addr) (us ss nus : List V) (ds news : List Ent) (ls : List (Nat × Nat)), vs = [.ref r, .ref S, .ref N] ∧ H r = some (.lst us) ∧ RwN R H us ds ∧ H S = some (.lst ss) ∧ PairsAt H ss ls ∧ H N = some (.lst nus) ∧ RwN N H nus news ∧ ds.length + news.length ≤ 12 ∧ NsOk ds.length news ∧ ls.length ≤ 60 ∧
  ∀ t W L ws ks H', Same H H' → H' t = some (.tup [.ref W, .ref L]) → H W = none → H' W = some (.lst ws) → RwN W H' ws (ds ++ news.map entN) → H' L = some (.lst ks) → PairsAt H' ks (ls ++ newL ds.length news news.length) → Q (.ref t) H'
theorem sc_wide : FnScope ["_law_rows", "_law_shared", "_law_news", "_law_wide_here", "_law_links", "_law_new", "_law_base"] ["_law_rows", "_law_shared", "_law_news"] (defScope (top 68)) := ⟨rfl, rfl, rfl, by decide +kernel, rfl, by decide +kernel, by decide +kernel⟩
theorem ok_wide (F : FnP K "_law_wide" 68 f fd) (B : Fr mg) : FnOk P w K mg base CX0 1 f fd ["_law_rows", "_law_shared", "_law_news"] spWide := by
  refine F.ok sc_wide (fun vs H Q E h => ?_) (fun cdv A outer s H vs Q E hr h => ?_)
  · obtain ⟨r, S, N, R, us, ss, nus, ds, news, ls, rfl, _⟩ := h
    rfl
  · obtain ⟨r, S, N, R, us, ss, nus, ds, news, ls, rfl, hr0, hR, hS, hP, hN, hRN, h12, nok, l60, k⟩ := h
    refine ⟨_, PSs.nox (pss_cons (ps_set (i := 3) sc_wide.nd rfl (Or.inr rfl) (pe_callTy (T := "list") (r := rListOf K) (call_lst (X := _)) (by rfl) B.list (by decide +kernel) (pa_cons (pv 0) pa_nil)))
      (pss_cons (ps_set (i := 4) sc_wide.nd rfl (Or.inl rfl) (pe_callTy (T := "list") (r := rListOf K) (call_lst (X := _)) (by rfl) B.list (by decide +kernel) (pa_cons (pv 1) pa_nil)))
      (pss_cons (ps_for PassesOwn.never rfl (pi_list (pv 2)) (pg_name (i := 5) sc_wide.nd rfl (Or.inl rfl))
        (pss_cons (ps_set (i := 4) sc_wide.nd rfl (Or.inl rfl) (pe_op op_cat (pv 4)
          (pe_lc (own := [("_law_base", 6)]) (g := gName 6) (tt := tYes) (te := tTup (tCons (tCB (rLenS K) (tCons (tVar 3) tNil)) (tCons (tVar 6) tNil))) rfl sc_wide.nd (pi_list (pe_ix (r := rIxT K) ix_tup (pv 5) pe_int (fun _ _ => rfl))) (blkOk_by (N := ["_law_rows", "_law_shared", "_law_news", "_law_wide_here", "_law_links", "_law_new", "_law_base"]) (sc := defScope (top 68)) (by decide +kernel))
              (fun _ _ _ _ _ => pg_name (i := 6) sc_wide.nd rfl (Or.inl rfl)) (fun _ _ _ _ _ => pts_nil) (fun _ _ _ _ _ => pe_tup (pa_cons (pe_callB (id := "len") (r := rLenS K) (call_lenS (X := _)) (by rfl) B.len PySem.boot_len (pa_cons (pv 3) pa_nil)) (pa_cons (pv 6) pa_nil))))))
        (pss_one (ps_expr (pe_bm PySem.F.plainAttrs_list PySem.F.slot_list_append PySem.F.type_list_append mt_append (pv 3) (pa_cons (pe_tup (pa_cons (pe_ix (r := rIxT K) ix_tup (pv 5) pe_int (fun _ _ => rfl)) (pa_cons (pe_ix (r := rIxT K) ix_tup (pv 5) pe_int (fun _ _ => rfl)) (pa_cons (pe_lst pa_nil) pa_nil)))) pa_nil))))))
      (pss_one (ps_ret (pe_tup (pa_cons (pv 3) (pa_cons (pv 4) pa_nil)))))))), ?_⟩
    refine ⟨_, rfl, r, us, rfl, .inl (SqL.of hr0), fun W hW => ?_⟩
    have sW := same_new (o := .lst us) hW
    refine ⟨_, rfl, S, ss, rfl, .inl (SqL.of (sW _ _ hS)), fun L hL => ?_⟩
    have sL := same_new (o := .lst ss) hL
    have LW : L ≠ W := fun z => by rw [z, upd_same] at hL; cases hL
    have HL : H L = none := by
      cases e : H L with
      | none => rfl
      | some o => rw [sW _ _ e] at hL; cases hL
    have s1 := sW.trans sL
    have W1 := sL _ _ (upd_same (H := H) (a := W) (o := .lst us))
    have L1 : upd (upd H W (.lst us)) L (.lst ss) L = some (.lst ss) := upd_same
    have R1 : RwN W (upd (upd H W (.lst us)) L (.lst ss)) us ds := (hR.toNew hW).keep (KeepX.of s1)
    have P1 := hP.same s1
    generalize upd (upd H W (.lst us)) L (.lst ss) = H1 at s1 W1 L1 R1 P1 ⊢
    have lus : us.length = ds.length := hR.len
    have lnus : nus.length = news.length := hRN.len
    refine ⟨_, rfl, N, rfl, ⟨_, SqL.of (s1 _ _ hN)⟩, for_list (K := K) (a := N) (xs := nus) (fun i σ H' => Same H H' ∧ ∃ (x5 : Option V) (L : Addr) (ws ks : List V), σ = [some (.ref r), some (.ref S), some (.ref N), some (.ref W), some (.ref L), x5, none] ∧ H L = none ∧ L ≠ W ∧ H' W = some (.lst ws) ∧ RwN W H' ws (ds ++ (news.take i).map entN) ∧ H' L = some (.lst ks) ∧ PairsAt H' ks (ls ++ newL ds.length news i))
      ⟨s1, none, L, us, ss, rfl, HL, LW, W1, by rw [List.take_zero, List.map_nil, List.append_nil]; exact R1, L1, by rw [show newL ds.length news 0 = [] from rfl, List.append_nil]; exact P1⟩ (fun i σ H' _ h => SqL.of (h.1 _ _ hN)) ?_ ?_⟩
    · rintro i y σ H2 hi ⟨s2, x5, L, ws, ks, rfl, HL, LW, W2, R2, L2, P2⟩
      have il := (List.getElem?_eq_some_iff.mp hi).1
      obtain ⟨d, hd⟩ : ∃ d, news[i]? = some d := ⟨_, List.getElem?_eq_getElem (by omega)⟩
      obtain ⟨t, b, m, et, ht, hb, hm⟩ := hRN.get hd
      rw [hi] at et
      obtain rfl := Option.some.inj et
      have wl : ws.length = ds.length + i := by
        rw [R2.len, List.length_append, List.length_map, List.length_take]
        omega
      have d3 : d.2.2.length ≤ 3 := Nat.le_trans (nodup_len (nok i d hd).2.1 (nok i d hd).2.2) (nok i d hd).1.2.2.1
      refine ⟨_, rfl, _, rfl, t, _, ((2 : Nat) : Int), _, rfl, rfl, SqT.of (s2 _ _ ht), atI_nat rfl, m, rfl, ⟨_, SqL.of (s2 _ _ hm)⟩, fun D2 hD2 => lc_list (K := K) (a := m) (xs := d.2.2.map natV) (fun j H' => Same H2 H' ∧ ∃ vs, H' D2 = some (.lst vs) ∧ PairsAt H' vs ((d.2.2.take j).map fun b => (ds.length + i, b))) ⟨same_new hD2, [], upd_same, .nil⟩ (fun j H' _ z => SqL.of ((s2.trans z.1) _ _ hm)) ?_ ?_⟩
      · rintro j v H3 hj ⟨s3, vs, D3, V3⟩
        rw [List.getElem?_map] at hj
        obtain ⟨bb, hbb, rfl⟩ := Option.map_eq_some_iff.mp hj
        refine ⟨rfl, _, rfl, W, ws, rfl, .inl (SqL.of (s3 _ _ W2)), _, rfl, (by show 2 ≤ sizeLine; decide), fun T hT => ?_⟩
        rw [wl] at *
        have sT := same_new (o := .tup [natV (ds.length + i), natV bb]) hT
        have D4 := sT _ _ D3
        have DT : T ≠ D2 := Ne.symm (ne_of_none D3 hT)
        have vl := V3.len
        rw [List.length_map, List.length_take] at vl
        refine ⟨vs, D4, (by show _ < 2 ^ 24; omega), same_upd (s3.trans sT) hD2, vs ++ [.ref T], upd_same, ?_⟩
        rw [List.take_add_one, hbb, Option.toList_some, List.map_append]
        exact (PairsAt.updL' D4 (V3.same sT)).app (.cons ⟨T, rfl, upB DT upd_same⟩ .nil)
      · rintro H3 ⟨s3, vs, D3, V3⟩
        rw [List.length_map, List.take_length] at V3
        have kl := P2.len
        have vl := V3.len
        rw [List.length_append] at kl
        rw [List.length_map] at vl
        have few := nok.few i (by omega)
        have big : sizeLine = 2 ^ 24 := rfl
        refine ⟨L, D2, ks, vs, rfl, rfl, s3 _ _ L2, D3, by omega, fun p5 hp5 => ?_⟩
        have s5 := same_new (o := .lst (ks ++ vs)) hp5
        have s25 := s3.trans s5
        have H2p : H p5 = none := by
          cases e : H p5 with
          | none => rfl
          | some o => rw [(s2.trans s3) _ _ e] at hp5; cases hp5
        have W5 := s25 _ _ W2
        have pW : p5 ≠ W := Ne.symm (ne_of_none (s3 _ _ W2) hp5)
        have P5 : PairsAt (upd H3 p5 (.lst (ks ++ vs))) (ks ++ vs) (ls ++ newL ds.length news (i + 1)) := by
          rw [newL_succ hd, ← List.append_assoc]
          exact (P2.same s25).app (V3.same s5)
        have p55 : upd H3 p5 (.lst (ks ++ vs)) p5 = some (.lst (ks ++ vs)) := upd_same
        have R5 : RwN W (upd H3 p5 (.lst (ks ++ vs))) ws (ds ++ (news.take i).map entN) := R2.keep (KeepX.of s25)
        have z5 := s2.trans s25
        generalize upd H3 p5 (.lst (ks ++ vs)) = H5 at W5 P5 p55 R5 z5 ⊢
        refine ⟨_, rfl, .inl ⟨rfl, _, SqL.of W5⟩, _, rfl, t, _, ((0 : Nat) : Int), _, rfl, rfl, SqT.of (z5 _ _ ht), atI_nat rfl, _, rfl, t, _, ((1 : Nat) : Int), _, rfl, rfl, SqT.of (z5 _ _ ht), atI_nat rfl, by decide, fun m2 hm2 => ⟨(by show 3 ≤ sizeLine; decide), fun T hT => ?_⟩⟩
        have s6 := same_new (o := .lst []) hm2
        have s7 := same_new (o := .tup [.ref b, natV d.2.1, .ref m2]) hT
        have s67 := s6.trans s7
        have z7 := z5.trans s67
        have W7 := s67 _ _ W5
        have bW : b ≠ W := ne_of_none hb hW
        have mW : m2 ≠ W := Ne.symm (ne_of_none W5 hm2)
        have TW : T ≠ W := Ne.symm (ne_of_none (s6 _ _ W5) hT)
        have one : RwN W (upd (upd H5 m2 (.lst [])) T (.tup [.ref b, natV d.2.1, .ref m2])) [.ref T] [entN d] := .cons ⟨T, b, m2, rfl, TW, upd_same, bW, z7 _ _ hb, mW, s7 _ _ upd_same⟩ .nil
        have st : (news.take (i + 1)).map entN = (news.take i).map entN ++ [entN d] := by rw [List.take_add_one, hd, Option.toList_some, List.map_append]; rfl
        refine ⟨W, ws, _, rfl, rfl, W7, (by show _ < 2 ^ 24; omega), same_upd z7 hW, _, p5, ws ++ [.ref T], ks ++ vs, rfl, H2p, pW, upd_same, ?_, upB pW (s67 _ _ p55), PairsAt.updL' W7 (P5.same s67)⟩
        rw [st, ← List.append_assoc]
        exact ((R5.keep (KeepX.of s67)).app one).keep KeepX.upd
    · rintro σ H2 ⟨s2, x5, L, ws, ks, rfl, HL, LW, W2, R2, L2, P2⟩
      rw [lnus, List.take_length] at R2
      rw [lnus] at P2
      refine ⟨_, rfl, _, rfl, (by show 2 ≤ sizeLine; decide), fun T hT => ?_⟩
      have sT := same_new (o := .tup [.ref W, .ref L]) hT
      exact k T W L ws ks _ (s2.trans sT) upd_same hW (sT _ _ W2) (R2.keep (KeepX.of sT)) (sT _ _ L2) (P2.same sT)
end
end K83

set_option maxRecDepth 100000
set_option maxHeartbeats 8000000
namespace K83
open PySem PySem.Spec PyProof.Rows L2 Kw
theorem cnt_same {ds : List Ent} (ok : DsOk ds) {ls ms : List (Nat × Nat)} (lok : LsOk ds ls) (mok : LsOk ds ms) (h : ∀ q, q ∈ ls ↔ q ∈ ms) {c : Nat} (hc : c < ds.length) (h12 : ds.length ≤ 12) (t : Nat) : cntN ds ls c t = cntN ds ms c t :=
  Nat.le_antisymm (cnt_more ok mok lok (fun q hq => (h q).mpr hq) hc h12 t).1 (cnt_more ok lok mok (fun q hq => (h q).mp hq) hc h12 t).1
section
variable {P : Program} {w : World} {K : PySem.W.Frag} {mg : Str → Option Value} {base : Heap} {f fWi fDe fA fCo fLc C Cl Cs Cg : Addr} {fd fdWi fdDe fdA fdCo fdLc : FuncData}
def spSevR (C Cl Cs : Addr) : Sp := fun vs H Q _ => ∃ (r q wq a b rw S : Addr) (us ss : List V) (ds : List Ent) (qs ls' : List (Nat × Nat)) (x0 tg : Nat), vs = [.ref r, .ref rw, .ref S, natV x0, natV tg] ∧ SevAt H r Cs q a b ∧ LinksAt H q Cl wq C (ds ++ [([x0, tg], 0, [])]) ls' ∧ ls'.Perm (qs ++ [(ds.length, tg)]) ∧ SortP ls' ∧ H a = some (.tup ([ds.length, x0, tg].map natV)) ∧ H b = some (.tup ([ds.length, tg].map natV)) ∧
  H rw = some (.lst us) ∧ RwN rw H us ds ∧ DsOk ds ∧ ds.length < 12 ∧ H S = some (.lst ss) ∧ PairsAt H ss qs ∧ LsOk ds qs ∧ qs.length ≤ 60 ∧ linkB ds x0 tg = true ∧ (x0, tg) ∉ qs ∧ ∀ H', Same H H' → Q (.bl true) H'
theorem sc_sevR : FnScope ["_law_told", "_law_rows", "_law_shared", "_law_x", "_law_target", "_law_many", "_law_grown"] ["_law_told", "_law_rows", "_law_shared", "_law_x", "_law_target"] (defScope (top 70)) := ⟨rfl, rfl, rfl, by decide +kernel, rfl, by decide +kernel, by decide +kernel⟩
theorem ok_sevR (F : FnP K "_law_several_right" 70 f fd) (B : Fr mg) (TC : ClsWorld K mg C) (TL : ClsF K Cl ["world", "shared"]) (TS : ClsF K Cs ["links", "first", "second"]) (TI : IsiC K Cs) (mS : mg "Several" = some (.ref Cs))
    (FWi : FnP K "_law_wide" 68 fWi fdWi) (mWi : mg "_law_wide" = some (.ref fWi)) (GWi : FnOk P w K mg base CX0 1 fWi fdWi ["_law_rows", "_law_shared", "_law_news"] spWide)
    (FDe : FnP K "_law_deep" 52 fDe fdDe) (mDe : mg "_law_deep" = some (.ref fDe)) (GDe : FnOk P w K mg base CX0 5 fDe fdDe ["_law_thing"] (spLDeep 3))
    (FA : FnP K "ways_agree" 39 fA fdA) (mA : mg "ways_agree" = some (.ref fA)) (GA : FnOk P w K mg base (L2.CX P w) 6 fA fdA ["links", "first", "second"] (spAgree C Cl Cg))
    (FCo : FnP K "copies_of" 27 fCo fdCo) (mCo : mg "copies_of" = some (.ref fCo)) (GCo : FnOk P w K mg base CX0 19 fCo fdCo ["links", "c", "target"] (spCopies C Cl))
    (FLc : FnP K "_law_copies" 64 fLc fdLc) (mLc : mg "_law_copies" = some (.ref fLc)) (GLc : FnOk P w K mg base CX0 14 fLc fdLc ["_law_rows", "_law_shared", "_law_c", "_law_target"] spLCopies) : FnOk P w K mg base CX0 20 f fd ["_law_told", "_law_rows", "_law_shared", "_law_x", "_law_target"] (spSevR C Cl Cs) := by
  have bWi : L2.Binds K fdWi ["_law_rows", "_law_shared", "_law_news"] [] := FWi.bindsN fun _ _ _ _ _ _ us hl => match us, hl with | [_, _, _], _ => rfl
  have bDe : L2.Binds K fdDe ["_law_thing"] [] := FDe.bindsN fun _ _ _ _ _ _ us hl => match us, hl with | [_], _ => rfl
  have bA : L2.Binds K fdA ["links", "first", "second"] [] := FA.bindsN fun _ _ _ _ _ _ us hl => match us, hl with | [_, _, _], _ => rfl
  have bCo : L2.Binds K fdCo ["links", "c", "target"] [] := FCo.bindsN fun _ _ _ _ _ _ us hl => match us, hl with | [_, _, _], _ => rfl
  have bLc : L2.Binds K fdLc ["_law_rows", "_law_shared", "_law_c", "_law_target"] [] := FLc.bindsN fun _ _ _ _ _ _ us hl => match us, hl with | [_, _, _, _], _ => rfl
  refine F.ok sc_sevR (fun vs H Q E h => ?_) (fun cdv A outer s H vs Q E hr h => ?_)
  · obtain ⟨r, q, wq, a, b, rw, S, us, ss, ds, qs, ls', x0, tg, rfl, _⟩ := h
    rfl
  · obtain ⟨r, q, wq, a, b, rw, S, us, ss, ds, qs, ls', x0, tg, rfl, hV, hL, pm, so, ha, hb, hrw, hR, ok, n12, hS, hP, qok, qs60, lk, nqs, k⟩ := h
    refine ⟨_, PSs.nox (pss_cons (ps_if (pt_not (pt_val (pe_callB call_isi (by rfl) B.isinstance PyProof.Rows.boot_isinstance (pa_cons (pv 0) (pa_cons (pe_glob (v := .ref Cs) (by rfl) mS rfl) pa_nil))))) (pss_one ps_never) pss_nil)
      (pss_cons (ps_set (i := 5) sc_sevR.nd rfl (Or.inl rfl) (pe_callB call_len_seq (by rfl) B.len PySem.boot_len (pa_cons (pv 1) pa_nil)))
      (pss_cons (ps_set (i := 6) sc_sevR.nd rfl (Or.inl rfl) (pe_call GWi (hr.mono (by decide)) (by rfl) mWi FWi.kp bWi .nil pass0 (pa_cons (pv 1) (pa_cons (pv 2) (pa_cons (pe_lst (pa_cons (pe_tup (pa_cons (pe_lst (pa_cons (pv 3) (pa_cons (pv 4) pa_nil))) (pa_cons pe_int (pa_cons (pe_lst (pa_cons (pv 4) pa_nil)) pa_nil)))) pa_nil)) pa_nil)))))
      (pss_cons (ps_if (PW.pt (pw_or (pt_cmpR (r := rNeD K) (op_neD hr.units) (pe_fld (pe_fld (pe_fld (pv 0) rfl) rfl) rfl) (pe_call GDe (hr.mono (by decide)) (by rfl) mDe FDe.kp bDe .nil pass0 (pa_cons (pe_ix (r := rIxT K) ix_tup (pv 6) pe_int (fun _ _ => rfl)) pa_nil)) (nomark _))
          (pw_or1 (pt_cmpR (r := rNeD K) (op_neD hr.units) (pe_fld (pe_fld (pv 0) rfl) rfl) (pe_callTy (T := "tuple") (r := rTupOf K) (call_tup (X := _)) (by rfl) B.tuple (by decide +kernel) (pa_cons (pe_callB (r := rSortPs K) (call_sortPs (X := _)) (by rfl) B.sorted (by decide +kernel) (pa_cons (pe_ix (r := rIxT K) ix_tup (pv 6) pe_int (fun _ _ => rfl)) pa_nil)) pa_nil)) (nomark _))))) (pss_one ps_never) pss_nil)
      (pss_cons (ps_if (PW.pt (pw_or (pt_cmpR (r := rNeD K) (op_neD hr.units) (pe_fld (pv 0) rfl) (pe_tup (pa_cons (pv 5) (pa_cons (pv 3) (pa_cons (pv 4) pa_nil)))) (nomark _))
          (pw_or1 (pt_cmpR (r := rNeD K) (op_neD hr.units) (pe_fld (pv 0) rfl) (pe_tup (pa_cons (pv 5) (pa_cons (pv 4) pa_nil))) (nomark _))))) (pss_one ps_never) pss_nil)
      (pss_cons (ps_if (pt_val (pe_call GA (hr.mono (by decide)) (by rfl) mA FA.kp bA .nil (passOut (E := fun _ _ _ => False)) (pa_cons (pe_fld (pv 0) rfl) (pa_cons (pe_fld (pv 0) rfl) (pa_cons (pe_fld (pv 0) rfl) pa_nil))))) (pss_one ps_never) pss_nil)
      (pss_one (ps_ret (L2.pe_or (pe_cmpR op_gt (pv 5) pe_int (nomark _)) (pe_one (pe_cmpR op_eq (pe_call GCo hr (by rfl) mCo FCo.kp bCo .nil pass0 (pa_cons (pe_fld (pv 0) rfl) (pa_cons (pv 5) (pa_cons (pv 4) pa_nil))))
        (pe_call GLc (hr.mono (by decide)) (by rfl) mLc FLc.kp bLc .nil pass0 (pa_cons (pe_ix (r := rIxT K) ix_tup (pv 6) pe_int (fun _ _ => rfl)) (pa_cons (pe_ix (r := rIxT K) ix_tup (pv 6) pe_int (fun _ _ => rfl)) (pa_cons (pv 5) (pa_cons (pv 4) pa_nil))))) (nomark _)))))))))))), ?_⟩
    obtain ⟨dx, hz⟩ := id hV
    have lus : us.length = ds.length := hR.len
    have x0l := linkB_lt lk
    have tgl : tg < x0 := by
      have h := lk
      unfold linkB at h
      rw [Bool.and_eq_true] at h
      exact (basesOf_lt ok (List.contains_iff_mem.mp h.2)).1
    refine ⟨_, rfl, .ref r, .ref Cs, .ref Cs, .ref Cs, true, rfl, .own Cs, .base (.ins hz TS.cl TI.cla TI.get TI.takes TI.obj), kit_self, _, rfl, iteF' rfl ?_⟩
    refine ⟨_, rfl, rw, us, rfl, .inl (SqL.of hrw), ?_⟩
    rw [lus]
    refine ⟨_, rfl, _, rfl, _, rfl, _, rfl, (by show 2 ≤ sizeLine; decide), fun L1 hL1 => ?_⟩
    have sL1 := same_new (o := .lst [natV x0, natV tg]) hL1
    refine ⟨_, rfl, (by show 1 ≤ sizeLine; decide), fun L2 hL2 => ?_⟩
    have sL2 := same_new (o := .lst [natV tg]) hL2
    refine ⟨(by show 3 ≤ sizeLine; decide), fun T hT => ⟨(by show 1 ≤ sizeLine; decide), fun N hN => ?_⟩⟩
    have sT := same_new (o := .tup [.ref L1, .int 0, .ref L2]) hT
    have sN := same_new (o := .lst [.ref T]) hN
    have L1a : upd H L1 (.lst [natV x0, natV tg]) L1 = some (.lst ([x0, tg].map natV)) := upd_same
    have L2a : upd (upd H L1 (.lst [natV x0, natV tg])) L2 (.lst [natV tg]) L2 = some (.lst ([tg].map natV)) := upd_same
    have L1b := sL2 _ _ L1a
    have Ta : upd (upd (upd H L1 (.lst [natV x0, natV tg])) L2 (.lst [natV tg])) T (.tup [.ref L1, .int 0, .ref L2]) T = some (.tup [.ref L1, natV 0, .ref L2]) := upd_same
    have L1c := sT _ _ L1b
    have L2c := sT _ _ L2a
    have TN := ne_of_none Ta hN
    have L1N := ne_of_none L1c hN
    have L2N := ne_of_none L2c hN
    have Td := sN _ _ Ta
    have L1d := sN _ _ L1c
    have L2d := sN _ _ L2c
    have Nd : upd (upd (upd (upd H L1 (.lst [natV x0, natV tg])) L2 (.lst [natV tg])) T (.tup [.ref L1, .int 0, .ref L2])) N (.lst [.ref T]) N = some (.lst [.ref T]) := upd_same
    have s4 := ((sL1.trans sL2).trans sT).trans sN
    generalize upd (upd (upd (upd H L1 (.lst [natV x0, natV tg])) L2 (.lst [natV tg])) T (.tup [.ref L1, .int 0, .ref L2])) N (.lst [.ref T]) = H4 at s4 Td L1d L2d Nd ⊢
    clear sL1 sL2 sT sN hL1 hL2 hT hN L1a L2a L1b Ta L1c L2c
    have eok : EOk ds.length ([x0, tg], 0, []) := ⟨by simp; omega, fun b hb => by rcases List.mem_cons.mp hb with rfl | hb; exact x0l; rw [List.mem_singleton.mp hb]; omega, (by show 2 ≤ 3; decide), (by show 0 ≤ 3; decide), .nil, (fun m hm => by cases hm), (by show 0 ≤ 3; decide)⟩
    have nsok : NsOk ds.length [(([x0, tg], 0, [tg]) : Ent)] := fun i d e => by
      match i with
      | 0 =>
        obtain rfl := Option.some.inj e
        exact ⟨eok, by simp, fun x hx => by rw [List.mem_singleton.mp hx]; simp⟩
      | i + 1 => simp at e
    have ok2 : DsOk (ds ++ [([x0, tg], 0, [])]) := ok.app eok
    have len2 : (ds ++ [(([x0, tg], 0, []) : Ent)]).length = ds.length + 1 := by rw [List.length_append]; rfl
    have lok2 : LsOk (ds ++ [([x0, tg], 0, [])]) (qs ++ [(ds.length, tg)]) := qok.more (d := ([x0, tg], 0, [])) (ss := [tg]) (by simp) (fun x hx => by rw [List.mem_singleton.mp hx]; simp)
    have lok' : LsOk (ds ++ [([x0, tg], 0, [])]) ls' := lok2.perm pm
    refine ⟨rw, S, N, rw, us, ss, [.ref T], ds, [([x0, tg], 0, [tg])], qs, rfl, s4 _ _ hrw, hR.keep (KeepX.of s4), s4 _ _ hS, hP.same s4, Nd, .cons ⟨T, L1, L2, rfl, TN, Td, L1N, L1d, L2N, L2d⟩ .nil, (by show ds.length + 1 ≤ 12; omega), nsok, by omega, fun t W L ws ks H5 s5 ht hWn hW hRW hLk hPk => ?_⟩
    have eN : ds ++ [(([x0, tg], 0, [tg]) : Ent)].map entN = ds ++ [([x0, tg], 0, [])] := rfl
    have eL : qs ++ newL ds.length [([x0, tg], 0, [tg])] [(([x0, tg], 0, [tg]) : Ent)].length = qs ++ [(ds.length, tg)] := by simp [newL]
    rw [eN] at hRW
    rw [eL] at hPk
    have s05 := s4.trans s5
    obtain ⟨dl, st, lus', l1, hw, l3, l4⟩ := id (hL.mono s05)
    obtain ⟨dwx, ac, _, _, _, _, _, cs, _, _, _, _, w1, w2, w3, _⟩ := hw
    have hz5 := s05 _ _ hz
    have L5 := hL.mono s05
    have a5 := s05 _ _ ha
    have b5 := s05 _ _ hb
    clear s4 Td L1d L2d Nd TN L1N L2N nsok eN eL
    refine ⟨_, rfl, r, Cs, dx, _, _, rfl, hz5, TS.cl, TS.no _ (List.mem_of_getElem? (i := 0) rfl), rfl, q, Cl, dl, _, _, rfl, l1, TL.cl, TL.no _ (List.mem_of_getElem? (i := 0) rfl), rfl, wq, C, dwx, _, _, rfl, w1, TC.cl, TC.no _ (List.mem_of_getElem? (i := 0) rfl), rfl, ?_⟩
    refine ⟨_, rfl, t, _, ((0 : Nat) : Int), _, rfl, rfl, SqT.of ht, atI_nat rfl, _, rowsT (ds ++ [([x0, tg], 0, [])]), rfl, hRW.inRows hW ok2 (by omega), fun y H6 s6 ho => ?_⟩
    refine ⟨dEnts (ds ++ [([x0, tg], 0, [])]), dEnts (ds ++ [([x0, tg], 0, [])]), .tup (SqT.of (s6 _ _ w2)) (dp_ents (w3.mono (TupK.of s6))), out_dp ho ok2, (lay_ents _).shaped (by decide), (lay_ents _).shaped (by decide), ?_⟩
    rw [(lay_ents (ds ++ [([x0, tg], 0, [])])).refl]
    refine ⟨_, rfl, iteF' rfl ?_⟩
    refine ⟨_, rfl, r, Cs, dx, _, _, rfl, s6 _ _ hz5, TS.cl, TS.no _ (List.mem_of_getElem? (i := 0) rfl), rfl, q, Cl, dl, _, _, rfl, s6 _ _ l1, TL.cl, TL.no _ (List.mem_of_getElem? (i := 1) rfl), rfl, ?_⟩
    refine ⟨_, rfl, t, _, ((1 : Nat) : Int), _, rfl, rfl, SqT.of (s6 _ _ ht), atI_nat rfl, L, ks, qs ++ [(ds.length, tg)], rfl, SqL.of (s6 _ _ hLk), hPk.same s6, lok2.1, fun ys ls2 p2 hq perm so2 hqn => ?_⟩
    have sq := same_new (o := .lst ys) hqn
    refine tup_q (.inl upd_same) fun u H7 s7 hu => ?_
    have e2 : ls2 = ls' := sortP_one so2 so fun x => (perm.mem_iff).trans pm.mem_iff.symm
    rw [e2] at hq
    have s67 := sq.trans s7
    have s57 := s6.trans s67
    refine ⟨.tuple (ls'.map dPair), .tuple (ls'.map dPair), .tup (SqT.of (s57 _ _ l3)) (dp_pairs (l4.same s57)), .tup (SqT.of hu) (dp_pairs (hq.same s67)), (lay_pairsT _).shaped (by decide), (lay_pairsT _).shaped (by decide), ?_⟩
    rw [(lay_pairsT ls').refl]
    refine ⟨_, rfl, iteF' rfl ?_⟩
    refine ⟨_, rfl, r, Cs, dx, _, _, rfl, s57 _ _ hz5, TS.cl, TS.no _ (List.mem_of_getElem? (i := 1) rfl), rfl, _, rfl, _, rfl, _, rfl, (by show 3 ≤ sizeLine; decide), fun T1 hT1 => ?_⟩
    have sT1 := same_new (o := .tup [V.int (ds.length : Int), natV x0, natV tg]) hT1
    have s58 := s57.trans sT1
    refine ⟨dNs [ds.length, x0, tg], dNs [ds.length, x0, tg], dp_ns (s58 _ _ a5), dp_ns (l := [ds.length, x0, tg]) upd_same, (lay_ns _).shaped (by decide), (lay_ns _).shaped (by decide), ?_⟩
    rw [(lay_ns [ds.length, x0, tg]).refl]
    refine ⟨_, rfl, iteF' rfl ?_⟩
    refine ⟨_, rfl, r, Cs, dx, _, _, rfl, s58 _ _ hz5, TS.cl, TS.no _ (List.mem_of_getElem? (i := 2) rfl), rfl, _, rfl, _, rfl, (by show 2 ≤ sizeLine; decide), fun T2 hT2 => ?_⟩
    have sT2 := same_new (o := .tup [V.int (ds.length : Int), natV tg]) hT2
    have s59 := s58.trans sT2
    refine ⟨dNs [ds.length, tg], dNs [ds.length, tg], dp_ns (s59 _ _ b5), dp_ns (l := [ds.length, tg]) upd_same, (lay_ns _).shaped (by decide), (lay_ns _).shaped (by decide), ?_⟩
    rw [(lay_ns [ds.length, tg]).refl]
    refine ⟨_, rfl, iteF' rfl ?_⟩
    have L9 := L5.mono s59
    have a9 := s59 _ _ a5
    have b9 := s59 _ _ b5
    have z9 := s59 _ _ hz5
    have t9 := s59 _ _ ht
    have W9 := s59 _ _ hW
    have RW9 := hRW.keep (KeepX.of s59)
    have K9 := s59 _ _ hLk
    have P9 := hPk.same s59
    have s09 := s05.trans s59
    clear L5 a5 b5 hz5 ht hW hRW hLk hPk s05 s59 s58 s57 s67 l1 l3 l4 w1 w2 w3 ho sT1 sT2 hT1 hT2 s6 s7 sq hq hu hqn
    generalize upd (upd H7 T1 (.tup [V.int (ds.length : Int), natV x0, natV tg])) T2 (.tup [V.int (ds.length : Int), natV tg]) = H9 at *
    obtain ⟨way1, way2⟩ := told_ways ok lk
    refine ⟨_, rfl, r, Cs, dx, _, _, rfl, z9, TS.cl, TS.no _ (List.mem_of_getElem? (i := 0) rfl), rfl, _, rfl, r, Cs, dx, _, _, rfl, z9, TS.cl, TS.no _ (List.mem_of_getElem? (i := 1) rfl), rfl, _, rfl, r, Cs, dx, _, _, rfl, z9, TS.cl, TS.no _ (List.mem_of_getElem? (i := 2) rfl), rfl, ?_⟩
    refine ⟨q, wq, .ref a, .ref b, ds ++ [([x0, tg], 0, [])], ls', rfl, L9, ok2, by omega, .inr ⟨[ds.length, x0, tg], ⟨a, rfl, .inr a9, way1, (by show 3 ≤ 1000; decide)⟩, .inr ⟨[ds.length, tg], ⟨b, rfl, .inr b9, way2, (by show 2 ≤ 1000; decide)⟩, .inr ⟨rfl, fun H10 s10 => ⟨_, rfl, iteF' (decide_eq_false (told_cuts qok pm x0l nqs)) ?_⟩⟩⟩⟩⟩
    have s010 := s09.trans s10
    refine ⟨_, rfl, _, _, rfl, rfl, _, rfl, ?_⟩
    by_cases z : 6 < ds.length
    · exact iteT' (decide_eq_true (by omega)) (k _ s010)
    · refine iteF' (decide_eq_false (by omega)) ?_
      refine ⟨_, rfl, r, Cs, dx, _, _, rfl, s10 _ _ z9, TS.cl, TS.no _ (List.mem_of_getElem? (i := 0) rfl), rfl, _, rfl, _, rfl, q, wq, ds ++ [([x0, tg], 0, [])], ls', ds.length, tg, rfl, L9.mono s10, ok2, by omega, by omega, by omega, fun m H11 s11 he => ?_⟩
      rw [copies_eq ok2 lok' (by omega) (by omega) he tg]
      have s1011 := s10.trans s11
      refine ⟨_, rfl, t, _, ((0 : Nat) : Int), _, rfl, rfl, SqT.of (s1011 _ _ t9), atI_nat rfl, _, rfl, t, _, ((1 : Nat) : Int), _, rfl, rfl, SqT.of (s1011 _ _ t9), atI_nat rfl, _, rfl, _, rfl, W, W, L, ws, ks, ds ++ [([x0, tg], 0, [])], qs ++ [(ds.length, tg)], ds.length, tg, rfl, s1011 _ _ W9, RW9.keep (KeepX.of s1011), ok2, by omega, by omega, s1011 _ _ K9, P9.same s1011, lok2, fun H12 s12 => ⟨rfl, ?_⟩⟩
      rw [cnt_same ok2 lok2 lok' (fun x => pm.mem_iff.symm) (by omega) (by omega) tg, decide_eq_true rfl]
      exact k _ ((s010.trans s11).trans s12)
end
end K83

set_option maxRecDepth 100000
set_option maxHeartbeats 8000000
namespace K83
open PySem PySem.Spec PyProof.Rows L2 Kw
theorem NsOk.dsOk {ds news : List Ent} (h : NsOk ds.length news) (ok : DsOk ds) : ∀ i, i ≤ news.length → DsOk (ds ++ (news.take i).map entN)
  | 0, _ => by
    rw [List.take_zero, List.map_nil, List.append_nil]
    exact ok
  | i + 1, hi => by
    obtain ⟨d, hd⟩ : ∃ d, news[i]? = some d := ⟨_, List.getElem?_eq_getElem (by omega)⟩
    rw [List.take_add_one, hd, Option.toList_some, List.map_append, ← List.append_assoc]
    refine (NsOk.dsOk h ok i (by omega)).app ?_
    have e : (ds ++ (news.take i).map entN).length = ds.length + i := by
      rw [List.length_append, List.length_map, List.length_take]
      omega
    rw [e]
    exact (h i d hd).1
theorem NsOk.lsOk {ds news : List Ent} {ls : List (Nat × Nat)} (h : NsOk ds.length news) (lok : LsOk ds ls) : ∀ i, i ≤ news.length → LsOk (ds ++ (news.take i).map entN) (ls ++ newL ds.length news i)
  | 0, _ => by
    rw [List.take_zero, List.map_nil, List.append_nil, show newL ds.length news 0 = [] from rfl, List.append_nil]
    exact lok
  | i + 1, hi => by
    obtain ⟨d, hd⟩ : ∃ d, news[i]? = some d := ⟨_, List.getElem?_eq_getElem (by omega)⟩
    rw [List.take_add_one, hd, Option.toList_some, List.map_append, ← List.append_assoc, newL_succ hd, ← List.append_assoc]
    have e : (ds ++ (news.take i).map entN).length = ds.length + i := by
      rw [List.length_append, List.length_map, List.length_take]
      omega
    have := (NsOk.lsOk h lok i (by omega)).more (d := entN d) (h i d hd).2.1 (h i d hd).2.2
    rw [e] at this
    exact this
theorem NsOk.dsW {ds news : List Ent} (h : NsOk ds.length news) (ok : DsOk ds) : DsOk (ds ++ news.map entN) := by
  have := h.dsOk ok news.length (Nat.le_refl _)
  rw [List.take_length] at this
  exact this
theorem NsOk.lsW {ds news : List Ent} {ls : List (Nat × Nat)} (h : NsOk ds.length news) (lok : LsOk ds ls) : LsOk (ds ++ news.map entN) (ls ++ newL ds.length news news.length) := by
  have := h.lsOk lok news.length (Nat.le_refl _)
  rw [List.take_length] at this
  exact this
theorem newL_app {many : Nat} {news : List Ent} {d : Ent} : newL many (news ++ [d]) (news.length + 1) = newL many news news.length ++ d.2.2.map fun b => (many + news.length, b) := by
  rw [newL_succ (d := d) (by rw [List.getElem?_append_right (Nat.le_refl _), Nat.sub_self]; rfl)]
  congr 1
  unfold newL
  refine flatMap_cong fun j hj => ?_
  have jl := List.mem_range.mp hj
  rw [List.getD_eq_getElem?_getD, List.getD_eq_getElem?_getD, List.getElem?_append_left jl]
theorem newL_mem {many : Nat} {news : List Ent} {j : Nat} {d : Ent} (h : news[j]? = some d) {b : Nat} (hb : b ∈ d.2.2) : (many + j, b) ∈ newL many news news.length := by
  unfold newL
  refine List.mem_flatMap.mpr ⟨j, List.mem_range.mpr (List.getElem?_eq_some_iff.mp h).1, ?_⟩
  rw [List.getD_eq_getElem?_getD, h]
  exact List.mem_map.mpr ⟨b, hb, rfl⟩
/-- all links to the class stay shared -/
theorem all_grown {ds news : List Ent} {qs : List (Nat × Nat)} {tg : Nat} (all : ∀ x, linkB ds x tg = true → (x, tg) ∈ qs) (kp : ∀ d ∈ news, tg ∈ d.1 → tg ∈ d.2.2) : ∀ x, linkB (ds ++ news.map entN) x tg = true → (x, tg) ∈ qs ++ newL ds.length news news.length := fun x hx => by
  unfold linkB at hx
  rw [Bool.and_eq_true] at hx
  have xl := of_decide_eq_true hx.1
  have hb := List.contains_iff_mem.mp hx.2
  unfold basesOf at hb
  rw [List.getD_eq_getElem?_getD] at hb
  rw [List.length_append, List.length_map] at xl
  by_cases z : x < ds.length
  · refine List.mem_append_left _ (all x ?_)
    rw [List.getElem?_append_left z] at hb
    unfold linkB
    rw [decide_eq_true z, Bool.true_and]
    refine List.contains_iff_mem.mpr ?_
    unfold basesOf
    rw [List.getD_eq_getElem?_getD]
    exact hb
  · refine List.mem_append_right _ ?_
    obtain ⟨j, rfl⟩ : ∃ j, x = ds.length + j := ⟨x - ds.length, by omega⟩
    obtain ⟨d, hd⟩ : ∃ d, news[j]? = some d := ⟨_, List.getElem?_eq_getElem (by omega)⟩
    rw [List.getElem?_append_right (by omega), show ds.length + j - ds.length = j by omega, List.getElem?_map, hd] at hb
    exact newL_mem hd (kp d (List.mem_of_getElem? hd) hb)
def keptS (bs ms : List Nat) (tg : Nat) : List Nat := if tg ∈ bs ∧ tg ∉ ms then ms ++ [tg] else ms
theorem kept_ok {k : Nat} {d : Ent} (h : NOk k d) (tg : Nat) : NOk k (d.1, d.2.1, keptS d.1 d.2.2 tg) ∧ (tg ∈ d.1 → tg ∈ keptS d.1 d.2.2 tg) := by
  obtain ⟨z1, z2, z3⟩ := h
  unfold keptS
  by_cases z : tg ∈ d.1 ∧ tg ∉ d.2.2
  · rw [if_pos z]
    refine ⟨⟨z1, List.nodup_append.mpr ⟨z2, by simp, fun a ha b hb e => z.2 (by rw [List.mem_singleton.mp hb] at e; exact e ▸ ha)⟩, fun x hx => ?_⟩, fun _ => List.mem_append_right _ (List.mem_singleton.mpr rfl)⟩
    rcases List.mem_append.mp hx with hx | hx
    · exact z3 x hx
    · rw [List.mem_singleton.mp hx]
      exact z.1
  · rw [if_neg z]
    exact ⟨⟨z1, z2, z3⟩, fun h => Classical.byContradiction fun n => z ⟨h, n⟩⟩
theorem LinksAt.ki {H H' : Hp} {p Cl wp C : Addr} {ds : List Ent} {ls : List (Nat × Nat)} (h : LinksAt H p Cl wp C ds ls) (k : KI H H') : LinksAt H' p Cl wp C ds ls := by
  obtain ⟨dx, st, us, h1, h2, h3, h4⟩ := h
  exact ⟨dx, st, us, k _ _ h1 nh_ins, h2.ki k, k _ _ h3 nh_tup, h4.kiL k⟩
section
variable {P : Program} {w : World} {K : PySem.W.Frag} {mg : Str → Option Value} {base : Heap} {f fKe fNc fT fRo fWi fEl fCo fWl C Cl z1 : Addr} {fd fdKe fdNc fdT fdRo fdWi fdEl fdCo fdWl : FuncData}
def spKeptL : Sp := fun vs H Q _ => ∃ (t b m : Addr) (bs ms : List Nat) (n tg : Nat), vs = [.ref t, natV tg] ∧ H t = some (.tup [.ref b, natV n, .ref m]) ∧ H b = some (.lst (bs.map natV)) ∧ H m = some (.lst (ms.map natV)) ∧ bs.length ≤ 3 ∧ ms.length ≤ 3 ∧
  ∀ t' m' H', Same H H' → H' t' = some (.tup [.ref b, natV n, .ref m']) → H' m' = some (.lst ((keptS bs ms tg).map natV)) → (m' = m ∨ H m' = none) → Q (.ref t') H'
theorem sc_keptL : FnScope ["_law_new", "_law_target"] ["_law_new", "_law_target"] (defScope (top 71)) := ⟨rfl, rfl, rfl, by decide +kernel, rfl, by decide +kernel, by decide +kernel⟩
theorem ok_keptL (F : FnP K "_law_kept" 71 f fd) : FnOk P w K mg base CX0 1 f fd ["_law_new", "_law_target"] spKeptL := by
  refine F.ok sc_keptL (fun vs H Q E h => ?_) (fun cdv A outer s H vs Q E hr h => ?_)
  · obtain ⟨t, b, m, bs, ms, n, tg, rfl, _⟩ := h
    rfl
  · obtain ⟨t, b, m, bs, ms, n, tg, rfl, ht, hb, hm, b3, m3, k⟩ := h
    refine ⟨_, PSs.nox (pss_cons (ps_if (PW.pt (pw_and (pt_cmpR (r := rIn K false) op_in_seq (pv 1) (pe_ix (r := rIxT K) ix_tup (pv 0) pe_int (fun _ _ => rfl)) (by rfl)) (pw_and1 (pt_cmpR (r := rIn K true) op_notIn_seq (pv 1) (pe_ix (r := rIxT K) ix_tup (pv 0) pe_int (fun _ _ => rfl)) (by rfl)))))
        (pss_one (ps_ret (pe_tup (pa_cons (pe_ix (r := rIxT K) ix_tup (pv 0) pe_int (fun _ _ => rfl)) (pa_cons (pe_ix (r := rIxT K) ix_tup (pv 0) pe_int (fun _ _ => rfl)) (pa_cons (pe_op op_cat (pe_ix (r := rIxT K) ix_tup (pv 0) pe_int (fun _ _ => rfl)) (pe_lst (pa_cons (pv 1) pa_nil))) pa_nil)))))) pss_nil)
      (pss_one (ps_ret (pv 0)))), ?_⟩
    have e1 : inV (natV tg) (bs.map natV) = bs.contains tg := inV_nat _ _
    have e2 : inV (natV tg) (ms.map natV) = ms.contains tg := inV_nat _ _
    refine ⟨_, rfl, _, rfl, t, _, ((0 : Nat) : Int), _, rfl, rfl, SqT.of ht, atI_nat rfl, b, _, rfl, .inl (SqL.of hb), rfl, flat_nats _, _, rfl, ?_⟩
    show (if inV (natV tg) (bs.map natV) = true then _ else _)
    rw [e1]
    cases zb : bs.contains tg with
    | false =>
      refine iteF' rfl (iteF' rfl ⟨_, rfl, k t m H (Same.refl H) ht ?_ (.inl rfl)⟩)
      unfold keptS
      rw [if_neg fun z => by rw [List.contains_iff_mem.mpr z.1] at zb; cases zb]
      exact hm
    | true =>
      refine iteT' rfl ?_
      refine ⟨_, rfl, _, rfl, t, _, ((2 : Nat) : Int), _, rfl, rfl, SqT.of ht, atI_nat rfl, m, _, rfl, .inl (SqL.of hm), rfl, flat_nats _, _, rfl, ?_⟩
      show (if (!inV (natV tg) (ms.map natV)) = true then _ else _)
      rw [e2]
      cases zm : ms.contains tg with
      | true =>
        refine iteF' rfl ⟨_, rfl, k t m H (Same.refl H) ht ?_ (.inl rfl)⟩
        unfold keptS
        rw [if_neg fun z => z.2 (List.contains_iff_mem.mp zm)]
        exact hm
      | false =>
        refine iteT' rfl ?_
        refine ⟨_, rfl, t, _, ((0 : Nat) : Int), _, rfl, rfl, SqT.of ht, atI_nat rfl, _, rfl, t, _, ((1 : Nat) : Int), _, rfl, rfl, SqT.of ht, atI_nat rfl, _, rfl, t, _, ((2 : Nat) : Int), _, rfl, rfl, SqT.of ht, atI_nat rfl, _, rfl, (by show 1 ≤ sizeLine; decide), fun U hU => ?_⟩
        have sU := same_new (o := .lst [natV tg]) hU
        have big : 100 ≤ sizeLine := by decide
        refine ⟨m, U, _, _, rfl, rfl, sU _ _ hm, upd_same, by rw [List.length_map, List.length_singleton]; omega, fun O hO => ⟨(by show 3 ≤ sizeLine; decide), fun T hT => ?_⟩⟩
        have sO := same_new (o := .lst (ms.map natV ++ [natV tg])) hO
        have sT := same_new (o := .tup [.ref b, natV n, .ref O]) hT
        have O3 : upd (upd H U (.lst [natV tg])) O (.lst (ms.map natV ++ [natV tg])) O = some (.lst ((keptS bs ms tg).map natV)) := by
          unfold keptS
          rw [upd_same, if_pos ⟨List.contains_iff_mem.mp zb, fun z => by rw [List.contains_iff_mem.mpr z] at zm; cases zm⟩, List.map_append]
          rfl
        have OH : H O = none := by
          cases e : H O with
          | none => rfl
          | some o =>
            rw [sU _ _ e] at hO
            cases hO
        exact k T O _ ((sU.trans sO).trans sT) upd_same (sT _ _ O3) (.inr OH)
def spEver (C Cl : Addr) : Sp := fun vs H Q _ => ∃ (p q lp wp rw S : Addr) (us ss : List V) (ds : List Ent) (qs ls : List (Nat × Nat)) (tg : Nat), vs = [.ref p, .ref lp, .ref rw, .ref S, natV tg] ∧ HandAt H p q ∧ LinksAt H lp Cl wp C ds ls ∧ ls.Perm qs ∧ H rw = some (.lst us) ∧ RwN rw H us ds ∧ DsOk ds ∧ 1 ≤ ds.length ∧ ds.length ≤ 6 ∧ H S = some (.lst ss) ∧ PairsAt H ss qs ∧ LsOk ds qs ∧ tg < ds.length ∧ (∀ x, linkB ds x tg = true → (x, tg) ∈ qs) ∧ ∀ H', Q (.bl true) H'
theorem sc_ever : FnScope ["_law_hand_here", "_law_links", "_law_rows", "_law_shared", "_law_target", "_law_many", "_law_news", "_law_wide_here", "_law_step", "_law_new", "_law_grown", "_law_elders_here", "_law_c", "_law_copies_here"] ["_law_hand_here", "_law_links", "_law_rows", "_law_shared", "_law_target"] (defScope (top 72)) := ⟨rfl, rfl, rfl, by decide +kernel, rfl, by decide +kernel, by decide +kernel⟩
theorem ok_ever (F : FnP K "_law_for_ever" 72 f fd) (B : Fr mg) (TL : ClsF K Cl ["world", "shared"])
    (FT : FnP K "_law_take" 45 fT fdT) (mT : mg "_law_take" = some (.ref fT)) (GT : FnOk P w K mg base CX0 2 fT fdT ["_law_hand_here", "_law_many"] spTake)
    (FKe : FnP K "_law_kept" 71 fKe fdKe) (mKe : mg "_law_kept" = some (.ref fKe)) (GKe : FnOk P w K mg base CX0 1 fKe fdKe ["_law_new", "_law_target"] spKeptL)
    (FNc : FnP K "_law_newclass" 67 fNc fdNc) (mNc : mg "_law_newclass" = some (.ref fNc)) (GNc : FnOk P w K mg base CX0 3 fNc fdNc ["_law_hand_here", "_law_many"] spNewc)
    (FRo : FnP K "_law_row" 51 fRo fdRo) (mRo : mg "_law_row" = some (.ref fRo)) (GRo : FnOk P w K mg base CX0 3 fRo fdRo ["_law_hand_here", "_law_items"] spRow)
    (FWi : FnP K "_law_wide" 68 fWi fdWi) (mWi : mg "_law_wide" = some (.ref fWi)) (GWi : FnOk P w K mg base CX0 1 fWi fdWi ["_law_rows", "_law_shared", "_law_news"] spWide)
    (FEl : FnP K "_law_elders" 50 fEl fdEl) (mEl : mg "_law_elders" = some (.ref fEl)) (GEl : FnOk P w K mg base CX0 1 fEl fdEl ["_law_rows"] spLElders)
    (FCo : FnP K "copies_of" 27 fCo fdCo) (mCo : mg "copies_of" = some (.ref fCo)) (GCo : FnOk P w K mg base CX0 19 fCo fdCo ["links", "c", "target"] (spCopies C Cl))
    (FWl : FnMd K "with_class" "Links.with_class" (inClass (top 17) 4) [.ref z1] fWl fdWl) (MWl : Meth K Cl "with_class" fWl) (GWl : FnOk P w K mg base CX0 7 fWl fdWl ["self", "bases", "fields", "shared_bases"] (spWithLk C Cl)) : FnOk P w K mg base CX0 20 f fd ["_law_hand_here", "_law_links", "_law_rows", "_law_shared", "_law_target"] (spEver C Cl) := by
  have bT : L2.Binds K fdT ["_law_hand_here", "_law_many"] [] := FT.bindsN fun _ _ _ _ _ _ us hl => match us, hl with | [_, _], _ => rfl
  have bKe : L2.Binds K fdKe ["_law_new", "_law_target"] [] := FKe.bindsN fun _ _ _ _ _ _ us hl => match us, hl with | [_, _], _ => rfl
  have bNc : L2.Binds K fdNc ["_law_hand_here", "_law_many"] [] := FNc.bindsN fun _ _ _ _ _ _ us hl => match us, hl with | [_, _], _ => rfl
  have bRo : L2.Binds K fdRo ["_law_hand_here", "_law_items"] [] := FRo.bindsN fun _ _ _ _ _ _ us hl => match us, hl with | [_, _], _ => rfl
  have bWi : L2.Binds K fdWi ["_law_rows", "_law_shared", "_law_news"] [] := FWi.bindsN fun _ _ _ _ _ _ us hl => match us, hl with | [_, _, _], _ => rfl
  have bEl : L2.Binds K fdEl ["_law_rows"] [] := FEl.bindsN fun _ _ _ _ _ _ us hl => match us, hl with | [_], _ => rfl
  have bCo : L2.Binds K fdCo ["links", "c", "target"] [] := FCo.bindsN fun _ _ _ _ _ _ us hl => match us, hl with | [_, _, _], _ => rfl
  have bWl := binds_withLk FWl
  refine F.ok sc_ever (fun vs H Q E h => ?_) (fun cdv A outer s H vs Q E hr h => ?_)
  · obtain ⟨p, q, lp, wp, rw, S, us, ss, ds, qs, ls, tg, rfl, _⟩ := h
    rfl
  · obtain ⟨p, q, lp, wp, rw, S, us, ss, ds, qs, ls, tg, rfl, hh, hL, pm, hrw, hR, ok, n1, n6, hS, hP, qok, tgl, all, k⟩ := h
    refine ⟨_, PSs.nox (pss_cons (ps_set (i := 5) sc_ever.nd rfl (Or.inl rfl) (pe_callB call_len_seq (by rfl) B.len PySem.boot_len (pa_cons (pv 2) pa_nil)))
      (pss_cons (ps_set (i := 6) sc_ever.nd rfl (Or.inl rfl) (pe_lst pa_nil))
      (pss_cons (ps_set (i := 7) sc_ever.nd rfl (Or.inl rfl) (pv 1))
      (pss_cons (ps_for PassesOwn.never rfl (pi_range1 (by rfl) B.range (pa_cons (pe_op op_add pe_int (pe_call GT (hr.mono (by decide)) (by rfl) mT FT.kp bT .nil pass0 (pa_cons (pv 0) (pa_cons pe_int pa_nil)))) pa_nil)) (pg_name (i := 8) sc_ever.nd rfl (Or.inl rfl))
        (pss_cons (ps_set (i := 9) sc_ever.nd rfl (Or.inl rfl) (pe_call GKe (hr.mono (by decide)) (by rfl) mKe FKe.kp bKe .nil pass0 (pa_cons (pe_call GNc (hr.mono (by decide)) (by rfl) mNc FNc.kp bNc .nil pass0 (pa_cons (pv 0) (pa_cons (pe_op op_add (pv 5) (pv 8)) pa_nil))) (pa_cons (pv 4) pa_nil))))
        (pss_cons (ps_expr (pe_bm PySem.F.plainAttrs_list PySem.F.slot_list_append PySem.F.type_list_append mt_append (pv 6) (pa_cons (pv 9) pa_nil)))
        (pss_one (ps_set (i := 7) sc_ever.nd rfl (Or.inl rfl) (pe_meth (pv 7) TL.cl MWl GWl (hr.mono (by decide)) bWl .nil pass0 (pa_cons (pe_call GRo (hr.mono (by decide)) (by rfl) mRo FRo.kp bRo .nil pass0 (pa_cons (pv 0) (pa_cons (pe_ix (r := rIxT K) ix_tup (pv 9) pe_int (fun _ _ => rfl)) pa_nil))) (pa_cons (pe_ix (r := rIxT K) ix_tup (pv 9) pe_int (fun _ _ => rfl)) (pa_cons (pe_call GRo (hr.mono (by decide)) (by rfl) mRo FRo.kp bRo .nil pass0 (pa_cons (pv 0) (pa_cons (pe_ix (r := rIxT K) ix_tup (pv 9) pe_int (fun _ _ => rfl)) pa_nil))) pa_nil)))))))))
      (pss_cons (ps_set (i := 10) sc_ever.nd rfl (Or.inl rfl) (pe_call GWi (hr.mono (by decide)) (by rfl) mWi FWi.kp bWi .nil pass0 (pa_cons (pv 2) (pa_cons (pv 3) (pa_cons (pv 6) pa_nil)))))
      (pss_cons (ps_set (i := 11) sc_ever.nd rfl (Or.inl rfl) (pe_call GEl (hr.mono (by decide)) (by rfl) mEl FEl.kp bEl .nil pass0 (pa_cons (pe_ix (r := rIxT K) ix_tup (pv 10) pe_int (fun _ _ => rfl)) pa_nil)))
      (pss_cons (ps_for PassesOwn.never rfl (pi_range1 (by rfl) B.range (pa_cons (pe_callB call_len_seq (by rfl) B.len PySem.boot_len (pa_cons (pe_ix (r := rIxT K) ix_tup (pv 10) pe_int (fun _ _ => rfl)) pa_nil)) pa_nil)) (pg_name (i := 12) sc_ever.nd rfl (Or.inl rfl))
        (pss_cons (ps_set (i := 13) sc_ever.nd rfl (Or.inl rfl) (pe_call GCo hr (by rfl) mCo FCo.kp bCo .nil pass0 (pa_cons (pv 7) (pa_cons (pv 12) (pa_cons (pv 4) pa_nil)))))
        (pss_one (ps_if (pt_cmpR op_ne (pv 13) (pe_ifExp (PW.pt (pw_or (pt_cmpR op_eq (pv 12) (pv 4) (nomark _)) (pw_or1 (pt_cmpR (r := rIn K false) op_in_seq (pv 4) (pe_ix (r := rIxL K) ix_list (pv 11) (pv 12) (fun _ _ => rfl)) (by rfl))))) pe_int pe_int) (nomark _)) (pss_one ps_never) pss_nil))))
      (pss_one (ps_ret pe_bl))))))))), ?_⟩
    have nS : ¬ HandLike (.lst ss) := nh_refs hP.refsL
    have nU : ¬ HandLike (.lst us) := nh_refs hR.refs
    have lus : us.length = ds.length := hR.len
    refine ⟨_, rfl, rw, us, rfl, .inl (SqL.of hrw), ?_⟩
    rw [lus]
    refine ⟨(by show 0 ≤ sizeLine; decide), fun N hN => ?_⟩
    obtain ⟨Np, Nq⟩ := hh.ne hN
    have sN := same_new (o := .lst []) hN
    refine ⟨_, rfl, ?_⟩
    refine ⟨_, rfl, p, q, 4, rfl, by decide, by decide, hh.same sN, fun z H2 z0 z1 h2 e2 => ?_⟩
    obtain ⟨m, rfl, m4⟩ : ∃ m : Nat, z = (m : Int) ∧ m < 4 := ⟨z.toNat, by omega, by omega⟩
    have O2 := (Oth.of sN).trans (Oth.take e2)
    have N2 := Oth.take e2 _ _ Np (upd_same (H := H) (a := N) (o := .lst []))
    have k2 := KI.oth O2 hh
    have em : V.int ((1 : Int) + (m : Int)) = V.int ((m + 1 : Nat) : Int) := congrArg V.int (by omega)
    refine ⟨_, _, rfl, rfl, ((m + 1 : Nat) : Int), congrArg (fun z => [z]) em, by omega, by omega, ?_⟩
    refine for_range (n := m + 1) (fun j σ H' => ∃ (x8 x9 : Option V) (wl wq : Addr) (nus : List V) (news : List Ent) (ms : List (Nat × Nat)), σ = [some (.ref p), some (.ref lp), some (.ref rw), some (.ref S), some (natV tg), some (.int (ds.length : Int)), some (.ref N), some (.ref wl), x8, x9, none, none, none, none] ∧ Oth p H H' ∧ HandAt H' p q ∧ H' N = some (.lst nus) ∧ RwN N H' nus news ∧ news.length = j ∧ NsOk ds.length news ∧ (∀ d ∈ news, tg ∈ d.1 → tg ∈ d.2.2) ∧ LinksAt H' wl Cl wq C (ds ++ news.map entN) ms ∧ ms.Perm (qs ++ newL ds.length news j))
      ⟨none, none, lp, wp, [], [], ls, rfl, O2, h2, N2, .nil, rfl, (fun i d e => by simp at e), (fun d hd => by cases hd), by rw [List.map_nil, List.append_nil]; exact hL.ki k2, by rw [show newL ds.length [] 0 = [] from rfl, List.append_nil]; exact pm⟩ ?_ ?_
    · rintro j σ H3 hj ⟨x8, x9, wl, wq, nus, news, ms, rfl, O3, h3, N3, hRN, nl, nok, kp, hL3, pms⟩
      have ej : (0 : Int) + (j : Int) = (j : Int) := Int.zero_add _
      rw [ej]
      have k3 := KI.oth O3 hh
      have ec : V.int ((ds.length : Int) + (j : Int)) = natV (ds.length + j) := congrArg V.int (by omega)
      subst nl
      refine ⟨_, rfl, _, rfl, _, rfl, _, _, rfl, rfl, p, q, ds.length + news.length, congrArg (fun z => [V.ref p, z]) ec, by omega, by omega, h3, fun t b m' H4 d O4 h4 hbn hmn ht hb hm nok4 => ?_⟩
      have d3 : d.1.length ≤ 3 := nok4.1.2.2.1
      have w3 : d.2.2.length ≤ 3 := Nat.le_trans (nodup_len nok4.2.1 nok4.2.2) d3
      refine ⟨_, rfl, t, b, m', d.1, d.2.2, d.2.1, tg, rfl, ht, hb, hm, d3, w3, fun t' mm H5 s5 ht' hm' or' => ?_⟩
      obtain ⟨nok5, kp5⟩ := kept_ok nok4 tg
      have N4 := O4 _ _ Np N3
      have N5 := s5 _ _ N4
      have h5 := h4.same s5
      have bN : b ≠ N := Ne.symm (ne_of_none N3 hbn)
      have mN : mm ≠ N := by
        rcases or' with e | e
        · rw [e]
          exact Ne.symm (ne_of_none N3 hmn)
        · exact Ne.symm (ne_of_none N4 e)
      have tN : t' ≠ N := fun z => by rw [z, N5] at ht'; cases ht'
      have k35 := (KI.oth O4 h3).trans (KI.of s5)
      have nul := hRN.len
      refine ⟨_, rfl, .inl ⟨rfl, _, SqL.of N5⟩, _, rfl, N, nus, _, rfl, rfl, N5, (by show _ < 2 ^ 24; omega), ?_⟩
      have L5 := hL3.ki k35
      have L6 : LinksAt (upd H5 N (.lst (nus ++ [.ref t']))) wl Cl wq C (ds ++ news.map entN) ms := L5.ex2 (Ex2.updA (Ex2.of (Same.refl _))) N5 N5
      have hb6 : upd H5 N (.lst (nus ++ [.ref t'])) b = some (.lst (d.1.map natV)) := upB bN (s5 _ _ hb)
      have hm6 : upd H5 N (.lst (nus ++ [.ref t'])) mm = some (.lst ((keptS d.1 d.2.2 tg).map natV)) := upB mN hm'
      have ht6 : upd H5 N (.lst (nus ++ [.ref t'])) t' = some (.tup [.ref b, natV d.2.1, .ref mm]) := upB tN ht'
      have N6 : upd H5 N (.lst (nus ++ [.ref t'])) N = some (.lst (nus ++ [.ref t'])) := upd_same
      have R6 : RwN N (upd H5 N (.lst (nus ++ [.ref t']))) (nus ++ [.ref t']) (news ++ [(d.1, d.2.1, keptS d.1 d.2.2 tg)]) := RwN.app ((hRN.ki k35).keep KeepX.upd) (.cons ⟨t', b, mm, rfl, tN, ht6, bN, hb6, mN, hm6⟩ .nil)
      have h6 := h5.upd (o := .lst (nus ++ [.ref t'])) Np Nq
      have O6 : Oth p H (upd H5 N (.lst (nus ++ [.ref t']))) := ((O3.trans O4).trans (Oth.of s5)).updN hN
      generalize upd H5 N (.lst (nus ++ [.ref t'])) = H6 at L6 hb6 hm6 ht6 N6 R6 h6 O6 ⊢
      clear L5 k35 k3 h5 N5 N4 s5 ht' hm' hb hm ht hL3 h4 O4 hRN N3 h3 O3 or'
      obtain ⟨dxl, _, _, hins, _⟩ := id L6
      have nT : ¬ HandLike (.tup [.ref b, natV d.2.1, .ref mm]) := nh_tup
      refine ⟨_, rfl, wl, dxl, _, rfl, hins, rfl, _, rfl, _, rfl, t', _, ((0 : Nat) : Int), _, rfl, rfl, SqT.of ht6, atI_nat rfl, p, q, b, _, rfl, h6, h6.ne_of hb6 nh_nats, .inl hb6, fun l1 H7 O7 h7 hl1 => ?_⟩
      have k67 := KI.oth O7 h6
      have ht7 := k67 _ _ ht6 nh_tup
      have hm7 := k67 _ _ hm6 nh_nats
      refine ⟨_, rfl, t', _, ((1 : Nat) : Int), _, rfl, rfl, SqT.of ht7, atI_nat rfl, _, rfl, _, rfl, t', _, ((2 : Nat) : Int), _, rfl, rfl, SqT.of ht7, atI_nat rfl, p, q, mm, _, rfl, h7, h7.ne_of hm7 nh_nats, .inl hm7, fun l2 H8 O8 h8 hl2 => ?_⟩
      have k78 := KI.oth O8 h7
      have q1 : SeqAt H8 l1 (d.1.map natV) := (hl1.imp (fun z => k78 _ _ z.2 nh_nats) fun z => k78 _ _ z nh_tup)
      have q2 : SeqAt H8 l2 ((keptS d.1 d.2.2 tg).map natV) := hl2.imp (fun z => z.2) id
      have k68 := k67.trans k78
      have lenN : (ds ++ news.map entN).length = ds.length + news.length := by rw [List.length_append, List.length_map]
      refine ⟨wl, wq, l1, l2, ds ++ news.map entN, ms, d.1, keptS d.1 d.2.2 tg, d.2.1, rfl, L6.ki k68, nok.dsW ok, by omega, (nok.lsW qok).perm pms, q1, by rw [lenN]; exact nok4.1, q2, nok5.2.1, nok5.2.2, fun pl' wq' H9 ms' s9 hL9 pm9 _ => ?_⟩
      have k69 := k68.trans (KI.of s9)
      refine ⟨_, _, pl', wq', nus ++ [.ref t'], news ++ [(d.1, d.2.1, keptS d.1 d.2.2 tg)], ms', rfl, ((O6.trans O7).trans O8).trans (Oth.of s9), h8.same s9, s9 _ _ (O8 _ _ Np (O7 _ _ Np N6)), R6.ki k69, by rw [List.length_append]; rfl, nok.app nok5, fun e he => ?_, ?_, ?_⟩
      · rcases List.mem_append.mp he with he | he
        · exact kp e he
        · rw [List.mem_singleton.mp he]
          exact kp5
      · rw [List.map_append, ← List.append_assoc]
        exact hL9
      · rw [newL_app, ← List.append_assoc]
        rw [lenN] at pm9
        exact pm9.trans (pms.append_right _)
    · rintro σ H3 ⟨x8, x9, wl, wq, nus, news, ms, rfl, O3, h3, N3, hRN, nl, nok, kp, hL3, pms⟩
      have k3 := KI.oth O3 hh
      have few := qok.few ok
      have okG := nok.dsW ok
      have lokG := (nok.lsW qok).perm (ms := ms) (by rw [nl]; exact pms)
      have lenG : (ds ++ news.map entN).length = ds.length + news.length := by rw [List.length_append, List.length_map]
      have allG : ∀ x, linkB (ds ++ news.map entN) x tg = true → (x, tg) ∈ ms := fun x hx => pms.mem_iff.mpr (by rw [← nl]; exact all_grown all kp x hx)
      refine ⟨_, rfl, _, rfl, _, rfl, rw, S, N, rw, us, ss, nus, ds, news, qs, rfl, k3 _ _ hrw nU, hR.ki k3, k3 _ _ hS nS, hP.kiL k3, N3, hRN, by omega, nok, by omega, fun G W L wws ks H4 s4 hG hWn hW RW hLk hPk => ?_⟩
      have small : ∀ row ∈ (ds ++ news.map entN).map (·.1), row.length * ((ds ++ news.map entN).map (·.1)).length < 64 := fun row hrow => by
        have h3 := okG.short row hrow
        rw [List.length_map, lenG]
        have := Nat.mul_le_mul h3 (show ds.length + news.length ≤ 10 by omega)
        omega
      refine ⟨_, rfl, G, _, ((0 : Nat) : Int), _, rfl, rfl, SqT.of hG, atI_nat rfl, W, wws, (ds ++ news.map entN).map (·.1), rfl, hW, RW.rows, okG.valid, by rw [List.length_map]; omega, small, fun H5 E eus s5 hEn hE ne hEl => ?_⟩
      have hEl' : ListsAt H5 eus (elsOf (ds ++ news.map entN)) := hEl
      have G5 := s5 _ _ hG
      have W5 := s5 _ _ hW
      have L5 := hL3.mono (s4.trans s5)
      have wl5 : wws.length = ds.length + news.length := by rw [RW.len, lenG]
      refine ⟨_, rfl, G, _, ((0 : Nat) : Int), _, rfl, rfl, SqT.of G5, atI_nat rfl, W, wws, rfl, .inl (SqL.of W5), _, rfl, by omega, by omega, ?_⟩
      refine for_range (n := wws.length) (fun i σ H' => ∃ (x12 x13 : Option V), σ = [some (.ref p), some (.ref lp), some (.ref rw), some (.ref S), some (natV tg), some (.int (ds.length : Int)), some (.ref N), some (.ref wl), x8, x9, some (.ref G), some (.ref E), x12, x13] ∧ Same H5 H') ⟨_, _, rfl, Same.refl _⟩ ?_ ?_
      · rintro i σ H6 hi ⟨x12, x13, rfl, s6⟩
        have ei : (0 : Int) + (i : Int) = (i : Int) := Int.zero_add _
        rw [ei]
        refine ⟨_, rfl, _, rfl, _, rfl, wl, wq, ds ++ news.map entN, ms, i, tg, rfl, L5.mono s6, okG, by omega, by omega, by omega, fun mm H7 s7 he => ?_⟩
        rw [copies_eq okG lokG (by omega) (by omega) he tg, cnt_to okG lokG (by omega) (by omega) allG]
        have s67 := s6.trans s7
        obtain ⟨el, hel⟩ : ∃ l, (elsOf (ds ++ news.map entN))[i]? = some l := ⟨_, List.getElem?_eq_getElem (by rw [elsOf_len]; omega)⟩
        have eg : (elsOf (ds ++ news.map entN)).getD i [] = el := by
          rw [List.getD_eq_getElem?_getD, hel]
          rfl
        obtain ⟨tl, etl, htl⟩ := hEl'.get hel
        rw [eg]
        refine ⟨_, rfl, _, rfl, _, rfl, rfl, _, rfl, ?_⟩
        by_cases z : i = tg
        · refine iteT' (decide_eq_true (congrArg natV z)) ?_
          rw [if_pos (Or.inl z.symm)]
          exact ⟨rfl, _, rfl, iteF' ne_self'' ⟨_, _, rfl, s67⟩⟩
        · refine iteF' (decide_eq_false fun h => z (Int.ofNat.inj (V.int.inj h))) ?_
          refine ⟨_, rfl, _, rfl, _, rfl, E, eus, (i : Int), _, rfl, rfl, SqL.of (s67 _ _ hE), atI_nat etl, tl, _, rfl, .inl (SqL.of (s67 _ _ htl)), rfl, flat_nats _, _, rfl, ?_⟩
          have ein : inV (natV tg) (el.map natV) = el.contains tg := inV_nat _ _
          show (if inV (natV tg) (el.map natV) = true then _ else _)
          rw [ein]
          cases z2 : el.contains tg with
          | true =>
            rw [if_pos (Or.inr (List.contains_iff_mem.mp z2))]
            exact iteT' rfl ⟨rfl, _, rfl, iteF' ne_self'' ⟨_, _, rfl, s67⟩⟩
          | false =>
            have e0 : (if tg = i ∨ tg ∈ el then (1 : Nat) else 0) = 0 := if_neg fun h => h.elim (fun h => z h.symm) fun h => by rw [List.contains_iff_mem.mpr h] at z2; cases z2
            rw [e0]
            exact iteF' rfl ⟨rfl, _, rfl, iteF' ne_self'' ⟨_, _, rfl, s67⟩⟩
      · rintro σ H6 ⟨x12, x13, rfl, s6⟩
        exact k _
end
end K83

set_option maxRecDepth 100000
set_option maxHeartbeats 8000000
namespace K83
open PySem PySem.Spec PyProof.Rows L2 Kw
theorem te_join {te : TE} {σ : L2.St} {H : Hp} {Q : VK} (Inv : V → Hp → Prop) (k : ∀ x H, Inv x H → Q x H) (h : ∀ Q' : VK, (∀ x H, Inv x H → Q' x H) → te σ H Q') : te σ H Q := h Q k
theorem worldT_q {C Cb : Addr} {H : Hp} {wp wdx : Addr} {y : V} {ds : List Ent} {Q : VK} {E : XK} (ho : OutAt H 3 y (rowsT ds)) (ok : DsOk ds) (h0 : 1 ≤ ds.length) (h12 : ds.length ≤ 12) (hwp : H wp = none) (hwdx : H wdx = none) (wne : wdx ≠ wp) (q : ∀ H', Same H H' → WorldAt H' wp C ds → Q .non H') :
    spWorld C Cb (.ref wp :: ([y] ++ [])) (upd (upd H wdx (.own wp)) wp (.ins C wdx [])) Q E := by
  have s7 := (same_new (o := .own wp) hwdx).trans (same_new (o := .ins C wdx []) (by rw [upd_ne (Ne.symm wne)]; exact hwp))
  have W7 : upd (upd H wdx (.own wp)) wp (.ins C wdx []) wp = some (.ins C wdx []) := upd_same
  have ho7 := OutAt.tups (TupK.of s7) ho
  generalize upd (upd H wdx (.own wp)) wp (.ins C wdx []) = G7 at s7 W7 ho7 ⊢
  obtain ⟨a, us, rfl, ha, ul, he⟩ := out_rows ho7 ok
  exact ⟨wp, wdx, .ref a, rfl, W7, .inr ⟨a, us, ds, rfl, .inr ha, by omega, by omega, by omega, he, .inr ⟨ul.symm, fun H8 O8 hW => q H8 (fun b u e => O8 b u (ne_of_none e hwp) (s7 _ _ e)) hW⟩⟩⟩
theorem dbl_same {ls qs : List (Nat × Nat)} (h : ∀ x, x ∈ ls ↔ x ∈ qs) (tg : Nat) : dblB ls tg = dblB qs tg := by
  funext x
  unfold dblB
  rw [decide_eq_decide.mpr (h x)]
theorem loose_same {ds : List Ent} {ls qs : List (Nat × Nat)} (h : ∀ x, x ∈ ls ↔ x ∈ qs) (tg : Nat) : looseL ds ls tg = looseL ds qs tg := by
  unfold looseL
  rw [dbl_same h]
theorem dbl_mem {ds : List Ent} {qs : List (Nat × Nat)} {tg : Nat} {x : Nat × Nat} (h : x ∈ (pairsOf ds).filter (dblB qs tg)) : linkB ds x.1 x.2 = true ∧ x.2 = tg ∧ x ∉ qs := by
  obtain ⟨h1, h2⟩ := List.mem_filter.mp h
  unfold dblB at h2
  rw [Bool.and_eq_true] at h2
  refine ⟨pairsOf_link h1, of_decide_eq_true h2.1, fun z => ?_⟩
  have := h2.2
  rw [decide_eq_true z] at this
  cases this
section
variable {P : Program} {w : World} {K : PySem.W.Frag} {mg : Str → Option Value} {base : Heap} {f fHa fT fN fNa fSo fDe fGi fPa fAs fSv fSt fAl fO fEv fLk fWo C Cl Cg Cb Cs Cn Ct z0 : Addr} {fd fdHa fdT fdN fdNa fdSo fdDe fdGi fdPa fdAs fdSv fdSt fdAl fdO fdEv fdLk fdWo : FuncData}
theorem sc_law : FnScope ["_law_script", "_law_hand_here", "_law_rows", "_law_size", "_law_shared", "_law_links", "_law_target", "_law_loose", "_law_pair", "_law_told", "_law_odd", "_law_more", "_law_fixed"] ["_law_script"] (defScope (top 73)) := ⟨rfl, rfl, rfl, by decide +kernel, rfl, by decide +kernel, by decide +kernel⟩
theorem law_at (F : FnP K "law" 73 f fd) (B : Fr mg) (gMin : mg "min" = none)
    (FHa : FnP K "_law_hand" 43 fHa fdHa) (mHa : mg "_law_hand" = some (.ref fHa)) (GHa : FnOk P w K mg base CX0 1 fHa fdHa ["_law_script"] (spHand K))
    (FT : FnP K "_law_take" 45 fT fdT) (mT : mg "_law_take" = some (.ref fT)) (GT : FnOk P w K mg base CX0 2 fT fdT ["_law_hand_here", "_law_many"] spTake)
    (FN : FnP K "_law_net" 55 fN fdN) (mN : mg "_law_net" = some (.ref fN)) (GN : FnOk P w K mg base CX0 6 fN fdN ["_law_hand_here", "_law_low", "_law_high", "_law_most"] spDense)
    (FNa : FnP K "_law_named" 63 fNa fdNa) (mNa : mg "_law_named" = some (.ref fNa)) (GNa : FnOk P w K mg base CX0 4 fNa fdNa ["_law_hand_here", "_law_rows"] spNamed)
    (FSo : FnP K "_law_some" 57 fSo fdSo) (mSo : mg "_law_some" = some (.ref fSo)) (GSo : FnOk P w K mg base CX0 3 fSo fdSo ["_law_hand_here", "_law_rows"] spSome)
    (FDe : FnP K "_law_deep" 52 fDe fdDe) (mDe : mg "_law_deep" = some (.ref fDe)) (GDe : FnOk P w K mg base CX0 5 fDe fdDe ["_law_thing"] (spLDeep 3))
    (FGi : FnP K "_law_given" 59 fGi fdGi) (mGi : mg "_law_given" = some (.ref fGi)) (GGi : FnOk P w K mg base CX0 4 fGi fdGi ["_law_hand_here", "_law_pairs_here"] spGivenL)
    (FPa : FnP K "_law_pairs" 56 fPa fdPa) (mPa : mg "_law_pairs" = some (.ref fPa)) (GPa : FnOk P w K mg base CX0 1 fPa fdPa ["_law_rows"] spPairsOf)
    (FAs : FnP K "_law_asked" 69 fAs fdAs) (mAs : mg "_law_asked" = some (.ref fAs)) (GAs : FnOk P w K mg base CX0 9 fAs fdAs ["_law_links", "_law_target"] (spAskO C Cl Cs))
    (FSv : FnP K "_law_several_right" 70 fSv fdSv) (mSv : mg "_law_several_right" = some (.ref fSv)) (GSv : FnOk P w K mg base CX0 20 fSv fdSv ["_law_told", "_law_rows", "_law_shared", "_law_x", "_law_target"] (spSevR C Cl Cs))
    (FSt : FnP K "_law_stranger" 65 fSt fdSt) (mSt : mg "_law_stranger" = some (.ref fSt)) (GSt : FnOk P w K mg base CX0 3 fSt fdSt ["_law_hand_here", "_law_many"] spStr)
    (FAl : FnP K "_law_alike" 66 fAl fdAl) (mAl : mg "_law_alike" = some (.ref fAl)) (GAl : FnOkG P w K mg base CX0 1 fAl fdAl ["_law_a", "_law_b"] (spAlike K))
    (FO : FnP K "one_part" 41 fO fdO) (mO : mg "one_part" = some (.ref fO)) (GO : FnOk P w K mg base (L2.CX P w) 8 fO fdO ["links", "target"] (spOne C Cl Cs Cn Ct))
    (FEv : FnP K "_law_for_ever" 72 fEv fdEv) (mEv : mg "_law_for_ever" = some (.ref fEv)) (GEv : FnOk P w K mg base CX0 20 fEv fdEv ["_law_hand_here", "_law_links", "_law_rows", "_law_shared", "_law_target"] (spEver C Cl))
    (TL : ClsF K Cl ["world", "shared"]) (FLk : FnMd K "__init__" "Links.__init__" (inClass (top 17) 0) [.ref z0] fLk fdLk) (MLk : Mk K Cl fLk) (mLk : mg "Links" = some (.ref Cl)) (GLk : FnOk P w K mg base CX0 4 fLk fdLk ["self", "world", "shared"] (spLinksI C Cl))
    (MW : Mk K C fWo) (mW : mg "World" = some (.ref C)) (GW : FnOk P w K mg base (L2.CX P w) 4 fWo fdWo ["self", "classes"] (spWorld C Cb)) (bW : L2.Binds K fdWo ["self", "classes"] [])
    {H : Hp} {s : Shared} {a : Addr} {ns : List Int} (env0 : Env0 P w K mg base callerA [] s H) (bind : BindsTo s fd ⟨[.ref a], []⟩ ((["_law_script"] : List Str).zip [Value.ref a])) (hns : ns.length ≤ 63) (hA : SqL K H a (ns.map V.int)) :
    codeAny (model P w) callerA (.call (.ref f) ⟨[.ref a], []⟩) (CR CX0 [] P w H s (fun v _ => v = .bl true) (fun _ _ _ => False)) s := by
  have bHa : L2.Binds K fdHa ["_law_script"] [] := FHa.bindsN fun _ _ _ _ _ _ us hl => match us, hl with | [_], _ => rfl
  have bT : L2.Binds K fdT ["_law_hand_here", "_law_many"] [] := FT.bindsN fun _ _ _ _ _ _ us hl => match us, hl with | [_, _], _ => rfl
  have bN : L2.Binds K fdN ["_law_hand_here", "_law_low", "_law_high", "_law_most"] [] := FN.bindsN fun _ _ _ _ _ _ us hl => match us, hl with | [_, _, _, _], _ => rfl
  have bNa : L2.Binds K fdNa ["_law_hand_here", "_law_rows"] [] := FNa.bindsN fun _ _ _ _ _ _ us hl => match us, hl with | [_, _], _ => rfl
  have bSo : L2.Binds K fdSo ["_law_hand_here", "_law_rows"] [] := FSo.bindsN fun _ _ _ _ _ _ us hl => match us, hl with | [_, _], _ => rfl
  have bDe : L2.Binds K fdDe ["_law_thing"] [] := FDe.bindsN fun _ _ _ _ _ _ us hl => match us, hl with | [_], _ => rfl
  have bGi : L2.Binds K fdGi ["_law_hand_here", "_law_pairs_here"] [] := FGi.bindsN fun _ _ _ _ _ _ us hl => match us, hl with | [_, _], _ => rfl
  have bPa : L2.Binds K fdPa ["_law_rows"] [] := FPa.bindsN fun _ _ _ _ _ _ us hl => match us, hl with | [_], _ => rfl
  have bAs : L2.Binds K fdAs ["_law_links", "_law_target"] [] := FAs.bindsN fun _ _ _ _ _ _ us hl => match us, hl with | [_, _], _ => rfl
  have bSv : L2.Binds K fdSv ["_law_told", "_law_rows", "_law_shared", "_law_x", "_law_target"] [] := FSv.bindsN fun _ _ _ _ _ _ us hl => match us, hl with | [_, _, _, _, _], _ => rfl
  have bSt : L2.Binds K fdSt ["_law_hand_here", "_law_many"] [] := FSt.bindsN fun _ _ _ _ _ _ us hl => match us, hl with | [_, _], _ => rfl
  have bAl : L2.Binds K fdAl ["_law_a", "_law_b"] [] := FAl.bindsN fun _ _ _ _ _ _ us hl => match us, hl with | [_, _], _ => rfl
  have bO : L2.Binds K fdO ["links", "target"] [] := FO.bindsN fun _ _ _ _ _ _ us hl => match us, hl with | [_, _], _ => rfl
  have bEv : L2.Binds K fdEv ["_law_hand_here", "_law_links", "_law_rows", "_law_shared", "_law_target"] [] := FEv.bindsN fun _ _ _ _ _ _ us hl => match us, hl with | [_, _, _, _, _], _ => rfl
  have bLk := binds_links FLk
  have room : Room 22 callerA := ⟨rfl, by decide, by decide⟩
  refine def_at (CX := CX0) (k := 21) (vs := [.ref a]) F sc_law rfl room env0 bind (.cons rfl .nil) fun cdv => ?_
  have hr := room.deeper (envOfC ("law" : Str) (defScope (top 73)) s.heap.objs.size f cdv)
  refine ⟨_, PSs.nox (pss_cons (ps_set (i := 1) sc_law.nd rfl (Or.inl rfl) (pe_call GHa (hr.mono (by decide)) (by rfl) mHa FHa.kp bHa .nil pass0 (pa_cons (pv 0) pa_nil)))
      (pss_cons (ps_set (i := 2) sc_law.nd rfl (Or.inl rfl) (pe_call GN (hr.mono (by decide)) (by rfl) mN FN.kp bN .nil pass0 (pa_cons (pv 1) (pa_cons pe_int (pa_cons pe_int (pa_cons pe_int pa_nil))))))
      (pss_cons (ps_set (i := 3) sc_law.nd rfl (Or.inl rfl) (pe_call GT (hr.mono (by decide)) (by rfl) mT FT.kp bT .nil pass0 (pa_cons (pv 1) (pa_cons pe_int pa_nil))))
      (pss_cons (ps_if (pt_cmpR (r := rIn K false) op_in_seq (pv 3) (pe_tup (pa_cons pe_int (pa_cons pe_int pa_nil))) (by rfl)) (pss_one (ps_set (i := 2) sc_law.nd rfl (Or.inl rfl) (pe_call GN (hr.mono (by decide)) (by rfl) mN FN.kp bN .nil pass0 (pa_cons (pv 1)
          (pa_cons (pe_op op_add pe_int (pe_callTy call_int1 (by rfl) B.int PyProof.Rows.boot_int (pa_cons (pe_cmpR op_eq (pv 3) pe_int (nomark _)) pa_nil))) (pa_cons (pe_op op_add pe_int (pe_callTy call_int1 (by rfl) B.int PyProof.Rows.boot_int (pa_cons (pe_cmpR op_eq (pv 3) pe_int (nomark _)) pa_nil))) (pa_cons pe_int pa_nil))))))) pss_nil)
      (pss_cons (ps_set (i := 2) sc_law.nd rfl (Or.inl rfl) (pe_call GNa (hr.mono (by decide)) (by rfl) mNa FNa.kp bNa .nil pass0 (pa_cons (pv 1) (pa_cons (pv 2) pa_nil))))
      (pss_cons (ps_set (i := 4) sc_law.nd rfl (Or.inr rfl) (pe_call GSo (hr.mono (by decide)) (by rfl) mSo FSo.kp bSo .nil pass0 (pa_cons (pv 1) (pa_cons (pv 2) pa_nil))))
      (pss_cons (ps_set (i := 5) sc_law.nd rfl (Or.inl rfl) (pe_make MLk GLk (hr.mono (by decide)) (by rfl) mLk bLk .nil pass0 (pa_cons
          (pe_make MW GW (hr.mono (by decide)) (by rfl) mW bW .nil (passOut (E := fun _ _ _ => False)) (pa_cons (pe_call GDe (hr.mono (by decide)) (by rfl) mDe FDe.kp bDe .nil pass0 (pa_cons (pv 2) pa_nil)) pa_nil))
          (pa_cons (pe_call GGi (hr.mono (by decide)) (by rfl) mGi FGi.kp bGi .nil pass0 (pa_cons (pv 1) (pa_cons (pv 4) pa_nil))) pa_nil))))
      (pss_cons (ps_for PassesOwn.never rfl (pi_range1 (by rfl) B.range (pa_cons (pe_callB call_len_seq (by rfl) B.len PySem.boot_len (pa_cons (pv 2) pa_nil)) pa_nil)) (pg_name (i := 6) sc_law.nd rfl (Or.inr rfl))
        (pss_cons (ps_setLc (i := 7) (own := [("_law_pair", 8)]) (g := gName 8) (tt := tAnd (tTest (tOp rEq (tOp (rIxT K) (tVar 8) (tC (.int 1))) (tVar 6))) (tTest (tOp (rNotInD K) (tVar 8) (tVar 4)))) (te := tVar 8) rfl sc_law.nd rfl rfl (sw_true rfl rfl rfl (by decide +kernel)) (pi_list (pe_call GPa (hr.mono (by decide)) (by rfl) mPa FPa.kp bPa .nil pass0 (pa_cons (pv 2) pa_nil))) (blkOk_by (N := ["_law_script", "_law_hand_here", "_law_rows", "_law_size", "_law_shared", "_law_links", "_law_target", "_law_loose", "_law_pair", "_law_told", "_law_odd", "_law_more", "_law_fixed"]) (sc := defScope (top 73)) (by decide +kernel))
          (fun _ _ _ _ _ => pg_name (i := 8) sc_law.nd rfl (Or.inl rfl)) (fun _ _ _ _ _ => ?tt1) (fun _ _ _ _ _ => pv 8))
        (pss_cons (ps_set (i := 9) sc_law.nd rfl (Or.inl rfl) (pe_call GAs (hr.mono (by decide)) (by rfl) mAs FAs.kp bAs .nil pass0 (pa_cons (pv 5) (pa_cons (pv 6) pa_nil))))
        (pss_one (ps_if (pt_not (pt_truth (pv 7) (by intro _; rfl))) (pss_one (ps_if (pt_cmpR op_notN (pv 9) pe_non (nomark _)) (pss_one ps_never) pss_nil))
          (pss_one (ps_if (pt_cmpR op_eq (pe_callB call_len_seq (by rfl) B.len PySem.boot_len (pa_cons (pv 2) pa_nil)) pe_int (nomark _)) (pss_one (ps_if (pt_cmpR (r := rNeD K) (op_neD hr.units) (pv 9) (pe_tup (pa_cons pe_str (pa_cons pe_int pa_nil))) (nomark _)) (pss_one ps_never) pss_nil))
            (pss_one (ps_if (pt_not (pt_val (pe_call GSv (hr.mono (by decide)) (by rfl) mSv FSv.kp bSv .nil pass0 (pa_cons (pv 9) (pa_cons (pv 2) (pa_cons (pv 4) (pa_cons (pe_ix (r := rIxT K) ix_tup (pe_ix (r := rIxL K) ix_list (pv 7) pe_int (fun _ _ => rfl)) pe_int (fun _ _ => rfl)) (pa_cons (pv 6) pa_nil)))))))) (pss_one ps_never) pss_nil)))))))))
      (pss_cons (ps_set (i := 6) sc_law.nd rfl (Or.inr rfl) (pe_call GT (hr.mono (by decide)) (by rfl) mT FT.kp bT .nil pass0 (pa_cons (pv 1) (pa_cons (pe_callB (call_min2 rfl) (by rfl) gMin (by decide +kernel) (pa_cons (pe_callB call_len_seq (by rfl) B.len PySem.boot_len (pa_cons (pv 2) pa_nil)) (pa_cons pe_int pa_nil))) pa_nil))))
      (pss_cons (ps_set (i := 10) sc_law.nd rfl (Or.inl rfl) (pe_call GSt (hr.mono (by decide)) (by rfl) mSt FSt.kp bSt .nil pass0 (pa_cons (pv 1) (pa_cons (pe_callB call_len_seq (by rfl) B.len PySem.boot_len (pa_cons (pv 2) pa_nil)) pa_nil))))
      (pss_cons (ps_if (pt_not (pt_val (pe_callG GAl rfl (hr.mono (by decide)) (by rfl) mAl FAl.kp bAl pass0 (pa_cons (pe_call GAs (hr.mono (by decide)) (by rfl) mAs FAs.kp bAs .nil pass0 (pa_cons (pv 5) (pa_cons (pv 10) pa_nil))) (pa_cons (pe_tup (pa_cons pe_str (pa_cons (pv 10) pa_nil))) pa_nil))))) (pss_one ps_never) pss_nil)
      (pss_cons (ps_if (pt_cmpR op_gt (pe_callB call_len_seq (by rfl) B.len PySem.boot_len (pa_cons (pv 2) pa_nil)) pe_int (nomark _)) (pss_one (ps_ret pe_bl)) pss_nil)
      (pss_cons (ps_set (i := 11) sc_law.nd rfl (Or.inl rfl) (pe_op op_cat (pv 4)
          (pe_lc (own := [("_law_pair", 8)]) (g := gName 8) (tt := tAnd (tTest (tOp rEq (tOp (rIxT K) (tVar 8) (tC (.int 1))) (tVar 6))) (tTest (tOp (rNotInD K) (tVar 8) (tVar 4)))) (te := tVar 8) rfl sc_law.nd (pi_list (pe_call GPa (hr.mono (by decide)) (by rfl) mPa FPa.kp bPa .nil pass0 (pa_cons (pv 2) pa_nil))) (blkOk_by (N := ["_law_script", "_law_hand_here", "_law_rows", "_law_size", "_law_shared", "_law_links", "_law_target", "_law_loose", "_law_pair", "_law_told", "_law_odd", "_law_more", "_law_fixed"]) (sc := defScope (top 73)) (by decide +kernel))
            (fun _ _ _ _ _ => pg_name (i := 8) sc_law.nd rfl (Or.inl rfl)) (fun _ _ _ _ _ => ?tt2) (fun _ _ _ _ _ => pv 8))))
      (pss_cons (ps_set (i := 12) sc_law.nd rfl (Or.inl rfl) (pe_make MLk GLk (hr.mono (by decide)) (by rfl) mLk bLk .nil pass0 (pa_cons
          (pe_make MW GW (hr.mono (by decide)) (by rfl) mW bW .nil (passOut (E := fun _ _ _ => False)) (pa_cons (pe_call GDe (hr.mono (by decide)) (by rfl) mDe FDe.kp bDe .nil pass0 (pa_cons (pv 2) pa_nil)) pa_nil))
          (pa_cons (pv 11) pa_nil))))
      (pss_one (ps_ret (L2.pe_and (pe_cmpR op_isN (pe_call GO (hr.mono (by decide)) (by rfl) mO FO.kp bO .nil (passOut (E := fun _ _ _ => False)) (pa_cons (pv 12) (pa_cons (pv 6) pa_nil))) pe_non (nomark _))
        (pe_one (pe_call GEv (hr.mono (by decide)) (by rfl) mEv FEv.kp bEv .nil pass0 (pa_cons (pv 1) (pa_cons (pv 12) (pa_cons (pv 2) (pa_cons (pv 11) (pa_cons (pv 6) pa_nil)))))))))))))))))))))))), ?_⟩
  case tt1 => exact pts_one (PW.pt (pw_and (pt_cmpR op_eq (pe_ix (r := rIxT K) ix_tup (pv 8) pe_int (fun _ _ => rfl)) (pv 6) (nomark _)) (pw_and1 (pt_cmpR (r := rNotInD K) (op_notInD (room65 hr)) (pv 8) (pv 4) (by rfl)))))
  case tt2 => exact pts_one (PW.pt (pw_and (pt_cmpR op_eq (pe_ix (r := rIxT K) ix_tup (pv 8) pe_int (fun _ _ => rfl)) (pv 6) (nomark _)) (pw_and1 (pt_cmpR (r := rNotInD K) (op_notInD (room65 hr)) (pv 8) (pv 4) (by rfl)))))
  refine ⟨_, rfl, a, ns, rfl, hA, hns, fun p q H1 s1 hp hq h1 => ?_⟩
  refine ⟨_, rfl, p, q, 2, 6, 6, rfl, by decide, by decide, by decide, h1, fun r0 H2 us0 ds0 O2 h2 hrn r2 R2 lo1 hi1 ok0 => ?_⟩
  refine ⟨_, rfl, p, q, 12, rfl, by decide, by decide, h2, fun z H3 z0 z1 h3 e3 => ?_⟩
  have k23 := KI.oth (Oth.take e3) h2
  have r3 := k23 _ _ r2 (nh_refs R2.refs)
  have R3 := R2.ki k23
  dsimp only [gName]
  refine tIfS_join (fun σ H' => ∃ (r : Addr) (us : List V) (ds : List Ent), σ = [some (.ref a), some (.ref p), some (.ref r), some (.int z), none, none, none, none, none, none, none, none, none] ∧ HandAt H' p q ∧ H' r = some (.lst us) ∧ RwN r H' us ds ∧ DsOk ds ∧ 2 ≤ ds.length ∧ ds.length ≤ 12) ?_ ?_
  · clear s1 h1 r2 R2 O2 h2 hrn lo1 hi1 ok0 h3 e3 k23 r3 R3
    rintro σ H4 ⟨r, us, ds, rfl, h4, r4, R4, ok0, lo1, hi1⟩
    refine ⟨_, rfl, _, rfl, p, q, r, us, ds, rfl, h4, r4, R4, ok0, hi1, fun D dus es H5 O5 h5 hDn hD hRD ok elen => ?_⟩
    have h12 : es.length ≤ 12 := by omega
    have e2 : 2 ≤ es.length := by omega
    have dusl : dus.length = es.length := hRD.len
    have nU : ¬ HandLike (.lst dus) := nh_refs hRD.refs
    refine ⟨_, rfl, _, rfl, p, q, D, D, dus, es, rfl, h5, hD, hRD, ok, by omega, by omega, fun S ss H3 qs O3 h3 hSn S3 P3 sub => ?_⟩
    have k23 := KI.oth O3 h5
    have r3 := k23 _ _ hD nU
    have R3 := hRD.ki k23
    have nd : qs.Nodup := sub.nodup (pairsUp_nodup ok _)
    have lk : ∀ x ∈ qs, linkB es x.1 x.2 = true := fun x hx => pairsOf_link (sub.subset hx)
    have qok : LsOk es qs := ⟨nd, lk⟩
    have plen : (pairsOf es).length ≤ 60 := by
      have h2 := pairsUp_len ok es.length
      have h3 : (pairsOf es).length = (pairsUp es es.length).length := rfl
      omega
    have q60 : qs.length ≤ 60 := by
      have := qok.few ok
      omega
    have ssl : ss.length = qs.length := P3.len
    have nS : ¬ HandLike (.lst ss) := nh_refs P3.refsL
    clear h4 r4 R4 O5 hDn hD hRD elen lo1
    -- the world, the links
    refine ⟨_, rfl, _, rowsT es, rfl, R3.inRows r3 ok (by omega), fun y H4 s4 ho => fun wp wdx hwp hwdx wne => worldT_q ho ok (by omega) (by omega) hwp hwdx wne fun H5 s5 hW5 => ⟨rfl, ?_⟩⟩
    have s35 := s4.trans s5
    have h5 := h3.same s35
    refine ⟨_, rfl, _, rfl, p, q, S, ss, qs, rfl, h5, s35 _ _ S3, P3.same s35, by omega, fun j jus qs1 H6 O6 h6 hj hC pq => ?_⟩
    intro lp ldx hlp hldx lne
    have k56 := KI.oth O6 h5
    have k36 := (KI.of s35).trans k56
    have s67 := (same_new (o := .own lp) hldx).trans (same_new (o := .ins Cl ldx []) (by rw [upd_ne (Ne.symm lne)]; exact hlp))
    have L7 : upd (upd H6 ldx (.own lp)) lp (.ins Cl ldx []) lp = some (.ins Cl ldx []) := upd_same
    generalize upd (upd H6 ldx (.own lp)) lp (.ins Cl ldx []) = H7 at s67 L7 ⊢
    have hW7 := (hW5.ki k56).mono s67
    have wlp : wp ≠ lp := fun z => by
      obtain ⟨_, _, _, _, _, _, _, _, _, _, _, _, w1, _⟩ := hW5.ki k56
      rw [z, hlp] at w1
      cases w1
    refine ⟨lp, ldx, wp, j, es, jus, qs1, rfl, L7, hW7, by omega, hj.same s67, hC.same s67, pq.nodup_iff.mpr nd, fun x hx => lk x (pq.mem_iff.mp hx), by rw [pq.length_eq]; omega, wlp, fun H8 ls O8 pm so hLk => ⟨rfl, ?_⟩⟩
    have s68 : Same H6 H8 := fun b u e => O8 b u (ne_of_none e hlp) (s67 _ _ e)
    have k38 := k36.trans (KI.of s68)
    have h8 := h6.same s68
    have r8 := k38 _ _ r3 nU
    have R8 := R3.ki k38
    have S8 := k38 _ _ S3 nS
    have P8 := P3.kiL k38
    have plq := pm.trans pq
    have mem : ∀ x, x ∈ ls ↔ x ∈ qs := fun x => plq.mem_iff
    have lok : LsOk es ls := qok.perm plq
    have L8 := hLk
    clear R3 r3 S3 P3 hW7 L7 hC hj wlp lne hldx hlp k36 k56 s67 O8 k38 hW5 s35 s4 s5 O6 h6 h5 h3 wne hwdx hwp ho O3 s68 hLk
    -- every class
    refine ⟨_, rfl, D, dus, rfl, .inl (SqL.of r8), _, rfl, by omega, by omega, ?_⟩
    refine for_range (n := dus.length) (fun i σ H' => ∃ (x6 x7 x9 : Option V), σ = [some (.ref a), some (.ref p), some (.ref D), some (.int z), some (.ref S), some (.ref lp), x6, x7, none, x9, none, none, none] ∧ Same H8 H') ⟨none, none, none, rfl, Same.refl _⟩ ?_ ?_
    · rintro i σ H9 hi ⟨x6, x7, x9, rfl, s9⟩
      have ei : (0 : Int) + (i : Int) = (i : Int) := Int.zero_add _
      rw [ei]
      have r9 := s9 _ _ r8
      have R9 : RwN D H9 dus es := R8.keep (KeepX.of s9)
      have S9 := s9 _ _ S8
      have P9 := P8.same s9
      refine ⟨_, rfl, D, D, dus, es, rfl, r9, R9, ok, h12, fun PlA pusA HA sA hPlnA hPlA PPA => ⟨PlA, rfl, ⟨_, SqL.of hPlA⟩, fun DA hDA => ?_⟩⟩
      have plenA : pusA.length = (pairsOf es).length := PPA.len
      refine lc_list (K := K) (a := PlA) (xs := pusA) (fun n H' => Same HA H' ∧ ∃ vs, H' DA = some (.lst vs) ∧ PairsAt H' vs (((pairsOf es).take n).filter (dblB qs i))) ⟨same_new hDA, [], upd_same, .nil⟩ (fun n H' _ z => SqL.of (z.1 _ _ hPlA)) ?_ ?_
      · rintro n y H' hn ⟨s', vs, D', V'⟩
        obtain ⟨pr, tp, hpr, rfl, htp⟩ := PPA.at hn
        have tf := take_filter (p := dblB qs i) hpr
        have s'' := sA.trans s'
        have vl := V'.len
        have vl2 : vs.length ≤ 60 := by
          rw [vl]
          refine Nat.le_trans (List.length_filter_le _ _) ?_
          rw [List.length_take]
          omega
        have tp' := s' _ _ htp
        refine ⟨rfl, _, rfl, tp, _, ((1 : Nat) : Int), _, rfl, rfl, SqT.of tp', atI_nat rfl, _, rfl, rfl, _, rfl, ?_⟩
        by_cases zz : pr.2 = i
        · refine iteT' (decide_eq_true (congrArg natV zz)) ?_
          refine ⟨_, rfl, _, rfl, dPair pr, qs.map dPair, .tup (SqT.of tp') (.cons (.int _) (.cons (.int _) .nil)), .lst (SqL.of (s'' _ _ S9)) (dp_pairs (P9.same s'')), (lay_pair _).shaped (by decide), (LayD.lst (n := 1) fun d hd => by obtain ⟨x, _, rfl⟩ := List.mem_map.mp hd; exact lay_pair x).shaped (by decide), ?_⟩
          rw [any_pair]
          refine ⟨_, rfl, ?_⟩
          have eb : dblB qs i pr = !decide (pr ∈ qs) := by
            unfold dblB
            rw [decide_eq_true zz, Bool.true_and]
          rw [← eb]
          cases qz : dblB qs i pr with
          | true =>
            refine iteT' rfl ⟨_, rfl, vs, D', (by show _ < 2 ^ 24; omega), same_upd s' hDA, vs ++ [.ref tp], upd_same, ?_⟩
            rw [tf, qz, if_pos rfl]
            exact (PairsAt.updL' D' V').app (.cons ⟨tp, rfl, upB (fun z => by rw [z, hDA] at htp; cases htp) tp'⟩ .nil)
          | false =>
            refine iteF' rfl ⟨s', vs, D', ?_⟩
            rw [tf, qz, if_neg (by decide), List.append_nil]
            exact V'
        · have qz : dblB qs i pr = false := by
            unfold dblB
            rw [decide_eq_false zz]
            rfl
          refine iteF' (decide_eq_false fun e => zz (Int.ofNat.inj (V.int.inj e))) ?_
          refine iteF' rfl ⟨s', vs, D', ?_⟩
          rw [tf, qz, if_neg (by decide), List.append_nil]
          exact V'
      · rintro HA2 ⟨sA2, vs, hVA, PVA⟩
        rw [plenA, List.take_length] at PVA
        have sA3 := sA.trans sA2
        have dl9 := s9.trans sA3
        cases hl : (pairsOf es).filter (dblB qs i) with
        | nil =>
          rw [hl] at PVA
          obtain rfl : vs = [] := List.length_eq_zero_iff.mp PVA.len
          have el : looseL es ls i = [] := by
            rw [loose_same mem]
            unfold looseL
            rw [hl]
            rfl
          refine ⟨_, rfl, _, rfl, lp, wp, natV i, es, ls, rfl, L8.mono dl9, ok, lok, h12, .inr ⟨i, rfl, by omega, .inl ⟨el, fun HB sB => ?_⟩⟩⟩
          refine ⟨_, rfl, false, .inl ⟨[], SqL.of (sB _ _ hVA), rfl⟩, iteT' rfl ⟨_, rfl, rfl, _, rfl, iteF' rfl ⟨_, _, _, rfl, dl9.trans sB⟩⟩⟩
        | cons x0 rest =>
          rw [hl] at PVA
          obtain ⟨v0, vr, rfl, ⟨t0, rfl, ht0⟩, PVr⟩ : ∃ v0 vr, vs = v0 :: vr ∧ (∃ t, v0 = .ref t ∧ HA2 t = some (.tup [natV x0.1, natV x0.2])) ∧ PairsAt HA2 vr rest := by
            cases vs with
            | nil => cases PVA
            | cons v0 vr =>
              cases PVA with
              | cons h1 h2 => exact ⟨v0, vr, rfl, h1, h2⟩
          obtain ⟨lk0, e0, n0⟩ := dbl_mem (ds := es) (qs := qs) (tg := i) (x := x0) (by rw [hl]; exact List.mem_cons_self)
          have ex0 : (x0.1, i) = x0 := by rw [← e0]
          have el : looseL es ls i = x0.1 :: rest.map (·.1) := by
            rw [loose_same mem]
            unfold looseL
            rw [hl]
            rfl
          by_cases n12 : es.length = 12
          · refine ⟨_, rfl, _, rfl, lp, wp, natV i, es, ls, rfl, L8.mono dl9, ok, lok, h12, .inr ⟨i, rfl, by omega, .inr (.inl ⟨by rw [el]; exact List.cons_ne_nil _ _, n12, fun T HB sB hT => ?_⟩)⟩⟩
            refine ⟨_, rfl, true, .inl ⟨_, SqL.of (sB _ _ hVA), rfl⟩, iteF' rfl ⟨_, rfl, D, dus, rfl, .inl (SqL.of ((dl9.trans sB) _ _ r8)), rfl, _, rfl, iteT' (decide_eq_true (congrArg V.int (by omega))) ?_⟩⟩
            refine ⟨_, rfl, (by show 2 ≤ sizeLine; decide), fun T2 hT2 => ?_⟩
            have sT2 := same_new (o := .tup [.str "many", .int 13]) hT2
            refine ⟨.tuple [.str "many", .int 13], .tuple [.str "many", .int 13], .tup (SqT.of (sT2 _ _ hT)) (.cons (.str _) (.cons (.int _) .nil)), .tup (SqT.of upd_same) (.cons (.str _) (.cons (.int _) .nil)), (by decide +kernel), (by decide +kernel), ?_⟩
            have er : PyData.eqv (.tuple [.str "many", .int 13]) (.tuple [.str "many", .int 13]) = true := by decide +kernel
            rw [er]
            exact ⟨_, rfl, iteF' rfl ⟨_, _, _, rfl, (dl9.trans sB).trans sT2⟩⟩
          · refine ⟨_, rfl, _, rfl, lp, wp, natV i, es, ls, rfl, L8.mono dl9, ok, lok, h12, .inr ⟨i, rfl, by omega, .inr (.inr ⟨x0.1, rest.map (·.1), el, by omega, fun rr qq wq ta tb ls' HB sB hS Lq pmq soq hta htb => ?_⟩)⟩⟩
            have s8B := dl9.trans sB
            refine ⟨_, rfl, true, .inl ⟨_, SqL.of (sB _ _ hVA), rfl⟩, iteF' rfl ⟨_, rfl, D, dus, rfl, .inl (SqL.of (s8B _ _ r8)), rfl, _, rfl, iteF' (decide_eq_false fun e => n12 (by have := V.int.inj e; omega)) ?_⟩⟩
            refine ⟨_, rfl, _, rfl, _, rfl, _, rfl, DA, _, ((0 : Nat) : Int), _, rfl, rfl, SqL.of (sB _ _ hVA), atI_nat rfl, t0, _, ((0 : Nat) : Int), _, rfl, rfl, SqT.of (sB _ _ ht0), atI_nat rfl, _, rfl, rr, qq, wq, ta, tb, D, S, dus, ss, es, qs, ls', x0.1, i, rfl, hS, Lq, pmq.trans (plq.append_right _), soq, hta, htb, s8B _ _ r8, R8.keep (KeepX.of s8B), ok, by omega, s8B _ _ S8, P8.same s8B, qok, q60, (by rw [← e0]; exact lk0), (by rw [ex0]; exact n0), fun HC sC => ⟨_, rfl, iteF' rfl ⟨_, _, _, rfl, s8B.trans sC⟩⟩⟩
    · rintro σ H9 ⟨x6, x7, x9, rfl, s9⟩
      have r9 := s9 _ _ r8
      have h9 := h8.same s9
      -- a target, an odd thing
      refine ⟨_, rfl, _, rfl, D, dus, rfl, .inl (SqL.of r9), _, _, rfl, ?_⟩
      have emin : (if (4 : Int) < (dus.length : Int) then (4 : Int) else (dus.length : Int)) = ((min dus.length 4 : Nat) : Int) := by
        split <;> omega
      rw [emin]
      refine ⟨p, q, ((min dus.length 4 : Nat) : Int), rfl, by omega, by omega, h9, fun z' H10 z0' z1' h10 e10 => ?_⟩
      obtain ⟨tg, rfl, tgm⟩ : ∃ tg : Nat, z' = (tg : Int) ∧ tg < min dus.length 4 := ⟨z'.toNat, by omega, by omega⟩
      have tgl : tg < es.length := by omega
      have k10 := (KI.of s9).trans (KI.oth (Oth.take e10) h9)
      have r10 := k10 _ _ r8 nU
      refine ⟨_, rfl, _, rfl, D, dus, rfl, .inl (SqL.of r10), p, q, dus.length, rfl, by omega, h10, fun xo H11 O11 h11 odd => ?_⟩
      have k11 := k10.trans (KI.oth O11 h10)
      have L11 := L8.ki k11
      rw [dusl] at odd
      obtain ⟨⟨to, tyo⟩, wo⟩ := odd.ty
      refine ⟨_, rfl, _, rfl, lp, wp, xo, es, ls, rfl, L11, ok, lok, h12, .inl ⟨to, tyo, wo, fun T H12 s12 hT => ?_⟩⟩
      refine ⟨_, rfl, (by show 2 ≤ sizeLine; decide), fun T2 hT2 => ?_⟩
      have sT2 := same_new (o := .tup [.str "class", xo]) hT2
      have s123 := s12.trans sT2
      have T3 := sT2 _ _ hT
      have T23 : upd H12 T2 (.tup [.str "class", xo]) T2 = some (.tup [.str "class", xo]) := upd_same
      generalize upd H12 T2 (.tup [.str "class", xo]) = H13 at s123 T3 T23 ⊢
      obtain ⟨dd, dpd, smd⟩ := (odd.same s123).dp (K := K) h12
      have smt : Sm 2 202 (.tuple [.str "class", dd]) := Sm.tuple (l := 2) (n := 1) (b := 100) (fun d hd => by
        rcases List.mem_cons.mp hd with rfl | hd
        · exact (Sm.strc "class").le (by decide) (by decide)
        · rw [List.mem_singleton.mp hd]
          exact smd) (Nat.le_refl _)
      refine ⟨.ref T, .ref T2, .tuple [.str "class", dd], 2, 202, rfl, .tup (SqT.of T3) (.cons (.str _) (.cons dpd .nil)), .tup (SqT.of T23) (.cons (.str _) (.cons dpd .nil)), smt, by decide, by decide, _, rfl, iteF' rfl ?_⟩
      have k13 := k11.trans (KI.of s123)
      have r13 := k13 _ _ r8 nU
      have R13 := R8.ki k13
      have S13 := k13 _ _ S8 nS
      have P13 := P8.kiL k13
      have h13 := h11.same s123
      clear T3 T23 dpd smd smt sT2 hT2 hT s12 odd tyo wo L11 O11 h11 k11 r10 k10 h10 e10 r9 h9
      refine ⟨_, rfl, D, dus, rfl, .inl (SqL.of r13), _, _, rfl, rfl, _, rfl, ?_⟩
      by_cases z6 : 6 < dus.length
      · exact iteT' (decide_eq_true (by omega)) rfl
      · refine iteF' (decide_eq_false (by omega)) ?_
        -- all links to the target shared
        refine ⟨_, rfl, _, rfl, D, D, dus, es, rfl, r13, R13, ok, h12, fun PlC pusC HC sC hPlnC hPlC PPC => ⟨PlC, rfl, ⟨_, SqL.of hPlC⟩, fun DC hDC => ?_⟩⟩
        have plenC : pusC.length = (pairsOf es).length := PPC.len
        refine lc_list (K := K) (a := PlC) (xs := pusC) (fun n H' => Same HC H' ∧ ∃ vs, H' DC = some (.lst vs) ∧ PairsAt H' vs (((pairsOf es).take n).filter (dblB qs tg))) ⟨same_new hDC, [], upd_same, .nil⟩ (fun n H' _ z => SqL.of (z.1 _ _ hPlC)) ?_ ?_
        · rintro n y H' hn ⟨s', vs, D', V'⟩
          obtain ⟨pr, tp, hpr, rfl, htp⟩ := PPC.at hn
          have tf := take_filter (p := dblB qs tg) hpr
          have s'' := sC.trans s'
          have vl := V'.len
          have vl2 : vs.length ≤ 60 := by
            rw [vl]
            refine Nat.le_trans (List.length_filter_le _ _) ?_
            rw [List.length_take]
            omega
          have tp' := s' _ _ htp
          refine ⟨rfl, _, rfl, tp, _, ((1 : Nat) : Int), _, rfl, rfl, SqT.of tp', atI_nat rfl, _, rfl, rfl, _, rfl, ?_⟩
          by_cases zz : pr.2 = tg
          · refine iteT' (decide_eq_true (congrArg natV zz)) ?_
            refine ⟨_, rfl, _, rfl, dPair pr, qs.map dPair, .tup (SqT.of tp') (.cons (.int _) (.cons (.int _) .nil)), .lst (SqL.of (s'' _ _ S13)) (dp_pairs (P13.same s'')), (lay_pair _).shaped (by decide), (LayD.lst (n := 1) fun d hd => by obtain ⟨x, _, rfl⟩ := List.mem_map.mp hd; exact lay_pair x).shaped (by decide), ?_⟩
            rw [any_pair]
            refine ⟨_, rfl, ?_⟩
            have eb : dblB qs tg pr = !decide (pr ∈ qs) := by
              unfold dblB
              rw [decide_eq_true zz, Bool.true_and]
            rw [← eb]
            cases qz : dblB qs tg pr with
            | true =>
              refine iteT' rfl ⟨_, rfl, vs, D', (by show _ < 2 ^ 24; omega), same_upd s' hDC, vs ++ [.ref tp], upd_same, ?_⟩
              rw [tf, qz, if_pos rfl]
              exact (PairsAt.updL' D' V').app (.cons ⟨tp, rfl, upB (fun z => by rw [z, hDC] at htp; cases htp) tp'⟩ .nil)
            | false =>
              refine iteF' rfl ⟨s', vs, D', ?_⟩
              rw [tf, qz, if_neg (by decide), List.append_nil]
              exact V'
          · have qz : dblB qs tg pr = false := by
              unfold dblB
              rw [decide_eq_false zz]
              rfl
            refine iteF' (decide_eq_false fun e => zz (Int.ofNat.inj (V.int.inj e))) ?_
            refine iteF' rfl ⟨s', vs, D', ?_⟩
            rw [tf, qz, if_neg (by decide), List.append_nil]
            exact V'
        · rintro HC2 ⟨sC2, vs, hVC, PVC⟩
          rw [plenC, List.take_length] at PVC
          have sC3 := sC.trans sC2
          have mq_ok : ∀ x ∈ (pairsOf es).filter (dblB qs tg), linkB es x.1 x.2 = true ∧ x.2 = tg ∧ x ∉ qs := fun x hx => dbl_mem hx
          have mok : LsOk es (qs ++ (pairsOf es).filter (dblB qs tg)) := ⟨List.nodup_append.mpr ⟨qok.1, (pairsUp_nodup ok _).filter _, fun a ha b hb e => (mq_ok b hb).2.2 (e ▸ ha)⟩, fun x hx => by
            rcases List.mem_append.mp hx with hx | hx
            · exact qok.2 x hx
            · exact (mq_ok x hx).1⟩
          have all : ∀ x, linkB es x tg = true → (x, tg) ∈ qs ++ (pairsOf es).filter (dblB qs tg) := fun x hx => by
            by_cases z : (x, tg) ∈ qs
            · exact List.mem_append_left _ z
            · refine List.mem_append_right _ (List.mem_filter.mpr ⟨pairsOf_mem hx, ?_⟩)
              unfold dblB
              rw [decide_eq_true rfl, decide_eq_false z]
              rfl
          have m60 := mok.few ok
          have ml := PVC.len
          rw [List.length_append] at m60
          have ssl : ss.length = qs.length := P8.len
          have big : 200 ≤ sizeLine := by decide
          refine ⟨S, DC, ss, vs, rfl, rfl, sC3 _ _ S13, hVC, by omega, fun O hO => ?_⟩
          have sO := same_new (o := .lst (ss ++ vs)) hO
          have hO2 : upd HC2 O (.lst (ss ++ vs)) O = some (.lst (ss ++ vs)) := upd_same
          have s14 := sC3.trans sO
          have PO : PairsAt (upd HC2 O (.lst (ss ++ vs))) (ss ++ vs) (qs ++ (pairsOf es).filter (dblB qs tg)) := (P13.same s14).app (PVC.same sO)
          generalize upd HC2 O (.lst (ss ++ vs)) = H14 at s14 sO hO2 PO ⊢
          have r14 := s14 _ _ r13
          have R14 : RwN D H14 dus es := R13.keep (KeepX.of s14)
          have h14 := h13.same s14
          clear sC3 sC2 sC hVC PVC PPC hPlC hPlnC hDC
          refine ⟨_, rfl, _, rowsT es, rfl, R14.inRows r14 ok (by omega), fun y H15 s15 ho => fun wp2 wdx2 hwp2 hwdx2 wne2 => worldT_q ho ok (by omega) (by omega) hwp2 hwdx2 wne2 fun H16 s16 hW16 => ⟨rfl, ?_⟩⟩
          have s146 := s15.trans s16
          have PO16 := PO.same s146
          have O16 := s146 _ _ hO2
          have h16 := h14.same s146
          refine ⟨_, rfl, ?_⟩
          intro lp2 ldx2 hlp2 hldx2 lne2
          have s17 := (same_new (o := .own lp2) hldx2).trans (same_new (o := .ins Cl ldx2 []) (by rw [upd_ne (Ne.symm lne2)]; exact hlp2))
          have L17 : upd (upd H16 ldx2 (.own lp2)) lp2 (.ins Cl ldx2 []) lp2 = some (.ins Cl ldx2 []) := upd_same
          generalize upd (upd H16 ldx2 (.own lp2)) lp2 (.ins Cl ldx2 []) = H17 at s17 L17 ⊢
          have hW17 := hW16.mono s17
          have wlp2 : wp2 ≠ lp2 := fun z => by
            obtain ⟨_, _, _, _, _, _, _, _, _, _, _, _, w1, _⟩ := hW16
            rw [z, hlp2] at w1
            cases w1
          refine ⟨lp2, ldx2, wp2, O, es, ss ++ vs, _, rfl, L17, hW17, by omega, .inl (s17 _ _ O16), (PO16.same s17).couples, mok.1, mok.2, by rw [List.length_append]; omega, wlp2, fun H18 ls2 O18 pm2 so2 hLk2 => ⟨rfl, ?_⟩⟩
          have s168 : Same H16 H18 := fun b u e => O18 b u (ne_of_none e hlp2) (s17 _ _ e)
          have s148 := s146.trans s168
          have h18 := h14.same s148
          have lok2 : LsOk es ls2 := mok.perm pm2
          have noL : looseL es ls2 tg = [] := List.eq_nil_iff_forall_not_mem.mpr fun x hx => by
            obtain ⟨z1, z2⟩ := loose_mem.mp hx
            exact z2 (pm2.mem_iff.mpr (all x z1))
          refine ⟨_, rfl, _, rfl, lp2, wp2, natV tg, es, ls2, rfl, hLk2, ok, lok2, h12, .inr ⟨tg, rfl, tgl, .inl ⟨noL, fun H19 s19 => ⟨rfl, _, rfl, iteT' rfl ?_⟩⟩⟩⟩
          have s149 := s148.trans s19
          exact ⟨_, rfl, _, rfl, _, rfl, _, rfl, _, rfl, p, q, lp2, wp2, D, O, dus, ss ++ vs, es, _, ls2, tg, rfl, h18.same s19, hLk2.mono s19, pm2, s149 _ _ r14, R14.keep (KeepX.of s149), ok, by omega, by omega, s149 _ _ hO2, PO.same s149, mok, tgl, all, fun _ => rfl⟩
  · intro N hN
    refine ⟨_, rfl, (by show 2 ≤ sizeLine; decide), fun T hT => ⟨T, _, rfl, .inr (SqT.of upd_same), rfl, rfl, _, rfl, ite2 (fun _ => ?_) (fun _ => ?_)⟩⟩
    · have sT := same_new (o := .tup [.int 3, .int 7]) hT
      have h4 := h3.same sT
      by_cases z7 : z = 7
      · subst z7
        refine ⟨_, rfl, _, rfl, rfl, .inr ⟨_, rfl, _, _, rfl, rfl, _, rfl, rfl, .inr ⟨_, rfl, _, _, rfl, rfl, p, q, 12, 12, 6, rfl, by decide, by decide, by decide, h4, fun r H4 us ds O4 h4 hrn4 r4 R4 lo hi ok => ?_⟩⟩⟩
        exact hN _ _ ⟨r, us, ds, rfl, h4, r4, R4, ok, by omega, hi⟩
      · have e7 : decide (V.int z = V.int 7) = false := decide_eq_false fun e => z7 (V.int.inj e)
        refine ⟨_, rfl, _, rfl, rfl, .inr ⟨_, rfl, _, _, rfl, rfl, _, rfl, rfl, .inr ⟨_, rfl, _, _, rfl, rfl, p, q, 11, 11, 6, by rw [e7]; rfl, by decide, by decide, by decide, h4, fun r H4 us ds O4 h4 hrn4 r4 R4 lo hi ok => ?_⟩⟩⟩
        exact hN _ _ ⟨r, us, ds, rfl, h4, r4, R4, ok, by omega, by omega⟩
    · have sT := same_new (o := .tup [.int 3, .int 7]) hT
      exact hN _ _ ⟨r0, us0, ds0, rfl, h3.same sT, sT _ _ r3, R3.keep (KeepX.of sT), ok0, lo1, by omega⟩
end
end K83

set_option maxRecDepth 100000
set_option maxHeartbeats 4000000
namespace Kx
open PySem PySem.Spec PyProof.Rows L2

/-- a held exception's class, as far as reading its fields and asking its class goes -/
structure HeldC (K : PySem.W.Frag) (C : Addr) : Prop where
  fld : XfC K C
  icl : (PySem.W.clsIn K C).isSome = true
  cla : PySem.W.findIn K (.ref C) "__class__" = some (some (.builtin "object.__class__"))
  obj : PySem.W.mroIn K C (.type "object") = some true

/-- an exception stands at a, with the fields fs (none: it has no dict as yet) -/
def Held (H : Hp) (a C : Addr) (fs : List (Str × V)) : Prop :=
  (H a = some (exo a C none) ∧ fs = []) ∨ ∃ dx, H a = some (exo a C (some dx)) ∧ H dx = some (exd dx fs)

section
variable {X : Cx} {pins : List (Addr × Obj)} {σ : L2.St} {H : Hp} {s : Shared} {a C dx : Addr} {f : Str} {fs : List (Str × V)}

theorem held_at (I : Inv X pins σ H s) (h : Held H a C fs) : ∃ ox od, PySem.W.InstAt s.heap a ox C od := by
  rcases h with ⟨ha, _⟩ | ⟨dx, ha, hd⟩
  · obtain ⟨t, ho⟩ := exo_at I.hok ha
    exact ⟨_, none, ⟨ho, rfl, rfl, trivial⟩⟩
  · obtain ⟨t, ho⟩ := exo_at I.hok ha
    obtain ⟨mA, hn, _⟩ := exd_at I.hok hd
    obtain ⟨od, e, _⟩ := lookIn_ns hn
    exact ⟨_, some od, ⟨ho, rfl, rfl, e⟩⟩

/-- e.f of a held exception -/
def tHf (K : PySem.W.Frag) (f : Str) (te : TE) : TE := fun σ H Q => te σ H fun x H1 => ∃ (a C dx : Addr) (fs : List (Str × V)) (v : V),
  x = .ref a ∧ XfC K C ∧ PySem.W.findIn K (.ref C) f = some none ∧ H1 a = some (exo a C (some dx)) ∧ H1 dx = some (exd dx fs) ∧ fs.lookup f = some v ∧ Q v H1
theorem pe_hf {e : Expr} {te : TE} {pos : Pos} (he : PE X e te) (hb : attributeBase e f X.env (eval e X.env) = eval e X.env := by rfl) : PE X (.Attribute e f pos) (tHf X.K f te) := by
  refine ⟨fun pins s σ H Q I h => attr_of hb (thn (he.run pins s σ H _ I h) fun u s1 hh => ?_)⟩
  obtain ⟨x, H1, I1, rx, a, C, dx, fs, v, ex, T, hno, ha, hd, hl, q⟩ := hh
  subst ex
  obtain rfl : u = Value.ref a := rx
  obtain ⟨t, ho⟩ := exo_at I1.hok ha
  obtain ⟨mA, hn, rel⟩ := exd_at I1.hok hd
  obtain ⟨od, eo, look⟩ := lookIn_ns hn
  have rv : RelO (some v) (mA f) := hl ▸ rel f
  obtain ⟨z, ez, rz⟩ := RelO.some_of rv
  have J : PySem.W.InstAt s1.heap a _ C (some od) := ⟨ho, rfl, rfl, eo⟩
  have fo := PySem.W.findObj_own (od := od) (v := z) T.hdC hno rfl (by rw [look, ez])
  exact HandSPX.exc_get I1.kIn J T.ga T.gg T.exC fo (handed_of rz) ⟨v, H1, I1.tok _, rz, q⟩

/-- isinstance(e, D), e a held exception -/
def rHis (K : PySem.W.Frag) : List V → Hp → VK → Prop := fun xs H Q => ∃ (a C : Addr) (fs : List (Str × V)) (c : V) (t : Value) (b : Bool),
  xs = [.ref a, c] ∧ Held H a C fs ∧ HeldC K C ∧ PySem.W.specialIn K (.builtin "object.__class__") "__get__" = some (some (.builtin "getset_descriptor.__get__")) ∧ PySem.W.takesIn K (.builtin "object.__class__") = some true ∧ (∀ u, RelV c u → u = t) ∧ PySem.W.kitOne K (.ref C) t = some b ∧ Q (.bl b) H
theorem call_his : CallR X (.builtin "isinstance") (rHis X.K) := by
  intro pins s σ H xs us Q I r h
  obtain ⟨a, C, fs, c, t, b, ex, hh, T, sp, tk, ct, e, q⟩ := h
  subst ex
  obtain ⟨u1, u2, eu, r1, r2⟩ := vals2 r
  subst eu
  obtain rfl : u1 = Value.ref a := r1
  rw [ct u2 r2]
  obtain ⟨ox, od, J⟩ := held_at I hh
  exact PySem.W.kia_one (PySem.W.kitx_exc T.icl T.fld.ga T.fld.gg T.fld.exC T.cla sp tk T.obj) I.kIn J e (fun z => nomatch z) fun k => ⟨.bl b, H, I.tok k, rfl, q⟩
end

section
variable {X : Cx} {C fI : Addr} {k : Nat} {fd : FuncData} {ps : List Str} {sp : Sp} {x : Str} {e : Expr} {es : List Expr} {ta : TA} {p pos : Pos} {CX : CXT}
/-- the class at C called with values: a new exception, kept, its own __init__ run -/
theorem hold_call {pins : List (Addr × Obj)} {σ : L2.St} {H : Hp} {s : Shared} {Q : VK} {us : List Value} {vs : List V} (T : OexC X.K C) (iC : PySem.W.findIn X.K (.ref C) "__init__" = some (some (.ref fI))) (tI : PySem.W.typeIn X.K (.ref fI) = some (.type "function"))
    (F1 : FnOk X.prog X.w X.K X.mg X.base CX k fI fd ps sp) (hr : Room (k + 1) X.A) (hb : Binds X.K fd ps []) (hx : Passes CX X E0) (I : Inv X pins σ H s) (r : Vals vs us) (hz : vs.length ≤ 1000)
    (q : ∀ a, H a = none → sp (.ref a :: vs) (upd H a (exo a C none)) (fun v H2 => v = .non ∧ Q (.ref a) H2) E0) :
    wpAny (model X.prog X.w) X.A (call (.ref C) us) (EP X pins σ Q) X.xe s := by
  obtain ⟨nm, qn, N, bs, bm, sn, sub, ab, col, dd, k0, k1, k2, k3, k5, hC, hbm⟩ := T.cls
  obtain ⟨hp, g, dr, tk, os⟩ := s
  generalize ea : hp.objs.size + 1 = a
  have hsz : hp.objs.size ≤ a := by omega
  have hn : H a = none := I.hok.fresh hsz
  have hq := q a hn
  have kk : ∀ b o, hp.get? b = some o → ((hp.push (PySem.W.kdv_tup us)).push (PySem.HandSPX.excO C hp.objs.size)).get? b = some o :=
    fun b o z => Heap.get?_push_of_some _ (Heap.get?_push_of_some _ z)
  have hget : ((hp.push (PySem.W.kdv_tup us)).push (PySem.HandSPX.excO C hp.objs.size)).get? a = some (PySem.HandSPX.excO C hp.objs.size) := by
    rw [← ea]
    heap_get
  have I2 : Inv X pins σ (upd H a (exo a C none)) ⟨(hp.push (PySem.W.kdv_tup us)).push (PySem.HandSPX.excO C hp.objs.size), g, dr, tk, os⟩ :=
    I.laid (t' := tk) kk hsz (exo_ok hget)
  have r2 : Vals (V.ref a :: vs) (Value.ref a :: us) := .cons rfl r
  have hl : (Value.ref a :: us).length = ps.length := r2.length.symm.trans (F1.len _ _ _ _ hq)
  have hus : us.length ≤ sizeLine := by
    rw [← Paired.length r, sizeLine_eq]
    omega
  have bd : BindsTo ⟨(hp.push (PySem.W.kdv_tup us)).push (PySem.HandSPX.excO C hp.objs.size), g, dr, tk, os⟩ fd ⟨Value.ref a :: us, []⟩ (ps.zip (Value.ref a :: us)) := by
    have z := hb ⟨(hp.push (PySem.W.kdv_tup us)).push (PySem.HandSPX.excO C hp.objs.size), g, dr, tk, os⟩ (Value.ref a :: us) I2.kIn (by rw [List.append_nil]; exact hl)
    rw [List.append_nil] at z
    exact z
  have go := F1.run _ X.stack _ _ ⟨Value.ref a :: us, []⟩ (Value.ref a :: us) _ _ E0 (hr.make C us []) (I2.env0.make C us []) bd r2 hq
  refine wpAny_call (PySem.HandSPX.call_own F.excBase_ValueError (fun Y => PySem.HandSPX.refsVE_contains Y bm hbm) (I.kIn _ _ hC) (PySem.W.looks_findIn I.kIn iC) (fun self => PySem.W.bind_fn I.kIn self tI) hus ?_)
  rw [ea]
  refine codeAny_mono go fun r s' hq' => ?_
  cases r with
  | error er => exact hx pins σ _ _ er s' I2 hq'
  | ok fl =>
    cases fl with
    | ret u =>
      obtain ⟨v, H2, J, rv, ev, q2⟩ := I2.after (show CE _ _ _ _ _ _ u s' from hq')
      subst ev
      exact ⟨rv, .ref a, H2, J, rfl, q2⟩
    | next => exact False.elim hq'
    | brk => exact False.elim hq'
    | cont => exact False.elim hq'

/-- C(e, ..) kept as a value -/
def tHold (C : Addr) (sp : Sp) (ta : TA) : TE := fun σ H Q => ta σ H fun vs H1 => vs.length ≤ 1000 ∧ ∀ a, H1 a = none → sp (.ref a :: vs) (upd H1 a (exo a C none)) (fun v H2 => v = .non ∧ Q (.ref a) H2) E0
theorem pe_hold (T : OexC X.K C) (iC : PySem.W.findIn X.K (.ref C) "__init__" = some (some (.ref fI))) (tI : PySem.W.typeIn X.K (.ref fI) = some (.type "function"))
    (F1 : FnOk X.prog X.w X.K X.mg X.base CX k fI fd ps sp) (hr : Room (k + 1) X.A) (hb : Binds X.K fd ps []) (hx : Passes CX X E0) (hg : Gl X x) (hm : X.mg x = some (.ref C)) (ha : PA X (e :: es) ta)
    (hdb : (x == ("__debug__" : Str)) = false := by decide) (he : starEach (e :: es) X.env = (false, eval e X.env) :: starEach es X.env := by rfl) (hpl : (backTo pos (starEach es X.env)).any (·.1) = false := by rfl) :
    PE X (.Call (.Name x p) (e :: es) [] pos) (tHold C sp ta) := by
  refine ⟨fun pins s σ H Q I h => wpAny_Call_Name_kw (ld_glob I hg hm ?_ hdb)⟩
  refine PySem.W.callWith_K (h₀ := X.base) I.ok.mod.kin T.kC (thn (ha.run pos pins s σ H _ I h) fun us s1 ⟨vs, H1, I1, r1, hz, q1⟩ => ?_) he hpl
  exact ⟨I1.kIn, hold_call T iC tI F1 hr hb hx I1 r1 hz q1⟩
/-- C() -/
theorem pe_hold0 (T : OexC X.K C) (iC : PySem.W.findIn X.K (.ref C) "__init__" = some (some (.ref fI))) (tI : PySem.W.typeIn X.K (.ref fI) = some (.type "function"))
    (F1 : FnOk X.prog X.w X.K X.mg X.base CX k fI fd ps sp) (hr : Room (k + 1) X.A) (hb : Binds X.K fd ps []) (hx : Passes CX X E0) (hg : Gl X x) (hm : X.mg x = some (.ref C))
    (hdb : (x == ("__debug__" : Str)) = false := by decide) :
    PE X (.Call (.Name x p) [] [] pos) (tHold C sp tNil) := by
  refine ⟨fun pins s σ H Q I h => wpAny_Call_Name_kw (ld_glob I hg hm ?_ hdb)⟩
  obtain ⟨hz, q1⟩ := h
  exact PySem.W.callWith_K0 I.kIn T.kC (hold_call T iC tI F1 hr hb hx I (us := []) .nil hz q1)
end
end Kx

set_option maxRecDepth 100000
set_option maxHeartbeats 4000000
namespace Kx
open PySem PySem.Spec PyProof.Rows L2 He

/-- the class at C, by its object alone: over ValueError, its own chain, a dict for its instances -/
def shapeB (K : PySem.W.Frag) (C Kin : Addr) : Bool :=
  match K.lookup C with
  | some ⟨c, _, .cls cd, sl⟩ =>
    (match cd.mro, sl.toList with
      | a :: bm, [_, _, _, _, some (.builtin n), _] => (c == .type "type") && ((a == .ref C) && ((n == "ValueError.__new__") && (cd.hasDict && ((!cd.hasDel) && (bm == .ref Kin :: veBase)))))
      | _, _ => false)
  | _ => false

theorem shapeB_ok {K : PySem.W.Frag} {C Kin : Addr} (h : shapeB K C Kin = true) :
    ∃ nm q N bs sn sub ab col dd k0 k1 k2 k3 k5, K.lookup C = some (excClassObj nm q C N bs (.ref Kin :: veBase) true sn sub ab col dd k0 k1 k2 k3 k5 "ValueError.__new__") := by
  unfold shapeB at h
  split at h
  · rename_i c dd cd sl ho
    split at h
    · rename_i a bm k0 k1 k2 k3 n k5 hm hs
      simp only [Bool.and_eq_true, beq_iff_eq, Bool.not_eq_true'] at h
      obtain ⟨rfl, rfl, rfl, hd, hdel, rfl⟩ := h
      obtain ⟨nm, bs, mro, ns, qn, hdct, sn, sub, ab, col, del⟩ := cd
      dsimp only at hm hdel hd
      subst hm hdel hd
      obtain ⟨l⟩ := sl
      have e : l = [k0, k1, k2, k3, some (.builtin "ValueError.__new__"), k5] := hs
      subst e
      exact ⟨_, _, _, _, _, _, _, _, _, _, _, _, _, _, ho⟩
    · cases h
  · cases h

/-- one error class of the text: its name, the parameters of its own __init__ -/
structure ErrD where
  name : Str
  ps : List Str

/-- all that is asked of such a class -/
def ErrD.ok (K : PySem.W.Frag) (Kin : Addr) (d : ErrD) : Bool :=
  shapeB K (ga K d.name) Kin && (xfB K (ga K d.name)
    && (eqO (PySem.W.findIn K (.ref (ga K d.name)) "__setattr__") (some (some (.builtin "object.__setattr__")))
    && (decide (PySem.W.typeIn K (.ref (ga K d.name)) = some (.type "type"))
    && (PySem.W.keepIn K (.ref (ga K d.name))
    && (eqO (PySem.W.findIn K (.ref (ga K d.name)) "__class__") (some (some (.builtin "object.__class__")))
    && (eqO (PySem.W.findIn K (.ref (ga K d.name)) "__init__") (some (some (.ref (ma K (ga K d.name) "__init__"))))
    && (decide (PySem.W.typeIn K (.ref (ma K (ga K d.name) "__init__")) = some (.type "function"))
    && d.ps.all fun p => eqO (PySem.W.findIn K (.ref (ga K d.name)) p) (some none))))))))

/-- the same, said -/
structure ErrOk (K : PySem.W.Frag) (Kin : Addr) (d : ErrD) : Prop where
  oex : OexC K (ga K d.name)
  held : HeldC K (ga K d.name)
  ini : PySem.W.findIn K (.ref (ga K d.name)) "__init__" = some (some (.ref (ma K (ga K d.name) "__init__")))
  inT : PySem.W.typeIn K (.ref (ma K (ga K d.name) "__init__")) = some (.type "function")
  no : ∀ p ∈ d.ps, PySem.W.findIn K (.ref (ga K d.name)) p = some none
  mro : ∃ cd, PySem.W.clsIn K (ga K d.name) = some cd ∧ cd.mro = .ref (ga K d.name) :: .ref Kin :: veBase

theorem refsVE_kin {Kin : Addr} : PySem.HandSPX.refsVE (.ref Kin :: veBase) = true := by
  show PySem.HandSPX.refsVE veBase = true
  decide +kernel
theorem ErrD.ok_ok {K : PySem.W.Frag} {Kin : Addr} {d : ErrD} (h : d.ok K Kin = true) : ErrOk K Kin d := by
  obtain ⟨h1, h⟩ := ba h
  obtain ⟨h2, h⟩ := ba h
  obtain ⟨h3, h⟩ := ba h
  obtain ⟨h4, h⟩ := ba h
  obtain ⟨h5, h⟩ := ba h
  obtain ⟨h6, h⟩ := ba h
  obtain ⟨h7, h⟩ := ba h
  obtain ⟨h8, h9⟩ := ba h
  obtain ⟨nm, q, N, bs, sn, sub, ab, col, dd, k0, k1, k2, k3, k5, hC⟩ := shapeB_ok h1
  have hcl : PySem.W.clsIn K (ga K d.name) = some { name := nm, bases := bs, mro := .ref (ga K d.name) :: .ref Kin :: veBase, ns := N, qualname := q, hasDict := true, slotNames := sn, subclasses := sub, abstract := ab, collection := col, hasDel := false } := by
    unfold PySem.W.clsIn
    rw [hC]
    all_goals rfl
  have X := xfB_ok h2
  refine ⟨⟨⟨nm, q, N, bs, _, sn, sub, ab, col, dd, k0, k1, k2, k3, k5, hC, refsVE_kin⟩, eqO_ok h3, X.exC, of_decide_eq_true h4, h5⟩, ⟨X, by rw [hcl]; rfl, eqO_ok h6, ?_⟩, eqO_ok h7, of_decide_eq_true h8, fun p hp => eqO_ok (List.all_eq_true.mp h9 p hp), ⟨_, hcl, rfl⟩⟩
  unfold PySem.W.mroIn
  rw [hcl]
  show (if ((Value.ref (ga K d.name) :: .ref Kin :: veBase).isEmpty) = true then none else some ((Value.ref (ga K d.name) :: .ref Kin :: veBase).contains (.type "object"))) = some true
  rw [if_neg (by exact Bool.false_ne_true)]
  have e : (Value.ref (ga K d.name) :: .ref Kin :: veBase).contains (.type "object") = veBase.contains (.type "object") := rfl
  rw [e]
  exact congrArg some (by decide +kernel)

/-- isinstance of one of them against another -/
theorem kit_err {K : PySem.W.Frag} {Kin C D : Addr} {cd cd' : ClassData} (hC : PySem.W.clsIn K C = some cd) (mC : cd.mro = .ref C :: .ref Kin :: veBase) (hD : PySem.W.clsIn K D = some cd') (tD : PySem.W.typeIn K (.ref D) = some (.type "type")) :
    PySem.W.kitOne K (.ref C) (.ref D) = some (decide (C = D) || decide (Kin = D)) := by
  unfold PySem.W.kitOne
  by_cases e : C = D
  · subst e
    have e1 : ((Value.ref C) == (Value.ref C)) = true := beq_iff_eq.mpr rfl
    rw [if_pos e1]
    simp
  · have e1 : ¬ ((Value.ref C) == (Value.ref D)) = true := fun z => e (Value.ref.inj (beq_iff_eq.mp z))
    rw [if_neg e1]
    show (if ((PySem.W.clsIn K D).isSome && PySem.W.typeIn K (.ref D) == some (.type "type")) = true then PySem.W.subIn K (.ref C) (.ref D) else none) = _
    have e2 : ((PySem.W.clsIn K D).isSome && PySem.W.typeIn K (.ref D) == some (.type "type")) = true := by
      rw [hD, tD] <;> rfl
    rw [if_pos e2]
    show PySem.W.mroIn K C (.ref D) = _
    unfold PySem.W.mroIn
    rw [hC]
    show (if cd.mro.isEmpty = true then none else some (cd.mro.contains (.ref D))) = _
    rw [mC]
    show (if (List.isEmpty (Value.ref C :: .ref Kin :: veBase)) = true then none else some ((Value.ref C :: .ref Kin :: veBase).contains (.ref D))) = _
    rw [if_neg (by exact Bool.false_ne_true)]
    have tail : veBase.contains (Value.ref D) = false := by
      show ([Value.type "ValueError", .type "Exception", .type "BaseException", .type "object"] : List Value).contains (Value.ref D) = false
      rfl
    have d1 : decide (C = D) = false := decide_eq_false e
    rw [d1, Bool.false_or, List.contains_cons, List.contains_cons, tail, Bool.or_false]
    have b1 : (Value.ref D == Value.ref C) = false := beq_eq_false_iff_ne.mpr fun z => e (Value.ref.inj z).symm
    rw [b1, Bool.false_or]
    congr 1
    by_cases k : Kin = D
    · subst k
      rw [decide_eq_true rfl]
      exact beq_iff_eq.mpr rfl
    · rw [decide_eq_false k]
      exact beq_eq_false_iff_ne.mpr fun z => k (Value.ref.inj z).symm
/-- and against ValueError -/
theorem kit_val {K : PySem.W.Frag} {Kin C : Addr} {cd : ClassData} (hC : PySem.W.clsIn K C = some cd) (mC : cd.mro = .ref C :: .ref Kin :: veBase) : PySem.W.kitOne K (.ref C) (.type "ValueError") = some true := by
  unfold PySem.W.kitOne
  have e1 : ¬ ((Value.ref C) == (Value.type "ValueError")) = true := fun z => by
    have q := beq_iff_eq.mp z
    cases q
  rw [if_neg e1]
  show (if PySem.W.kitMeta "ValueError" = true then PySem.W.subIn K (.ref C) (.type "ValueError") else none) = _
  rw [if_pos (by decide +kernel)]
  show PySem.W.mroIn K C (.type "ValueError") = _
  unfold PySem.W.mroIn
  rw [hC]
  show (if cd.mro.isEmpty = true then none else some (cd.mro.contains (.type "ValueError"))) = _
  rw [mC]
  show (if (List.isEmpty (Value.ref C :: .ref Kin :: veBase)) = true then none else some ((Value.ref C :: .ref Kin :: veBase).contains (.type "ValueError"))) = _
  rw [if_neg (by exact Bool.false_ne_true)]
  have e : (Value.ref C :: .ref Kin :: veBase).contains (.type "ValueError") = veBase.contains (.type "ValueError") := rfl
  rw [e]
  exact congrArg some (by decide +kernel)

/-! ### the head's look: facts, defs, and one Bool more -/
abbrev AlK : Type := AlD × Bool
def obsK (fa : List Fa) (fn : List DefD) (ex : PySem.W.Frag → Bool) (K : PySem.W.Frag) : AlK := (obsD fa fn K, ex K)
/-- what an object leads on to: a def's code, a class's own names, a dict's values -/
def refK (o : Obj) : List Addr :=
  match o.data with
  | .func fd => refV fd.code ++ refV fd.defaults
  | .cls cd => [cd.ns]
  | .dict es _ => es.toList.flatMap fun e => refV e.val
  | _ => []
def stepK (g : Addr → Option Obj) (as : List Addr) : List Addr := as.flatMap fun a =>
  match g a with
  | some o => refK o
  | none => []
/-- the module's names, what they stand for, the classes' names, the methods, their codes: level by level -/
def lvK (g : Addr → Option Obj) : Nat → List Addr → List Addr
  | 0, as => as
  | n + 1, as => as ++ lvK g n (stepK g as)
def frK (g : Addr → Option Obj) : PySem.W.Frag := frG g (lvK g 4 [mainGlobals])
def obsKG (fa : List Fa) (fn : List DefD) (ex : PySem.W.Frag → Bool) (g : Addr → Option Obj) : AlK := obsK fa fn ex (frK g)
structure SaysK (fa : List Fa) (fn : List DefD) (ex : PySem.W.Frag → Bool) (K : PySem.W.Frag) : Prop where
  d : SaysD fa fn K
  x : ex K = true
def hookK (fa : List Fa) (fn : List DefD) (ex : PySem.W.Frag → Bool) : PySem.W.Hook where
  α := AlK
  obs s := obsKG fa fn ex s.heap.get?
  val _ := (valD fn, true)
  says _ h := ∃ K : PySem.W.Frag, K.In h ∧ SaysK fa fn ex K
  of := fun _ _ e => ⟨_, frG_in, ⟨congrArg (fun z : AlK => z.1) e, congrArg (fun z : AlK => z.2) e⟩⟩
  keeps := fun _ _ _ ⟨K, hK, c⟩ k => ⟨K, hK.keeps k, c⟩
theorem obsKG_eq {fa : List Fa} {fn : List DefD} {ex : PySem.W.Frag → Bool} {g : Addr → Option Obj} {s : Shared} (h : ∀ a, g a = s.heap.get? a) : obsKG fa fn ex g = (hookK fa fn ex).obs s := by
  have e : g = s.heap.get? := funext h
  subst e
  rfl
end Kx

set_option maxRecDepth 100000
set_option maxHeartbeats 4000000
namespace Kx
open PySem PySem.Spec PyProof.Rows L2 He
/-! ### the head's look, with the defs that read properties -/
/-- the def behind a property: the first of the property's own record -/
def gtA (K : PySem.W.Frag) (p : Str × Option Str) : Addr := match PySem.W.recIn K (fAd K p) "property" with
  | some (.ref g :: _) => g
  | _ => 0
def fdAt (K : PySem.W.Frag) (a : Addr) : Option FuncData := (K.lookup a).bind fun o => match o.data with
  | .func fd => some fd
  | _ => none
def gtW (K : PySem.W.Frag) (d : DefD) : FnW := (fdAt K (gtA K d.at_)).map fun fd => (fd.name, fd.qualname, fd.params, fd.body, fd.scope, fd.globals, fd.closure, fd.builtins)
def gtC (K : PySem.W.Frag) (d : DefD) : Bool := match fdAt K (gtA K d.at_) with
  | some fd => PySem.W.codeIn K fd.code d.qual && dflB K fd.defaults []
  | none => false
def gtR (K : PySem.W.Frag) (d : DefD) : Bool := match PySem.W.recIn K (fAd K d.at_) "property" with
  | some (.ref _ :: _) => true
  | _ => false
def gtB (K : PySem.W.Frag) (d : DefD) : Bool := PySem.W.keepIn K (.ref (gtA K d.at_)) && (gtC K d && (gtR K d && (eqO (PySem.W.findIn K (.ref (ga K d.at_.1)) d.name) (some (some (.ref (fAd K d.at_))))
  && (eqO (PySem.W.specialIn K (.ref (fAd K d.at_)) "__get__") (some (some (.builtin "property.__get__"))) && decide (PySem.W.takesIn K (.ref (fAd K d.at_)) = some true)))))
theorem gt_fun {K : PySem.W.Frag} {d : DefD} (e : gtW K d = d.val) (c : gtB K d = true) : ∃ fd, FunD K d.name d.qual d.params d.body d.scope [] [] (gtA K d.at_) fd := by
  obtain ⟨kp, c⟩ := ba c
  have c2 := (ba c).1
  unfold gtC at c2
  unfold gtW at e
  cases q : fdAt K (gtA K d.at_) with
  | none =>
    rw [q] at c2
    cases c2
  | some fd =>
    rw [q] at c2 e
    obtain ⟨k1, k2⟩ := ba c2
    obtain ⟨n1, n2, n3, n4, n5, n6, n7, n8, n9, n10, n11, n12, n13, n14, n15⟩ := fd
    have e2 : (some (n1, n2, n3, n4, n5, n6, n7, n15) : FnW) = some (d.name, d.qual, d.params, .stmts d.body, d.scope, mainGlobals, [], builtinsNs) := e
    simp only [Option.some.injEq, Prod.mk.injEq] at e2
    obtain ⟨h1, h2, h3, h4, h5, h6, h7, h8⟩ := e2
    subst h1 h2 h3 h4 h5 h6 h7 h8
    obtain ⟨o, ho, hd⟩ := Option.bind_eq_some_iff.mp q
    obtain ⟨oc, od, dt, osl⟩ := o
    cases dt with
    | func f2 =>
      have e3 : f2 = _ := Option.some.inj hd
      subst e3
      exact ⟨_, ⟨oc, od, n8, n9, n10, n11, n12, n13, n14, osl, rfl, ho, k1, dflB_ok k2, .inl rfl⟩, kp⟩
    | _ => cases hd
theorem gt_prop {K : PySem.W.Frag} {d : DefD} (c : gtB K d = true) : PropOf K (ga K d.at_.1) d.name (fAd K d.at_) (gtA K d.at_) := by
  obtain ⟨_, c⟩ := ba c
  obtain ⟨_, c⟩ := ba c
  obtain ⟨c3, c⟩ := ba c
  obtain ⟨c4, c⟩ := ba c
  obtain ⟨c5, c6⟩ := ba c
  refine ⟨eqO_ok c4, eqO_ok c5, of_decide_eq_true c6, ?_⟩
  unfold gtR at c3
  unfold gtA
  split at c3
  · rename_i g rest q
    rw [q]
    exact ⟨rest, rfl⟩
  · cases c3
/-- what an object leads on to: a property's getter too -/
def refP (o : Obj) : List Addr :=
  match o.data with
  | .fields vs => if o.cls == .type "property" then vs.toList.flatMap refV else []
  | _ => refK o
def stepP (g : Addr → Option Obj) (as : List Addr) : List Addr := as.flatMap fun a =>
  match g a with
  | some o => refP o
  | none => []
def lvP (g : Addr → Option Obj) : Nat → List Addr → List Addr
  | 0, as => as
  | n + 1, as => as ++ lvP g n (stepP g as)
def frP (g : Addr → Option Obj) : PySem.W.Frag := frG g (lvP g 5 [mainGlobals])
abbrev AlP : Type := AlK × List FnW
def valP (fn pr : List DefD) : AlP := ((valD fn, true), pr.map DefD.val)
def obsP (fa : List Fa) (fn pr : List DefD) (ex : PySem.W.Frag → Bool) (g : Addr → Option Obj) : AlP := ((obsD fa fn (frP g), ex (frP g) && pr.all fun d => gtB (frP g) d), pr.map fun d => gtW (frP g) d)
structure SaysP (fa : List Fa) (fn pr : List DefD) (ex : PySem.W.Frag → Bool) (K : PySem.W.Frag) : Prop where
  d : SaysD fa fn K
  x : ex K = true
  b : (pr.all fun d => gtB K d) = true
  p : (pr.map fun d => gtW K d) = pr.map DefD.val
def hookP (fa : List Fa) (fn pr : List DefD) (ex : PySem.W.Frag → Bool) : PySem.W.Hook where
  α := AlP
  obs s := obsP fa fn pr ex s.heap.get?
  val _ := valP fn pr
  says _ h := ∃ K : PySem.W.Frag, K.In h ∧ SaysP fa fn pr ex K
  of := fun _ s e => by
    have e1 : obsD fa fn (frP s.heap.get?) = valD fn := congrArg (fun z : AlP => z.1.1) e
    have e2 : (ex (frP s.heap.get?) && pr.all fun d => gtB (frP s.heap.get?) d) = true := congrArg (fun z : AlP => z.1.2) e
    obtain ⟨h1, h2⟩ := ba e2
    exact ⟨_, frG_in, ⟨e1, h1, h2, congrArg (fun z : AlP => z.2) e⟩⟩
  keeps := fun _ _ _ ⟨K, hK, c⟩ k => ⟨K, hK.keeps k, c⟩
theorem obsP_eq {fa : List Fa} {fn pr : List DefD} {ex : PySem.W.Frag → Bool} {g : Addr → Option Obj} {s : Shared} (h : ∀ a, g a = s.heap.get? a) : obsP fa fn pr ex g = (hookP fa fn pr ex).obs s := by
  have e : g = s.heap.get? := funext h
  subst e
  rfl
section
variable {fa : List Fa} {fn pr : List DefD} {ex : PySem.W.Frag → Bool} {K : PySem.W.Frag}
theorem SaysP.get (c : SaysP fa fn pr ex K) (i : Nat) {d : DefD} (h : pr[i]? = some d := by rfl) : ∃ fd, FunD K d.name d.qual d.params d.body d.scope [] [] (gtA K d.at_) fd := by
  have e2 : (pr.map fun d => gtW K d)[i]? = (pr.map DefD.val)[i]? := by rw [c.p]
  rw [List.getElem?_map, List.getElem?_map, h] at e2
  exact gt_fun (Option.some.inj e2) (List.all_eq_true.mp c.b d (List.mem_of_getElem? h))
theorem SaysP.prop (c : SaysP fa fn pr ex K) (i : Nat) {d : DefD} (h : pr[i]? = some d := by rfl) : PropOf K (ga K d.at_.1) d.name (fAd K d.at_) (gtA K d.at_) :=
  gt_prop (List.all_eq_true.mp c.b d (List.mem_of_getElem? h))
end
end Kx

set_option maxRecDepth 100000
set_option maxHeartbeats 0
namespace K83
open PySem PySem.Spec PyProof.Rows L2 He Kx
def errs : List ErrD := [⟨"BadWorld", ["index", "what"]⟩, ⟨"TooMany", ["count"]⟩, ⟨"NoClass", ["cls"]⟩, ⟨"BadLink", ["index"]⟩, ⟨"NoLink", ["cls", "base"]⟩, ⟨"BadWay", ["index"]⟩]
def dM (i j : Nat) (x m qn : Str) : DefD := ⟨(x, some m), m, qn, defArgs (inClass (top i) j), defBody (inClass (top i) j), defScope (inClass (top i) j), [], []⟩
def dMd (i j : Nat) (x m qn : Str) (dv : List Dv) : DefD := ⟨(x, some m), m, qn, defArgs (inClass (top i) j), defBody (inClass (top i) j), defScope (inClass (top i) j), dv, []⟩
def dF (i : Nat) (x : Str) (dv : List Dv) : DefD := ⟨(x, none), x, x, defArgs (top i), defBody (top i), defScope (top i), dv, []⟩
def pr : List DefD := [dM 17 1 "Links" "all_links" "Links.all_links"]
def fn : List DefD := [dF 10 "is_sequence" [],
  dF 11 "is_whole" [.non, .non],
  dF 12 "is_unlike_row" [],
  dF 13 "is_whole_couple" [],
  dF 15 "check_class" [],
  dF 18 "is_link_of" [],
  dF 19 "check_way" [],
  dF 20 "cut_way" [],
  dF 24 "laid_cells" [],
  dF 25 "lay_block" [],
  dF 26 "parts_of" [],
  dF 27 "copies_of" [],
  dF 34 "entry_fault" [],
  dF 35 "elder_rows" [],
  dF 36 "heir_rows" [],
  dF 39 "ways_agree" [],
  dF 40 "check_room" [],
  dF 41 "one_part" [],
  dF 43 "_law_hand" [],
  dF 44 "_law_mixed" [],
  dF 45 "_law_take" [],
  dF 46 "_law_bases" [],
  dF 47 "_law_methods" [],
  dF 48 "_law_shape" [],
  dF 49 "_law_classes" [],
  dF 50 "_law_elders" [],
  dF 51 "_law_row" [],
  dF 52 "_law_deep" [],
  dF 53 "_law_seq" [],
  dF 54 "_law_dense" [],
  dF 55 "_law_net" [],
  dF 56 "_law_pairs" [],
  dF 57 "_law_some" [],
  dF 58 "_law_mixedup" [],
  dF 59 "_law_given" [],
  dF 60 "_law_ways" [],
  dF 61 "_law_ways_to" [],
  dF 62 "_law_cut" [],
  dF 63 "_law_named" [],
  dF 64 "_law_copies" [],
  dF 65 "_law_stranger" [],
  dF 66 "_law_alike" [],
  dF 67 "_law_newclass" [],
  dF 68 "_law_wide" [],
  dF 69 "_law_asked" [],
  dF 70 "_law_several_right" [],
  dF 71 "_law_kept" [],
  dF 72 "_law_for_ever" [],
  dF 73 "law" [],
  dM 3 0 "BadWorld" "__init__" "BadWorld.__init__",
  dM 4 0 "TooMany" "__init__" "TooMany.__init__",
  dM 5 0 "NoClass" "__init__" "NoClass.__init__",
  dM 6 0 "BadLink" "__init__" "BadLink.__init__",
  dM 7 0 "NoLink" "__init__" "NoLink.__init__",
  dM 8 0 "BadWay" "__init__" "BadWay.__init__",
  dMd 17 0 "Links" "__init__" "Links.__init__" [.adr (dflAt ("Links", some "__init__") 0)],
  dM 17 2 "Links" "is_shared" "Links.is_shared",
  dMd 17 4 "Links" "with_class" "Links.with_class" [.adr (dflAt ("Links", some "with_class") 0)],
  dM 17 5 "Links" "__eq__" "Links.__eq__",
  dM 23 0 "Part" "__init__" "Part.__init__",
  dM 33 0 "World" "__init__" "World.__init__",
  dM 33 2 "World" "with_class" "World.with_class",
  dM 33 6 "World" "__len__" "World.__len__",
  dM 33 7 "World" "__iter__" "World.__iter__",
  dM 33 8 "World" "__eq__" "World.__eq__",
  dM 38 0 "Several" "__init__" "Several.__init__"]
def fa : List Fa := [.free "len",
  .free "int",
  .free "abs",
  .free "isinstance",
  .free "range",
  .free "set",
  .free "sorted",
  .free "enumerate",
  .free "tuple",
  .free "list",
  .free "bool",
  .free "str",
  .free "max",
  .free "min",
  .free "all",
  .free "any",
  .free "repr",
  .free "ValueError",
  .str "HEAD" "head",
  .int "MOST_CLASSES" 12,
  .int "MOST_FIELDS" 3,
  .int "MOST_METHODS" 3,
  .int "METHOD_NAMES" 6,
  .glo "is_sequence",
  .glo "is_whole",
  .glo "is_unlike_row",
  .glo "is_whole_couple",
  .glo "check_class",
  .glo "is_link_of",
  .glo "check_way",
  .glo "cut_way",
  .glo "laid_cells",
  .glo "lay_block",
  .glo "parts_of",
  .glo "copies_of",
  .glo "entry_fault",
  .glo "elder_rows",
  .glo "heir_rows",
  .glo "ways_agree",
  .glo "check_room",
  .glo "one_part",
  .glo "_law_hand",
  .glo "_law_mixed",
  .glo "_law_take",
  .glo "_law_bases",
  .glo "_law_methods",
  .glo "_law_shape",
  .glo "_law_classes",
  .glo "_law_elders",
  .glo "_law_row",
  .glo "_law_deep",
  .glo "_law_seq",
  .glo "_law_dense",
  .glo "_law_net",
  .glo "_law_pairs",
  .glo "_law_some",
  .glo "_law_mixedup",
  .glo "_law_given",
  .glo "_law_ways",
  .glo "_law_ways_to",
  .glo "_law_cut",
  .glo "_law_named",
  .glo "_law_copies",
  .glo "_law_stranger",
  .glo "_law_alike",
  .glo "_law_newclass",
  .glo "_law_wide",
  .glo "_law_asked",
  .glo "_law_several_right",
  .glo "_law_kept",
  .glo "_law_for_ever",
  .glo "law",
  .glo "KinError",
  .glo "BadWorld",
  .exm "BadWorld" "BadWorld" true,
  .glo "TooMany",
  .exm "TooMany" "TooMany" true,
  .glo "NoClass",
  .exm "NoClass" "NoClass" true,
  .glo "BadLink",
  .exm "BadLink" "BadLink" true,
  .glo "NoLink",
  .exm "NoLink" "NoLink" true,
  .glo "BadWay",
  .exm "BadWay" "BadWay" true,
  .exm "TooMany" "NoClass" false,
  .glo "Links",
  .cls "Links",
  .mkr "Links",
  .noat "Links" "world",
  .noat "Links" "shared",
  .meth "Links" "is_shared",
  .meth "Links" "with_class",
  .meth "Links" "__eq__",
  .glo "Part",
  .cls "Part",
  .mkr "Part",
  .noat "Part" "way",
  .noat "Part" "place",
  .glo "World",
  .cls "World",
  .mkr "World",
  .noat "World" "classes",
  .noat "World" "bases",
  .noat "World" "owns",
  .noat "World" "methods",
  .noat "World" "elders",
  .noat "World" "heirs",
  .meth "World" "with_class",
  .meth "World" "__len__",
  .meth "World" "__iter__",
  .meth "World" "__eq__",
  .glo "Several",
  .cls "Several",
  .mkr "Several",
  .noat "Several" "links",
  .noat "Several" "first",
  .noat "Several" "second"]
def exA (K : PySem.W.Frag) : Bool := errs.all fun d => d.ok K (ga K "KinError")
def exC (K : PySem.W.Frag) : Bool := ((eqO (PySem.W.findIn K (.ref (ga K "Several")) "__class__") (some (some (.builtin "object.__class__"))) && decide (PySem.W.mroIn K (ga K "Several") (.type "object") = some true)) && ((eqO (PySem.W.findIn K (.ref (ga K "World")) "__class__") (some (some (.builtin "object.__class__"))) && decide (PySem.W.mroIn K (ga K "World") (.type "object") = some true)) && ((eqO (PySem.W.findIn K (.ref (ga K "Links")) "__class__") (some (some (.builtin "object.__class__"))) && decide (PySem.W.mroIn K (ga K "Links") (.type "object") = some true)) && (decide (PySem.W.specialIn K (.builtin "object.__class__") "__get__" = some (some (.builtin "getset_descriptor.__get__"))) && decide (PySem.W.takesIn K (.builtin "object.__class__") = some true)))))
def ex (K : PySem.W.Frag) : Bool := exA K && exC K
def loose0 : List PySem.Str := ["_wall", "KinError", "BadWorld", "TooMany", "NoClass", "BadLink", "NoLink", "BadWay", "is_sequence", "is_whole", "is_unlike_row", "is_whole_couple", "check_class", "Links", "is_link_of", "check_way", "cut_way", "HEAD", "Part", "laid_cells", "lay_block", "parts_of", "copies_of", "MOST_CLASSES"]
def loose1 : List PySem.Str := ["MOST_FIELDS", "MOST_METHODS", "METHOD_NAMES", "World", "entry_fault", "elder_rows", "heir_rows", "Several", "ways_agree", "check_room", "one_part", "_law_hand", "_law_mixed", "_law_take", "_law_bases", "_law_methods", "_law_shape", "_law_classes", "_law_elders", "_law_row", "_law_deep", "_law_seq", "_law_dense", "_law_net"]
def loose2 : List PySem.Str := ["_law_pairs", "_law_some", "_law_mixedup", "_law_given", "_law_ways", "_law_ways_to", "_law_cut", "_law_named", "_law_copies", "_law_stranger", "_law_alike", "_law_newclass", "_law_wide", "_law_asked", "_law_several_right", "_law_kept", "_law_for_ever"]
def loose : List PySem.Str := loose0 ++ loose1 ++ loose2
abbrev R : PySem.W.OpenRow := PySem.W.OpenLaw.row PySem.Challenge.rw_headamid_k83_whole_one_part_for_all_heir
abbrev hk : PySem.W.Hook := hookP fa fn pr ex
def ob (s : PySem.W.SharedT) : AlP := obsP fa fn pr ex (HandSHeadRun.getT s)
theorem ob_eq (s : PySem.W.SharedT) : ob s = hk.obs s.abs := obsP_eq (HandSHeadRun.getT_eq s)
noncomputable def endO (w : World) (os : OsState) : Option PySem.W.SharedT := HandSHeadRun.endF (HandSHeadRun.stepQ (HandSHeadRun.denQ HandSHeadRun.tabQ) R.prog w) 40000 R.prog w os
def fr (s : PySem.W.SharedT) : PySem.W.Frag := frP (HandSHeadRun.getT s)
open PySem.W PySem.Calls in
theorem run1 (w : World) (os : OsState) : (endO w os).map (fun s => (HandSHeadRun.looksF R.prog (boot_heap w.params) s.abs, HandSHeadRun.seenQ (PySem.W.view R.prog [73]) loose (importedModules R.prog.main.body) (fun s => PySem.W.xlAt (PySem.W.view R.prog [73]) [] s && PySem.W.recOk R.toRowW.records s) s.abs)) = some (true, PySem.W.openGood (PySem.W.view R.prog [73]) loose) := by
  kernel_rfl
theorem run2 (w : World) (os : OsState) : (endO w os).map (fun s => obsD fa fn (fr s)) = some (valD fn) := by
  kernel_rfl
theorem run3 (w : World) (os : OsState) : (endO w os).map (fun s => ex (fr s) && pr.all fun d => gtB (fr s) d) = some true := by
  kernel_rfl
theorem run4 (w : World) (os : OsState) : (endO w os).map (fun s => pr.map fun d => gtW (fr s) d) = some (pr.map DefD.val) := by
  kernel_rfl
theorem run (w : World) : HandSHeadRun.RunEq R (PySem.W.view R.prog [73]) hk ob 40000 loose w := by
  intro os
  have h1 := run1 w os
  have h2 := run2 w os
  have h3 := run3 w os
  have h4 := run4 w os
  show (endO w os).map _ = _
  cases e : endO w os with
  | none =>
    rw [e] at h1
    cases h1
  | some s =>
    rw [e] at h1 h2 h3 h4
    obtain ⟨a1, a2⟩ := Prod.mk.inj (Option.some.inj h1)
    have b2 : obsD fa fn (fr s) = valD fn := Option.some.inj h2
    have b3 : (ex (fr s) && pr.all fun d => gtB (fr s) d) = true := Option.some.inj h3
    have b : ob s = valP fn pr := Prod.ext (Prod.ext b2 b3) (Option.some.inj h4)
    exact congrArg some (Prod.ext a1 (Prod.ext a2 b))
end K83

set_option maxRecDepth 100000
set_option maxHeartbeats 8000000
namespace Kw
open PySem PySem.Spec PyProof.Rows L2
/-- a law whose def prints: it is run at the one place from which it is called -/
theorem walk_here {l : PySem.W.OpenLaw} {n : Nat} {q : Program} {loose : List Str} {XP : (Str → Option Value) → Heap → Prop} {YP : World → Heap → Prop} {d : DefRec} {CX : CXT}
    (hn : l.most = some n) (hn2 : n ≤ sizeLine) (hdf : d.params.defaults = [])
    (F : ∀ (w : World) (mg : Str → Option Value) (fa : Addr) (h : Heap), YP w h → h.Ns mainGlobals mg → mg d.name = some (.ref fa) →
      ∃ K : PySem.W.Frag, K.In h ∧ ∀ (base : Heap) (H : Hp) (s : Shared) (a : Addr) (ns : List Int), K.In base → base.Ns mainGlobals mg → ns.length ≤ n → Env0 l.prog w K mg base callerA [] s H → SqL K H a (ns.map V.int) →
        codeAny (model l.prog w) callerA (.call (.ref fa) ⟨[.ref a], []⟩) (CR CX [] l.prog w H s (fun v _ => v = .bl true) (fun _ _ _ => False)) s)
    (hCX : ∀ (H : Hp) (s : Shared) (e : Value) (s' : Shared), CX [] H s (fun _ _ _ => False) e s' → False) :
    PySem.W.WalkO q loose XP YP l.row.toRowW d [] (fun f vs => PySem.call f vs) := by
  refine Att.attach_call hn hdf fun w s₀ s₁ mg mb fa o pm cd doc a vs ns G Y ho hd hcd hmg hobj hints hlen hg => ?_
  obtain ⟨K, KX, hF⟩ := F w mg fa _ Y G.T.g hmg
  exact call_here KX G.T.g G.T.b G.T.builtins G.T.nolimit hg hobj hints (Nat.le_trans hlen hn2) (fun H e s' => hCX H s₁ e s') fun base H hb hbn e0 hS => hF base H s₁ a ns hb hbn hlen e0 hS
end Kw

set_option maxRecDepth 100000
set_option maxHeartbeats 16000000
namespace K83
open PySem PySem.Spec PyProof.Rows L2 He Kx Kw
theorem err_x {K : PySem.W.Frag} {mg : Str → Option Value} {Kin : Addr} {d : ErrD} (h : ErrOk K Kin d) (m : mg d.name = some (.ref (ga K d.name))) : ErrX K mg d.name d.ps (ga K d.name) (ma K (ga K d.name) "__init__") := ⟨h.oex, h.ini, h.inT, h.no, m⟩
theorem facts {P : Program} {w : World} {K : PySem.W.Frag} {h : Heap} {mg : Str → Option Value} {f : Addr} (X : K.In h) (G : h.Ns mainGlobals mg) (hfa : mg ("law" : Str) = some (.ref f)) (c : SaysP fa fn pr ex K) :
    ∀ (base : Heap) (H : Hp) (s : Shared) (a : Addr) (ns : List Int), K.In base → base.Ns mainGlobals mg → ns.length ≤ 63 → Env0 P w K mg base callerA [] s H → SqL K H a (ns.map V.int) → codeAny (model P w) callerA (.call (.ref f) ⟨[.ref a], []⟩) (CR CX0 [] P w H s (fun v _ => v = .bl true) (fun _ _ _ => False)) s := by
  have e := hfa.symm.trans (glo_ok X G (c.d.fact 71 (f := .glo "law") rfl))
  cases e
  obtain ⟨x1, x2⟩ := ba c.x
  have eo : ∀ d ∈ errs, ErrOk K (ga K "KinError") d := fun d hd => ErrD.ok_ok (List.all_eq_true.mp x1 d hd)
  have E0' := eo ⟨"BadWorld", ["index", "what"]⟩ (List.mem_of_getElem? (i := 0) rfl)
  have E1' := eo ⟨"NoClass", ["cls"]⟩ (List.mem_of_getElem? (i := 2) rfl)
  have E3' := eo ⟨"TooMany", ["count"]⟩ (List.mem_of_getElem? (i := 1) rfl)
  have E2' := eo ⟨"BadWay", ["index"]⟩ (List.mem_of_getElem? (i := 5) rfl)
  have TBW : ErrX K mg "BadWorld" ["index", "what"] (ga K "BadWorld") (ma K (ga K "BadWorld") "__init__") := err_x E0' (glo_ok X G (c.d.fact 73 (f := .glo "BadWorld") rfl))
  have TNC : ErrX K mg "NoClass" ["cls"] (ga K "NoClass") (ma K (ga K "NoClass") "__init__") := err_x E1' (glo_ok X G (c.d.fact 77 (f := .glo "NoClass") rfl))
  have TBY : ErrX K mg "BadWay" ["index"] (ga K "BadWay") (ma K (ga K "BadWay") "__init__") := err_x E2' (glo_ok X G (c.d.fact 83 (f := .glo "BadWay") rfl))
  have TTM : ErrX K mg "TooMany" ["count"] (ga K "TooMany") (ma K (ga K "TooMany") "__init__") := err_x E3' (glo_ok X G (c.d.fact 75 (f := .glo "TooMany") rfl))
  obtain ⟨xS, x3⟩ := ba x2
  obtain ⟨xS1, xS2⟩ := ba xS
  obtain ⟨_, x4⟩ := ba x3
  obtain ⟨_, x5⟩ := ba x4
  obtain ⟨x7, x8⟩ := ba x5
  have IS : IsiC K (ga K "Several") := ⟨eqO_ok xS1, of_decide_eq_true x7, of_decide_eq_true x8, of_decide_eq_true xS2⟩
  have B : Fr mg := ⟨(free_ok X G (c.d.fact 3 (f := .free "isinstance") rfl)), (free_ok X G (c.d.fact 9 (f := .free "list") rfl)), (free_ok X G (c.d.fact 8 (f := .free "tuple") rfl)), (free_ok X G (c.d.fact 10 (f := .free "bool") rfl)), (free_ok X G (c.d.fact 1 (f := .free "int") rfl)), (free_ok X G (c.d.fact 0 (f := .free "len") rfl)), (free_ok X G (c.d.fact 5 (f := .free "set") rfl)), (free_ok X G (c.d.fact 4 (f := .free "range") rfl)), (free_ok X G (c.d.fact 6 (f := .free "sorted") rfl)), (free_ok X G (c.d.fact 7 (f := .free "enumerate") rfl))⟩
  have Z : Cst mg := ⟨(int_ok X G (c.d.fact 20 (f := .int "MOST_FIELDS" 3) rfl)), (int_ok X G (c.d.fact 21 (f := .int "MOST_METHODS" 3) rfl)), (int_ok X G (c.d.fact 22 (f := .int "METHOD_NAMES" 6) rfl)), (int_ok X G (c.d.fact 19 (f := .int "MOST_CLASSES" 12) rfl))⟩
  have zh : ∃ t, mg "HEAD" = some (.str "head" t) := (str_ok X G (c.d.fact 18 (f := .str "HEAD" "head") rfl))
  have TC : ClsWorld K mg (ga K "World") := ⟨cls_ok (c.d.fact 100 (f := .cls "World") rfl), fun f hf => by
    rcases List.mem_cons.mp hf with rfl | hf
    · exact noat_ok (c.d.fact 102 (f := .noat "World" "classes") rfl)
    rcases List.mem_cons.mp hf with rfl | hf
    · exact noat_ok (c.d.fact 103 (f := .noat "World" "bases") rfl)
    rcases List.mem_cons.mp hf with rfl | hf
    · exact noat_ok (c.d.fact 104 (f := .noat "World" "owns") rfl)
    rcases List.mem_cons.mp hf with rfl | hf
    · exact noat_ok (c.d.fact 105 (f := .noat "World" "methods") rfl)
    rcases List.mem_cons.mp hf with rfl | hf
    · exact noat_ok (c.d.fact 106 (f := .noat "World" "elders") rfl)
    rcases List.mem_cons.mp hf with rfl | hf
    · exact noat_ok (c.d.fact 107 (f := .noat "World" "heirs") rfl)
    cases hf⟩
  have TL : ClsF K (ga K "Links") ["world", "shared"] := ⟨cls_ok (c.d.fact 87 (f := .cls "Links") rfl), fun f hf => by
    rcases List.mem_cons.mp hf with rfl | hf
    · exact noat_ok (c.d.fact 89 (f := .noat "Links" "world") rfl)
    rcases List.mem_cons.mp hf with rfl | hf
    · exact noat_ok (c.d.fact 90 (f := .noat "Links" "shared") rfl)
    cases hf⟩
  have TP : ClsF K (ga K "Part") ["way", "place"] := ⟨cls_ok (c.d.fact 95 (f := .cls "Part") rfl), fun f hf => by
    rcases List.mem_cons.mp hf with rfl | hf
    · exact noat_ok (c.d.fact 97 (f := .noat "Part" "way") rfl)
    rcases List.mem_cons.mp hf with rfl | hf
    · exact noat_ok (c.d.fact 98 (f := .noat "Part" "place") rfl)
    cases hf⟩
  have TSv : ClsF K (ga K "Several") ["links", "first", "second"] := ⟨cls_ok (c.d.fact 113 (f := .cls "Several") rfl), fun f hf => by
    rcases List.mem_cons.mp hf with rfl | hf
    · exact noat_ok (c.d.fact 115 (f := .noat "Several" "links") rfl)
    rcases List.mem_cons.mp hf with rfl | hf
    · exact noat_ok (c.d.fact 116 (f := .noat "Several" "first") rfl)
    rcases List.mem_cons.mp hf with rfl | hf
    · exact noat_ok (c.d.fact 117 (f := .noat "Several" "second") rfl)
    cases hf⟩
  obtain ⟨fdS, FS⟩ := c.d.def_ 0 (d := dF 10 "is_sequence" []) rfl
  obtain ⟨fdW, FW⟩ := c.d.def_ 1 (d := dF 11 "is_whole" [.non, .non]) rfl
  obtain ⟨fdU, FU⟩ := c.d.def_ 2 (d := dF 12 "is_unlike_row" []) rfl
  obtain ⟨fdCC, FCC⟩ := c.d.def_ 4 (d := dF 15 "check_class" []) rfl
  obtain ⟨fdEF, FEF⟩ := c.d.def_ 12 (d := dF 34 "entry_fault" []) rfl
  obtain ⟨fdER, FER⟩ := c.d.def_ 13 (d := dF 35 "elder_rows" []) rfl
  obtain ⟨fdHR, FHR⟩ := c.d.def_ 14 (d := dF 36 "heir_rows" []) rfl
  obtain ⟨fdWC, FWC⟩ := c.d.def_ 3 (d := dF 13 "is_whole_couple" []) rfl
  obtain ⟨fdIL, FIL⟩ := c.d.def_ 5 (d := dF 18 "is_link_of" []) rfl
  obtain ⟨fdCW, FCW⟩ := c.d.def_ 6 (d := dF 19 "check_way" []) rfl
  obtain ⟨fdCU, FCU⟩ := c.d.def_ 7 (d := dF 20 "cut_way" []) rfl
  obtain ⟨fdWA, FWA⟩ := c.d.def_ 15 (d := dF 39 "ways_agree" []) rfl
  obtain ⟨fdLC, FLC⟩ := c.d.def_ 8 (d := dF 24 "laid_cells" []) rfl
  obtain ⟨fdLB, FLB⟩ := c.d.def_ 9 (d := dF 25 "lay_block" []) rfl
  obtain ⟨fdPO, FPO⟩ := c.d.def_ 10 (d := dF 26 "parts_of" []) rfl
  obtain ⟨fdCO, FCO⟩ := c.d.def_ 11 (d := dF 27 "copies_of" []) rfl
  obtain ⟨fdHa, FHa⟩ := c.d.def_ 18 (d := dF 43 "_law_hand" []) rfl
  obtain ⟨fdMi, FMi⟩ := c.d.def_ 19 (d := dF 44 "_law_mixed" []) rfl
  obtain ⟨fdTa, FTa⟩ := c.d.def_ 20 (d := dF 45 "_law_take" []) rfl
  obtain ⟨fdBa, FBa⟩ := c.d.def_ 21 (d := dF 46 "_law_bases" []) rfl
  obtain ⟨fdMe, FMe⟩ := c.d.def_ 22 (d := dF 47 "_law_methods" []) rfl
  obtain ⟨fdSh, FSh⟩ := c.d.def_ 23 (d := dF 48 "_law_shape" []) rfl
  obtain ⟨fdCl, FCl⟩ := c.d.def_ 24 (d := dF 49 "_law_classes" []) rfl
  obtain ⟨fdEl, FEl⟩ := c.d.def_ 25 (d := dF 50 "_law_elders" []) rfl
  obtain ⟨fdRo, FRo⟩ := c.d.def_ 26 (d := dF 51 "_law_row" []) rfl
  obtain ⟨fdDe, FDe⟩ := c.d.def_ 27 (d := dF 52 "_law_deep" []) rfl
  obtain ⟨fdSe, FSe⟩ := c.d.def_ 28 (d := dF 53 "_law_seq" []) rfl
  obtain ⟨fdDn, FDn⟩ := c.d.def_ 29 (d := dF 54 "_law_dense" []) rfl
  obtain ⟨fdNe, FNe⟩ := c.d.def_ 30 (d := dF 55 "_law_net" []) rfl
  obtain ⟨fdPa, FPa⟩ := c.d.def_ 31 (d := dF 56 "_law_pairs" []) rfl
  obtain ⟨fdSo, FSo⟩ := c.d.def_ 32 (d := dF 57 "_law_some" []) rfl
  obtain ⟨fdMu, FMu⟩ := c.d.def_ 33 (d := dF 58 "_law_mixedup" []) rfl
  obtain ⟨fdGi, FGi⟩ := c.d.def_ 34 (d := dF 59 "_law_given" []) rfl
  obtain ⟨fdWs, FWs⟩ := c.d.def_ 35 (d := dF 60 "_law_ways" []) rfl
  obtain ⟨fdWt, FWt⟩ := c.d.def_ 36 (d := dF 61 "_law_ways_to" []) rfl
  obtain ⟨fdLc, FLc⟩ := c.d.def_ 37 (d := dF 62 "_law_cut" []) rfl
  obtain ⟨fdLo, FLo⟩ := c.d.def_ 39 (d := dF 64 "_law_copies" []) rfl
  obtain ⟨fdLaw, FLaw⟩ := c.d.def_ 48 (d := dF 73 "law" []) rfl
  obtain ⟨fdBW, FBW⟩ := c.d.def_ 49 (d := dM 3 0 "BadWorld" "__init__" "BadWorld.__init__") rfl
  obtain ⟨fdNC, FNC⟩ := c.d.def_ 51 (d := dM 5 0 "NoClass" "__init__" "NoClass.__init__") rfl
  obtain ⟨fdBY, FBY⟩ := c.d.def_ 54 (d := dM 8 0 "BadWay" "__init__" "BadWay.__init__") rfl
  obtain ⟨fdWI, FWI⟩ := c.d.def_ 60 (d := dM 33 0 "World" "__init__" "World.__init__") rfl
  obtain ⟨fdLI, FLI⟩ := c.d.def_ 55 (d := dMd 17 0 "Links" "__init__" "Links.__init__" [.adr (dflAt ("Links", some "__init__") 0)]) rfl
  obtain ⟨fdLS, FLS⟩ := c.d.def_ 56 (d := dM 17 2 "Links" "is_shared" "Links.is_shared") rfl
  obtain ⟨fdPI, FPI⟩ := c.d.def_ 59 (d := dM 23 0 "Part" "__init__" "Part.__init__") rfl
  obtain ⟨fdRm, FRm⟩ := c.d.def_ 16 (d := dF 40 "check_room" []) rfl
  obtain ⟨fdOP, FOP⟩ := c.d.def_ 17 (d := dF 41 "one_part" []) rfl
  obtain ⟨fdNa, FNa⟩ := c.d.def_ 38 (d := dF 63 "_law_named" []) rfl
  obtain ⟨fdSt, FSt⟩ := c.d.def_ 40 (d := dF 65 "_law_stranger" []) rfl
  obtain ⟨fdAl, FAl⟩ := c.d.def_ 41 (d := dF 66 "_law_alike" []) rfl
  obtain ⟨fdNw, FNw⟩ := c.d.def_ 42 (d := dF 67 "_law_newclass" []) rfl
  obtain ⟨fdWd, FWd⟩ := c.d.def_ 43 (d := dF 68 "_law_wide" []) rfl
  obtain ⟨fdAs, FAs⟩ := c.d.def_ 44 (d := dF 69 "_law_asked" []) rfl
  obtain ⟨fdSv, FSv⟩ := c.d.def_ 45 (d := dF 70 "_law_several_right" []) rfl
  obtain ⟨fdKp, FKp⟩ := c.d.def_ 46 (d := dF 71 "_law_kept" []) rfl
  obtain ⟨fdFe, FFe⟩ := c.d.def_ 47 (d := dF 72 "_law_for_ever" []) rfl
  obtain ⟨fdTM, FTM⟩ := c.d.def_ 50 (d := dM 4 0 "TooMany" "__init__" "TooMany.__init__") rfl
  obtain ⟨fdVI, FVI⟩ := c.d.def_ 65 (d := dM 38 0 "Several" "__init__" "Several.__init__") rfl
  obtain ⟨fdLW, FLW⟩ := c.d.def_ 57 (d := dMd 17 4 "Links" "with_class" "Links.with_class" [.adr (dflAt ("Links", some "with_class") 0)]) rfl
  obtain ⟨fdXC, FXC⟩ := c.d.def_ 61 (d := dM 33 2 "World" "with_class" "World.with_class") rfl
  obtain ⟨fdAL, FAL⟩ := c.get 0 (d := dM 17 1 "Links" "all_links" "Links.all_links") rfl
  have PAL : PropOf K (ga K "Links") "all_links" _ _ := (c.prop 0 (d := dM 17 1 "Links" "all_links" "Links.all_links") rfl)
  have b := FunD.bindsA (ps := ["_law_script"]) FLaw fun _ _ _ _ _ _ us hl => match us, hl with | [_], _ => rfl
  intro base H s a ns _ _ hns env0 hS
  have GHa := ok_hand (P := P) (w := w) (base := base) FHa (free_ok X G (c.d.fact 1 (f := .free "int") rfl)) (free_ok X G (c.d.fact 0 (f := .free "len") rfl)) (free_ok X G (c.d.fact 2 (f := .free "abs") rfl))
  have GTa := ok_take (P := P) (w := w) (base := base) FTa FMi (glo_ok X G (c.d.fact 42 (f := .glo "_law_mixed") rfl)) B.int B.len
  have GRo := ok_row (P := P) (w := w) (base := base) FRo B FTa (glo_ok X G (c.d.fact 43 (f := .glo "_law_take") rfl)) FMi (glo_ok X G (c.d.fact 42 (f := .glo "_law_mixed") rfl))
  have GCl := ok_classes (P := P) (w := w) (base := base) FCl B FTa (glo_ok X G (c.d.fact 43 (f := .glo "_law_take") rfl)) FMi (glo_ok X G (c.d.fact 42 (f := .glo "_law_mixed") rfl)) FBa (glo_ok X G (c.d.fact 44 (f := .glo "_law_bases") rfl)) FSh (glo_ok X G (c.d.fact 46 (f := .glo "_law_shape") rfl)) FMe (glo_ok X G (c.d.fact 45 (f := .glo "_law_methods") rfl)) (free_ok X G (c.d.fact 12 (f := .free "max") rfl)) (free_ok X G (c.d.fact 13 (f := .free "min") rfl))
  have GDn := ok_dense (P := P) (w := w) (base := base) FDn B FTa (glo_ok X G (c.d.fact 43 (f := .glo "_law_take") rfl)) GTa (free_ok X G (c.d.fact 13 (f := .free "min") rfl))
  have GNe := ok_net (P := P) (w := w) (base := base) FNe FTa (glo_ok X G (c.d.fact 43 (f := .glo "_law_take") rfl)) GTa FCl (glo_ok X G (c.d.fact 47 (f := .glo "_law_classes") rfl)) GCl FDn (glo_ok X G (c.d.fact 52 (f := .glo "_law_dense") rfl)) GDn
  have GEl := ok_lelders (P := P) (w := w) (base := base) FEl B
  have GPa := ok_pairsOf (P := P) (w := w) (base := base) FPa B
  have GSo := ok_some (P := P) (w := w) (base := base) FSo B FTa (glo_ok X G (c.d.fact 43 (f := .glo "_law_take") rfl)) GTa FPa (glo_ok X G (c.d.fact 54 (f := .glo "_law_pairs") rfl)) GPa
  have GDe := ok_ldeep (P := P) (w := w) (base := base) FDe B (glo_ok X G (c.d.fact 50 (f := .glo "_law_deep") rfl)) FSe (glo_ok X G (c.d.fact 51 (f := .glo "_law_seq") rfl)) 3
  have GMu := ok_mixup (P := P) (w := w) (base := base) FMu B FTa (glo_ok X G (c.d.fact 43 (f := .glo "_law_take") rfl)) GTa
  have GGi := ok_givenL (P := P) (w := w) (base := base) FGi FRo (glo_ok X G (c.d.fact 49 (f := .glo "_law_row") rfl)) GRo FMu (glo_ok X G (c.d.fact 56 (f := .glo "_law_mixedup") rfl)) GMu
  have GW := ok_world (P := P) (w := w) (base := base) FWI B Z TC FS (glo_ok X G (c.d.fact 23 (f := .glo "is_sequence") rfl)) FW (glo_ok X G (c.d.fact 24 (f := .glo "is_whole") rfl)) FU (glo_ok X G (c.d.fact 25 (f := .glo "is_unlike_row") rfl)) FEF (glo_ok X G (c.d.fact 35 (f := .glo "entry_fault") rfl)) FER (glo_ok X G (c.d.fact 36 (f := .glo "elder_rows") rfl)) FHR (glo_ok X G (c.d.fact 37 (f := .glo "heir_rows") rfl)) FBW TBW
  have bW : L2.Binds K fdWI ["self", "classes"] [] := FWI.bindsN fun _ _ _ _ _ _ us hl => match us, hl with | [_, _], _ => rfl
  have GCC := ok_check (P := P) (w := w) (base := base) FCC B TC FW (glo_ok X G (c.d.fact 24 (f := .glo "is_whole") rfl)) FNC TNC
  have GWC := ok_couple (P := P) (w := w) (base := base) FWC B FS (glo_ok X G (c.d.fact 23 (f := .glo "is_sequence") rfl)) FW (glo_ok X G (c.d.fact 24 (f := .glo "is_whole") rfl))
  have GIL := ok_link (P := P) (w := w) (base := base) FIL B TC FWC (glo_ok X G (c.d.fact 26 (f := .glo "is_whole_couple") rfl)) GWC FW (glo_ok X G (c.d.fact 24 (f := .glo "is_whole") rfl))
  have GLI := ok_linksI (P := P) (w := w) (base := base) FLI B TL FS (glo_ok X G (c.d.fact 23 (f := .glo "is_sequence") rfl)) FIL (glo_ok X G (c.d.fact 28 (f := .glo "is_link_of") rfl)) GIL
  have GLS := ok_shared (P := P) (w := w) (base := base) FLS TL FIL (glo_ok X G (c.d.fact 28 (f := .glo "is_link_of") rfl)) GIL
  have GCW := ok_way (P := P) (w := w) (base := base) FCW B TC TL FS (glo_ok X G (c.d.fact 23 (f := .glo "is_sequence") rfl)) FW (glo_ok X G (c.d.fact 24 (f := .glo "is_whole") rfl)) FBY TBY
  have GCU := ok_cut (P := P) (w := w) (base := base) FCU B TL FCW (glo_ok X G (c.d.fact 29 (f := .glo "check_way") rfl)) GCW FLS (meth_ok (c.d.fact 91 (f := .meth "Links" "is_shared") rfl)) GLS
  have GWA := ok_agree (P := P) (w := w) (base := base) FWA B FCW (glo_ok X G (c.d.fact 29 (f := .glo "check_way") rfl)) GCW FCU (glo_ok X G (c.d.fact 30 (f := .glo "cut_way") rfl)) GCU FBY TBY
  have GAL := ok_allL (P := P) (w := w) (base := base) FAL B TC TL
  have GLB := ok_blk (P := P) (w := w) (base := base) FLB B zh (glo_ok X G (c.d.fact 32 (f := .glo "lay_block") rfl)) TC TL (meth_ok (c.d.fact 91 (f := .meth "Links" "is_shared") rfl)) FLS GLS 11
  have GLC := ok_laid (P := P) (w := w) (base := base) FLC B TC TL FCC (glo_ok X G (c.d.fact 27 (f := .glo "check_class") rfl)) GCC FLB (glo_ok X G (c.d.fact 32 (f := .glo "lay_block") rfl)) GLB
  have GPI := ok_partI (P := P) (w := w) (mg := mg) (base := base) FPI TP
  have GPO := ok_parts (P := P) (w := w) (base := base) FPO B zh FLC (glo_ok X G (c.d.fact 31 (f := .glo "laid_cells") rfl)) GLC FPI (mkr_ok (c.d.fact 96 (f := .mkr "Part") rfl)) (glo_ok X G (c.d.fact 94 (f := .glo "Part") rfl)) GPI
  have GCO := ok_copies (P := P) (w := w) (base := base) FCO B TL TP FCC (glo_ok X G (c.d.fact 27 (f := .glo "check_class") rfl)) GCC FPO (glo_ok X G (c.d.fact 33 (f := .glo "parts_of") rfl)) GPO
  have GWs := ok_ways (P := P) (w := w) (base := base) FWs (glo_ok X G (c.d.fact 58 (f := .glo "_law_ways") rfl)) 11
  have GWt := ok_waysTo (P := P) (w := w) (base := base) (n := 11) FWt FWs (glo_ok X G (c.d.fact 58 (f := .glo "_law_ways") rfl)) GWs
  have GLc := ok_lcut (P := P) (w := w) (base := base) FLc B
  have GLo := ok_lcopies (P := P) (w := w) (base := base) FLo B FWt (glo_ok X G (c.d.fact 59 (f := .glo "_law_ways_to") rfl)) GWt FLc (glo_ok X G (c.d.fact 60 (f := .glo "_law_cut") rfl)) GLc
  have GMe := ok_methods (P := P) (w := w) (base := base) FMe B FTa (glo_ok X G (c.d.fact 43 (f := .glo "_law_take") rfl)) FMi (glo_ok X G (c.d.fact 42 (f := .glo "_law_mixed") rfl))
  obtain ⟨GXC, bXC⟩ := ok_withC (P := P) (w := w) (base := base) FXC TC FWI (mkr_ok (c.d.fact 101 (f := .mkr "World") rfl)) (glo_ok X G (c.d.fact 99 (f := .glo "World") rfl)) GW
  have GLW := ok_withLk (P := P) (w := w) (base := base) FLW B TC TL FS (glo_ok X G (c.d.fact 23 (f := .glo "is_sequence") rfl)) FIL (glo_ok X G (c.d.fact 28 (f := .glo "is_link_of") rfl)) GIL FLI (mkr_ok (c.d.fact 88 (f := .mkr "Links") rfl)) (glo_ok X G (c.d.fact 86 (f := .glo "Links") rfl)) GLI (meth_ok (c.d.fact 108 (f := .meth "World" "with_class") rfl)) GXC bXC
  have GRm := ok_room (P := P) (w := w) (base := base) FRm B Z TC TL FTM TTM
  have GVI := ok_sevI (P := P) (w := w) (mg := mg) (base := base) FVI TSv
  have GOP := ok_one (P := P) (w := w) (base := base) FOP B TC TL FCC (glo_ok X G (c.d.fact 27 (f := .glo "check_class") rfl)) GCC PAL FAL GAL (meth_ok (c.d.fact 91 (f := .meth "Links" "is_shared") rfl)) GLS FLS FRm (glo_ok X G (c.d.fact 39 (f := .glo "check_room") rfl)) GRm FLW (meth_ok (c.d.fact 92 (f := .meth "Links" "with_class") rfl)) GLW FVI (mkr_ok (c.d.fact 114 (f := .mkr "Several") rfl)) (glo_ok X G (c.d.fact 112 (f := .glo "Several") rfl)) GVI
  have GNa := ok_named (P := P) (w := w) (base := base) FNa FMe (glo_ok X G (c.d.fact 45 (f := .glo "_law_methods") rfl)) GMe
  have GSt := ok_str (P := P) (w := w) (base := base) FSt FTa (glo_ok X G (c.d.fact 43 (f := .glo "_law_take") rfl)) GTa
  have GAl := ok_alike (P := P) (w := w) (base := base) FAl (free_ok X G (c.d.fact 16 (f := .free "repr") rfl))
  have GAs := ok_askO (P := P) (w := w) (base := base) FAs FOP (glo_ok X G (c.d.fact 40 (f := .glo "one_part") rfl)) GOP TNC E1'.held.fld TTM E3'.held.fld (exm_ok (c.d.fact 78 (f := .exm "NoClass" "NoClass" true) rfl)) (exm_ok (c.d.fact 85 (f := .exm "TooMany" "NoClass" false) rfl)) (exm_ok (c.d.fact 76 (f := .exm "TooMany" "TooMany" true) rfl))
  have GNw := ok_newc (P := P) (w := w) (base := base) FNw B FTa (glo_ok X G (c.d.fact 43 (f := .glo "_law_take") rfl)) GTa
  have GWd := ok_wide (P := P) (w := w) (base := base) FWd B
  have GSv := ok_sevR (P := P) (w := w) (base := base) FSv B TC TL TSv IS (glo_ok X G (c.d.fact 112 (f := .glo "Several") rfl)) FWd (glo_ok X G (c.d.fact 66 (f := .glo "_law_wide") rfl)) GWd FDe (glo_ok X G (c.d.fact 50 (f := .glo "_law_deep") rfl)) GDe FWA (glo_ok X G (c.d.fact 38 (f := .glo "ways_agree") rfl)) GWA FCO (glo_ok X G (c.d.fact 34 (f := .glo "copies_of") rfl)) GCO FLo (glo_ok X G (c.d.fact 62 (f := .glo "_law_copies") rfl)) GLo
  have GKp := ok_keptL (P := P) (w := w) (mg := mg) (base := base) FKp
  have GFe := ok_ever (P := P) (w := w) (base := base) FFe B TL FTa (glo_ok X G (c.d.fact 43 (f := .glo "_law_take") rfl)) GTa FKp (glo_ok X G (c.d.fact 69 (f := .glo "_law_kept") rfl)) GKp FNw (glo_ok X G (c.d.fact 65 (f := .glo "_law_newclass") rfl)) GNw FRo (glo_ok X G (c.d.fact 49 (f := .glo "_law_row") rfl)) GRo FWd (glo_ok X G (c.d.fact 66 (f := .glo "_law_wide") rfl)) GWd FEl (glo_ok X G (c.d.fact 48 (f := .glo "_law_elders") rfl)) GEl FCO (glo_ok X G (c.d.fact 34 (f := .glo "copies_of") rfl)) GCO FLW (meth_ok (c.d.fact 92 (f := .meth "Links" "with_class") rfl)) GLW
  exact law_at FLaw B (free_ok X G (c.d.fact 13 (f := .free "min") rfl)) FHa (glo_ok X G (c.d.fact 41 (f := .glo "_law_hand") rfl)) GHa FTa (glo_ok X G (c.d.fact 43 (f := .glo "_law_take") rfl)) GTa FNe (glo_ok X G (c.d.fact 53 (f := .glo "_law_net") rfl)) GNe FNa (glo_ok X G (c.d.fact 61 (f := .glo "_law_named") rfl)) GNa FSo (glo_ok X G (c.d.fact 55 (f := .glo "_law_some") rfl)) GSo FDe (glo_ok X G (c.d.fact 50 (f := .glo "_law_deep") rfl)) GDe FGi (glo_ok X G (c.d.fact 57 (f := .glo "_law_given") rfl)) GGi FPa (glo_ok X G (c.d.fact 54 (f := .glo "_law_pairs") rfl)) GPa FAs (glo_ok X G (c.d.fact 67 (f := .glo "_law_asked") rfl)) GAs FSv (glo_ok X G (c.d.fact 68 (f := .glo "_law_several_right") rfl)) GSv FSt (glo_ok X G (c.d.fact 63 (f := .glo "_law_stranger") rfl)) GSt FAl (glo_ok X G (c.d.fact 64 (f := .glo "_law_alike") rfl)) GAl FOP (glo_ok X G (c.d.fact 40 (f := .glo "one_part") rfl)) GOP FFe (glo_ok X G (c.d.fact 70 (f := .glo "_law_for_ever") rfl)) GFe TL FLI (mkr_ok (c.d.fact 88 (f := .mkr "Links") rfl)) (glo_ok X G (c.d.fact 86 (f := .glo "Links") rfl)) GLI (mkr_ok (c.d.fact 101 (f := .mkr "World") rfl)) (glo_ok X G (c.d.fact 99 (f := .glo "World") rfl)) GW bW env0 (b s [.ref a] rfl) hns hS
end K83
open PySem PySem.W PySem.Calls PyProof.Rows
theorem PySem.Challenge.cw_headamid_k83_whole_one_part_for_all_heir_holds : PySem.Challenge.rw_headamid_k83_whole_one_part_for_all_heir.Holds := by
  w_on; o_law
  refine HandSHeadRun.head_any (r := OpenLaw.row PySem.Challenge.rw_headamid_k83_whole_one_part_for_all_heir) (q := view (OpenLaw.row PySem.Challenge.rw_headamid_k83_whole_one_part_for_all_heir).prog [73]) (H := K83.hk) (ob := K83.ob) (M := 40000) (loose := K83.loose) (d := HandSHeadRun.topDef (OpenLaw.row PySem.Challenge.rw_headamid_k83_whole_one_part_for_all_heir).prog 73) (kwd := []) K83.ob_eq
    (by kernel_rfl) (fun s => by kernel_rfl) K83.run (by kernel_rfl) (by kernel_rfl) (by kernel_rfl) (by rfl) (by first | assumption | decide +kernel) (by decide +kernel) ⟨rfl, rfl, rfl, rfl, rfl, by decide +kernel⟩ ?hw ?hc
  case hw => w_witness2
  case hc =>
    refine Kw.walk_here (l := PySem.Challenge.rw_headamid_k83_whole_one_part_for_all_heir) (n := 63) (CX := L2.CX0) rfl (by decide) (by kernel_rfl) ?F (fun _ _ _ _ z => z)
    intro w mg fa h Y G hmg0
    obtain ⟨K, KX, c⟩ := Y
    have hmg : mg ("law" : PySem.Str) = some (.ref fa) := by
      have e : (HandSHeadRun.topDef (OpenLaw.row PySem.Challenge.rw_headamid_k83_whole_one_part_for_all_heir).prog 73).name = ("law" : PySem.Str) := by kernel_rfl
      rw [← e]
      exact hmg0
    exact ⟨K, KX, K83.facts (P := (PySem.Challenge.rw_headamid_k83_whole_one_part_for_all_heir).prog) (w := w) KX G hmg c⟩
