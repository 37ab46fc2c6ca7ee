import PyProof.Rows.All
import Wide.All
import OpenK.AllK
import Wide.FinOn
import HandS.ForMost
import HandS.SetFor
import HandS.IsInst
import HandS.Defaults
import HandS.NoneIn
import HandS.More
import HandS.SortInts
import KE.GoesEnum
import HandS.ForExc
import HandS.ExcInit
import PyProof.TupleOfSeq
import HandS.Codes
import HandS.Strs
import HandS.TupSets
import HandS.TupAny
import HandS.OwnEq
import HandS.ExcField
import HandS.Deep
import KE.DataMinMax
import HandS.SetKeys
import HandS.SortRule
import HandS.Style
import HandS.TryMany
import KE.KExcIs
import HandS.Head2
import HandS.HeadEnd
import HandS.HeadHook2
import PySem.Challenge.RW_headamid_k12_whole_worlds_that_keep_kind
set_option Elab.async false
set_option linter.all false
set_option maxRecDepth 100000
set_option maxHeartbeats 4000000
namespace Kw
open PySem PySem.Spec PyProof.Rows L2

/-! ### as many different ones as there are -/
theorem len_le_of_sub : ∀ {ks ns : List Int}, ks.Nodup → (∀ k ∈ ks, k ∈ ns) → ks.length ≤ ns.length
  | [], _, _, _ => Nat.zero_le _
  | k :: r, ns, hn, hs => by
    have hk : k ∈ ns := hs k List.mem_cons_self
    obtain ⟨h1, h2⟩ := List.nodup_cons.mp hn
    have ih := len_le_of_sub (ks := r) (ns := ns.erase k) h2 fun y hy => by
      have ne : y ≠ k := fun e => h1 (by rw [← e]; exact hy)
      exact (List.mem_erase_of_ne ne).mpr (hs y (List.mem_cons_of_mem _ hy))
    rw [List.length_erase_of_mem hk] at ih
    have := List.length_pos_of_mem hk
    show r.length + 1 ≤ ns.length
    omega
theorem nodup_of_len : ∀ {ns ks : List Int}, ks.Nodup → (∀ k ∈ ks, k ∈ ns) → ns.length ≤ ks.length → ns.Nodup
  | [], _, _, _, _ => List.nodup_nil
  | n :: r, ks, hn, hs, hl => by
    by_cases hr : n ∈ r
    · have z := len_le_of_sub (ks := ks) (ns := r) hn fun k hk => by
        rcases List.mem_cons.mp (hs k hk) with e | e
        · rw [e]; exact hr
        · exact e
      have : r.length + 1 ≤ ks.length := hl
      omega
    · refine List.nodup_cons.mpr ⟨hr, nodup_of_len (ks := ks.erase n) (hn.erase n) (fun k hk => ?_) ?_⟩
      · have h1 := (hn.mem_erase_iff).mp hk
        rcases List.mem_cons.mp (hs k h1.2) with e | e
        · exact absurd e h1.1
        · exact e
      · have h2 : r.length + 1 ≤ ks.length := hl
        by_cases hm : n ∈ ks
        · rw [List.length_erase_of_mem hm]
          omega
        · rw [List.erase_of_not_mem hm]
          omega
theorem len_nodup {ks ns : List Int} (hn : ks.Nodup) (hs : ∀ k, k ∈ ks ↔ k ∈ ns) : ks.length = ns.length ↔ ns.Nodup :=
  ⟨fun e => nodup_of_len hn (fun k hk => (hs k).mp hk) (by omega), fun h => Nat.le_antisymm (len_le_of_sub hn fun k hk => (hs k).mp hk) (len_le_of_sub h fun k hk => (hs k).mpr hk)⟩
theorem firstMet_facts (ns : List Int) : ∀ i, i ≤ ns.length → (firstMet (fun i => ns.getD i 0) i).Nodup ∧ ∀ k, k ∈ firstMet (fun i => ns.getD i 0) i ↔ k ∈ ns.take i
  | 0, _ => ⟨List.nodup_nil, fun k => by simp [firstMet_zero]⟩
  | i + 1, hi => by
    obtain ⟨h1, h2⟩ := firstMet_facts ns i (Nat.le_of_succ_le hi)
    have hlt : i < ns.length := hi
    have e : ns.getD i 0 = ns[i] := by
      rw [List.getD_eq_getElem?_getD, List.getElem?_eq_getElem hlt] <;> rfl
    have tk : ns.take (i + 1) = ns.take i ++ [ns[i]] := by
      rw [List.take_add_one, List.getElem?_eq_getElem hlt] <;> rfl
    rw [firstMet_succ, tk]
    unfold step_dedup
    rw [e]
    by_cases hb : (firstMet (fun i => ns.getD i 0) i).any (· == ns[i]) = true
    · rw [if_pos hb]
      obtain ⟨y, hy, ey⟩ := List.any_eq_true.mp hb
      have ey2 : y = ns[i] := eq_of_beq ey
      refine ⟨h1, fun k => ⟨fun hk => List.mem_append_left _ ((h2 k).mp hk), fun hk => ?_⟩⟩
      rcases List.mem_append.mp hk with z | z
      · exact (h2 k).mpr z
      · rw [List.mem_singleton.mp z, ← ey2]
        exact hy
    · rw [if_neg hb]
      have hno : ns[i] ∉ firstMet (fun i => ns.getD i 0) i := fun z => hb (List.any_eq_true.mpr ⟨_, z, beq_iff_eq.mpr rfl⟩)
      refine ⟨List.nodup_append.mpr ⟨h1, by simp, fun a ha b hb' e' => hno ?_⟩, fun k => ?_⟩
      · rw [List.mem_singleton.mp hb'] at e'
        exact e' ▸ ha
      · rw [List.mem_append, List.mem_append, h2 k]
/-! ### len(set(xs)), xs a list or a tuple of ints, whatever they are -/
def tLenSetA (K : PySem.W.Frag) (ta : TE) : TE := fun σ H Q => ta σ H fun x H1 => ∃ (l : Addr) (ns : List Int), x = .ref l ∧ (SqL K H1 l (ns.map V.int) ∨ SqT K H1 l (ns.map V.int)) ∧ ns.length ≤ 4000 ∧ ∀ n : Nat, (n = ns.length ↔ ns.Nodup) → Q (.int n) H1
theorem intsAre_of : ∀ {ns : List Int} {us : List Value}, Vals (ns.map V.int) us → IntsAre us ns
  | [], _, .nil => .nil
  | n :: r, _, .cons h t => by
    obtain ⟨k, e⟩ := h
    rw [e]
    exact .cons n k (intsAre_of t)
theorem pe_lenSetA {X : Cx} {a : Expr} {ta : TE} {p p2 q pos : Pos} (hg : Gl X "len") (hm : X.mg "len" = none) (hg2 : Gl X "set") (hm2 : X.mg "set" = none) (ha : PE X a ta) (hc : X.calm = true := by rfl)
    (na : starEach [a] X.env = (false, eval a X.env) :: starEach [] X.env := by rfl) : PE X (.Call (.Name "len" p) [.Call (.Name "set" p2) [a] [] q] [] pos) (tLenSetA X.K ta) := by
  refine ⟨fun pins s σ H Q I h => Call_ (ld_blt I hg hm PySem.boot_len ?_)⟩
  refine callWith_builtin1 (args_cons (Call_ (ld_blt I hg2 hm2 PyProof.Rows.boot_set ?_)) rfl) rfl rfl
  refine callWith_type1 (args_cons (thn (ha.run pins s σ H _ I h) fun v s1 ⟨x, H1, I1, r1, q1⟩ => args_nil ?_) na) na rfl
  obtain ⟨l, ns, ex, hq, h4, q2⟩ := q1
  subst ex
  obtain rfl : v = Value.ref l := r1
  rcases hq with hq | hq
  · obtain ⟨its, r, pl, hz⟩ := I1.list hq
    have hlen : its.toArray.size = ns.length := by rw [List.size_toArray, ← r.length, List.length_map]
    have ia : IntsAre its.toArray.toList ns := by
      have z := intsAre_of r
      simpa using z
    refine call_set_list (I1.ok.hd hc) pl.isList ia (by rw [hlen]; unfold scanBound; omega) fun h' tk hS hk => args_nil ?_
    rw [hlen] at hS
    obtain ⟨f1, f2⟩ := firstMet_facts ns ns.length (Nat.le_refl _)
    rw [List.take_length] at f2
    have key := len_nodup f1 f2
    have le := firstMet_length_le (fun i => ns.getD i 0) ns.length
    generalize hm : (firstMet (fun i => ns.getD i 0) ns.length).length = m at hS key le
    obtain ⟨o, es, ep, t, ho, hex, hd, _, _, _, hf, hn⟩ := hS
    have I2 : Inv X pins σ H1 { s1 with heap := h', toks := tk } := I1.kept fun b o e => hk b o (Heap.lt_size e) e
    exact call_len_set ho hex hd hf (by rw [hn]; omega) ⟨.int m, H1, I2.tok _, ⟨_, by rw [hn]⟩, q2 m key⟩
  · obtain ⟨its, r, pl, hz⟩ := I1.tuple hq
    have ia : IntsAre its.toArray.toList ns := by
      have z := intsAre_of r
      simpa using z
    refine call_set_tupI ns (I1.ok.hd hc) pl ia (by unfold scanBound; omega) fun h' tk c hS hc' hk => args_nil ?_
    obtain ⟨o, es, ep, t, ho, hex, hd, hg3, hnd, hmem, hbd, hf, hn, _, _⟩ := hS
    have key := len_nodup hnd (ns := ns) fun k => (hmem k).symm.trans (by simp)
    have e1 : (es.toList.map keyOf).length = es.size := by rw [List.length_map, Array.length_toList]
    rw [e1] at key
    have I2 : Inv X pins σ H1 { s1 with heap := h', toks := tk } := I1.kept fun b o e => hk b o e
    exact call_len_set ho hex hd hf (by unfold scanBound at hbd; omega) ⟨.int es.size, H1, I2.tok _, ⟨_, rfl⟩, q2 es.size key⟩
end Kw

set_option maxRecDepth 100000
set_option maxHeartbeats 4000000
namespace K12
open PySem PySem.Spec PyProof.Rows L2 Kw
def top (i : Nat) : Stmt := PySem.Challenge.pw_headamid_k12_whole_worlds_that_keep_kind.main.body.getD i (.Pass ⟨0, 0, 0, 0⟩)
abbrev FnP (K : PySem.W.Frag) (x : Str) (i : Nat) (f : Addr) (fd : FuncData) : Prop := FunD K x x (defArgs (top i)) (defBody (top i)) (defScope (top i)) [] [] f fd
abbrev FnDf (K : PySem.W.Frag) (x : Str) (i : Nat) (dvs : List V) (f : Addr) (fd : FuncData) : Prop := FunD K x x (defArgs (top i)) (defBody (top i)) (defScope (top i)) dvs [] f fd
theorem same_new {H : Hp} {p : Addr} {o : HO} (hp : H p = none) : Same H (upd H p o) := fun b u e => by
  rw [upd_ne (ne_of_none e hp)]
  exact e
/-- a plain thing's type stays -/
inductive Ty0 (H : Hp) : V → String → Prop where
  | non : Ty0 H .non "NoneType"
  | bl (x : Bool) : Ty0 H (.bl x) "bool"
  | int (i : Int) : Ty0 H (.int i) "int"
  | str (x : Str) : Ty0 H (.str x) "str"
  | lst {a : Addr} {xs : List V} (e : H a = some (.lst xs)) : Ty0 H (.ref a) "list"
  | tup {a : Addr} {xs : List V} (e : H a = some (.tup xs)) : Ty0 H (.ref a) "tuple"
  | dK {a : Addr} {kvs : List (Key × V)} (e : H a = some (.dK kvs)) : Ty0 H (.ref a) "dict"
theorem Ty0.same {H H' : Hp} {x : V} {t : String} (h : Ty0 H x t) (s : Same H H') : Ty0 H' x t := by
  cases h with
  | non => exact .non
  | bl x => exact .bl x
  | int i => exact .int i
  | str x => exact .str x
  | lst e => exact .lst (s _ _ e)
  | tup e => exact .tup (s _ _ e)
  | dK e => exact .dK (s _ _ e)
theorem Ty0.x {K : PySem.W.Frag} {H : Hp} {x : V} {t : String} (h : Ty0 H x t) : TyX K H x (.type t) := by
  cases h with
  | non => exact .base .non
  | bl x => exact .base (.bl x)
  | int i => exact .base (.int i)
  | str x => exact .base (.str x)
  | lst e => exact .base (.lst e)
  | tup e => exact .base (.tup e)
  | dK e => exact .base (.dK e)
def seqT (t : String) : Bool := t == "list" || t == "tuple"
theorem Ty0.seq {K : PySem.W.Frag} {H : Hp} {x : V} {t : String} (h : Ty0 H x t) : PySem.W.kitAny K (.type t) [.type "list", .type "tuple"] = some (seqT t) := by
  have two : kitB t "list" = some (t == "list") → kitB t "tuple" = some (t == "tuple") → PySem.W.kitAny K (.type t) [.type "list", .type "tuple"] = some (seqT t) := fun hb hc => by
    unfold seqT
    refine kitAny_cons (kit_ty hb) (fun eb => ?_) fun eb => by rw [eb]; rfl
    rw [eb, Bool.false_or]
    refine kitAny_cons (kit_ty hc) (fun ec => ?_) fun ec => ec
    rw [ec]
    exact kitAny_nil
  cases h <;> exact two (by decide +kernel) (by decide +kernel)
theorem Ty0.isBool {K : PySem.W.Frag} {H : Hp} {x : V} {t : String} (h : Ty0 H x t) : PySem.W.kitOne K (.type t) (.type "bool") = some (t == "bool") := by
  cases h <;> exact kit_ty (by decide +kernel)
theorem Ty0.isInt {K : PySem.W.Frag} {H : Hp} {x : V} {t : String} (h : Ty0 H x t) : PySem.W.kitOne K (.type t) (.type "int") = some (t == "bool" || t == "int") := by
  cases h <;> exact kit_ty (by decide +kernel)
structure Fr (mg : Str → Option Value) : Prop where
  isinstance : mg "isinstance" = none
  list : mg "list" = none
  tuple : mg "tuple" = none
  bool : mg "bool" = none
  int : mg "int" = none
  len : mg "len" = none
  set : mg "set" = none
  range : mg "range" = none
  sorted : mg "sorted" = none
  enumerate : mg "enumerate" = none
section
variable {P : Program} {w : World} {K : PySem.W.Frag} {mg : Str → Option Value} {base : Heap} {f : Addr} {fd : FuncData}
/-! ### is_sequence -/
def spIsSeq : Sp := fun vs H Q _ => ∃ (x : V) (t : String), vs = [x] ∧ Ty0 H x t ∧ ∀ H', Same H H' → Q (.bl (seqT t)) H'
theorem sc_isSeq : FnScope ["thing"] ["thing"] (defScope (top 9)) := ⟨rfl, rfl, rfl, by decide +kernel, rfl, by decide +kernel, by decide +kernel⟩
theorem ok_isSeq (F : FnP K "is_sequence" 9 f fd) (B : Fr mg) : FnOk P w K mg base CX0 1 f fd ["thing"] spIsSeq := by
  refine F.ok sc_isSeq (fun vs H Q E h => ?_) (fun cdv A outer s H vs Q E hr h => ?_)
  · obtain ⟨x, t, rfl, _⟩ := h
    rfl
  · obtain ⟨x, t, rfl, ty, k⟩ := h
    refine ⟨_, PSs.nox (pss_one (ps_ret (pe_callB call_isiT (by rfl) B.isinstance PyProof.Rows.boot_isinstance (pa_cons (pv 0) (pa_cons (pe_tup (pa_cons (pe_bltn (v := .ty "list") (by rfl) B.list PyProof.Rows.boot_list rfl) (pa_cons (pe_bltn (v := .ty "tuple") (by rfl) B.tuple PyProof.Rows.boot_tuple rfl) pa_nil))) pa_nil))))), ?_⟩
    exact ⟨_, rfl, (by show 2 ≤ sizeLine; decide), fun p np => ⟨x, p, _, _, _, _, rfl, upd_same, .cons (.ty "list") (.cons (.ty "tuple") .nil), (ty.same (same_new np)).x, ty.seq, k _ (same_new np)⟩⟩
/-! ### is_whole -/
def inLo : V → Int → Bool
  | .int l, i => decide (l ≤ i)
  | _, _ => true
def inHi : V → Int → Bool
  | .int h, i => decide (i ≤ h)
  | _, _ => true
def Lim (x : V) : Prop := x = .non ∨ ∃ i, x = .int i
def wholeB (lo hi : V) : V → Bool
  | .int i => inLo lo i && inHi hi i
  | _ => false
def spWhole : Sp := fun vs H Q _ => ∃ (x lo hi : V) (t : String), vs = [x, lo, hi] ∧ Ty0 H x t ∧ Lim lo ∧ Lim hi ∧ Q (.bl (wholeB lo hi x)) H
theorem sc_whole : FnScope ["thing", "low", "high"] ["thing", "low", "high"] (defScope (top 10)) := ⟨rfl, rfl, rfl, by decide +kernel, rfl, by decide +kernel, by decide +kernel⟩
theorem ok_whole (F : FnDf K "is_whole" 10 [.non, .non] f fd) (B : Fr mg) : FnOk P w K mg base CX0 1 f fd ["thing", "low", "high"] spWhole := by
  refine F.ok sc_whole (fun vs H Q E h => ?_) (fun cdv A outer s H vs Q E hr h => ?_)
  · obtain ⟨x, lo, hi, t, rfl, _⟩ := h
    rfl
  · obtain ⟨x, lo, hi, t, rfl, ty, hlo, hhi, k⟩ := h
    refine ⟨_, PSs.nox (pss_cons (ps_if (PW.pt (pw_or (pt_val (pe_callB call_isi (by rfl) B.isinstance PyProof.Rows.boot_isinstance (pa_cons (pv 0) (pa_cons (pe_bltn (v := .ty "bool") (by rfl) B.bool PyProof.Rows.boot_bool rfl) pa_nil))))
        (pw_or1 (pt_not (pt_val (pe_callB call_isi (by rfl) B.isinstance PyProof.Rows.boot_isinstance (pa_cons (pv 0) (pa_cons (pe_bltn (v := .ty "int") (by rfl) B.int PyProof.Rows.boot_int rfl) pa_nil)))))))) (pss_one (ps_ret pe_bl)) pss_nil)
      (pss_cons (ps_if (PW.pt (pw_and (pt_cmpR op_notN (pv 1) pe_non (nomark _)) (pw_and1 (pt_cmpR op_lt (pv 0) (pv 1) (nomark _))))) (pss_one (ps_ret pe_bl)) pss_nil)
      (pss_one (ps_ret (pe_or (pe_cmpR op_isN (pv 2) pe_non (nomark _)) (pe_one (pe_cmpR op_le (pv 0) (pv 2) (nomark _)))))))), ?_⟩
    have tyx := ty.x (K := K)
    have tyb := ty.isBool (K := K)
    have tyi := ty.isInt (K := K)
    refine ⟨_, rfl, x, _, _, _, _, rfl, .ty "bool", tyx, tyb, _, rfl, ?_⟩
    cases ty with
    | bl y => exact iteT k
    | int i =>
      refine iteF ⟨_, rfl, _, _, _, _, _, rfl, .ty "int", tyx, tyi, _, rfl, iteF ?_⟩
      have go2 : inLo lo i = true → (tRet (tOrV (tOp (fun x y H Q => y = V.non ∧ Q (V.bl (decide (x = V.non))) H) (tVar 2) (tC V.non)) (tOp (rI0 fun i j => V.bl (decide (i ≤ j))) (tVar 0) (tVar 2)))) { nx := fun _ H' => Q .non H', rt := Q } [some (.int i), some lo, some hi] H := fun e => by
        refine ⟨_, rfl, rfl, _, rfl, ?_⟩
        have k' : Q (.bl (inHi hi i)) H := by
          have z : wholeB lo hi (.int i) = inHi hi i := by
            show (inLo lo i && inHi hi i) = inHi hi i
            rw [e, Bool.true_and]
          rw [← z]
          exact k
        rcases hhi with rfl | ⟨h, rfl⟩
        · exact k'
        · exact ⟨_, rfl, _, rfl, _, _, rfl, rfl, k'⟩
      rcases hlo with rfl | ⟨l, rfl⟩
      · exact ⟨_, rfl, rfl, _, rfl, go2 rfl⟩
      · refine ⟨_, rfl, rfl, _, rfl, _, rfl, _, rfl, _, _, rfl, rfl, _, rfl, ?_⟩
        by_cases hl : i < l
        · rw [decide_eq_true hl]
          refine iteT ?_
          have z : wholeB (.int l) hi (.int i) = false := by
            show (decide (l ≤ i) && inHi hi i) = false
            rw [decide_eq_false (by omega), Bool.false_and]
          rw [z] at k
          exact k
        · rw [decide_eq_false hl]
          exact iteF (go2 (decide_eq_true (by omega)))
    | non => exact iteF ⟨_, rfl, _, _, _, _, _, rfl, .ty "int", tyx, tyi, _, rfl, iteT k⟩
    | str y => exact iteF ⟨_, rfl, _, _, _, _, _, rfl, .ty "int", tyx, tyi, _, rfl, iteT k⟩
    | lst e => exact iteF ⟨_, rfl, _, _, _, _, _, rfl, .ty "int", tyx, tyi, _, rfl, iteT k⟩
    | tup e => exact iteF ⟨_, rfl, _, _, _, _, _, rfl, .ty "int", tyx, tyi, _, rfl, iteT k⟩
    | dK e => exact iteF ⟨_, rfl, _, _, _, _, _, rfl, .ty "int", tyx, tyi, _, rfl, iteT k⟩
end
end K12

set_option maxRecDepth 100000
set_option maxHeartbeats 4000000
namespace K12
open PySem PySem.Spec PyProof.Rows L2 Kw
/-- a list or a tuple of these -/
def SeqAt (H : Hp) (a : Addr) (xs : List V) : Prop := H a = some (.lst xs) ∨ H a = some (.tup xs)
theorem SeqAt.same {H H' : Hp} {a : Addr} {xs : List V} (h : SeqAt H a xs) (s : Same H H') : SeqAt H' a xs := by
  rcases h with h | h
  · exact .inl (s _ _ h)
  · exact .inr (s _ _ h)
theorem SeqAt.sq {K : PySem.W.Frag} {H : Hp} {a : Addr} {xs : List V} (h : SeqAt H a xs) : SqL K H a xs ∨ SqT K H a xs := by
  rcases h with h | h
  · exact .inl (SqL.of h)
  · exact .inr (SqT.of h)
theorem SeqAt.ty {H : Hp} {a : Addr} {xs : List V} (h : SeqAt H a xs) : ∃ t, Ty0 H (.ref a) t ∧ seqT t = true := by
  rcases h with h | h
  · exact ⟨_, .lst h, rfl⟩
  · exact ⟨_, .tup h, rfl⟩
def intOf : V → Int
  | .int i => i
  | _ => 0
theorem ints_of {lo hi : V} : ∀ {xs : List V}, (∀ x ∈ xs, wholeB lo hi x = true) → xs = (xs.map intOf).map V.int
  | [], _ => rfl
  | x :: r, h => by
    have hx := h x List.mem_cons_self
    have e : x = V.int (intOf x) := by
      cases x with
      | int i => rfl
      | _ => cases hx
    rw [List.map_cons, List.map_cons, ← e, ← ints_of (xs := r) fun y hy => h y (List.mem_cons_of_mem _ hy)]
def unlikeB (m : Int) (xs : List V) : Bool := xs.all (fun x => wholeB (.int 0) (.int (m - 1)) x) && decide ((xs.map intOf).Nodup)
section
variable {P : Program} {w : World} {K : PySem.W.Frag} {mg : Str → Option Value} {base : Heap} {f fS fW : Addr} {fd fdS fdW : FuncData}
theorem binds_whole3 (F : FnDf K "is_whole" 10 [.non, .non] f fd) : L2.Binds K fd ["thing", "low", "high"] [] := by
  obtain ⟨ds, v, b⟩ := F.binds1 (ps := ["thing", "low", "high"]) 3 2 (by simp) rfl fun T kV doc pm an cdv ct us its hu hi => match us, hu, its, hi with | [_, _, _], _, [_, _], _ => ⟨_, rfl, rfl⟩
  cases v
  exact b
theorem binds_whole1 (F : FnDf K "is_whole" 10 [.non, .non] f fd) : ∃ ds, Vals [.non, .non] ds ∧ L2.Binds K fd ["thing", "low", "high"] ds :=
  F.binds1 (ps := ["thing", "low", "high"]) 1 0 (by simp) rfl fun T kV doc pm an cdv ct us its hu hi => match us, hu, its, hi with | [_], _, [_, _], _ => ⟨_, rfl, rfl⟩
/-- what is_unlike_row says of a thing, and how long it is where it is a row -/
def UnlikeIs (H : Hp) (x : V) (m : Int) (r : Bool) (n : Nat) : Prop :=
  (∃ t, Ty0 H x t ∧ seqT t = false ∧ r = false) ∨ (∃ a xs, x = .ref a ∧ SeqAt H a xs ∧ xs.length ≤ 1000 ∧ (∀ y ∈ xs, ∃ t, Ty0 H y t) ∧ r = unlikeB m xs ∧ n = xs.length)
theorem UnlikeIs.same {H H' : Hp} {x : V} {m : Int} {r : Bool} {n : Nat} (h : UnlikeIs H x m r n) (s : Same H H') : UnlikeIs H' x m r n := by
  rcases h with ⟨t, ty, e1, e2⟩ | ⟨a, xs, e, hA, hl, hty, e1, e2⟩
  · exact .inl ⟨t, ty.same s, e1, e2⟩
  · exact .inr ⟨a, xs, e, hA.same s, hl, fun y hy => ⟨_, (hty y hy).choose_spec.same s⟩, e1, e2⟩
def spUnlike : Sp := fun vs H Q _ => ∃ (x : V) (m : Int) (r : Bool) (n : Nat), vs = [x, .int m] ∧ UnlikeIs H x m r n ∧ ∀ H', Same H H' → Q (.bl r) H'
theorem sc_unlike : FnScope ["thing", "many", "item"] ["thing", "many"] (defScope (top 11)) := ⟨rfl, rfl, rfl, by decide +kernel, rfl, by decide +kernel, by decide +kernel⟩
theorem ok_unlike (F : FnP K "is_unlike_row" 11 f fd) (B : Fr mg) (FS : FnP K "is_sequence" 9 fS fdS) (mS : mg "is_sequence" = some (.ref fS)) (FW : FnDf K "is_whole" 10 [.non, .non] fW fdW) (mW : mg "is_whole" = some (.ref fW)) :
    FnOk P w K mg base CX0 2 f fd ["thing", "many"] spUnlike := by
  have GS : FnOk P w K mg base CX0 1 fS fdS ["thing"] spIsSeq := ok_isSeq FS B
  have GW : FnOk P w K mg base CX0 1 fW fdW ["thing", "low", "high"] spWhole := ok_whole FW B
  have bS : L2.Binds K fdS ["thing"] [] := FS.bindsN fun _ _ _ _ _ _ us hl => match us, hl with | [_], _ => rfl
  have bW := binds_whole3 FW
  refine F.ok sc_unlike (fun vs H Q E h => ?_) (fun cdv A outer s H vs Q E hr h => ?_)
  · obtain ⟨x, m, r, n, rfl, _⟩ := h
    rfl
  · obtain ⟨x, m, r, n, rfl, h, k⟩ := h
    rcases h with ⟨t, ty, hs, rfl⟩ | ⟨a, xs, rfl, hA, hl, hty, rfl, rfl⟩
    · refine ⟨_, PSs.nox (pss_cons (ps_if (pt_not (pt_val (pe_call GS (hr.mono (by decide)) (by rfl) mS FS.kp bS .nil pass0 (pa_cons (pv 0) pa_nil)))) (pss_one (ps_ret pe_bl)) pss_nil)
      (pss_cons (ps_for PassesOwn.never rfl (pi_list (pv 0)) (pg_name (i := 2) sc_unlike.nd rfl (Or.inl rfl)) (pss_one (ps_if (pt_not (pt_val (pe_call GW (hr.mono (by decide)) (by rfl) mW FW.kp bW .nil pass0 (pa_cons (pv 2) (pa_cons pe_int (pa_cons (pe_op op_sub (pv 1) pe_int) pa_nil)))))) (pss_one (ps_ret pe_bl)) pss_nil)))
      (pss_one (ps_ret (pe_cmpR op_eq (pe_lenSetA (by rfl) B.len (by rfl) B.set (pv 0)) (pe_callB call_len_seq (by rfl) B.len PySem.boot_len (pa_cons (pv 0) pa_nil)) (nomark _)))))), ?_⟩
      exact ⟨_, rfl, x, t, rfl, ty, fun H1 s1 => ⟨_, rfl, by rw [hs]; exact iteT (k H1 s1)⟩⟩
    · obtain ⟨t, ty, hseq⟩ := hA.ty
      -- a turn: an item that is no such number ends it
      have turn : ∀ (i : Nat) (y : V) (H' : Hp) (v : Option V), xs[i]? = some y → Same H H' → (∀ j z, j < i → xs[j]? = some z → wholeB (.int 0) (.int (m - 1)) z = true) → ∀ (N : L2.St → Hp → Prop),
          (∀ H'', Same H H'' → (∀ j z, j < i + 1 → xs[j]? = some z → wholeB (.int 0) (.int (m - 1)) z = true) → N [some (.ref a), some (.int m), some y] H'') → ∀ D : Ends, D.rt = Q → D.nx = N →
          (tIfS (tNot (tB (tCall spWhole [] E0 (tCons (tVar 2) (tCons (tC (.int 0)) (tCons (tOp (rI0 fun i j => .int (i - j)) (tVar 1) (tC (.int 1))) tNil)))))) (tRet (tC (.bl false))) tNext) D [some (.ref a), some (.int m), some y] H' := by
        intro i y H' v hi sH hall N hN D hrt hnx
        obtain ⟨ty', hy⟩ := hty y (List.mem_of_getElem? hi)
        refine ⟨_, rfl, _, rfl, _, _, rfl, rfl, y, _, _, ty', rfl, hy.same sH, .inr ⟨_, rfl⟩, .inr ⟨_, rfl⟩, _, rfl, ?_⟩
        cases hb : wholeB (.int 0) (.int (m - 1)) y with
        | false =>
          refine iteT ?_
          show D.rt (.bl false) H'
          rw [hrt]
          have e : unlikeB m xs = false := by
            unfold unlikeB
            have z : xs.all (fun x => wholeB (.int 0) (.int (m - 1)) x) = false := List.all_eq_false.mpr ⟨y, List.mem_of_getElem? hi, by rw [hb]; decide⟩
            rw [z, Bool.false_and]
          rw [← e]
          exact k H' sH
        | true =>
          refine iteF ?_
          show D.nx _ H'
          rw [hnx]
          refine hN H' sH fun j z hj hz => ?_
          by_cases e : j = i
          · rw [e, hi] at hz
            rw [← Option.some.inj hz]
            exact hb
          · exact hall j z (by omega) hz
      have done : ∀ (H' : Hp) (v : Option V), Same H H' → (∀ j z, j < xs.length → xs[j]? = some z → wholeB (.int 0) (.int (m - 1)) z = true) →
          (tRet (tOp rEq (tLenSetA K (tVar 0)) (tCB (fun xs H Q => ∃ p ys, xs = [.ref p] ∧ (SqL K H p ys ∨ SqT K H p ys) ∧ Q (.int ys.length) H) (tCons (tVar 0) tNil)))) { nx := fun _ H' => Q .non H', rt := Q } [some (.ref a), some (.int m), v] H' := by
        intro H' v sH hall
        have hall' : ∀ z ∈ xs, wholeB (.int 0) (.int (m - 1)) z = true := fun z hz => by
          obtain ⟨j, hj, e⟩ := List.mem_iff_getElem.mp hz
          exact hall j z hj (by rw [List.getElem?_eq_getElem hj, e])
        have ei := ints_of hall'
        have sq := (hA.same sH).sq (K := K)
        have sq' : SqL K H' a ((xs.map intOf).map V.int) ∨ SqT K H' a ((xs.map intOf).map V.int) := by
          rw [← ei]
          exact sq
        refine ⟨_, rfl, a, xs.map intOf, rfl, sq', by rw [List.length_map]; omega, fun n hn => ⟨_, rfl, a, _, rfl, sq, rfl, ?_⟩⟩
        have e : decide (V.int (n : Int) = V.int (xs.length : Int)) = unlikeB m xs := by
          unfold unlikeB
          rw [List.all_eq_true.mpr hall', Bool.true_and]
          rw [List.length_map] at hn
          by_cases q : (xs.map intOf).Nodup
          · rw [decide_eq_true q, decide_eq_true (by rw [hn.mpr q])]
          · rw [decide_eq_false q, decide_eq_false fun z => q (hn.mp (by have := V.int.inj z; omega))]
        rw [e]
        exact k H' sH
      have at_ty : ∀ H1, Same H H1 → SeqAt H1 a xs := fun H1 s1 => hA.same s1
      rcases hA with hA | hA
      · refine ⟨_, PSs.nox (pss_cons (ps_if (pt_not (pt_val (pe_call GS (hr.mono (by decide)) (by rfl) mS FS.kp bS .nil pass0 (pa_cons (pv 0) pa_nil)))) (pss_one (ps_ret pe_bl)) pss_nil)
      (pss_cons (ps_for PassesOwn.never rfl (pi_list (pv 0)) (pg_name (i := 2) sc_unlike.nd rfl (Or.inl rfl)) (pss_one (ps_if (pt_not (pt_val (pe_call GW (hr.mono (by decide)) (by rfl) mW FW.kp bW .nil pass0 (pa_cons (pv 2) (pa_cons pe_int (pa_cons (pe_op op_sub (pv 1) pe_int) pa_nil)))))) (pss_one (ps_ret pe_bl)) pss_nil)))
      (pss_one (ps_ret (pe_cmpR op_eq (pe_lenSetA (by rfl) B.len (by rfl) B.set (pv 0)) (pe_callB call_len_seq (by rfl) B.len PySem.boot_len (pa_cons (pv 0) pa_nil)) (nomark _)))))), ?_⟩
        refine ⟨_, rfl, _, t, rfl, ty, fun H1 s1 => ⟨_, rfl, ?_⟩⟩
        rw [hseq]
        refine iteF ?_
        refine ⟨_, rfl, a, rfl, ⟨_, SqL.of (s1 _ _ hA)⟩, for_list (K := K) (a := a) (xs := xs) (fun i σ H' => Same H H' ∧ (∃ v, σ = [some (.ref a), some (.int m), v]) ∧ ∀ j z, j < i → xs[j]? = some z → wholeB (.int 0) (.int (m - 1)) z = true)
          ⟨s1, ⟨_, rfl⟩, fun j z hj => absurd hj (Nat.not_lt_zero j)⟩ (fun i σ H' _ h => SqL.of (h.1 _ _ hA)) ?_ ?_⟩
        · rintro i y σ H' hi ⟨sH, ⟨v, rfl⟩, hall⟩
          exact turn i y H' v hi sH hall _ (fun H'' s hh => ⟨s, ⟨_, rfl⟩, hh⟩) _ rfl rfl
        · rintro σ H' ⟨sH, ⟨v, rfl⟩, hall⟩
          exact done H' v sH hall
      · refine ⟨_, PSs.nox (pss_cons (ps_if (pt_not (pt_val (pe_call GS (hr.mono (by decide)) (by rfl) mS FS.kp bS .nil pass0 (pa_cons (pv 0) pa_nil)))) (pss_one (ps_ret pe_bl)) pss_nil)
      (pss_cons (ps_for PassesOwn.never rfl (pi_tup (pv 0)) (pg_name (i := 2) sc_unlike.nd rfl (Or.inl rfl)) (pss_one (ps_if (pt_not (pt_val (pe_call GW (hr.mono (by decide)) (by rfl) mW FW.kp bW .nil pass0 (pa_cons (pv 2) (pa_cons pe_int (pa_cons (pe_op op_sub (pv 1) pe_int) pa_nil)))))) (pss_one (ps_ret pe_bl)) pss_nil)))
      (pss_one (ps_ret (pe_cmpR op_eq (pe_lenSetA (by rfl) B.len (by rfl) B.set (pv 0)) (pe_callB call_len_seq (by rfl) B.len PySem.boot_len (pa_cons (pv 0) pa_nil)) (nomark _)))))), ?_⟩
        refine ⟨_, rfl, _, t, rfl, ty, fun H1 s1 => ⟨_, rfl, ?_⟩⟩
        rw [hseq]
        refine iteF ?_
        refine ⟨_, rfl, a, rfl, ⟨_, SqT.of (s1 _ _ hA)⟩, for_tup (K := K) (a := a) (xs := xs) (fun i σ H' => Same H H' ∧ (∃ v, σ = [some (.ref a), some (.int m), v]) ∧ ∀ j z, j < i → xs[j]? = some z → wholeB (.int 0) (.int (m - 1)) z = true)
          ⟨s1, ⟨_, rfl⟩, fun j z hj => absurd hj (Nat.not_lt_zero j)⟩ (fun i σ H' _ h => SqT.of (h.1 _ _ hA)) ?_ ?_⟩
        · rintro i y σ H' hi ⟨sH, ⟨v, rfl⟩, hall⟩
          exact turn i y H' v hi sH hall _ (fun H'' s hh => ⟨s, ⟨_, rfl⟩, hh⟩) _ rfl rfl
        · rintro σ H' ⟨sH, ⟨v, rfl⟩, hall⟩
          exact done H' v sH hall
end
end K12

set_option maxRecDepth 100000
set_option maxHeartbeats 4000000
namespace K12
open PySem PySem.Spec PyProof.Rows L2 Kw
def optV : Option Str → V
  | some z => .str z
  | none => .non
/-- the word due for an entry -/
def entryWord (rb rm : Bool) (wg : Bool) (nm : Nat) : Option Str :=
  if rb = false then some "base" else if wg = false then some "fields" else if rm = false then some "method" else if 3 < nm then some "method" else none
def EntryIs (H : Hp) (x : V) (c : Int) (what : Option Str) : Prop :=
  (∃ t, Ty0 H x t ∧ seqT t = false ∧ what = some "class") ∨ (∃ a xs, x = .ref a ∧ SeqAt H a xs ∧ xs.length ≠ 3 ∧ what = some "class") ∨
  (∃ a b g m rb nb tg rm nm, x = .ref a ∧ SeqAt H a [b, g, m] ∧ UnlikeIs H b c rb nb ∧ Ty0 H g tg ∧ UnlikeIs H m 6 rm nm ∧ what = entryWord rb rm (wholeB (.int 0) (.int 3) g) nm)
def spEntry : Sp := fun vs H Q _ => ∃ (x : V) (c : Int) (what : Option Str), vs = [x, .int c] ∧ EntryIs H x c what ∧ ∀ H', Same H H' → Q (optV what) H'
structure Cst (mg : Str → Option Value) : Prop where
  mf : ∃ t, mg "MOST_FIELDS" = some (.int 3 t)
  mm : ∃ t, mg "MOST_METHODS" = some (.int 3 t)
  mn : ∃ t, mg "METHOD_NAMES" = some (.int 6 t)
  mc : ∃ t, mg "MOST_CLASSES" = some (.int 12 t)
section
variable {P : Program} {w : World} {K : PySem.W.Frag} {mg : Str → Option Value} {base : Heap} {f fS fW fU : Addr} {fd fdS fdW fdU : FuncData}
theorem sc_entry : FnScope ["entry", "c", "bases", "fields", "methods"] ["entry", "c"] (defScope (top 21)) := ⟨rfl, rfl, rfl, by decide +kernel, rfl, by decide +kernel, by decide +kernel⟩
theorem ok_entry (F : FnP K "entry_fault" 21 f fd) (B : Fr mg) (Z : Cst mg) (FS : FnP K "is_sequence" 9 fS fdS) (mS : mg "is_sequence" = some (.ref fS)) (FW : FnDf K "is_whole" 10 [.non, .non] fW fdW) (mW : mg "is_whole" = some (.ref fW))
    (FU : FnP K "is_unlike_row" 11 fU fdU) (mU : mg "is_unlike_row" = some (.ref fU)) : FnOk P w K mg base CX0 3 f fd ["entry", "c"] spEntry := by
  have GS : FnOk P w K mg base CX0 1 fS fdS ["thing"] spIsSeq := ok_isSeq FS B
  have GW : FnOk P w K mg base CX0 1 fW fdW ["thing", "low", "high"] spWhole := ok_whole FW B
  have GU : FnOk P w K mg base CX0 2 fU fdU ["thing", "many"] spUnlike := ok_unlike FU B FS mS FW mW
  have bS : L2.Binds K fdS ["thing"] [] := FS.bindsN fun _ _ _ _ _ _ us hl => match us, hl with | [_], _ => rfl
  have bU : L2.Binds K fdU ["thing", "many"] [] := FU.bindsN fun _ _ _ _ _ _ us hl => match us, hl with | [_, _], _ => rfl
  have bW := binds_whole3 FW
  obtain ⟨tf, zf⟩ := Z.mf
  obtain ⟨tm, zm⟩ := Z.mm
  obtain ⟨tn, zn⟩ := Z.mn
  refine F.ok sc_entry (fun vs H Q E h => ?_) (fun cdv A outer s H vs Q E hr h => ?_)
  · obtain ⟨x, c, what, rfl, _⟩ := h
    rfl
  · obtain ⟨x, c, what, rfl, h, k⟩ := h
    -- what is asked of an entry of three, its parts at hand
    have parts : ∀ (H1 : Hp) (y b g m : V) (rb rm : Bool) (nb nm : Nat) (tg : String), UnlikeIs H1 b c rb nb → Ty0 H1 g tg → UnlikeIs H1 m 6 rm nm → (∀ H', Same H1 H' → Q (optV (entryWord rb rm (wholeB (.int 0) (.int 3) g) nm)) H') →
        (tSeq (tIfS (tNot (tB (tCall spUnlike [] E0 (tCons (tVar 2) (tCons (tVar 1) tNil))))) (tRet (tC (.str "base"))) tNext) (tSeq (tIfS (tNot (tB (tCall spWhole [] E0 (tCons (tVar 3) (tCons (tC (.int 0)) (tCons (tC (.int 3)) tNil)))))) (tRet (tC (.str "fields"))) tNext) (tSeq (tIfS (tOr (tNot (tB (tCall spUnlike [] E0 (tCons (tVar 4) (tCons (tC (.int 6)) tNil))))) (tTest (tOp (rI0 fun i j => .bl (decide (j < i))) (tCB (fun xs H Q => ∃ p ys, xs = [.ref p] ∧ (SqL K H p ys ∨ SqT K H p ys) ∧ Q (.int ys.length) H) (tCons (tVar 4) tNil)) (tC (.int 3))))) (tRet (tC (.str "method"))) tNext) (tRet (tC .non))))) { nx := fun _ H' => Q .non H', rt := Q } [some y, some (.int c), some b, some g, some m] H1 := by
      intro H1 y b g m rb rm nb nm tg hb hg hm k
      refine ⟨_, rfl, _, rfl, b, c, rb, nb, rfl, hb, fun H2 s2 => ⟨_, rfl, ?_⟩⟩
      cases rb with
      | false => exact iteT (k H2 s2)
      | true =>
        refine iteF ⟨_, rfl, g, _, _, tg, rfl, hg.same s2, .inr ⟨_, rfl⟩, .inr ⟨_, rfl⟩, _, rfl, ?_⟩
        cases hw : wholeB (.int 0) (.int 3) g with
        | false =>
          rw [hw] at k
          exact iteT (k H2 s2)
        | true =>
          rw [hw] at k
          refine iteF ⟨_, rfl, m, 6, rm, nm, rfl, hm.same s2, fun H3 s3 => ⟨_, rfl, ?_⟩⟩
          cases rm with
          | false => exact iteT (k H3 (s2.trans s3))
          | true =>
            refine iteF ?_
            rcases hm with ⟨t, ty, e1, e2⟩ | ⟨a, xs, rfl, hA, hl, hty, e1, e2⟩
            · cases e2
            · refine ⟨_, rfl, a, xs, rfl, ((hA.same s2).same s3).sq, _, _, rfl, rfl, _, rfl, ?_⟩
              have k3 := k H3 (s2.trans s3)
              by_cases q : (3 : Int) < (xs.length : Int)
              · have q' : 3 < nm := by omega
                unfold entryWord at k3
                rw [if_neg (by decide), if_neg (by decide), if_neg (by decide), if_pos q'] at k3
                rw [decide_eq_true q]
                exact iteT k3
              · have q' : ¬ 3 < nm := by omega
                unfold entryWord at k3
                rw [if_neg (by decide), if_neg (by decide), if_neg (by decide), if_neg q'] at k3
                rw [decide_eq_false q]
                exact iteF k3
    rcases h with ⟨t, ty, hs, e⟩ | ⟨a, xs, rfl, hA, hn, e⟩ | ⟨a, b, g, m, rb, nb, tg, rm, nm, rfl, hA, hb, hg, hm, e⟩
    · subst e
      refine ⟨_, PSs.nox (pss_cons (ps_if (PW.pt (pw_or (pt_not (pt_val (pe_call GS (hr.mono (by decide)) (by rfl) mS FS.kp bS .nil pass0 (pa_cons (pv 0) pa_nil)))) (pw_or1 (pt_cmpR op_ne (pe_callB call_len_seq (by rfl) B.len PySem.boot_len (pa_cons (pv 0) pa_nil)) pe_int (nomark _))))) (pss_one (ps_ret pe_str)) pss_nil)
        (pss_cons (ps_asg (pv 0) (pg_tup (by rfl) (pgs_cons (pg_name (i := 2) sc_entry.nd rfl (Or.inl rfl)) (pgs_cons (pg_name (i := 3) sc_entry.nd rfl (Or.inl rfl)) (pgs_cons (pg_name (i := 4) sc_entry.nd rfl (Or.inl rfl)) pgs_nil)))))
        (pss_cons (ps_if (pt_not (pt_val (pe_call GU hr (by rfl) mU FU.kp bU .nil pass0 (pa_cons (pv 2) (pa_cons (pv 1) pa_nil))))) (pss_one (ps_ret pe_str)) pss_nil)
        (pss_cons (ps_if (pt_not (pt_val (pe_call GW (hr.mono (by decide)) (by rfl) mW FW.kp bW .nil pass0 (pa_cons (pv 3) (pa_cons pe_int (pa_cons (pe_glob (v := .int 3) (by rfl) zf ⟨_, rfl⟩) pa_nil)))))) (pss_one (ps_ret pe_str)) pss_nil)
        (pss_cons (ps_if (PW.pt (pw_or (pt_not (pt_val (pe_call GU hr (by rfl) mU FU.kp bU .nil pass0 (pa_cons (pv 4) (pa_cons (pe_glob (v := .int 6) (by rfl) zn ⟨_, rfl⟩) pa_nil))))) (pw_or1 (pt_cmpR op_gt (pe_callB call_len_seq (by rfl) B.len PySem.boot_len (pa_cons (pv 4) pa_nil)) (pe_glob (v := .int 3) (by rfl) zm ⟨_, rfl⟩) (nomark _))))) (pss_one (ps_ret pe_str)) pss_nil)
        (pss_one (ps_ret pe_non))))))), ?_⟩
      refine ⟨_, rfl, x, t, rfl, ty, fun H1 s1 => ⟨_, rfl, ?_⟩⟩
      rw [hs]
      exact iteT (k H1 s1)
    · subst e
      obtain ⟨t, ty, hseq⟩ := hA.ty
      refine ⟨_, PSs.nox (pss_cons (ps_if (PW.pt (pw_or (pt_not (pt_val (pe_call GS (hr.mono (by decide)) (by rfl) mS FS.kp bS .nil pass0 (pa_cons (pv 0) pa_nil)))) (pw_or1 (pt_cmpR op_ne (pe_callB call_len_seq (by rfl) B.len PySem.boot_len (pa_cons (pv 0) pa_nil)) pe_int (nomark _))))) (pss_one (ps_ret pe_str)) pss_nil)
        (pss_cons (ps_asg (pv 0) (pg_tup (by rfl) (pgs_cons (pg_name (i := 2) sc_entry.nd rfl (Or.inl rfl)) (pgs_cons (pg_name (i := 3) sc_entry.nd rfl (Or.inl rfl)) (pgs_cons (pg_name (i := 4) sc_entry.nd rfl (Or.inl rfl)) pgs_nil)))))
        (pss_cons (ps_if (pt_not (pt_val (pe_call GU hr (by rfl) mU FU.kp bU .nil pass0 (pa_cons (pv 2) (pa_cons (pv 1) pa_nil))))) (pss_one (ps_ret pe_str)) pss_nil)
        (pss_cons (ps_if (pt_not (pt_val (pe_call GW (hr.mono (by decide)) (by rfl) mW FW.kp bW .nil pass0 (pa_cons (pv 3) (pa_cons pe_int (pa_cons (pe_glob (v := .int 3) (by rfl) zf ⟨_, rfl⟩) pa_nil)))))) (pss_one (ps_ret pe_str)) pss_nil)
        (pss_cons (ps_if (PW.pt (pw_or (pt_not (pt_val (pe_call GU hr (by rfl) mU FU.kp bU .nil pass0 (pa_cons (pv 4) (pa_cons (pe_glob (v := .int 6) (by rfl) zn ⟨_, rfl⟩) pa_nil))))) (pw_or1 (pt_cmpR op_gt (pe_callB call_len_seq (by rfl) B.len PySem.boot_len (pa_cons (pv 4) pa_nil)) (pe_glob (v := .int 3) (by rfl) zm ⟨_, rfl⟩) (nomark _))))) (pss_one (ps_ret pe_str)) pss_nil)
        (pss_one (ps_ret pe_non))))))), ?_⟩
      refine ⟨_, rfl, _, t, rfl, ty, fun H1 s1 => ⟨_, rfl, ?_⟩⟩
      rw [hseq]
      refine iteF ⟨_, rfl, a, xs, rfl, (hA.same s1).sq, rfl, _, rfl, ?_⟩
      have z : decide (V.int (xs.length : Int) = V.int 3) = false := decide_eq_false fun q => hn (by have := V.int.inj q; omega)
      rw [z]
      exact iteT (k H1 s1)
    · subst e
      obtain ⟨t, ty, hseq⟩ := hA.ty
      rcases hA with hA | hA
      · refine ⟨_, PSs.nox (pss_cons (ps_if (PW.pt (pw_or (pt_not (pt_val (pe_call GS (hr.mono (by decide)) (by rfl) mS FS.kp bS .nil pass0 (pa_cons (pv 0) pa_nil)))) (pw_or1 (pt_cmpR op_ne (pe_callB call_len_seq (by rfl) B.len PySem.boot_len (pa_cons (pv 0) pa_nil)) pe_int (nomark _))))) (pss_one (ps_ret pe_str)) pss_nil)
        (pss_cons (ps_asg (pv 0) (pg_unl (by rfl) (pgs_cons (pg_name (i := 2) sc_entry.nd rfl (Or.inl rfl)) (pgs_cons (pg_name (i := 3) sc_entry.nd rfl (Or.inl rfl)) (pgs_cons (pg_name (i := 4) sc_entry.nd rfl (Or.inl rfl)) pgs_nil)))))
        (pss_cons (ps_if (pt_not (pt_val (pe_call GU hr (by rfl) mU FU.kp bU .nil pass0 (pa_cons (pv 2) (pa_cons (pv 1) pa_nil))))) (pss_one (ps_ret pe_str)) pss_nil)
        (pss_cons (ps_if (pt_not (pt_val (pe_call GW (hr.mono (by decide)) (by rfl) mW FW.kp bW .nil pass0 (pa_cons (pv 3) (pa_cons pe_int (pa_cons (pe_glob (v := .int 3) (by rfl) zf ⟨_, rfl⟩) pa_nil)))))) (pss_one (ps_ret pe_str)) pss_nil)
        (pss_cons (ps_if (PW.pt (pw_or (pt_not (pt_val (pe_call GU hr (by rfl) mU FU.kp bU .nil pass0 (pa_cons (pv 4) (pa_cons (pe_glob (v := .int 6) (by rfl) zn ⟨_, rfl⟩) pa_nil))))) (pw_or1 (pt_cmpR op_gt (pe_callB call_len_seq (by rfl) B.len PySem.boot_len (pa_cons (pv 4) pa_nil)) (pe_glob (v := .int 3) (by rfl) zm ⟨_, rfl⟩) (nomark _))))) (pss_one (ps_ret pe_str)) pss_nil)
        (pss_one (ps_ret pe_non))))))), ?_⟩
        refine ⟨_, rfl, _, t, rfl, ty, fun H1 s1 => ⟨_, rfl, ?_⟩⟩
        rw [hseq]
        refine iteF ⟨_, rfl, a, _, rfl, .inl (SqL.of (s1 _ _ hA)), rfl, _, rfl, iteF ?_⟩
        refine ⟨_, rfl, a, _, rfl, SqL.of (s1 _ _ hA), rfl, _, _, rfl, _, _, rfl, _, _, rfl, rfl, ?_⟩
        exact parts H1 _ b g m rb rm nb nm tg (hb.same s1) (hg.same s1) (hm.same s1) fun H' s => k H' (s1.trans s)
      · refine ⟨_, PSs.nox (pss_cons (ps_if (PW.pt (pw_or (pt_not (pt_val (pe_call GS (hr.mono (by decide)) (by rfl) mS FS.kp bS .nil pass0 (pa_cons (pv 0) pa_nil)))) (pw_or1 (pt_cmpR op_ne (pe_callB call_len_seq (by rfl) B.len PySem.boot_len (pa_cons (pv 0) pa_nil)) pe_int (nomark _))))) (pss_one (ps_ret pe_str)) pss_nil)
        (pss_cons (ps_asg (pv 0) (pg_tup (by rfl) (pgs_cons (pg_name (i := 2) sc_entry.nd rfl (Or.inl rfl)) (pgs_cons (pg_name (i := 3) sc_entry.nd rfl (Or.inl rfl)) (pgs_cons (pg_name (i := 4) sc_entry.nd rfl (Or.inl rfl)) pgs_nil)))))
        (pss_cons (ps_if (pt_not (pt_val (pe_call GU hr (by rfl) mU FU.kp bU .nil pass0 (pa_cons (pv 2) (pa_cons (pv 1) pa_nil))))) (pss_one (ps_ret pe_str)) pss_nil)
        (pss_cons (ps_if (pt_not (pt_val (pe_call GW (hr.mono (by decide)) (by rfl) mW FW.kp bW .nil pass0 (pa_cons (pv 3) (pa_cons pe_int (pa_cons (pe_glob (v := .int 3) (by rfl) zf ⟨_, rfl⟩) pa_nil)))))) (pss_one (ps_ret pe_str)) pss_nil)
        (pss_cons (ps_if (PW.pt (pw_or (pt_not (pt_val (pe_call GU hr (by rfl) mU FU.kp bU .nil pass0 (pa_cons (pv 4) (pa_cons (pe_glob (v := .int 6) (by rfl) zn ⟨_, rfl⟩) pa_nil))))) (pw_or1 (pt_cmpR op_gt (pe_callB call_len_seq (by rfl) B.len PySem.boot_len (pa_cons (pv 4) pa_nil)) (pe_glob (v := .int 3) (by rfl) zm ⟨_, rfl⟩) (nomark _))))) (pss_one (ps_ret pe_str)) pss_nil)
        (pss_one (ps_ret pe_non))))))), ?_⟩
        refine ⟨_, rfl, _, t, rfl, ty, fun H1 s1 => ⟨_, rfl, ?_⟩⟩
        rw [hseq]
        refine iteF ⟨_, rfl, a, _, rfl, .inr (SqT.of (s1 _ _ hA)), rfl, _, rfl, iteF ?_⟩
        refine ⟨_, rfl, a, _, rfl, SqT.of (s1 _ _ hA), rfl, _, _, rfl, _, _, rfl, _, _, rfl, rfl, ?_⟩
        exact parts H1 _ b g m rb rm nb nm tg (hb.same s1) (hg.same s1) (hm.same s1) fun H' s => k H' (s1.trans s)
end
end K12

set_option maxRecDepth 100000
set_option maxHeartbeats 4000000
namespace Kw
open PySem PySem.Spec PyProof.Rows L2
theorem ints_at : ∀ {us : List Value} {ks : List Int}, us.length = ks.length → (∀ (j : Nat) (v : Value), us[j]? = some v → ∃ (x : Int) (t : Tok), ks[j]? = some x ∧ v = Value.int x t) → IntsAre us ks
  | [], [], _, _ => .nil
  | u :: us, k :: ks, hl, h => by
    obtain ⟨x, t, e1, e2⟩ := h 0 u rfl
    obtain rfl : k = x := Option.some.inj e1
    rw [e2]
    exact .cons _ _ (ints_at (Nat.succ.inj hl) fun j v e => h (j + 1) v e)
  | [], _ :: _, hl, _ => by cases hl
  | _ :: _, [], hl, _ => by cases hl
/-- sorted(d), d a dict whose keys are ints -/
def rSortDI : List V → Hp → VK → Prop := fun xs H Q => ∃ (a : Addr) (kvs : List (Key × V)) (ks : List Int), xs = [.ref a] ∧ Rd H a (.dK kvs) ∧ kvs.map (·.1) = ks.map Sum.inl ∧ ks.length ≤ 4000 ∧
  ∀ (ys : List Int) (p : Addr), ys.Perm ks → ys.Pairwise (· ≤ ·) → H p = none → Q (.ref p) (upd H p (.lst (ys.map V.int)))
theorem call_sortedDI {X : Cx} (hcalm : X.calm = true) : CallR X (.builtin "sorted") rSortDI := by
  intro pins s σ H xs us Q I r q
  obtain ⟨a, kvs, ks, ex, hd, hks, h64, q⟩ := q
  subst ex
  obtain ⟨u, eu, rx⟩ := vals1 r
  subst eu
  obtain rfl : u = Value.ref a := rx
  obtain ⟨z, lo, vs, rel, dd⟩ := dk_rd I.hok hd
  obtain ⟨ep, hat⟩ := dd.dictAt
  have hkeys : vs.map (·.1) = ks.map Sum.inl := rel.keys.symm.trans hks
  have hl : vs.length = ks.length := by simpa using congrArg List.length hkeys
  have h16 : vs.length ≤ sizeLine := by rw [hl]; exact Nat.le_trans h64 (by decide)
  refine Calls.call_function_entry kind_sorted plain_sorted entry_sorted (args_sorted1 _) ?_
  unfold Builtin.«sorted»
  refine wpAny_bind (m := checkCount "sorted" 1 1 _) (wpAny_pure (wpAny_bind ?_))
  refine PySem.W.kdu_collect (A := X.A.in1) (PySem.W.kdl_dict (knd := mixKind X.prog X.w) (kvs := vs) (ep := ep) lo) (I.ok.hd hcalm) hat h16 fun h' tk acc hk hacc => ?_
  have hal : acc.toList.length = ks.length := by rw [Array.length_toList, hacc.1, hl]
  have hI : IntsAre acc.toList ks := ints_at hal fun j v e => by
    obtain ⟨k, x, e1, e2⟩ := hacc.2 j v (by rw [← Array.getElem?_toList]; exact e)
    have e3 : (vs.map (·.1))[j]? = some k := by rw [List.getElem?_map, e1] <;> rfl
    rw [hkeys, List.getElem?_map] at e3
    obtain ⟨y, e4, e5⟩ := Option.map_eq_some_iff.mp e3
    subst e5
    obtain ⟨t, ev⟩ := Value.isInt_shape (k := y) (v := v) e2
    exact ⟨y, t, e4, ev⟩
  have I1 : Inv X pins σ H { s with heap := h', toks := tk } := I.kept hk
  have hZ : acc.toList.length ≤ sizeLine := by rw [hal]; exact Nat.le_trans h64 (by decide)
  refine wpAny_bind (wpAny_newList ?_ hZ)
  have hoL : (h'.push (seqObj "list" acc.toList.toArray 0)).get? h'.objs.size = some (seqObj "list" acc.toList.toArray 0) := Heap.get?_push_size _ rfl
  show wpAny _ _ _ _ _ { s with heap := h'.push (seqObj "list" acc.toList.toArray 0), toks := tk }
  refine wpAny_bind (wpAny_holding (wpAny_call_entry slot_list_sort ⟨_, hoL, rfl⟩ entry_list_sort ?_ (args_list_sort _)))
  refine SrtO.list_sort_ord SrtO.swo_int hoL hZ (fun h2 => SrtO.ints_sortable hI h2) fun out g1 g2 => ⟨_, rfl, ?_⟩
  obtain ⟨k1, k2, k3⟩ := SrtO.ints_out hI g1 g2
  obtain ⟨e', he'⟩ := sortedHeap_at (vs := acc.toList) (out := out.toArray) hoL
  have hlen : ((out.map SrtO.iv).map V.int).length ≤ sizeLine := by
    rw [List.length_map, k2.length_eq]
    exact Nat.le_trans h64 (by decide)
  refine wpAny_pure ⟨_, rfl, .ref h'.objs.size, upd H h'.objs.size (.lst ((out.map SrtO.iv).map V.int)), I1.laid (t' := tk) (fun b u e => ?_) (Nat.le_refl _)
    (show ObjOk X.prog X.w _ _ _ (.lst ((out.map SrtO.iv).map V.int)) from ⟨hlen, out, e', vals_of_ints k1, he'⟩), rfl, q _ _ k2 k3 (I1.hok.fresh (Nat.le_refl _))⟩
  have hb : b < h'.objs.size := Heap.lt_size e
  rw [sortedHeap_old (Nat.ne_of_lt hb) (by rw [size_push']; exact Nat.lt_succ_of_lt hb)]
  exact Heap.get?_push_of_some _ e
end Kw

set_option maxRecDepth 100000
set_option maxHeartbeats 4000000
namespace K12
open PySem PySem.Spec PyProof.Rows L2 Kw
/-! ### elders, as plain lists -/
def isEld (rows : List (List Nat)) (row : List Nat) (e : Nat) : Bool := row.any fun b => e == b || (rows.getD b []).contains e
def elStep (rows : List (List Nat)) (row : List Nat) : List Nat := (List.range rows.length).filter (isEld rows row)
def elders (bs : List (List Nat)) : List (List Nat) := bs.foldl (fun rows row => rows ++ [elStep rows row]) []
def validB (bs : List (List Nat)) : Prop := ∀ (c : Nat) (row : List Nat), bs[c]? = some row → ∀ b ∈ row, b < c
theorem elders_more {bs : List (List Nat)} {i : Nat} {row : List Nat} (h : bs[i]? = some row) : elders (bs.take (i + 1)) = elders (bs.take i) ++ [elStep (elders (bs.take i)) row] := by
  unfold elders
  rw [List.take_add_one, h, Option.toList_some, List.foldl_append]
  rfl
theorem elders_len : ∀ (bs : List (List Nat)), (elders bs).length = bs.length := by
  intro bs
  have key : ∀ (bs : List (List Nat)) (acc : List (List Nat)), (bs.foldl (fun rows row => rows ++ [elStep rows row]) acc).length = acc.length + bs.length := by
    intro bs
    induction bs with
    | nil => intro acc; rfl
    | cons b r ih =>
      intro acc
      rw [List.foldl_cons, ih, List.length_append]
      simp only [List.length_cons, List.length_nil]
      omega
  have z := key bs []
  rw [List.length_nil, Nat.zero_add] at z
  exact z
theorem elStep_lt {rows : List (List Nat)} {row : List Nat} {e : Nat} (h : e ∈ elStep rows row) : e < rows.length := List.mem_range.mp (List.mem_filter.mp h).1
/-- every elder of an elder row lies below -/
theorem elders_lt : ∀ (bs : List (List Nat)) (c : Nat) (l : List Nat), (elders bs)[c]? = some l → ∀ e ∈ l, e < c := by
  intro bs
  have key : ∀ (bs : List (List Nat)) (acc : List (List Nat)), (∀ (c : Nat) (l : List Nat), acc[c]? = some l → ∀ e ∈ l, e < c) → ∀ (c : Nat) (l : List Nat), (bs.foldl (fun rows row => rows ++ [elStep rows row]) acc)[c]? = some l → ∀ e ∈ l, e < c := by
    intro bs
    induction bs with
    | nil => intro acc h; exact h
    | cons b r ih =>
      intro acc h
      rw [List.foldl_cons]
      refine ih _ fun c l hc e he => ?_
      by_cases q : c < acc.length
      · rw [List.getElem?_append_left q] at hc
        exact h c l hc e he
      · rw [List.getElem?_append_right (by omega)] at hc
        by_cases q2 : c - acc.length = 0
        · rw [q2] at hc
          have e1 : elStep acc b = l := Option.some.inj hc
          rw [← e1] at he
          have := elStep_lt he
          omega
        · rw [List.getElem?_eq_none (by rw [List.length_singleton]; omega)] at hc
          cases hc
  exact key bs [] fun c l h => by simp at h
/-! ### keys of a dict, as they are put in -/
def addN (ks : List Nat) (e : Nat) : List Nat := if e ∈ ks then ks else ks ++ [e]
def KeysAre (kvs : List (Key × V)) (ks : List Nat) : Prop := kvs.map (·.1) = ks.map fun (n : Nat) => (Sum.inl (n : Int) : Key)
theorem mem_addN {ks : List Nat} {e x : Nat} : x ∈ addN ks e ↔ x ∈ ks ∨ x = e := by
  unfold addN
  by_cases h : e ∈ ks
  · rw [if_pos h]
    exact ⟨.inl, fun q => q.elim id fun z => z ▸ h⟩
  · rw [if_neg h, List.mem_append, List.mem_singleton]
theorem nodup_addN {ks : List Nat} {e : Nat} (h : ks.Nodup) : (addN ks e).Nodup := by
  unfold addN
  by_cases q : e ∈ ks
  · rw [if_pos q]
    exact h
  · rw [if_neg q]
    refine List.nodup_append.mpr ⟨h, by simp, fun a ha b hb z => q ?_⟩
    rw [List.mem_singleton.mp hb] at z
    exact z ▸ ha
theorem len_addN {ks : List Nat} {e : Nat} : (addN ks e).length ≤ ks.length + 1 := by
  unfold addN
  split
  · omega
  · rw [List.length_append, List.length_singleton]; omega
theorem keys_put {kvs : List (Key × V)} {ks : List Nat} {e : Nat} {v : V} (h : KeysAre kvs ks) : KeysAre (putK kvs (Sum.inl (e : Int)) v) (addN ks e) := by
  have hm : ∀ n : Nat, (Sum.inl (n : Int) : Key) ∈ kvs.map (·.1) ↔ n ∈ ks := fun n => by
    rw [h, List.mem_map]
    constructor
    · rintro ⟨k, hk, e⟩
      have z : (k : Int) = (n : Int) := Sum.inl.inj e
      have z2 : k = n := by omega
      subst z2
      exact hk
    · exact fun hk => ⟨n, hk, rfl⟩
  unfold putK addN
  by_cases q : e ∈ ks
  · have a : (kvs.any fun kv => decide (kv.1 = (Sum.inl (e : Int) : Key))) = true := by
      obtain ⟨kv, h1, h2⟩ := List.mem_map.mp ((hm e).mpr q)
      exact List.any_eq_true.mpr ⟨kv, h1, decide_eq_true h2⟩
    rw [if_pos a, if_pos q]
    unfold KeysAre
    rw [List.map_map, ← h]
    refine List.map_congr_left fun kv _ => ?_
    show (if kv.1 = Sum.inl (e : Int) then (kv.1, v) else kv).1 = kv.1
    split <;> rfl
  · have a : ¬ (kvs.any fun kv => decide (kv.1 = (Sum.inl (e : Int) : Key))) = true := fun z => by
      obtain ⟨kv, h1, h2⟩ := List.any_eq_true.mp z
      exact q ((hm e).mp (List.mem_map.mpr ⟨kv, h1, of_decide_eq_true h2⟩))
    rw [if_neg a, if_neg q]
    unfold KeysAre
    rw [List.map_append, List.map_append, h]
    rfl
/-! ### a list of tuples of numbers -/
def natV (n : Nat) : V := V.int (n : Int)
def TupsAt (H : Hp) : List V → List (List Nat) → Prop := Paired fun v l => ∃ t, v = .ref t ∧ H t = some (.tup (l.map natV))
theorem TupsAt.mono {H H' : Hp} (k : ∀ b xs, H b = some (.tup xs) → H' b = some (.tup xs)) : ∀ {vs : List V} {ls : List (List Nat)}, TupsAt H vs ls → TupsAt H' vs ls
  | [], [], _ => .nil
  | _ :: _, _ :: _, .cons ⟨t, e, h⟩ r => .cons ⟨t, e, k _ _ h⟩ (TupsAt.mono k r)
theorem TupsAt.same {H H' : Hp} {vs : List V} {ls : List (List Nat)} (h : TupsAt H vs ls) (s : Same H H') : TupsAt H' vs ls := h.mono fun b xs e => s b _ e
theorem TupsAt.len {H : Hp} {vs : List V} {ls : List (List Nat)} (h : TupsAt H vs ls) : vs.length = ls.length := Paired.length h
theorem TupsAt.get {H : Hp} : ∀ {vs : List V} {ls : List (List Nat)} {i : Nat} {l : List Nat}, TupsAt H vs ls → ls[i]? = some l → ∃ t, vs[i]? = some (.ref t) ∧ H t = some (.tup (l.map natV))
  | [], [], _, _, _, h => by simp at h
  | _ :: _, _ :: _, 0, _, .cons ⟨t, e1, h⟩ _, e => by
    obtain rfl := Option.some.inj e
    exact ⟨t, by rw [e1]; rfl, h⟩
  | _ :: _, _ :: _, i + 1, _, .cons _ r, e => TupsAt.get (i := i) r e
theorem TupsAt.app {H : Hp} : ∀ {vs us : List V} {ls ms : List (List Nat)}, TupsAt H vs ls → TupsAt H us ms → TupsAt H (vs ++ us) (ls ++ ms)
  | [], _, [], _, _, h => h
  | _ :: _, _, _ :: _, _, .cons h r, s => .cons h (TupsAt.app r s)
/-- a list's or a dict's place written: tuples stand -/
theorem tups_upd {H : Hp} {a : Addr} {o u : HO} (ha : H a = some o) (hn : ∀ xs, o ≠ .tup xs) : ∀ b xs, H b = some (.tup xs) → upd H a u b = some (.tup xs) := fun b xs e => by
  have ne : b ≠ a := fun z => by
    rw [z, ha] at e
    exact hn xs (Option.some.inj e)
  rw [upd_ne ne]
  exact e
theorem sorted_one {ys : List Int} {a b : List Nat} (p : ys.Perm (a.map fun (n : Nat) => (n : Int))) (hs : ys.Pairwise (· ≤ ·)) (ha : a.Nodup) (hb : b.Nodup) (hm : ∀ x, x ∈ a ↔ x ∈ b) (hbs : b.Pairwise (· < ·)) : ys.map V.int = b.map natV := by
  have p2 : ys.Perm (b.map fun (n : Nat) => (n : Int)) := p.trans (((List.perm_ext_iff_of_nodup ha hb).mpr hm).map _)
  have hb2 : (b.map fun (n : Nat) => (n : Int)).Pairwise (· ≤ ·) := List.pairwise_map.mpr (hbs.imp fun h => by omega)
  have e : ys = b.map fun (n : Nat) => (n : Int) := p2.eq_of_pairwise (fun x y _ _ h1 h2 => Int.le_antisymm h1 h2) hs hb2
  rw [e, List.map_map]
  rfl
end K12

set_option maxRecDepth 100000
set_option maxHeartbeats 4000000
namespace K12
open PySem PySem.Spec PyProof.Rows L2 Kw
theorem same_upd {H0 H1 : Hp} {p : Addr} {o : HO} (s : Same H0 H1) (hp : H0 p = none) : Same H0 (upd H1 p o) := fun b u e => by
  rw [upd_ne (ne_of_none e hp)]
  exact s b u e
/-- a dict that holds just these numbers as keys -/
def DictHas (H : Hp) (p : Addr) (P : Nat → Prop) (n : Nat) : Prop := ∃ kvs ks, H p = some (.dK kvs) ∧ KeysAre kvs ks ∧ ks.Nodup ∧ ks.length ≤ n ∧ kvs.length ≤ n ∧ ∀ x, x ∈ ks ↔ P x
theorem DictHas.put {H : Hp} {p : Addr} {P : Nat → Prop} {n e : Nat} {v : V} (h : DictHas H p P n) (hn : n < sizeLine) : ∃ H', DPut H p (.int (e : Int)) v H' ∧ (∃ o, H' = upd H p o) ∧ DictHas H' p (fun x => P x ∨ x = e) (n + 1) := by
  obtain ⟨kvs, ks, h1, h2, h3, h4, h5, h6⟩ := h
  refine ⟨_, DPut.k (k := Sum.inl (e : Int)) h1 (by omega), ⟨_, rfl⟩, _, addN ks e, upd_same, keys_put h2, nodup_addN h3, Nat.le_trans len_addN (by omega), Nat.le_trans (length_putK _ _ _) (by omega), fun x => ?_⟩
  rw [mem_addN, h6]
theorem DictHas.iff {H : Hp} {p : Addr} {P P' : Nat → Prop} {n : Nat} (h : DictHas H p P n) (k : ∀ x, P x ↔ P' x) : DictHas H p P' n := by
  obtain ⟨kvs, ks, h1, h2, h3, h4, h5, h6⟩ := h
  exact ⟨kvs, ks, h1, h2, h3, h4, h5, fun x => (h6 x).trans (k x)⟩
theorem DictHas.le {H : Hp} {p : Addr} {P : Nat → Prop} {n m : Nat} (h : DictHas H p P n) (k : n ≤ m) : DictHas H p P m := by
  obtain ⟨kvs, ks, h1, h2, h3, h4, h5, h6⟩ := h
  exact ⟨kvs, ks, h1, h2, h3, by omega, by omega, h6⟩
theorem elStep_mem {rows : List (List Nat)} {row : List Nat} (hlt : ∀ b ∈ row, b < rows.length) (hr : ∀ (c : Nat) (l : List Nat), rows[c]? = some l → ∀ e ∈ l, e < c) (x : Nat) : x ∈ elStep rows row ↔ ∃ b ∈ row, x = b ∨ x ∈ rows.getD b [] := by
  unfold elStep isEld
  rw [List.mem_filter, List.mem_range, List.any_eq_true]
  constructor
  · rintro ⟨_, b, hb, h⟩
    refine ⟨b, hb, ?_⟩
    rw [Bool.or_eq_true] at h
    exact h.imp (fun h => by simpa using h) fun h => by simpa using h
  · rintro ⟨b, hb, h⟩
    have hbl := hlt b hb
    refine ⟨?_, b, hb, ?_⟩
    · rcases h with h | h
      · omega
      · have e : rows[b]? = some (rows.getD b []) := by
          rw [List.getElem?_eq_getElem hbl, List.getD_eq_getElem?_getD, List.getElem?_eq_getElem hbl]
          rfl
        have := hr b _ e x h
        omega
    · rw [Bool.or_eq_true]
      exact h.imp (fun h => by simpa using h) fun h => by simpa using h
theorem elStep_up (rows : List (List Nat)) (row : List Nat) : (elStep rows row).Pairwise (· < ·) := List.Pairwise.filter _ List.pairwise_lt_range
theorem elStep_len (rows : List (List Nat)) (row : List Nat) : (elStep rows row).length ≤ rows.length := by
  have := List.length_filter_le (isEld rows row) (List.range rows.length)
  rw [List.length_range] at this
  exact this
theorem up_nodup {l : List Nat} (h : l.Pairwise (· < ·)) : l.Nodup := h.imp fun h => Nat.ne_of_lt h
theorem elders_len_row : ∀ (bs : List (List Nat)) (c : Nat) (l : List Nat), (elders bs)[c]? = some l → l.length ≤ bs.length := by
  intro bs
  have key : ∀ (bs : List (List Nat)) (acc : List (List Nat)), (∀ l ∈ acc, l.length ≤ acc.length) → ∀ l ∈ bs.foldl (fun rows row => rows ++ [elStep rows row]) acc, l.length ≤ acc.length + bs.length := by
    intro bs
    induction bs with
    | nil => intro acc h l hl; exact Nat.le_trans (h l hl) (Nat.le_add_right _ _)
    | cons b r ih =>
      intro acc h l hl
      rw [List.foldl_cons] at hl
      have hlen : (acc ++ [elStep acc b]).length = acc.length + 1 := by rw [List.length_append]; rfl
      have := ih (acc ++ [elStep acc b]) (fun l hl => by
        rw [hlen]
        rcases List.mem_append.mp hl with hl | hl
        · exact Nat.le_succ_of_le (h l hl)
        · rw [List.mem_singleton.mp hl]
          exact Nat.le_succ_of_le (elStep_len _ _)) l hl
      rw [hlen] at this
      rw [List.length_cons]
      omega
  intro c l h
  have := key bs [] (fun l hl => by cases hl) l (List.mem_of_getElem? h)
  rw [List.length_nil, Nat.zero_add] at this
  exact this
section
variable {P : Program} {w : World} {K : PySem.W.Frag} {mg : Str → Option Value} {base : Heap} {f : Addr} {fd : FuncData}
def spElders : Sp := fun vs H Q _ => ∃ (a : Addr) (ws : List V) (bs : List (List Nat)), vs = [.ref a] ∧ H a = some (.tup ws) ∧ TupsAt H ws bs ∧ validB bs ∧ bs.length ≤ 12 ∧ (∀ row ∈ bs, row.length ≤ 12) ∧
  ∀ H' p us, Same H H' → H' p = some (.tup us) → TupsAt H' us (elders bs) → Q (.ref p) H'
theorem sc_elders : FnScope ["bases", "rows", "row", "found", "base", "elder"] ["bases"] (defScope (top 22)) := ⟨rfl, rfl, rfl, by decide +kernel, rfl, by decide +kernel, by decide +kernel⟩
theorem ok_elders (F : FnP K "elder_rows" 22 f fd) (B : Fr mg) : FnOk P w K mg base CX0 1 f fd ["bases"] spElders := by
  refine F.ok sc_elders (fun vs H Q E h => ?_) (fun cdv A outer s H vs Q E hr h => ?_)
  · obtain ⟨a, ws, bs, rfl, _⟩ := h
    rfl
  · obtain ⟨a, ws, bs, rfl, hA, hT, hv, h12, hr12, k⟩ := h
    refine ⟨_, PSs.nox (pss_cons (ps_set (i := 1) sc_elders.nd rfl (Or.inl rfl) (pe_lst pa_nil))
      (pss_cons (ps_for PassesOwn.never rfl (pi_tup (pv 0)) (pg_name (i := 2) sc_elders.nd rfl (Or.inl rfl))
        (pss_cons (ps_set (i := 3) sc_elders.nd rfl (Or.inl rfl) pe_dnewK)
        (pss_cons (ps_for PassesOwn.never rfl (pi_tup (pv 2)) (pg_name (i := 4) sc_elders.nd rfl (Or.inl rfl))
          (pss_cons (ps_dput (hu_of hr) (pv 3) (pv 4) pe_bl rfl)
          (pss_one (ps_for PassesOwn.never rfl (pi_tup (pe_ix ix_list (pv 1) (pv 4) (fun _ _ => rfl))) (pg_name (i := 5) sc_elders.nd rfl (Or.inl rfl))
            (pss_one (ps_dput (hu_of hr) (pv 3) (pv 5) pe_bl rfl))))))
        (pss_one (ps_expr (pe_bm PySem.F.plainAttrs_list PySem.F.slot_list_append PySem.F.type_list_append mt_append (pv 1) (pa_cons (pe_callTy call_tuple_of (by rfl) B.tuple (by decide +kernel) (pa_cons (pe_callB (Kw.call_sortedDI rfl) (by rfl) B.sorted (by decide +kernel) (pa_cons (pv 3) pa_nil)) pa_nil)) pa_nil)))))))
      (pss_one (ps_ret (pe_callTy call_tuple_of (by rfl) B.tuple (by decide +kernel) (pa_cons (pv 1) pa_nil)))))), ?_⟩
    refine ⟨by decide, fun R hR => ?_⟩
    refine ⟨_, rfl, a, rfl, ⟨_, SqT.of (same_new hR _ _ hA)⟩, for_tup (K := K) (a := a) (xs := ws) (fun i σ H' => Same H H' ∧ ∃ us x y z u, σ = [some (.ref a), some (.ref R), x, y, z, u] ∧ H' R = some (.lst us) ∧ TupsAt H' us (elders (bs.take i)))
      ⟨same_new hR, [], none, none, none, none, rfl, upd_same, .nil⟩ (fun i σ H' _ h => SqT.of (h.1 _ _ hA)) ?_ ?_⟩
    · rintro i y σ H' hi ⟨sH, us, x0, y0, z0, u0, rfl, hRu, hU⟩
      have hbl : ws.length = bs.length := hT.len
      have hil : i < bs.length := by
        rw [← hbl]
        exact (List.getElem?_eq_some_iff.mp hi).1
      obtain ⟨row, hrow⟩ : ∃ row, bs[i]? = some row := ⟨_, List.getElem?_eq_getElem hil⟩
      obtain ⟨t, et, ht⟩ := hT.get hrow
      obtain rfl : V.ref t = y := Option.some.inj (et.symm.trans hi)
      have hE : (elders (bs.take i)).length = i := by rw [elders_len, List.length_take, Nat.min_eq_left (Nat.le_of_lt hil)]
      have hlt : ∀ b ∈ row, b < i := hv i row hrow
      have hrl : row.length ≤ 12 := hr12 row (List.mem_of_getElem? hrow)
      have hus : us.length = i := hU.len.trans hE
      refine fun p hp => ?_
      have sp : Same H' (upd H' p (.dK [])) := same_new hp
      refine ⟨_, rfl, t, rfl, ⟨_, SqT.of (sp _ _ (sH _ _ ht))⟩, for_tup (K := K) (a := t) (xs := row.map natV) (fun j σ H2 => Same H' H2 ∧ ∃ z u, σ = [some (.ref a), some (.ref R), some (.ref t), some (.ref p), z, u] ∧ DictHas H2 p (fun x => ∃ b ∈ row.take j, x = b ∨ x ∈ (elders (bs.take i)).getD b []) (j * 14))
        ⟨sp, z0, u0, rfl, [], [], upd_same, rfl, List.nodup_nil, Nat.zero_le _, Nat.zero_le _, fun x => by simp⟩ (fun j σ H2 _ h => SqT.of (h.1 _ _ (sH _ _ ht))) ?_ ?_⟩
      · rintro j y σ H2 hj ⟨s2, z1, u1, rfl, hD⟩
        rw [List.getElem?_map] at hj
        obtain ⟨b, hb, rfl⟩ := Option.map_eq_some_iff.mp hj
        have hjl : j < row.length := (List.getElem?_eq_some_iff.mp hb).1
        have hbi : b < i := hlt b (List.mem_of_getElem? hb)
        obtain ⟨H3, hput, ⟨o3, e3⟩, hD3⟩ := hD.put (e := b) (v := .bl true) (by show j * 14 < 2 ^ 24; omega)
        have s3 : Same H' H3 := by
          rw [e3]
          exact same_upd s2 hp
        refine ⟨_, rfl, _, rfl, p, H3, rfl, hput, ?_⟩
        obtain ⟨l, hl⟩ : ∃ l, (elders (bs.take i))[b]? = some l := ⟨_, List.getElem?_eq_getElem (by rw [hE]; exact hbi)⟩
        have hgd : (elders (bs.take i)).getD b [] = l := by
          rw [List.getD_eq_getElem?_getD, hl]
          rfl
        have hll : l.length ≤ 12 := by
          have := elders_len_row _ _ _ hl
          rw [List.length_take] at this
          omega
        obtain ⟨q, eq, hq⟩ := hU.get hl
        refine ⟨_, rfl, _, rfl, R, us, _, _, rfl, rfl, SqL.of (s3 _ _ hRu), atI_nat eq, q, rfl, ⟨_, SqT.of (s3 _ _ hq)⟩, for_tup (K := K) (a := q) (xs := l.map natV) (fun m σ H4 => Same H' H4 ∧ ∃ u, σ = [some (.ref a), some (.ref R), some (.ref t), some (.ref p), some (natV b), u] ∧ DictHas H4 p (fun x => ((∃ b ∈ row.take j, x = b ∨ x ∈ (elders (bs.take i)).getD b []) ∨ x = b) ∨ x ∈ l.take m) (j * 14 + 1 + m))
          ⟨s3, u1, rfl, hD3.iff fun x => by simp⟩ (fun m σ H4 _ h => SqT.of (h.1 _ _ hq)) ?_ ?_⟩
        · rintro m y σ H4 hm ⟨s4, u2, rfl, hD4⟩
          rw [List.getElem?_map] at hm
          obtain ⟨e, he, rfl⟩ := Option.map_eq_some_iff.mp hm
          have hml : m < l.length := (List.getElem?_eq_some_iff.mp he).1
          obtain ⟨H5, hput5, ⟨o5, e5⟩, hD5⟩ := hD4.put (e := e) (v := .bl true) (by show j * 14 + 1 + m < 2 ^ 24; omega)
          refine ⟨_, rfl, _, rfl, p, H5, rfl, hput5, by rw [e5]; exact same_upd s4 hp, _, rfl, hD5.iff fun x => ?_⟩
          rw [List.take_add_one, he, Option.toList_some, List.mem_append, List.mem_singleton, or_assoc]
        · rintro σ H4 ⟨s4, u2, rfl, hD4⟩
          rw [List.length_map] at hD4
          refine ⟨s4, _, _, rfl, (hD4.iff fun x => ?_).le (by omega)⟩
          rw [List.take_add_one, hb, Option.toList_some, List.take_length]
          constructor
          · rintro ((⟨c, hc, h⟩ | h) | h)
            · exact ⟨c, List.mem_append_left _ hc, h⟩
            · exact ⟨b, List.mem_append_right _ (List.mem_singleton.mpr rfl), .inl h⟩
            · exact ⟨b, List.mem_append_right _ (List.mem_singleton.mpr rfl), .inr (by rw [hgd]; exact h)⟩
          · rintro ⟨c, hc, h⟩
            rcases List.mem_append.mp hc with hc | hc
            · exact .inl (.inl ⟨c, hc, h⟩)
            · obtain rfl := List.mem_singleton.mp hc
              rcases h with h | h
              · exact .inl (.inr h)
              · rw [hgd] at h
                exact .inr h
      · rintro σ H2 ⟨s2, z1, u1, rfl, kvs, ks, h1, h2, h3, h4, h5, h6⟩
        rw [List.length_map, List.take_length] at h6
        rw [List.length_map] at h4
        refine ⟨_, rfl, .inl ⟨rfl, _, SqL.of (s2 _ _ hRu)⟩, _, rfl, p, kvs, ks.map fun (n : Nat) => (n : Int), rfl, .inl h1, ?_, ?_, fun ys L perm srt hL => ?_⟩
        · rw [h2, List.map_map]
          rfl
        · rw [List.length_map]
          omega
        · have sL : Same H2 (upd H2 L (.lst (ys.map V.int))) := same_new hL
          refine ⟨L, ys.map V.int, rfl, .inl ⟨SqL.of upd_same, fun T hT' => ?_⟩⟩
          have sT : Same (upd H2 L (.lst (ys.map V.int))) (upd (upd H2 L (.lst (ys.map V.int))) T (.tup (ys.map V.int))) := same_new hT'
          have sAll := (s2.trans sL).trans sT
          have eys : ys.map V.int = (elStep (elders (bs.take i)) row).map natV := sorted_one perm srt h3 (up_nodup (elStep_up _ _)) (fun x => (h6 x).trans (elStep_mem (fun b hb => by rw [hE]; exact hlt b hb) (elders_lt _) x).symm) (elStep_up _ _)
          refine ⟨R, us, _, rfl, rfl, sAll _ _ hRu, by rw [hus]; show i < 2 ^ 24; omega, same_upd ((sH.trans s2).trans (sL.trans sT)) hR, us ++ [.ref T], _, _, _, _, rfl, upd_same, ?_⟩
          have keep : ∀ b xs, upd (upd H2 L (.lst (ys.map V.int))) T (.tup (ys.map V.int)) b = some (.tup xs) → upd (upd (upd H2 L (.lst (ys.map V.int))) T (.tup (ys.map V.int))) R (.lst (us ++ [.ref T])) b = some (.tup xs) := tups_upd (sAll _ _ hRu) fun xs z => by cases z
          rw [elders_more hrow]
          refine ((hU.same sAll).mono keep).app (.cons ⟨T, rfl, ?_⟩ .nil)
          rw [← eys]
          exact keep _ _ upd_same
    · rintro σ H' ⟨sH, us, x0, y0, z0, u0, rfl, hRu, hU⟩
      have hbl : ws.length = bs.length := hT.len
      rw [hbl, List.take_length] at hU
      refine ⟨_, rfl, R, us, rfl, .inl ⟨SqL.of hRu, fun p hp => ?_⟩⟩
      exact k _ p us (sH.trans (same_new hp)) upd_same (hU.same (same_new hp))
end
end K12

set_option maxRecDepth 100000
set_option maxHeartbeats 4000000
namespace K12
open PySem PySem.Spec PyProof.Rows L2 Kw
def heirRow (es : List (List Nat)) (n c : Nat) : List Nat := (List.range n).filter fun h => (es.getD h []).contains c
def heirs (es : List (List Nat)) : List (List Nat) := (List.range es.length).map (heirRow es es.length)
theorem inV_nat (c : Nat) : ∀ l : List Nat, inV (natV c) (l.map natV) = l.contains c
  | [] => rfl
  | x :: r => by
    unfold inV
    rw [List.map_cons, List.any_cons, List.contains_cons]
    have ih := inV_nat c r
    unfold inV at ih
    rw [ih]
    congr 1
    show ((x : Int) == (c : Int)) = (c == x)
    rw [Bool.eq_iff_iff, beq_iff_eq, beq_iff_eq]
    omega
theorem flat_nats : ∀ l : List Nat, (l.map natV).all flatV = true
  | [] => rfl
  | _ :: r => by
    rw [List.map_cons, List.all_cons, flat_nats r]
    rfl
theorem heirRow_more (es : List (List Nat)) (n c i : Nat) (hi : i < n) : ((List.range n).take (i + 1)).filter (fun h => (es.getD h []).contains c) = ((List.range n).take i).filter (fun h => (es.getD h []).contains c) ++ (if (es.getD i []).contains c then [i] else []) := by
  rw [List.take_add_one, List.filter_append, List.getElem?_range hi, Option.toList_some]
  congr 1
  cases h : (es.getD i []).contains c with
  | true => rw [List.filter_cons_of_pos (by exact h)]; rfl
  | false => rw [List.filter_cons_of_neg (by show ¬ (es.getD i []).contains c = true; rw [h]; decide)]; rfl
/-- tuple(xs) -/
structure rTupOf (K : PySem.W.Frag) (xs : List V) (H : Hp) (Q : VK) : Prop where
  h : ∃ p ys, xs = [.ref p] ∧ ((SqL K H p ys ∧ ∀ l, H l = none → Q (.ref l) (upd H l (.tup ys))) ∨ (SqT K H p ys ∧ Q (.ref p) H))
theorem call_tup {X : Cx} : CallR X (.type "tuple") (rTupOf X.K) := fun pins s σ H vs us Q I r h => call_tuple_of pins s σ H vs us Q I r h.h
section
variable {P : Program} {w : World} {K : PySem.W.Frag} {mg : Str → Option Value} {base : Heap} {f : Addr} {fd : FuncData}
def spHeirs : Sp := fun vs H Q _ => ∃ (a : Addr) (ws : List V) (es : List (List Nat)), vs = [.ref a] ∧ H a = some (.tup ws) ∧ TupsAt H ws es ∧ es.length ≤ 12 ∧ ∀ H' p us, Same H H' → H' p = some (.tup us) → TupsAt H' us (heirs es) → Q (.ref p) H'
theorem sc_heirs : FnScope ["elders", "many", "c", "heir"] ["elders"] (defScope (top 23)) := ⟨rfl, rfl, rfl, by decide +kernel, rfl, by decide +kernel, by decide +kernel⟩
theorem ok_heirs (F : FnP K "heir_rows" 23 f fd) (B : Fr mg) : FnOk P w K mg base CX0 1 f fd ["elders"] spHeirs := by
  refine F.ok sc_heirs (fun vs H Q E h => ?_) (fun cdv A outer s H vs Q E hr h => ?_)
  · obtain ⟨a, ws, es, rfl, _⟩ := h
    rfl
  · obtain ⟨a, ws, es, rfl, hA, hT, h12, k⟩ := h
    refine ⟨_, PSs.nox (pss_cons (ps_set (i := 1) sc_heirs.nd rfl (Or.inr rfl) (pe_callB call_len_seq (by rfl) B.len PySem.boot_len (pa_cons (pv 0) pa_nil)))
      (pss_one (ps_ret (pe_callTy call_tuple_of (by rfl) B.tuple (by decide +kernel) (pa_cons
        (pe_lc (own := [("c", 2)]) (g := gName 2) (tt := tYes) rfl sc_heirs.nd (pi_range1 (by rfl) B.range (pa_cons (pv 1) pa_nil)) (blkOk_by (N := ["elders", "many", "c", "heir"]) (sc := defScope (top 23)) (by decide +kernel))
          (fun _ _ _ _ _ => pg_name (i := 2) sc_heirs.nd rfl (Or.inr rfl)) (fun _ _ _ _ _ => pts_nil)
          (fun _ _ _ _ _ => pe_callTy (T := "tuple") (r := rTupOf K) (call_tup (X := _)) (by rfl) B.tuple (by decide +kernel) (pa_cons
            (pe_lc (own := [("heir", 3)]) (g := gName 3) rfl sc_heirs.nd (pi_range1 (by rfl) B.range (pa_cons (pv 1) pa_nil)) (blkOk_by (by rfl))
              (fun _ _ _ _ _ => pg_name (i := 3) sc_heirs.nd rfl (Or.inl rfl)) (fun _ _ _ _ _ => pts_one (pt_cmpR (r := rIn K false) op_in_seq (pv 2) (pe_ix (r := rIxT K) ix_tup (pv 0) (pv 3) (fun _ _ => rfl)) (by rfl)))
              (fun _ _ _ _ _ => pv 3)) pa_nil))) pa_nil))))), ?_⟩
    have hbl : ws.length = es.length := hT.len
    refine ⟨_, rfl, a, ws, rfl, .inr (SqT.of hA), ?_⟩
    refine ⟨_, rfl, _, rfl, by omega, by omega, fun D hD => lc_range (n := ws.length) (fun i H2 => Same H H2 ∧ ∃ us, H2 D = some (.lst us) ∧ TupsAt H2 us ((heirs es).take i))
      ⟨same_new hD, [], upd_same, .nil⟩ ?_ ?_⟩
    · rintro i H2 hi ⟨s2, us, hDu, hU⟩
      have hlen : (heirs es).length = ws.length := by
        unfold heirs
        rw [List.length_map, List.length_range, hbl]
      have hrow : (heirs es)[i]? = some (heirRow es ws.length i) := by
        unfold heirs
        rw [List.getElem?_map, List.getElem?_range (by omega), hbl]
        rfl
      have husl : us.length = i := by
        rw [hU.len, List.length_take, hlen]
        omega
      refine ⟨rfl, _, rfl, _, rfl, by omega, by omega, fun D2 hD2 => lc_range (n := ws.length) (fun j H3 => Same H2 H3 ∧ H3 D2 = some (.lst ((((List.range ws.length).take j).filter fun h => (es.getD h []).contains i).map natV)))
        ⟨same_new hD2, upd_same⟩ ?_ ?_⟩
      · rintro j H3 hj ⟨s3, hD3⟩
        obtain ⟨l, hl⟩ : ∃ l, es[j]? = some l := ⟨_, List.getElem?_eq_getElem (by omega)⟩
        have hgd : es.getD j [] = l := by
          rw [List.getD_eq_getElem?_getD, hl]
          rfl
        obtain ⟨t, et, ht⟩ := hT.get hl
        have e0 : (0 : Int) + (i : Int) = (i : Int) := Int.zero_add _
        refine ⟨rfl, _, rfl, _, rfl, _, rfl, a, ws, (0 : Int) + (j : Int), _, rfl, rfl, SqT.of (s3 _ _ (s2 _ _ hA)), by rw [Int.zero_add]; exact atI_nat et, t, _, rfl, .inr (SqT.of (s3 _ _ (s2 _ _ ht))), rfl, flat_nats l, _, rfl, ?_⟩
        have ein : inV (.int ((0 : Int) + (i : Int))) (l.map natV) = l.contains i := by
          rw [e0]
          exact inV_nat i l
        show (if inV (.int ((0 : Int) + (i : Int))) (l.map natV) = true then _ else _)
        rw [ein]
        have hm := heirRow_more es ws.length i j hj
        rw [hgd] at hm
        cases hb : l.contains i with
        | true =>
          rw [hb, if_pos rfl] at hm
          rw [if_pos rfl]
          refine ⟨_, rfl, _, hD3, ?_, same_upd s3 hD2, ?_⟩
          · rw [List.length_map]
            refine Nat.lt_of_le_of_lt (List.length_filter_le _ _) ?_
            rw [List.length_take]
            show _ < 2 ^ 24
            omega
          · rw [hm, List.map_append, upd_same, Int.zero_add]
            rfl
        | false =>
          rw [hb, if_neg (by decide), List.append_nil] at hm
          rw [if_neg (by decide)]
          exact ⟨s3, by rw [hm]; exact hD3⟩
      · rintro H3 ⟨s3, hD3⟩
        rw [List.take_of_length_le (by rw [List.length_range]; exact Nat.le_refl _)] at hD3
        refine ⟨D2, _, rfl, .inl ⟨SqL.of hD3, fun T hT' => ?_⟩⟩
        have sT := s3.trans (same_new (o := .tup ((heirRow es ws.length i).map natV)) hT')
        refine ⟨us, sT _ _ hDu, by rw [husl]; show i < 2 ^ 24; omega, same_upd (s2.trans sT) hD, us ++ [.ref T], upd_same, ?_⟩
        have keep : ∀ b xs, upd H3 T (.tup ((heirRow es ws.length i).map natV)) b = some (.tup xs) → upd (upd H3 T (.tup ((heirRow es ws.length i).map natV))) D (.lst (us ++ [.ref T])) b = some (.tup xs) := tups_upd (sT _ _ hDu) fun xs z => by cases z
        rw [List.take_add_one, hrow, Option.toList_some]
        exact ((hU.same sT).mono keep).app (.cons ⟨T, rfl, keep _ _ upd_same⟩ .nil)
    · rintro H2 ⟨s2, us, hDu, hU⟩
      rw [List.take_of_length_le (by unfold heirs; rw [List.length_map, List.length_range, hbl]; exact Nat.le_refl _)] at hU
      refine ⟨D, us, rfl, .inl ⟨SqL.of hDu, fun p hp => ?_⟩⟩
      exact k _ p us (s2.trans (same_new hp)) upd_same (hU.same (same_new hp))
end
end K12

set_option maxRecDepth 100000
set_option maxHeartbeats 4000000
namespace PySem
open Sem (wp)
open AutoSeq1 (wpAny_loadPart')
theorem meets_enumerate_newV {v : Value} {o : Obj} {H : Heap → Prop} (B : Begins v o H) :
    Meets (Builtin.«enumerate.__new__» ⟨[.type "enumerate", v], []⟩) (fun _ R s => H s.heap ∧
      R (.ok (.ret (.ref (s.heap.push o).objs.size))) { s with heap := (s.heap.push o).push { cls := .type "enumerate", data := .fields #[.none, .bool false, .ref s.heap.objs.size, rawInt 0, .none, .none] } }) :=
  .of_wp fun prog w A R s h => by
    obtain ⟨hp, g, d, tk, os⟩ := s; obtain ⟨h1, h⟩ := h
    have hsub := sub_enumerate
    have q1 : ∀ {A' : Around} {E : Value → Shared → Prop} {Q : Value → Shared → Prop}, Q (.ref hp.objs.size) ⟨hp.push o, g, d, tk, os⟩ → wpAny (model prog w) A' (pyIter v) Q E ⟨hp, g, d, tk, os⟩ :=
      fun q => B.iter prog w _ _ ⟨hp, g, d, tk, os⟩ _ h1 q
    wp_walk using q1
    refine wpAny_stack_any fun st => wpAny_pure ?_
    split
    · rename_i c _ _ _ _ _
      cases (c == Value.type "enumerate")
      · wp_walk using q1
        exact ⟨_, rfl, h⟩
      · wp_walk using q1
        exact ⟨_, rfl, h⟩
    · wp_walk using q1
      exact ⟨_, rfl, h⟩
section
variable {prog : Program} {w : World} {A : Around} {E : Value → Shared → Prop} {s : Shared}
theorem call_enumerate_tuple {l : Addr} {items : Array Value} {Q : Value → Shared → Prop} (hL : s.heap.IsTuple l items)
    (h : ∀ h', IsEnum h' (s.heap.objs.size + 1) s.heap.objs.size 0 .none → h'.IsTupleIter s.heap.objs.size l 0 → h'.objs.size = s.heap.objs.size + 2 →
      (∀ b o, s.heap.get? b = some o → h'.get? b = some o) → Q (.ref (s.heap.objs.size + 1)) { s with heap := h' }) :
    wpAny (model prog w) A (call (.type "enumerate") [.ref l]) Q E s := by
  refine callType_new F.called_enumerate (by decide) (F.typeCall_enumerate_1 _) (F.newCall_enumerate_1 _) (fun obj => F.args_object_init_2 obj _) F.entry_enumerate_new
    (meets_enumerate_newV (begins_tuple l items)) ⟨hL, ?_⟩
  have hz : (s.heap.push { cls := .type "tuple_iterator", data := .fields #[.ref l, .int 0 0] }).objs.size = s.heap.objs.size + 1 := Heap.size_push ..
  show _ ∧ _
  rw [hz]
  have he : IsEnum ((s.heap.push { cls := .type "tuple_iterator", data := .fields #[.ref l, .int 0 0] }).push
      { cls := .type "enumerate", data := .fields #[.none, .bool false, .ref s.heap.objs.size, rawInt 0, .none, .none] }) (s.heap.objs.size + 1) s.heap.objs.size 0 .none := by
    have := Heap.get?_push_size (s.heap.push { cls := .type "tuple_iterator", data := .fields #[.ref l, .int 0 0] })
      (o := { cls := .type "enumerate", data := .fields #[.none, .bool false, .ref s.heap.objs.size, rawInt 0, .none, .none] }) rfl
    rw [hz] at this; exact this
  refine ⟨⟨_, he, rfl⟩, h _ he ⟨_, Heap.get?_push_of_some _ (Heap.get?_push_size _ rfl), rfl, rfl⟩ (by rw [Heap.size_push, hz]) fun b o x => Heap.get?_push_of_some _ (Heap.get?_push_of_some _ x)⟩
end
end PySem
namespace L2
open PySem PySem.Spec PyProof.Rows
/-- the tuple at a, each item in a new pair -/
def Itet (K : PySem.W.Frag) (a : Addr) : It :=
  ⟨fun i H => ∃ (xs : List V) (x : V), SqT K H a xs ∧ xs[i]? = some x, fun i H v H' => ∃ T x, v = .ref T ∧ H T = none ∧ H' = upd H T (.tup [.int (i : Nat), x]) ∧ ∀ xs, SqT K H a xs → xs[i]? = some x, fun i H => ∃ xs : List V, SqT K H a xs ∧ xs.length = i⟩
theorem turn_enumT {P : Program} {w : World} {K : PySem.W.Frag} {elts : List Expr} {kk : Nat} {tpos : Pos} (a e it : Addr) :
    Turn P w K (.Tuple elts kk tpos) (Itet K a) [e, it] e (fun i h => (∃ old, IsEnum h e it ((i : Nat) : Int) old) ∧ h.IsTupleIter it a i ∧ e ≠ it) where
  mem := by simp
  obj := fun i h st b hb => by
    obtain ⟨⟨old, he⟩, ⟨o, ho, hc, hd⟩, _⟩ := st
    have e' : b = e ∨ b = it := by simpa using hb
    rcases e' with z | z
    · rw [z]; exact ⟨_, he, fun v q => nomatch q⟩
    · rw [z]; exact ⟨o, ho, fun v q => by rw [hd] at q; cases q⟩
  keep := fun i h h' st k => let ⟨⟨old, he⟩, hi, hne⟩ := st; ⟨⟨old, k e (by simp) _ he⟩, hi.at fun o q => k it (by simp) o q, hne⟩
  item := by
    intro X hP hw hK hc i pins s σ H E I hf st hg
    subst hP hw hK
    obtain ⟨⟨old, he⟩, hit, hne⟩ := st
    obtain ⟨xs, x, hq, hx⟩ := hg
    obtain ⟨its, rv, p, hz⟩ := I.tuple hq
    obtain ⟨u, hu, ru⟩ := rv.get hx
    have hT0 : s.heap.IsTuple a its.toArray := p
    have hel : e < s.heap.objs.size := Heap.lt_size he
    have hil : it < s.heap.objs.size := by obtain ⟨_, q, _⟩ := hit; exact Heap.lt_size q
    have hea : e ≠ a := fun z => by
      obtain ⟨o, q1, q2, _⟩ := hT0
      rw [← z, he] at q1
      have q3 := Option.some.inj q1
      subst q3
      exact absurd (Value.type.inj q2) (by decide)
    have hai : a ≠ it := fun z => by
      obtain ⟨o, q1, q2, _⟩ := hT0
      obtain ⟨o', r1, r2, _⟩ := hit
      rw [z, r1] at q1
      have q3 := Option.some.inj q1
      subst q3
      rw [q2] at r2
      exact absurd (Value.type.inj r2) (by decide)
    have hii : i < its.toArray.size := by
      rw [List.size_toArray]
      exact (List.getElem?_eq_some_iff.mp hu).1
    refine wpAny_pyNext_enum_itemD (Draws.tuple (show X.A.in1.handled = none from I.ok.hd hc) it a hai its.toArray) he ⟨hit, hT0⟩ hii hne (by simp [hne, hea]) fun v h' tk hv ho hit' hT hsz hk => ?_
    obtain rfl : u = v := by
      have z : its.toArray[i]? = some u := by simpa using hu
      exact Option.some.inj (z.symm.trans hv)
    refine ⟨_, rfl, wpAny_letOwnedTupleGo_enum (s := { s with heap := h', toks := tk + 1 }) ho fun h'' he' sb => ?_⟩
    have hT2 : h''.get? s.heap.objs.size = some { cls := .type "tuple", data := .seq #[.int i tk, u] } := (sb.2 _ (Nat.ne_of_gt hel)).trans hT
    have new : ObjOk X.prog X.w (upd H s.heap.objs.size (.tup [.int (i : Nat), x])) h'' s.heap.objs.size (.tup [.int (i : Nat), x]) :=
      ⟨by show 2 ≤ sizeLine; decide, [.int i tk, u], .cons ⟨_, rfl⟩ (.cons ru .nil), ⟨_, hT2, rfl, _, rfl⟩⟩
    have I1 : Inv X pins σ (upd H s.heap.objs.size (.tup [.int (i : Nat), x])) { s with heap := h'', toks := tk + 1 } :=
      I.turnedNew (ch := [e, it]) (fun b ob hb q => (sb.2 b (fun z => hb (by simp [z]))).trans (hk b ob (fun z => hb (by simp [z])) (fun z => hb (by simp [z])) q)) hf (Nat.le_refl _) new
    refine ⟨.ref s.heap.objs.size, _, I1, rfl, ⟨_, x, rfl, I.hok.fresh (Nat.le_refl _), rfl, fun ys hy => by rw [I.tuple_inj hy hq]; exact hx⟩, ⟨⟨u, ?_⟩, hit'.1.at fun o q => (sb.2 it (Ne.symm hne)).trans q, hne⟩, fun b hb => ?_⟩
    · have e1 : ((i + 1 : Nat) : Int) = (i : Int) + 1 := by omega
      rw [e1]; exact he'
    · have hb' : b < s.heap.objs.size := by
        have e' : b = e ∨ b = it := by simpa using hb
        rcases e' with z | z
        · rw [z]; exact hel
        · rw [z]; exact hil
      rw [upd_ne (Nat.ne_of_lt hb')]
      exact (hf b hb).1
  done := by
    intro X hP hw hK hc i pins s σ H E I hf st hg
    subst hP hw hK
    obtain ⟨⟨old, he⟩, hit, hne⟩ := st
    obtain ⟨xs, hq, hx⟩ := hg
    obtain ⟨its, rv, p, hz⟩ := I.tuple hq
    have hT0 : s.heap.IsTuple a its.toArray := p
    obtain ⟨f0, f1, f2, f3, f4, f5⟩ := hf it (by simp)
    have hl := rv.length
    have hai : a ≠ it := fun z => by
      obtain ⟨o, q1, q2, _⟩ := hT0
      obtain ⟨o', r1, r2, _⟩ := hit
      rw [z, r1] at q1
      have q3 := Option.some.inj q1
      subst q3
      rw [q2] at r2
      exact absurd (Value.type.inj r2) (by decide)
    have hn : its.toArray.size = i := by
      rw [List.size_toArray]
      omega
    refine wpAny_pyNext_enum_endD (n := i) (it := it) (fp := [it, a]) (P := fun i v => its.toArray[i]? = some v) (St := fun i h => h.IsTupleIter it a i ∧ h.IsTuple a its.toArray) ?_ he ⟨hit, hT0⟩ fun h' eb => ⟨rfl, I.turned (t' := s.toks) (fun b o hb q => eb b o hb q) f0 f1 f3 f4 f5⟩
    have D := Draws.tuple (prog := X.prog) (w := X.w) (show X.A.in1.handled = none from I.ok.hd hc) it a hai its.toArray
    rw [hn] at D
    exact D
  self := fun A i s Q E st h => let ⟨⟨_, he⟩, _⟩ := st; wpAny_pyIter_enum he h
def iEnumT (K : PySem.W.Frag) (ta : TA) : TI := fun σ H R => ta σ H fun vs H1 => ∃ a xs, vs = [.ref a] ∧ SqT K H1 a xs ∧ R (Itet K a) H1
theorem pi_enumT {X : Cx} {e : Expr} {ta : TA} {p pos tpos : Pos} {elts : List Expr} {kk : Nat} (hg : Gl X "enumerate") (hm : X.mg "enumerate" = none) (ha : PA X [e] ta) (hs : starEach [e] X.env = [(false, eval e X.env)] := by rfl) :
    PI X (.Tuple elts kk tpos) (.Call (.Name "enumerate" p) [e] [] pos) (iEnumT X.K ta) := by
  refine ⟨fun pins s σ H R I h => ?_⟩
  refine Call_ (ld_blt I hg hm boot_enumerate (PyProof.Rows.callWith_type1 (thn (ha.run pos pins s σ H _ I h) fun us s1 ⟨vs, H1, I1, r1, q1⟩ => ?_) hs rfl))
  obtain ⟨a, xs, ex, hq, q⟩ := q1
  subst ex
  cases r1 with
  | cons r rr =>
    cases rr
    cases r
    obtain ⟨its, rv, p', hz⟩ := I1.tuple hq
    refine call_enumerate_tuple (show s1.heap.IsTuple a its.toArray from p') fun h' he hit hsz hk => wpAny_pyIter_enum he ?_
    have I2 : Inv X pins σ H1 { s1 with heap := h' } := I1.kept (t' := s1.toks) hk
    refine ⟨s1.heap.objs.size + 1, [s1.heap.objs.size + 1, s1.heap.objs.size], _, _, H1, rfl, I2, turn_enumT a (s1.heap.objs.size + 1) s1.heap.objs.size, ⟨⟨.none, he⟩, hit, Nat.succ_ne_self _⟩, fun b hb => ?_, q⟩
    have e' : b = s1.heap.objs.size + 1 ∨ b = s1.heap.objs.size := by simpa using hb
    have hle : s1.heap.objs.size ≤ b := by
      rcases e' with z | z
      · rw [z]; exact Nat.le_add_right _ _
      · rw [z]; exact Nat.le_refl _
    exact I1.fpOk hle (I1.hok.fresh hle)
/-- the turns over a tuple that stands -/
theorem for_enumT {K : PySem.W.Frag} {a : Addr} {xs : List V} {g : TG} {tb : TS} {D : Ends} {σ : St} {H : Hp} (Pv : Nat → St → Hp → Prop) (h0 : Pv 0 σ H) (hl : ∀ i σ H, i ≤ xs.length → Pv i σ H → SqT K H a xs)
    (hs : ∀ i x σ H T, xs[i]? = some x → Pv i σ H → H T = none → g (.ref T) σ (upd H T (.tup [.int (i : Nat), x])) fun σ2 H2 => tb { D with nx := Pv (i + 1), ct := Pv (i + 1), bk := D.nx } σ2 H2) (hd : ∀ σ H, Pv xs.length σ H → D.nx σ H) :
    ∃ W : Nat → Nat → St → Hp → Prop, (∃ m, W 0 m σ H) ∧ ∀ i m σ H, W i m σ H →
      ((Itet K a).stop i H ∧ D.nx σ H) ∨ ((Itet K a).go i H ∧ ∃ N : St → Hp → Prop, (∀ σ' H', N σ' H' → ∃ m', m' < m ∧ W (i + 1) m' σ' H') ∧ ∀ x H', (Itet K a).yld i H x H' → g x σ H' fun σ2 H2 => tb { D with nx := N, ct := N, bk := D.nx } σ2 H2) := by
  refine ⟨fun i m σ H => m = xs.length - i ∧ i ≤ xs.length ∧ Pv i σ H, ⟨xs.length, by simp, Nat.zero_le _, h0⟩, ?_⟩
  rintro i m σ H ⟨rfl, hi, p⟩
  have q := hl i σ H hi p
  by_cases hlt : i < xs.length
  · refine .inr ⟨⟨xs, xs[i], q, by simp [hlt]⟩, Pv (i + 1), fun σ' H' p' => ⟨xs.length - (i + 1), by omega, rfl, hlt, p'⟩, fun x H' y => ?_⟩
    obtain ⟨T, z, e1, e2, e3, e4⟩ := y
    subst e1 e3
    exact hs i z σ H T (e4 xs q) p e2
  · have e : i = xs.length := by omega
    subst e
    exact .inl ⟨⟨xs, q, rfl⟩, hd σ H p⟩
theorem for_enumL {K : PySem.W.Frag} {a : Addr} {xs : List V} {g : TG} {tb : TS} {D : Ends} {σ : St} {H : Hp} (Pv : Nat → St → Hp → Prop) (h0 : Pv 0 σ H) (hl : ∀ i σ H, i ≤ xs.length → Pv i σ H → SqL K H a xs)
    (hs : ∀ i x σ H T, xs[i]? = some x → Pv i σ H → H T = none → g (.ref T) σ (upd H T (.tup [.int (i : Nat), x])) fun σ2 H2 => tb { D with nx := Pv (i + 1), ct := Pv (i + 1), bk := D.nx } σ2 H2) (hd : ∀ σ H, Pv xs.length σ H → D.nx σ H) :
    ∃ W : Nat → Nat → St → Hp → Prop, (∃ m, W 0 m σ H) ∧ ∀ i m σ H, W i m σ H →
      ((Ite K a).stop i H ∧ D.nx σ H) ∨ ((Ite K a).go i H ∧ ∃ N : St → Hp → Prop, (∀ σ' H', N σ' H' → ∃ m', m' < m ∧ W (i + 1) m' σ' H') ∧ ∀ x H', (Ite K a).yld i H x H' → g x σ H' fun σ2 H2 => tb { D with nx := N, ct := N, bk := D.nx } σ2 H2) := by
  refine ⟨fun i m σ H => m = xs.length - i ∧ i ≤ xs.length ∧ Pv i σ H, ⟨xs.length, by simp, Nat.zero_le _, h0⟩, ?_⟩
  rintro i m σ H ⟨rfl, hi, p⟩
  have q := hl i σ H hi p
  by_cases hlt : i < xs.length
  · refine .inr ⟨⟨xs, xs[i], q, by simp [hlt]⟩, Pv (i + 1), fun σ' H' p' => ⟨xs.length - (i + 1), by omega, rfl, hlt, p'⟩, fun x H' y => ?_⟩
    obtain ⟨T, z, e1, e2, e3, e4⟩ := y
    subst e1 e3
    exact hs i z σ H T (e4 xs q) p e2
  · have e : i = xs.length := by omega
    subst e
    exact .inl ⟨⟨xs, q, Nat.le_refl _⟩, hd σ H p⟩
end L2

set_option maxRecDepth 100000
set_option maxHeartbeats 4000000
namespace Kw
open PySem PySem.Spec PyProof.Rows L2
/-- the fields that such an __init__ leaves, the last first -/
def errF (ps : List Str) (vs : List V) : List (Str × V) := (ps.zip vs).reverse
/-- an error's __init__ that keeps all its parameters, one or more, in their order -/
def spR (C : Addr) (ps : List Str) : Sp := fun vs H Q _ => ∃ (a : Addr) (xs : List V), vs = .ref a :: xs ∧ xs.length = ps.length ∧ H a = some (exo a C none) ∧
  ∀ d H', H d = none → d ≠ a → H' a = some (exo a C (some d)) → H' d = some (exd d (errF ps xs)) → (∀ b o, b ≠ a → H b = some o → H' b = some o) → Q .non H'
/-- what a raise of it asks, once its arguments are read -/
theorem raise_q {C : Addr} {ps : List Str} {H1 : Hp} {vs : List V} {Q : XK} (hl : vs.length = ps.length) (hz : ps.length ≤ 1000) (q : ∀ d H', Same H1 H' → H1 d = none → H' d = some (.xd (errF ps vs)) → Q (.ref C) (some d) H') :
    vs.length ≤ 1000 ∧ ∀ a, H1 a = none → spR C ps (.ref a :: (vs ++ [])) (upd H1 a (exo a C none))
      (fun v H2 => v = .non ∧ ∃ (d : Addr) (fs : List (Str × V)), H2 a = some (exo a C (some d)) ∧ H2 d = some (exd d fs) ∧ H1 d = none ∧ Q (.ref C) (some d) (upd (del H2 a) d (.xd fs))) (fun _ _ _ => False) := by
  refine ⟨by omega, fun a ha => ⟨a, vs, by rw [List.append_nil], hl, upd_same, fun d H' hd hda e1 e2 s => ?_⟩⟩
  rw [upd_ne hda] at hd
  refine ⟨rfl, d, _, e1, e2, hd, q d _ (fun b o e => ?_) hd upd_same⟩
  have hba : b ≠ a := ne_of_none e ha
  rw [upd_ne (ne_of_none e hd), del_ne hba]
  exact s b o hba (by rw [upd_ne hba]; exact e)
/-- the facts of an own error class -/
structure ErrX (K : PySem.W.Frag) (mg : Str → Option Value) (x : Str) (ps : List Str) (C fI : Addr) : Prop where
  oex : OexC K C
  ini : PySem.W.findIn K (.ref C) "__init__" = some (some (.ref fI))
  inT : PySem.W.typeIn K (.ref fI) = some (.type "function")
  no : ∀ p ∈ ps, PySem.W.findIn K (.ref C) p = some none
  mg : mg x = some (.ref C)
theorem upB {H : Hp} {a b : Addr} {o u : HO} (h : b ≠ a) (e : H b = some o) : upd H a u b = some o := by rw [upd_ne h]; exact e
end Kw

set_option maxRecDepth 100000
set_option maxHeartbeats 4000000
namespace K12
open PySem PySem.Spec PyProof.Rows L2 Kw
def inClass (st : Stmt) (j : Nat) : Stmt := match st with
  | .ClassDef (body := b) .. => b.getD j (.Pass ⟨0, 0, 0, 0⟩)
  | _ => .Pass ⟨0, 0, 0, 0⟩
abbrev FnM (K : PySem.W.Frag) (x qual : Str) (st : Stmt) (f : Addr) (fd : FuncData) : Prop := FunD K x qual (defArgs st) (defBody st) (defScope st) [] [] f fd
section
variable {P : Program} {w : World} {K : PySem.W.Frag} {mg : Str → Option Value} {base : Heap} {f C : Addr} {fd : FuncData}
theorem sc_badWorld : FnScope ["self", "index", "what"] ["self", "index", "what"] (defScope (inClass (top 3) 0)) := ⟨rfl, rfl, rfl, by decide +kernel, rfl, by decide +kernel, by decide +kernel⟩
theorem ok_badWorld (F : FnM K "__init__" "BadWorld.__init__" (inClass (top 3) 0) f fd) (T : ErrX K mg "BadWorld" ["index", "what"] C f) : FnOk P w K mg base CX0 1 f fd ["self", "index", "what"] (spR C ["index", "what"]) ∧ Binds K fd ["self", "index", "what"] [] := by
  refine ⟨F.ok sc_badWorld (fun vs H Q E h => ?_) (fun cdv A outer s H vs Q E hr h => ?_), F.bindsN fun _ _ _ _ _ _ us hl => match us, hl with | [_, _, _], _ => rfl⟩
  · obtain ⟨a, xs, rfl, hl, _⟩ := h
    exact congrArg Nat.succ hl
  · obtain ⟨a, xs, rfl, hl, ha, k⟩ := h
    match xs, hl with
    | [x1, x2], _ =>
      refine ⟨_, PSs.nox (pss_cons (ps_ost (pv 0) (pv 1)) (pss_one (ps_ost (pv 0) (pv 2)))), ?_⟩
      refine ⟨_, rfl, _, rfl, a, C, rfl, T.oex, T.no _ (List.mem_of_getElem? (i := 0) rfl), .inl ⟨ha, fun dx hd ne => ?_⟩⟩
      have A1 := @upd_same (upd H dx (exd dx [("index", x1)])) a (exo a C (some dx))
      have D1 : upd (upd H dx (exd dx [("index", x1)])) a (exo a C (some dx)) dx = some (exd dx [("index", x1)]) := upB ne upd_same
      have B1 : ∀ b o, b ≠ a → H b = some o → upd (upd H dx (exd dx [("index", x1)])) a (exo a C (some dx)) b = some o := fun b o hb e => upB hb (upB (ne_of_none e hd) e)
      generalize hG1 : upd (upd H dx (exd dx [("index", x1)])) a (exo a C (some dx)) = G1 at A1 D1 B1 ⊢
      refine ⟨_, rfl, _, rfl, a, C, rfl, T.oex, T.no _ (List.mem_of_getElem? (i := 1) rfl), .inr ⟨dx, [("index", x1)], A1, D1, (by show 1 ≤ 900; decide), ?_⟩⟩
      exact k dx _ hd ne (upB ne.symm A1) upd_same fun b o hb e => upB (ne_of_none e hd) (B1 b o hb e)
end
end K12

set_option maxRecDepth 100000
set_option maxHeartbeats 4000000
namespace Kw
open PySem PySem.Spec PyProof.Rows L2
/-- one rule or another, for a place where either kind of thing may stand -/
theorem pg_or {X : Cx} {tg : Expr} {t1 t2 : TG} (h1 : PG X tg t1) (h2 : PG X tg t2) : PG X tg (fun v σ H Q => t1 v σ H Q ∨ t2 v σ H Q) :=
  ⟨fun pins s σ H v u Q I r h => h.elim (h1.run pins s σ H v u Q I r) (h2.run pins s σ H v u Q I r)⟩
theorem pi_or {X : Cx} {tg e : Expr} {w1 w2 : TI} (h1 : PI X tg e w1) (h2 : PI X tg e w2) : PI X tg e (fun σ H R => w1 σ H R ∨ w2 σ H R) :=
  ⟨fun pins s σ H R I h => h.elim (h1.run pins s σ H R I) (h2.run pins s σ H R I)⟩
theorem call_or {X : Cx} {f : Value} {r1 r2 : List V → Hp → VK → Prop} (h1 : CallR X f r1) (h2 : CallR X f r2) : CallR X f (fun vs H Q => r1 vs H Q ∨ r2 vs H Q) :=
  fun pins s σ H xs us Q I r h => h.elim (h1 pins s σ H xs us Q I r) (h2 pins s σ H xs us Q I r)
theorem pe_or {X : Cx} {e : Expr} {t1 t2 : TE} (h1 : PE X e t1) (h2 : PE X e t2) : PE X e (fun σ H Q => t1 σ H Q ∨ t2 σ H Q) :=
  ⟨fun pins s σ H Q I h => h.elim (h1.run pins s σ H Q I) (h2.run pins s σ H Q I)⟩
/-- sorted(t), t a list or a tuple of whole numbers -/
def rSortSI (K : PySem.W.Frag) : List V → Hp → VK → Prop := fun xs H Q => ∃ (a : Addr) (ks : List Int), xs = [.ref a] ∧ (SqL K H a (ks.map V.int) ∨ SqT K H a (ks.map V.int)) ∧
  ∀ (ys : List Int) (p : Addr), ys.Perm ks → ys.Pairwise (· ≤ ·) → H p = none → Q (.ref p) (upd H p (.lst (ys.map V.int)))
theorem call_sortedSI {X : Cx} : CallR X (.builtin "sorted") (rSortSI X.K) := by
  intro pins s σ H xs us Q I r q
  obtain ⟨a, ks, ex, hd, q⟩ := q
  subst ex
  rcases hd with hd | hd
  · exact cr_sortedI pins s σ H _ us Q I r ⟨a, ks, rfl, hd, q⟩
  · obtain ⟨u, eu, rx⟩ := vals1 r
    subst eu
    obtain rfl : u = Value.ref a := rx
    obtain ⟨its, rv, p, hz⟩ := I.tuple hd
    have hI : IntsAre its ks := rv.ints
    obtain ⟨o, ho, hc, n, hdt⟩ : s.heap.IsTuple a its.toArray := p
    have hzi : its.toArray.size ≤ sizeLine := by
      rw [List.size_toArray, ← rv.length]
      exact hz
    refine Calls.call_function_entry kind_sorted plain_sorted entry_sorted (args_sorted1 _) ?_
    unfold Builtin.«sorted»
    refine wpAny_bind (m := checkCount "sorted" 1 1 _) (wpAny_pure (wpAny_bind ?_))
    refine wpAny_collect_seq a (T := "tuple") (.inr rfl) ho hc hdt (hsz := hzi) fun h' hk => ?_
    have ea : its.toArray.toList = its := rfl
    rw [ea]
    have I1 : Inv X pins σ H { s with heap := h' } := I.kept (t' := s.toks) hk
    have hZ : its.length ≤ sizeLine := by
      rw [← rv.length]
      exact hz
    refine wpAny_bind (wpAny_newList ?_ hZ)
    have hoL : (h'.push (seqObj "list" its.toArray 0)).get? h'.objs.size = some (seqObj "list" its.toArray 0) := Heap.get?_push_size _ rfl
    show wpAny _ _ _ _ _ { s with heap := h'.push (seqObj "list" its.toArray 0) }
    refine wpAny_bind (wpAny_holding (wpAny_call_entry slot_list_sort ⟨_, hoL, rfl⟩ entry_list_sort ?_ (args_list_sort _)))
    refine SrtO.list_sort_ord SrtO.swo_int hoL hZ (fun h2 => SrtO.ints_sortable hI h2) fun out g1 g2 => ⟨_, rfl, ?_⟩
    obtain ⟨k1, k2, k3⟩ := SrtO.ints_out hI g1 g2
    obtain ⟨e', he'⟩ := sortedHeap_at (vs := its) (out := out.toArray) hoL
    have hlen : ((out.map SrtO.iv).map V.int).length ≤ sizeLine := by
      rw [List.length_map, k2.length_eq, ← List.length_map (f := V.int)]
      exact hz
    refine wpAny_pure ⟨_, rfl, .ref h'.objs.size, upd H h'.objs.size (.lst ((out.map SrtO.iv).map V.int)), I1.laid (t' := s.toks) (fun b u e => ?_) (Nat.le_refl _)
      (show ObjOk X.prog X.w _ _ _ (.lst ((out.map SrtO.iv).map V.int)) from ⟨hlen, out, e', vals_of_ints k1, he'⟩), rfl, q _ _ k2 k3 (I1.hok.fresh (Nat.le_refl _))⟩
    have hb : b < h'.objs.size := Heap.lt_size e
    rw [sortedHeap_old (Nat.ne_of_lt hb) (by rw [size_push']; exact Nat.lt_succ_of_lt hb)]
    exact Heap.get?_push_of_some _ e
end Kw

set_option maxRecDepth 100000
set_option maxHeartbeats 4000000
namespace K12
open PySem PySem.Spec PyProof.Rows L2 Kw
/-- bases, own fields, own methods, as they were given -/
abbrev Ent := List Nat × Nat × List Nat
def sortN (l : List Nat) : List Nat := (List.range 6).filter fun m => l.contains m
/-- a right entry of class c -/
def EntryOk (H : Hp) (e : V) (c : Nat) (d : Ent) : Prop := ∃ a ab am, e = .ref a ∧ SeqAt H a [.ref ab, natV d.2.1, .ref am] ∧ SeqAt H ab (d.1.map natV) ∧ SeqAt H am (d.2.2.map natV) ∧
  (d.1.Nodup ∧ d.1.length ≤ 12 ∧ ∀ b ∈ d.1, b < c) ∧ d.2.1 ≤ 3 ∧ d.2.2.Nodup ∧ d.2.2.length ≤ 3 ∧ ∀ m ∈ d.2.2, m < 6
theorem EntryOk.same {H H' : Hp} {e : V} {c : Nat} {d : Ent} (h : EntryOk H e c d) (s : Same H H') : EntryOk H' e c d := by
  obtain ⟨a, ab, am, h1, h2, h3, h4, h5⟩ := h
  exact ⟨a, ab, am, h1, h2.same s, h3.same s, h4.same s, h5⟩
theorem EntryIs.same {H H' : Hp} {e : V} {c : Int} {o : Option Str} (h : EntryIs H e c o) (s : Same H H') : EntryIs H' e c o := by
  rcases h with ⟨t, h1, h2⟩ | ⟨a, xs, h1, h2, h3⟩ | ⟨a, b, g, m, rb, nb, tg, rm, nm, h1, h2, h3, h4, h5, h6⟩
  · exact .inl ⟨t, h1.same s, h2⟩
  · exact .inr (.inl ⟨a, xs, h1, h2.same s, h3⟩)
  · exact .inr (.inr ⟨a, b, g, m, rb, nb, tg, rm, nm, h1, h2.same s, h3.same s, h4.same s, h5.same s, h6⟩)
theorem intOf_nats (l : List Nat) : (l.map natV).map intOf = l.map fun (n : Nat) => (n : Int) := by
  rw [List.map_map]
  rfl
theorem nodup_cast {l : List Nat} (h : l.Nodup) : (l.map fun (n : Nat) => (n : Int)).Nodup := by
  refine List.pairwise_map.mpr (h.imp fun z => ?_)
  intro e
  exact z (by omega)
theorem unlike_nats {l : List Nat} {m : Nat} (hn : l.Nodup) (hb : ∀ b ∈ l, b < m) : unlikeB (m : Int) (l.map natV) = true := by
  unfold unlikeB
  rw [intOf_nats, decide_eq_true (nodup_cast hn), Bool.and_true, List.all_eq_true]
  intro x hx
  obtain ⟨b, h1, rfl⟩ := List.mem_map.mp hx
  have := hb b h1
  show wholeB (.int 0) (.int ((m : Int) - 1)) (.int (b : Int)) = true
  unfold wholeB inLo inHi
  simp only [Bool.and_eq_true, decide_eq_true_eq]
  omega
theorem nats_ty {H : Hp} (l : List Nat) : ∀ y ∈ l.map natV, ∃ t, Ty0 H y t := fun y hy => by
  obtain ⟨b, h1, rfl⟩ := List.mem_map.mp hy
  exact ⟨_, .int _⟩
theorem EntryOk.is {H : Hp} {e : V} {c : Nat} {d : Ent} (h : EntryOk H e c d) : EntryIs H e (c : Int) none := by
  obtain ⟨a, ab, am, rfl, h2, h3, h4, ⟨h5, h6, h7⟩, h8, h9, h10, h11⟩ := h
  refine .inr (.inr ⟨a, .ref ab, natV d.2.1, .ref am, true, d.1.length, _, true, d.2.2.length, rfl, h2, .inr ⟨ab, _, rfl, h3, by rw [List.length_map]; omega, nats_ty _, (unlike_nats h5 h7).symm, by rw [List.length_map]⟩, .int _, .inr ⟨am, _, rfl, h4, by rw [List.length_map]; omega, nats_ty _, (unlike_nats (m := 6) h9 h11).symm, by rw [List.length_map]⟩, ?_⟩)
  have hw : wholeB (.int 0) (.int 3) (natV d.2.1) = true := by
    show wholeB (.int 0) (.int 3) (.int (d.2.1 : Int)) = true
    unfold wholeB inLo inHi
    simp only [Bool.and_eq_true, decide_eq_true_eq]
    omega
  unfold entryWord
  rw [if_neg (by decide), hw, if_neg (by decide), if_neg (by decide), if_neg (by omega)]
theorem sortN_one {l : List Nat} (hn : l.Nodup) (hb : ∀ m ∈ l, m < 6) {ys : List Int} (p : ys.Perm (l.map fun (n : Nat) => (n : Int))) (hs : ys.Pairwise (· ≤ ·)) : ys.map V.int = (sortN l).map natV := by
  have up : (sortN l).Pairwise (· < ·) := List.Pairwise.filter _ List.pairwise_lt_range
  refine sorted_one p hs hn (up_nodup up) (fun x => ?_) up
  unfold sortN
  rw [List.mem_filter, List.mem_range]
  constructor
  · intro h
    exact ⟨hb x h, by simpa using h⟩
  · rintro ⟨_, h⟩
    simpa using h
/-- an entry as a world keeps it -/
def EntAt (H : Hp) (t : Addr) (d : Ent) : Prop := ∃ tb tm, H t = some (.tup [.ref tb, natV d.2.1, .ref tm]) ∧ H tb = some (.tup (d.1.map natV)) ∧ H tm = some (.tup ((sortN d.2.2).map natV))
def EntsAt (H : Hp) : List V → List Ent → Prop := Paired fun v d => ∃ t, v = .ref t ∧ EntAt H t d
def TupK (H H' : Hp) : Prop := ∀ b xs, H b = some (.tup xs) → H' b = some (.tup xs)
theorem EntAt.mono {H H' : Hp} {t : Addr} {d : Ent} (h : EntAt H t d) (k : TupK H H') : EntAt H' t d := by
  obtain ⟨tb, tm, h1, h2, h3⟩ := h
  exact ⟨tb, tm, k _ _ h1, k _ _ h2, k _ _ h3⟩
theorem EntsAt.mono {H H' : Hp} (k : TupK H H') : ∀ {vs : List V} {ds : List Ent}, EntsAt H vs ds → EntsAt H' vs ds
  | [], [], _ => .nil
  | _ :: _, _ :: _, .cons ⟨t, e, h⟩ r => .cons ⟨t, e, h.mono k⟩ (EntsAt.mono k r)
theorem EntsAt.len {H : Hp} {vs : List V} {ds : List Ent} (h : EntsAt H vs ds) : vs.length = ds.length := Paired.length h
theorem EntsAt.get {H : Hp} : ∀ {vs : List V} {ds : List Ent} {i : Nat} {d : Ent}, EntsAt H vs ds → ds[i]? = some d → ∃ t, vs[i]? = some (.ref t) ∧ EntAt H t d
  | [], [], _, _, _, h => by simp at h
  | _ :: _, _ :: _, 0, _, .cons ⟨t, e1, h⟩ _, e => by
    obtain rfl := Option.some.inj e
    exact ⟨t, by rw [e1]; rfl, h⟩
  | _ :: _, _ :: _, i + 1, _, .cons _ r, e => EntsAt.get (i := i) r e
theorem EntsAt.app {H : Hp} : ∀ {vs us : List V} {ls ms : List Ent}, EntsAt H vs ls → EntsAt H us ms → EntsAt H (vs ++ us) (ls ++ ms)
  | [], _, [], _, _, h => h
  | _ :: _, _, _ :: _, _, .cons h r, s => .cons h (EntsAt.app r s)
theorem Same.tupK {H H' : Hp} (s : Same H H') : TupK H H' := fun b xs e => s b _ e
/-- all but the object at p stays -/
def Oth (p : Addr) (H H' : Hp) : Prop := ∀ b o, b ≠ p → H b = some o → H' b = some o
theorem Oth.trans {p : Addr} {H H1 H2 : Hp} (a : Oth p H H1) (b : Oth p H1 H2) : Oth p H H2 := fun c o n e => b c o n (a c o n e)
theorem Oth.of {p : Addr} {H H1 : Hp} (s : Same H H1) : Oth p H H1 := fun c o _ e => s c o e
theorem Oth.upd {p : Addr} {H H1 : Hp} {o : HO} (s : Oth p H H1) : Oth p H (upd H1 p o) := fun c u n e => upB n (s c u n e)
theorem Oth.tupK {p : Addr} {H H' : Hp} {C dx : Addr} {fs : List (Str × V)} (s : Oth p H H') (h : H p = some (.ins C dx fs)) : TupK H H' := fun b xs e => s b _ (fun z => by
  rw [z, h] at e
  cases e) e
/-- a world as an object -/
def WorldFs (ac ab ao am ae ah : Addr) : List (Str × V) := [("classes", .ref ac), ("bases", .ref ab), ("owns", .ref ao), ("methods", .ref am), ("elders", .ref ae), ("heirs", .ref ah)]
def WorldAt (H : Hp) (p C : Addr) (ds : List Ent) : Prop := ∃ dx ac ab ao am ae ah cs bs ms es hs, H p = some (.ins C dx (WorldFs ac ab ao am ae ah)) ∧ H ac = some (.tup cs) ∧ EntsAt H cs ds ∧
  H ab = some (.tup bs) ∧ TupsAt H bs (ds.map (·.1)) ∧ H ao = some (.tup ((ds.map (·.2.1)).map natV)) ∧ H am = some (.tup ms) ∧ TupsAt H ms (ds.map fun d => sortN d.2.2) ∧
  H ae = some (.tup es) ∧ TupsAt H es (elders (ds.map (·.1))) ∧ H ah = some (.tup hs) ∧ TupsAt H hs (heirs (elders (ds.map (·.1))))
end K12

set_option maxRecDepth 100000
set_option maxHeartbeats 8000000
namespace K12
open PySem PySem.Spec PyProof.Rows L2 Kw
structure ClsWorld (K : PySem.W.Frag) (mg : Str → Option Value) (C : Addr) : Prop where
  cl : Cls K C
  no : ∀ f ∈ (["classes", "bases", "owns", "methods", "elders", "heirs"] : List Str), NoAttr K C f
section
variable {P : Program} {w : World} {K : PySem.W.Frag} {mg : Str → Option Value} {base : Heap} {f fS fW fU fE fL fH fB Cb C : Addr} {fd fdS fdW fdU fdE fdL fdH fdB : FuncData}
def spWorld (C Cb : Addr) : Sp := fun vs H Q E => ∃ (p dx : Addr) (x : V), vs = [.ref p, x] ∧ H p = some (.ins C dx []) ∧
  ((((∃ t, Ty0 H x t ∧ seqT t = false) ∨ ∃ a es, x = .ref a ∧ SeqAt H a es ∧ (es.length = 0 ∨ 12 < es.length)) ∧ ∀ d H', Same H H' → H' d = some (.xd (errF ["index", "what"] [.int 0, .str "many"])) → E (.ref Cb) (some d) H') ∨
   ∃ a es ds, x = .ref a ∧ SeqAt H a es ∧ es.length ≠ 0 ∧ es.length ≤ 12 ∧ ds.length ≤ es.length ∧ (∀ (i : Nat) (d : Ent), ds[i]? = some d → ∃ e, es[i]? = some e ∧ EntryOk H e i d) ∧
     ((∃ e word, es[ds.length]? = some e ∧ EntryIs H e (ds.length : Int) (some word) ∧ ∀ d H', Same H H' → H' d = some (.xd (errF ["index", "what"] [.int (ds.length : Int), .str word])) → E (.ref Cb) (some d) H') ∨
      (ds.length = es.length ∧ ∀ H', Oth p H H' → WorldAt H' p C ds → Q .non H')))
/-- enumerate over a list or a tuple that stands -/
theorem for_enumS {a : Addr} {xs : List V} {g : TG} {tb : TS} {D : Ends} {σ : L2.St} {H H0 : Hp} {j : Nat} (hj : σ[j]? = some (some (.ref a))) (hA : SeqAt H0 a xs) (s0 : Same H0 H) (Pv : Nat → L2.St → Hp → Prop) (h0 : Pv 0 σ H) (keep : ∀ i σ' H', Pv i σ' H' → Same H0 H')
    (hs : ∀ i x σ H T, xs[i]? = some x → Pv i σ H → H T = none → g (.ref T) σ (upd H T (.tup [.int (i : Nat), x])) fun σ2 H2 => tb { D with nx := Pv (i + 1), ct := Pv (i + 1), bk := D.nx } σ2 H2) (hd : ∀ σ H, Pv xs.length σ H → D.nx σ H) :
    tFor (fun σ H R => iEnum K (tCons (tVar j) tNil) σ H R ∨ iEnumT K (tCons (tVar j) tNil) σ H R) g tb D σ H := by
  rcases hA with hA | hA
  · exact .inl ⟨_, hj, a, xs, rfl, SqL.of (s0 _ _ hA), for_enumL Pv h0 (fun i σ H' _ h => SqL.of (keep i σ H' h _ _ hA)) hs hd⟩
  · exact .inr ⟨_, hj, a, xs, rfl, SqT.of (s0 _ _ hA), for_enumT Pv h0 (fun i σ H' _ h => SqT.of (keep i σ H' h _ _ hA)) hs hd⟩
theorem tup_q {H : Hp} {a : Addr} {xs : List V} {Q : VK} (hA : SeqAt H a xs) (q : ∀ p H', Same H H' → H' p = some (.tup xs) → Q (.ref p) H') :
    rTupOf K [V.ref a] H Q := by
  refine ⟨a, xs, rfl, ?_⟩
  rcases hA with hA | hA
  · exact .inl ⟨SqL.of hA, fun l hl => q l _ (same_new hl) upd_same⟩
  · exact .inr ⟨SqT.of hA, q a H (Same.refl H) hA⟩
/-- a column of the entries, as a new list -/
theorem col_q {x0 x1 x3 x4 x5 x6 x7 x8 : Option V} {R : Addr} {us : List V} {ds : List Ent} {H : Hp} {k : Int} {Q : VK} (ColP : Hp → V → Ent → Prop) (hmono : ∀ H H' v d, TupK H H' → ColP H v d → ColP H' v d)
    (hcol : ∀ H t d, EntAt H t d → ∃ xs v, H t = some (.tup xs) ∧ atI xs k = some v ∧ ColP H v d) (hR : H R = some (.lst us)) (hE : EntsAt H us ds) (h12 : ds.length ≤ 12)
    (q : ∀ D H' vs, Same H H' → H' D = some (.lst vs) → Paired (ColP H') vs ds → Q (.ref D) H') :
    tLc (iList K (tVar 2)) (gName 4) tYes (tOp (rIxT K) (tVar 4) (tC (.int k))) [4] [x0, x1, some (.ref R), x3, x4, x5, x6, x7, x8] H Q := by
  have hmonoP : ∀ {H H' : Hp}, TupK H H' → ∀ {vs : List V} {ds : List Ent}, Paired (ColP H) vs ds → Paired (ColP H') vs ds := fun kk => by
    intro vs ds h
    induction h with
    | nil => exact .nil
    | cons z _ ih => exact .cons (hmono _ _ _ _ kk z) ih
  have app1 : ∀ {H : Hp} {vs : List V} {ds : List Ent} {v : V} {d : Ent}, Paired (ColP H) vs ds → ColP H v d → Paired (ColP H) (vs ++ [v]) (ds ++ [d]) := fun h z => by
    induction h with
    | nil => exact .cons z .nil
    | cons y _ ih => exact .cons y ih
  refine ⟨_, rfl, R, rfl, ⟨_, SqL.of hR⟩, fun D hD => lc_list (K := K) (a := R) (xs := us) (fun i H2 => Same H H2 ∧ ∃ vs, H2 D = some (.lst vs) ∧ Paired (ColP H2) vs (ds.take i)) ⟨same_new hD, [], upd_same, .nil⟩ (fun i H2 _ h => SqL.of (h.1 _ _ hR)) ?_ ?_⟩
  · rintro i y H2 hi ⟨s2, vs, hDv, hP⟩
    have hil : i < ds.length := by
      rw [← hE.len]
      exact (List.getElem?_eq_some_iff.mp hi).1
    obtain ⟨d, hd⟩ : ∃ d, ds[i]? = some d := ⟨_, List.getElem?_eq_getElem hil⟩
    obtain ⟨t, et, ht⟩ := hE.get hd
    obtain rfl : V.ref t = y := Option.some.inj (et.symm.trans hi)
    obtain ⟨xs, v, h1, h2, h3⟩ := hcol H2 t d (ht.mono (Same.tupK s2))
    have hvl : vs.length = i := by
      rw [Paired.length hP, List.length_take]
      omega
    have kk : TupK H2 (upd H2 D (.lst (vs ++ [v]))) := tups_upd hDv fun xs z => by cases z
    refine ⟨rfl, _, rfl, t, xs, k, v, rfl, rfl, SqT.of h1, h2, vs, hDv, by (rw [hvl]; show i < 2 ^ 24; omega), same_upd s2 hD, vs ++ [v], upd_same, ?_⟩
    rw [List.take_add_one, hd, Option.toList_some]
    exact app1 (hmonoP kk hP) (hmono _ _ _ _ kk h3)
  · rintro H2 ⟨s2, vs, hDv, hP⟩
    rw [hE.len, List.take_length] at hP
    exact q D H2 vs s2 hDv hP
def ColB (H : Hp) (v : V) (d : Ent) : Prop := ∃ t, v = .ref t ∧ H t = some (.tup (d.1.map natV))
def ColO (_ : Hp) (v : V) (d : Ent) : Prop := v = natV d.2.1
def ColM (H : Hp) (v : V) (d : Ent) : Prop := ∃ t, v = .ref t ∧ H t = some (.tup ((sortN d.2.2).map natV))
theorem colB_tups {H : Hp} {vs : List V} {ds : List Ent} (h : Paired (ColB H) vs ds) : TupsAt H vs (ds.map (·.1)) := by
  induction h with
  | nil => exact .nil
  | cons z _ ih => exact .cons z ih
theorem colM_tups {H : Hp} {vs : List V} {ds : List Ent} (h : Paired (ColM H) vs ds) : TupsAt H vs (ds.map fun d => sortN d.2.2) := by
  induction h with
  | nil => exact .nil
  | cons z _ ih => exact .cons z ih
theorem colO_nats {H : Hp} {vs : List V} {ds : List Ent} (h : Paired (ColO H) vs ds) : vs = (ds.map (·.2.1)).map natV := by
  induction h with
  | nil => rfl
  | cons z _ ih => rw [z, ih]; rfl
/-- a reading kept as it is said -/
structure Box (p : Prop) : Prop where
  h : p
def tBox (t : TE) : TE := fun σ H Q => Box (t σ H Q)
theorem pe_box {X : Cx} {e : Expr} {t : TE} (h : PE X e t) : PE X e (tBox t) := ⟨fun pins s σ H Q I k => h.run pins s σ H Q I k.h⟩
theorem sc_world : FnScope ["self", "classes", "entries", "c", "entry", "what", "bases", "fields", "methods"] ["self", "classes"] (defScope (inClass (top 20) 0)) := ⟨rfl, rfl, rfl, by decide +kernel, rfl, by decide +kernel, by decide +kernel⟩
theorem ok_world (F : FnM K "__init__" "World.__init__" (inClass (top 20) 0) f fd) (B : Fr mg) (Z : Cst mg) (TC : ClsWorld K mg C) (FS : FnP K "is_sequence" 9 fS fdS) (mS : mg "is_sequence" = some (.ref fS)) (FW : FnDf K "is_whole" 10 [.non, .non] fW fdW) (mW : mg "is_whole" = some (.ref fW))
    (FU : FnP K "is_unlike_row" 11 fU fdU) (mU : mg "is_unlike_row" = some (.ref fU)) (FE : FnP K "entry_fault" 21 fE fdE) (mE : mg "entry_fault" = some (.ref fE)) (FL : FnP K "elder_rows" 22 fL fdL) (mL : mg "elder_rows" = some (.ref fL))
    (FH : FnP K "heir_rows" 23 fH fdH) (mH : mg "heir_rows" = some (.ref fH)) (FB : FnM K "__init__" "BadWorld.__init__" (inClass (top 3) 0) fB fdB) (TB : ErrX K mg "BadWorld" ["index", "what"] Cb fB) :
    FnOk P w K mg base (L2.CX P w) 4 f fd ["self", "classes"] (spWorld C Cb) := by
  have GS : FnOk P w K mg base CX0 1 fS fdS ["thing"] spIsSeq := ok_isSeq FS B
  have GE : FnOk P w K mg base CX0 3 fE fdE ["entry", "c"] spEntry := ok_entry FE B Z FS mS FW mW FU mU
  have GL : FnOk P w K mg base CX0 1 fL fdL ["bases"] spElders := ok_elders FL B
  have GH : FnOk P w K mg base CX0 1 fH fdH ["elders"] spHeirs := ok_heirs FH B
  obtain ⟨GB, bB⟩ : FnOk P w K mg base CX0 1 fB fdB ["self", "index", "what"] (spR Cb ["index", "what"]) ∧ Binds K fdB ["self", "index", "what"] [] := ok_badWorld FB TB
  have bS : L2.Binds K fdS ["thing"] [] := FS.bindsN fun _ _ _ _ _ _ us hl => match us, hl with | [_], _ => rfl
  have bE : L2.Binds K fdE ["entry", "c"] [] := FE.bindsN fun _ _ _ _ _ _ us hl => match us, hl with | [_, _], _ => rfl
  have bL : L2.Binds K fdL ["bases"] [] := FL.bindsN fun _ _ _ _ _ _ us hl => match us, hl with | [_], _ => rfl
  have bH : L2.Binds K fdH ["elders"] [] := FH.bindsN fun _ _ _ _ _ _ us hl => match us, hl with | [_], _ => rfl
  obtain ⟨tc, zc⟩ := Z.mc
  refine F.ok sc_world (fun vs H Q E h => ?_) (fun cdv A outer s H vs Q E hr h => ?_)
  · obtain ⟨p, dx, x, rfl, _⟩ := h
    rfl
  · obtain ⟨p, dx, x, rfl, hp, h⟩ := h
    refine ⟨_, (pss_cons (ps_if (PW.pt (pw_or (pt_not (pt_val (pe_call GS (hr.mono (by decide)) (by rfl) mS FS.kp bS .nil pass0 (pa_cons (pv 1) pa_nil)))) (pw_or (pt_cmpR op_eq (pe_callB call_len_seq (by rfl) B.len PySem.boot_len (pa_cons (pv 1) pa_nil)) pe_int (nomark _)) (pw_or1 (pt_cmpR op_gt (pe_callB call_len_seq (by rfl) B.len PySem.boot_len (pa_cons (pv 1) pa_nil)) (pe_glob (v := .int 12) (by rfl) zc ⟨_, rfl⟩) (nomark _))))))
        (pss_one (ps_raise rfl (takes_of rfl rfl rfl rfl) (pmk_oex TB.oex TB.ini TB.inT GB (hr.mono (by decide)) bB .nil pass0 (by rfl) TB.mg (pa_cons pe_int (pa_cons pe_str pa_nil))))) pss_nil)
      (pss_cons (ps_set (i := 2) sc_world.nd rfl (Or.inl rfl) (pe_lst pa_nil))
      (pss_cons (ps_for (passes_of rfl) rfl (pi_or (pi_enum (by rfl) B.enumerate (pa_cons (pv 1) pa_nil)) (pi_enumT (by rfl) B.enumerate (pa_cons (pv 1) pa_nil))) (pg_tup (by rfl) (pgs_cons (pg_name (i := 3) sc_world.nd rfl (Or.inl rfl)) (pgs_cons (pg_name (i := 4) sc_world.nd rfl (Or.inl rfl)) pgs_nil)))
        (pss_cons (ps_set (i := 5) sc_world.nd rfl (Or.inl rfl) (pe_call GE hr (by rfl) mE FE.kp bE .nil pass0 (pa_cons (pv 4) (pa_cons (pv 3) pa_nil))))
        (pss_cons (ps_if (pt_cmpR op_notN (pv 5) pe_non (nomark _)) (pss_one (ps_raise rfl (takes_of rfl rfl rfl rfl) (pmk_oex TB.oex TB.ini TB.inT GB (hr.mono (by decide)) bB .nil pass0 (by rfl) TB.mg (pa_cons (pv 3) (pa_cons (pv 5) pa_nil))))) pss_nil)
        (pss_cons (ps_asg (pv 4) (pg_or (pg_unl (by rfl) (pgs_cons (pg_name (i := 6) sc_world.nd rfl (Or.inl rfl)) (pgs_cons (pg_name (i := 7) sc_world.nd rfl (Or.inl rfl)) (pgs_cons (pg_name (i := 8) sc_world.nd rfl (Or.inl rfl)) pgs_nil)))) (pg_tup (by rfl) (pgs_cons (pg_name (i := 6) sc_world.nd rfl (Or.inl rfl)) (pgs_cons (pg_name (i := 7) sc_world.nd rfl (Or.inl rfl)) (pgs_cons (pg_name (i := 8) sc_world.nd rfl (Or.inl rfl)) pgs_nil))))))
        (pss_one (ps_expr (pe_bm PySem.F.plainAttrs_list PySem.F.slot_list_append PySem.F.type_list_append mt_append (pv 2) (pa_cons (pe_tup (pa_cons (pe_callTy (T := "tuple") (r := rTupOf K) (call_tup (X := _)) (by rfl) B.tuple (by decide +kernel) (pa_cons (pv 6) pa_nil)) (pa_cons (pv 7) (pa_cons (pe_callTy (T := "tuple") (r := rTupOf K) (call_tup (X := _)) (by rfl) B.tuple (by decide +kernel) (pa_cons (pe_callB call_sortedSI (by rfl) B.sorted (by decide +kernel) (pa_cons (pv 8) pa_nil)) pa_nil)) pa_nil)))) pa_nil))))))))
      (pss_cons (ps_fld (pv 0) (pe_callTy (T := "tuple") (r := rTupOf K) (call_tup (X := _)) (by rfl) B.tuple (by decide +kernel) (pa_cons (pv 2) pa_nil)) rfl)
      (pss_cons (ps_fld (pv 0) (pe_callTy (T := "tuple") (r := rTupOf K) (call_tup (X := _)) (by rfl) B.tuple (by decide +kernel) (pa_cons (pe_box <| pe_lc (own := [("entry", 4)]) (g := gName 4) (tt := tYes) rfl sc_world.nd (pi_list (pv 2)) (blkOk_by (by rfl)) (fun _ _ _ _ _ => pg_name (i := 4) sc_world.nd rfl (Or.inl rfl)) (fun _ _ _ _ _ => pts_nil) (fun _ _ _ _ _ => pe_ix (r := rIxT K) ix_tup (pv 4) pe_int (fun _ _ => rfl))) pa_nil)) rfl)
      (pss_cons (ps_fld (pv 0) (pe_callTy (T := "tuple") (r := rTupOf K) (call_tup (X := _)) (by rfl) B.tuple (by decide +kernel) (pa_cons (pe_box <| pe_lc (own := [("entry", 4)]) (g := gName 4) (tt := tYes) rfl sc_world.nd (pi_list (pv 2)) (blkOk_by (by rfl)) (fun _ _ _ _ _ => pg_name (i := 4) sc_world.nd rfl (Or.inl rfl)) (fun _ _ _ _ _ => pts_nil) (fun _ _ _ _ _ => pe_ix (r := rIxT K) ix_tup (pv 4) pe_int (fun _ _ => rfl))) pa_nil)) rfl)
      (pss_cons (ps_fld (pv 0) (pe_callTy (T := "tuple") (r := rTupOf K) (call_tup (X := _)) (by rfl) B.tuple (by decide +kernel) (pa_cons (pe_box <| pe_lc (own := [("entry", 4)]) (g := gName 4) (tt := tYes) rfl sc_world.nd (pi_list (pv 2)) (blkOk_by (by rfl)) (fun _ _ _ _ _ => pg_name (i := 4) sc_world.nd rfl (Or.inl rfl)) (fun _ _ _ _ _ => pts_nil) (fun _ _ _ _ _ => pe_ix (r := rIxT K) ix_tup (pv 4) pe_int (fun _ _ => rfl))) pa_nil)) rfl)
      (pss_cons (ps_fld (pv 0) (pe_call GL (hr.mono (by decide)) (by rfl) mL FL.kp bL .nil pass0 (pa_cons (pe_fld (pv 0) rfl) pa_nil)) rfl)
      (pss_one (ps_fld (pv 0) (pe_call GH (hr.mono (by decide)) (by rfl) mH FH.kp bH .nil pass0 (pa_cons (pe_fld (pv 0) rfl) pa_nil)) rfl)))))))))), ?_⟩
    rcases h with ⟨h, k⟩ | ⟨a, es, ds, rfl, hA, hn0, hn12, hdl, hok, h⟩
    · rcases h with ⟨t, ty, hs⟩ | ⟨a, es, rfl, hA, hlen⟩
      · refine ⟨_, rfl, x, t, rfl, ty, fun H1 s1 => ⟨_, rfl, ?_⟩⟩
        rw [hs]
        exact iteT (raise_q rfl (by decide) fun d H' s2 _ e => k d H' (s1.trans s2) e)
      · obtain ⟨t, ty, hseq⟩ := hA.ty
        refine ⟨_, rfl, _, t, rfl, ty, fun H1 s1 => ⟨_, rfl, ?_⟩⟩
        rw [hseq]
        refine iteF ⟨_, rfl, a, es, rfl, (hA.same s1).sq, rfl, _, rfl, ?_⟩
        by_cases q : es.length = 0
        · have z : decide (V.int (es.length : Int) = V.int 0) = true := decide_eq_true (by rw [q]; rfl)
          rw [z]
          exact iteT (raise_q rfl (by decide) fun d H' s2 _ e => k d H' (s1.trans s2) e)
        · have z : decide (V.int (es.length : Int) = V.int 0) = false := decide_eq_false fun e => q (by have := V.int.inj e; omega)
          rw [z]
          refine iteF ⟨_, rfl, a, es, rfl, (hA.same s1).sq, _, _, rfl, rfl, _, rfl, ?_⟩
          rw [decide_eq_true (show (12 : Int) < (es.length : Int) by omega)]
          exact iteT (raise_q rfl (by decide) fun d H' s2 _ e => k d H' (s1.trans s2) e)
    · obtain ⟨t, ty, hseq⟩ := hA.ty
      refine ⟨_, rfl, _, t, rfl, ty, fun H1 s1 => ⟨_, rfl, ?_⟩⟩
      rw [hseq]
      refine iteF ⟨_, rfl, a, es, rfl, (hA.same s1).sq, rfl, _, rfl, ?_⟩
      rw [decide_eq_false (show ¬ V.int (es.length : Int) = V.int 0 from fun e => hn0 (by have := V.int.inj e; omega))]
      refine iteF ⟨_, rfl, a, es, rfl, (hA.same s1).sq, _, _, rfl, rfl, _, rfl, ?_⟩
      rw [decide_eq_false (show ¬ (12 : Int) < (es.length : Int) by omega)]
      refine iteF ⟨by decide, fun R hR => ?_⟩
      have hRH : H R = none := s1.free hR
      have sR : Same H (upd H1 R (.lst [])) := s1.trans (same_new hR)
      refine for_enumS (K := K) (a := a) (xs := es) rfl hA sR (fun i σ H' => Same H H' ∧ i ≤ ds.length ∧ ∃ us x3 x4 x5 x6 x7 x8, σ = [some (.ref p), some (.ref a), some (.ref R), x3, x4, x5, x6, x7, x8] ∧ H' R = some (.lst us) ∧ EntsAt H' us (ds.take i))
        ⟨sR, Nat.zero_le _, [], none, none, none, none, none, none, rfl, upd_same, .nil⟩ (fun i σ H' h => h.1) ?_ ?_
      · rintro i e σ H' T hi ⟨sH, hid, us, x3, x4, x5, x6, x7, x8, rfl, hRu, hE⟩ hT
        have hil : i < es.length := (List.getElem?_eq_some_iff.mp hi).1
        have sT : Same H' (upd H' T (.tup [.int (i : Nat), e])) := same_new hT
        refine ⟨T, _, rfl, SqT.of upd_same, rfl, _, _, rfl, _, _, rfl, rfl, ?_⟩
        generalize hG : upd H' T (.tup [.int (i : Nat), e]) = G at sT ⊢
        by_cases hd : i < ds.length
        · obtain ⟨d, hdi⟩ : ∃ d, ds[i]? = some d := ⟨_, List.getElem?_eq_getElem hd⟩
          obtain ⟨e', he', hok1⟩ := hok i d hdi
          obtain rfl : e = e' := Option.some.inj (hi.symm.trans he')
          have hokG := hok1.same (sH.trans sT)
          refine ⟨_, rfl, _, rfl, e, (i : Int), none, rfl, hokG.is, fun H2 s2 => ?_⟩
          have hok2 := hokG.same s2
          obtain ⟨ae, ab, am, rfl, hs, hb, hm, ⟨hb1, hb2, hb3⟩, hf, hm1, hm2, hm3⟩ := hok2
          have hRu2 : H2 R = some (.lst us) := s2 _ _ (sT _ _ hRu)
          have hE2 : EntsAt H2 us (ds.take i) := hE.mono (Same.tupK (Same.trans sT s2))
          have sH2 : Same H H2 := (sH.trans sT).trans s2
          refine ⟨_, rfl, rfl, _, rfl, iteF ?_⟩
          refine ⟨_, rfl, ?_⟩
          rcases hs with hs | hs
          case' inl => refine .inl ⟨ae, _, rfl, SqL.of hs, rfl, _, _, rfl, _, _, rfl, _, _, rfl, rfl, ?_⟩
          case' inr => refine .inr ⟨ae, _, rfl, SqT.of hs, rfl, _, _, rfl, _, _, rfl, _, _, rfl, rfl, ?_⟩
          all_goals
            refine ⟨_, rfl, .inl ⟨rfl, _, SqL.of hRu2⟩, _, rfl, ?_⟩
            refine tup_q hb fun tb H3 s3 hb' => ⟨_, rfl, _, rfl, am, d.2.2.map (fun (n : Nat) => (n : Int)), rfl, ?_, fun ys L perm srt hL => ?_⟩
            · have z := (hm.same s3).sq (K := K)
              rw [List.map_map]
              exact z
            · refine tup_q (.inl upd_same) fun tm H4 s4 hm' => ⟨by (show 3 ≤ sizeLine); decide, fun tt htt => ?_⟩
              have eys := sortN_one hm1 hm3 perm srt
              rw [eys] at hm'
              have sL := same_new (o := .lst (ys.map V.int)) hL
              have s34 : Same H3 H4 := sL.trans s4
              have s24 : Same H2 H4 := s3.trans s34
              have st := same_new (o := .tup [.ref tb, natV d.2.1, .ref tm]) htt
              have sA := s24.trans st
              refine ⟨R, us, _, rfl, rfl, sA _ _ hRu2, ?_, same_upd (sH2.trans sA) hRH, by omega, us ++ [.ref tt], _, _, _, _, _, _, rfl, upd_same, ?_⟩
              · rw [hE2.len, List.length_take]
                show _ < 2 ^ 24
                omega
              · have keep : TupK (upd H4 tt (.tup [.ref tb, natV d.2.1, .ref tm])) (upd (upd H4 tt (.tup [.ref tb, natV d.2.1, .ref tm])) R (.lst (us ++ [.ref tt]))) := tups_upd (sA _ _ hRu2) fun xs z => by cases z
                rw [List.take_add_one, hdi, Option.toList_some]
                exact (((hE2.mono (Same.tupK sA)).mono keep).app (.cons ⟨tt, rfl, tb, tm, keep _ _ upd_same, keep _ _ (st _ _ (s34 _ _ hb')), keep _ _ (st _ _ hm')⟩ .nil))
        · have hid' : i = ds.length := by omega
          subst hid'
          rcases h with ⟨e', word, he', his, k⟩ | ⟨hl, _⟩
          · obtain rfl : e = e' := Option.some.inj (hi.symm.trans he')
            refine ⟨_, rfl, _, rfl, e, (ds.length : Int), some word, rfl, his.same (sH.trans sT), fun H2 s2 => ?_⟩
            refine ⟨_, rfl, rfl, _, rfl, iteT ?_⟩
            exact ⟨_, rfl, _, rfl, raise_q rfl (by decide) fun d H' s3 _ e => k d H' (((sH.trans sT).trans s2).trans s3) e⟩
          · omega
      · rintro σ H0 ⟨sH, hid, us, x3, x4, x5, x6, x7, x8, rfl, hRu, hE⟩
        have hln : ds.length = es.length := by omega
        rcases h with ⟨e', word, he', _⟩ | ⟨_, k⟩
        · rw [hln, List.getElem?_eq_none (Nat.le_refl _)] at he'
          cases he'
        rw [List.take_of_length_le (by omega)] at hE
        have h12 : ds.length ≤ 12 := by omega
        have hp0 : H0 p = some (.ins C dx []) := sH _ _ hp
        have hRp : R ≠ p := fun z => by
          rw [z, hp0] at hRu
          cases hRu
        have O0 : Oth p H H0 := Oth.of sH
        -- classes
        refine ⟨_, rfl, ?_⟩
        refine tup_q (.inl hRu) fun pc G t1 hc => ⟨_, rfl, p, C, dx, [], rfl, t1 _ _ hp0, TC.cl, TC.no _ (List.mem_of_getElem? (i := 0) rfl), by simp, ?_⟩
        have O1 : Oth p H0 (upd G p (.ins C dx (putF "classes" (.ref pc) []))) := Oth.upd (Oth.of t1)
        have P1 : upd G p (.ins C dx (putF "classes" (.ref pc) [])) p = some (.ins C dx [("classes", .ref pc)]) := upd_same
        have C1 : upd G p (.ins C dx (putF "classes" (.ref pc) [])) pc = some (.tup us) := tups_upd (t1 _ _ hp0) (fun xs z => by cases z) _ _ hc
        generalize hN : upd G p (.ins C dx (putF "classes" (.ref pc) [])) = N1 at O1 P1 C1 ⊢
        have E1 : EntsAt N1 us ds := hE.mono (O1.tupK hp0)
        have R1 : N1 R = some (.lst us) := O1 _ _ hRp hRu
        clear hN t1 hc G
        -- bases
        refine Box.mk <| col_q (k := 0) ColB (fun H H' v d kk z => ?_) (fun H t d z => ?_) R1 E1 h12 fun D G0 bs t0 hD hB => ?_
        · obtain ⟨t, e1, e2⟩ := z
          exact ⟨t, e1, kk _ _ e2⟩
        · obtain ⟨tb, tm, z1, z2, z3⟩ := z
          exact ⟨_, _, z1, rfl, tb, rfl, z2⟩
        refine tup_q (.inl hD) fun pb G t1 hx => ⟨_, rfl, p, C, dx, _, rfl, t1 _ _ (t0 _ _ P1), TC.cl, TC.no _ (List.mem_of_getElem? (i := 1) rfl), by simp, ?_⟩
        have tt : Same N1 G := Same.trans t0 t1
        have O2 : Oth p N1 (upd G p (.ins C dx (putF "bases" (.ref pb) [("classes", .ref pc)]))) := Oth.upd (Oth.of tt)
        have P2 : upd G p (.ins C dx (putF "bases" (.ref pb) [("classes", .ref pc)])) p = some (.ins C dx [("classes", .ref pc), ("bases", .ref pb)]) := upd_same
        have X2 : upd G p (.ins C dx (putF "bases" (.ref pb) [("classes", .ref pc)])) pb = some (.tup bs) := tups_upd (tt _ _ P1) (fun xs z => by cases z) _ _ hx
        have kk2 : TupK G (upd G p (.ins C dx (putF "bases" (.ref pb) [("classes", .ref pc)]))) := tups_upd (tt _ _ P1) fun xs z => by cases z
        have T1 : TupsAt (upd G p (.ins C dx (putF "bases" (.ref pb) [("classes", .ref pc)]))) bs (ds.map (·.1)) := ((colB_tups hB).mono (Same.tupK t1)).mono kk2
        generalize hN : upd G p (.ins C dx (putF "bases" (.ref pb) [("classes", .ref pc)])) = N2 at O2 P2 X2 kk2 T1 ⊢
        have E2 : EntsAt N2 us ds := E1.mono (O2.tupK P1)
        have R2 : N2 R = some (.lst us) := O2 _ _ hRp R1
        clear hN kk2 tt t1 t0 hx hD hB G G0
        -- owns
        refine Box.mk <| col_q (k := 1) ColO (fun H H' v d kk z => z) (fun H t d z => ?_) R2 E2 h12 fun D G0 os t0 hD hB => ?_
        · obtain ⟨tb, tm, z1, z2, z3⟩ := z
          exact ⟨_, _, z1, rfl, rfl⟩
        refine tup_q (.inl hD) fun po G t1 hx => ⟨_, rfl, p, C, dx, _, rfl, t1 _ _ (t0 _ _ P2), TC.cl, TC.no _ (List.mem_of_getElem? (i := 2) rfl), by simp, ?_⟩
        have tt : Same N2 G := Same.trans t0 t1
        have O3 : Oth p N2 (upd G p (.ins C dx (putF "owns" (.ref po) [("classes", .ref pc), ("bases", .ref pb)]))) := Oth.upd (Oth.of tt)
        have P3 : upd G p (.ins C dx (putF "owns" (.ref po) [("classes", .ref pc), ("bases", .ref pb)])) p = some (.ins C dx [("classes", .ref pc), ("bases", .ref pb), ("owns", .ref po)]) := upd_same
        have X3 : upd G p (.ins C dx (putF "owns" (.ref po) [("classes", .ref pc), ("bases", .ref pb)])) po = some (.tup os) := tups_upd (tt _ _ P2) (fun xs z => by cases z) _ _ hx
        have kk3 : TupK G (upd G p (.ins C dx (putF "owns" (.ref po) [("classes", .ref pc), ("bases", .ref pb)]))) := tups_upd (tt _ _ P2) fun xs z => by cases z
        have T2 : os = (ds.map (·.2.1)).map natV := colO_nats hB
        generalize hN : upd G p (.ins C dx (putF "owns" (.ref po) [("classes", .ref pc), ("bases", .ref pb)])) = N3 at O3 P3 X3 kk3 ⊢
        have E3 : EntsAt N3 us ds := E2.mono (O3.tupK P2)
        have R3 : N3 R = some (.lst us) := O3 _ _ hRp R2
        clear hN kk3 tt t1 t0 hx hD hB G G0
        -- methods
        refine Box.mk <| col_q (k := 2) ColM (fun H H' v d kk z => ?_) (fun H t d z => ?_) R3 E3 h12 fun D G0 ms t0 hD hB => ?_
        · obtain ⟨t, e1, e2⟩ := z
          exact ⟨t, e1, kk _ _ e2⟩
        · obtain ⟨tb, tm, z1, z2, z3⟩ := z
          exact ⟨_, _, z1, rfl, tm, rfl, z3⟩
        refine tup_q (.inl hD) fun pm G t1 hx => ⟨_, rfl, p, C, dx, _, rfl, t1 _ _ (t0 _ _ P3), TC.cl, TC.no _ (List.mem_of_getElem? (i := 3) rfl), by simp, ?_⟩
        have tt : Same N3 G := Same.trans t0 t1
        have O4 : Oth p N3 (upd G p (.ins C dx (putF "methods" (.ref pm) [("classes", .ref pc), ("bases", .ref pb), ("owns", .ref po)]))) := Oth.upd (Oth.of tt)
        have P4 : upd G p (.ins C dx (putF "methods" (.ref pm) [("classes", .ref pc), ("bases", .ref pb), ("owns", .ref po)])) p = some (.ins C dx [("classes", .ref pc), ("bases", .ref pb), ("owns", .ref po), ("methods", .ref pm)]) := upd_same
        have X4 : upd G p (.ins C dx (putF "methods" (.ref pm) [("classes", .ref pc), ("bases", .ref pb), ("owns", .ref po)])) pm = some (.tup ms) := tups_upd (tt _ _ P3) (fun xs z => by cases z) _ _ hx
        have kk4 : TupK G (upd G p (.ins C dx (putF "methods" (.ref pm) [("classes", .ref pc), ("bases", .ref pb), ("owns", .ref po)]))) := tups_upd (tt _ _ P3) fun xs z => by cases z
        have T3 : TupsAt (upd G p (.ins C dx (putF "methods" (.ref pm) [("classes", .ref pc), ("bases", .ref pb), ("owns", .ref po)]))) ms (ds.map fun d => sortN d.2.2) := ((colM_tups hB).mono (Same.tupK t1)).mono kk4
        generalize hN : upd G p (.ins C dx (putF "methods" (.ref pm) [("classes", .ref pc), ("bases", .ref pb), ("owns", .ref po)])) = N4 at O4 P4 X4 kk4 T3 ⊢
        have E4 : EntsAt N4 us ds := E3.mono (O4.tupK P3)
        have R4 : N4 R = some (.lst us) := O4 _ _ hRp R3
        clear hN kk4 tt t1 t0 hx hD hB G G0
        -- elders
        have hv : validB (ds.map (·.1)) := fun c row hc b hb => by
          rw [List.getElem?_map] at hc
          obtain ⟨d, hd, rfl⟩ := Option.map_eq_some_iff.mp hc
          obtain ⟨e, _, _, _, _, _, _, _, _, ⟨_, _, z⟩, _⟩ := hok c d hd
          exact z b hb
        have hr12 : ∀ row ∈ ds.map (·.1), row.length ≤ 12 := fun row hrow => by
          obtain ⟨d, hd, rfl⟩ := List.mem_map.mp hrow
          obtain ⟨c, hc⟩ := List.mem_iff_getElem?.mp hd
          obtain ⟨e, _, _, _, _, _, _, _, _, ⟨_, z, _⟩, _⟩ := hok c d hc
          exact z
        have B4 : N4 pb = some (.tup bs) := O4.tupK P3 _ _ (O3.tupK P2 _ _ X2)
        have TB4 : TupsAt N4 bs (ds.map (·.1)) := (T1.mono (O3.tupK P2)).mono (O4.tupK P3)
        refine ⟨_, rfl, p, C, dx, _, _, rfl, P4, TC.cl, TC.no _ (List.mem_of_getElem? (i := 1) rfl), rfl, pb, bs, ds.map (·.1), rfl, B4, TB4, hv, by rw [List.length_map]; exact h12, hr12, fun G pe es' tt hx hU => ⟨_, rfl, p, C, dx, _, rfl, tt _ _ P4, TC.cl, TC.no _ (List.mem_of_getElem? (i := 4) rfl), by simp, ?_⟩⟩
        have O5 : Oth p N4 (upd G p (.ins C dx (putF "elders" (.ref pe) [("classes", .ref pc), ("bases", .ref pb), ("owns", .ref po), ("methods", .ref pm)]))) := Oth.upd (Oth.of tt)
        have P5 : upd G p (.ins C dx (putF "elders" (.ref pe) [("classes", .ref pc), ("bases", .ref pb), ("owns", .ref po), ("methods", .ref pm)])) p = some (.ins C dx [("classes", .ref pc), ("bases", .ref pb), ("owns", .ref po), ("methods", .ref pm), ("elders", .ref pe)]) := upd_same
        have X5 : upd G p (.ins C dx (putF "elders" (.ref pe) [("classes", .ref pc), ("bases", .ref pb), ("owns", .ref po), ("methods", .ref pm)])) pe = some (.tup es') := tups_upd (tt _ _ P4) (fun xs z => by cases z) _ _ hx
        have kk5 : TupK G (upd G p (.ins C dx (putF "elders" (.ref pe) [("classes", .ref pc), ("bases", .ref pb), ("owns", .ref po), ("methods", .ref pm)]))) := tups_upd (tt _ _ P4) fun xs z => by cases z
        have T4 : TupsAt (upd G p (.ins C dx (putF "elders" (.ref pe) [("classes", .ref pc), ("bases", .ref pb), ("owns", .ref po), ("methods", .ref pm)]))) es' (elders (ds.map (·.1))) := hU.mono kk5
        generalize hN : upd G p (.ins C dx (putF "elders" (.ref pe) [("classes", .ref pc), ("bases", .ref pb), ("owns", .ref po), ("methods", .ref pm)])) = N5 at O5 P5 X5 kk5 T4 ⊢
        clear hN kk5 tt hx hU G
        -- heirs
        refine ⟨_, rfl, p, C, dx, _, _, rfl, P5, TC.cl, TC.no _ (List.mem_of_getElem? (i := 4) rfl), rfl, pe, es', elders (ds.map (·.1)), rfl, X5, T4, by rw [elders_len, List.length_map]; exact h12, fun G ph hs tt hx hU => ⟨_, rfl, p, C, dx, _, rfl, tt _ _ P5, TC.cl, TC.no _ (List.mem_of_getElem? (i := 5) rfl), by simp, ?_⟩⟩
        have O6 : Oth p N5 (upd G p (.ins C dx (putF "heirs" (.ref ph) [("classes", .ref pc), ("bases", .ref pb), ("owns", .ref po), ("methods", .ref pm), ("elders", .ref pe)]))) := Oth.upd (Oth.of tt)
        have P6 : upd G p (.ins C dx (putF "heirs" (.ref ph) [("classes", .ref pc), ("bases", .ref pb), ("owns", .ref po), ("methods", .ref pm), ("elders", .ref pe)])) p = some (.ins C dx [("classes", .ref pc), ("bases", .ref pb), ("owns", .ref po), ("methods", .ref pm), ("elders", .ref pe), ("heirs", .ref ph)]) := upd_same
        have X6 : upd G p (.ins C dx (putF "heirs" (.ref ph) [("classes", .ref pc), ("bases", .ref pb), ("owns", .ref po), ("methods", .ref pm), ("elders", .ref pe)])) ph = some (.tup hs) := tups_upd (tt _ _ P5) (fun xs z => by cases z) _ _ hx
        have kk6 : TupK G (upd G p (.ins C dx (putF "heirs" (.ref ph) [("classes", .ref pc), ("bases", .ref pb), ("owns", .ref po), ("methods", .ref pm), ("elders", .ref pe)]))) := tups_upd (tt _ _ P5) fun xs z => by cases z
        have T5 : TupsAt (upd G p (.ins C dx (putF "heirs" (.ref ph) [("classes", .ref pc), ("bases", .ref pb), ("owns", .ref po), ("methods", .ref pm), ("elders", .ref pe)]))) hs (heirs (elders (ds.map (·.1)))) := hU.mono kk6
        generalize hN : upd G p (.ins C dx (putF "heirs" (.ref ph) [("classes", .ref pc), ("bases", .ref pb), ("owns", .ref po), ("methods", .ref pm), ("elders", .ref pe)])) = N6 at O6 P6 X6 kk6 T5 ⊢
        have k23 := O3.tupK P2
        have k34 := O4.tupK P3
        have k45 := O5.tupK P4
        have k56 := O6.tupK P5
        have k12 := O2.tupK P1
        have k16 : TupK N1 N6 := fun b xs e => k56 _ _ (k45 _ _ (k34 _ _ (k23 _ _ (k12 _ _ e))))
        have k26 : TupK N2 N6 := fun b xs e => k56 _ _ (k45 _ _ (k34 _ _ (k23 _ _ e)))
        have k36 : TupK N3 N6 := fun b xs e => k56 _ _ (k45 _ _ (k34 _ _ e))
        have k46 : TupK N4 N6 := fun b xs e => k56 _ _ (k45 _ _ e)
        exact k N6 ((((((O0.trans O1).trans O2).trans O3).trans O4).trans O5).trans O6) ⟨dx, pc, pb, po, pm, pe, ph, us, bs, ms, es', hs, P6, k16 _ _ C1, E1.mono k16, k26 _ _ X2, T1.mono k26, by rw [← T2]; exact k36 _ _ X3, k46 _ _ X4, T3.mono k46, k56 _ _ X5, T4.mono k56, X6, T5⟩
end
end K12

set_option maxRecDepth 100000
set_option maxHeartbeats 4000000
namespace K12
open PySem PySem.Spec PyProof.Rows L2 Kw
/-- the hand at p: its cells' list at q, the place, what is left of a great cell, the total -/
def HandAt (H : Hp) (p q : Addr) : Prop := ∃ (cs : List Int) (i r t : Int), H p = some (.lst [.ref q, .int i, .int r, .int t]) ∧ H q = some (.lst (cs.map V.int)) ∧ p ≠ q ∧
  (∀ c ∈ cs, 0 ≤ c) ∧ 0 ≤ i ∧ i ≤ (cs.length : Int) ∧ cs.length ≤ 63 ∧ 0 ≤ r ∧ 0 ≤ t ∧ t < 2147483549
def spHand (K : PySem.W.Frag) : Sp := fun vs H Q _ => ∃ (a : Addr) (ns : List Int), vs = [.ref a] ∧ SqL K H a (ns.map V.int) ∧ ns.length ≤ 63 ∧ ∀ p q H', Same H H' → H p = none → H q = none → HandAt H' p q → Q (.ref p) H'
def spMixed : Sp := fun vs H Q _ => ∃ n t : Int, vs = [.int n, .int t] ∧ 0 ≤ n ∧ n < 2147483600 ∧ 0 ≤ t ∧ t < 100 ∧ ∀ r : Int, 0 ≤ r → Q (.int r) H
def spTake : Sp := fun vs H Q _ => ∃ (p q : Addr) (m : Int), vs = [.ref p, .int m] ∧ 1 ≤ m ∧ m < 1073741824 ∧ HandAt H p q ∧ ∀ (r : Int) (H' : Hp), 0 ≤ r → r < m → HandAt H' p q → (∀ b, b ≠ p → H' b = H b) → Q (.int r) H'

theorem emod_in {a m : Int} (h : 0 < m) : 0 ≤ a % m ∧ a % m < m := ⟨Int.emod_nonneg _ (by omega), Int.emod_lt_of_pos _ h⟩
section
variable {P : Program} {w : World} {K : PySem.W.Frag} {mg : Str → Option Value} {base : Heap} {f : Addr} {fd : FuncData}
theorem scM : FnScope ["_law_number", "_law_turn", "_law_once", "_law_twice"] ["_law_number", "_law_turn"] (defScope (top 37)) := ⟨rfl, rfl, rfl, by decide +kernel, rfl, by decide +kernel, by decide +kernel⟩
theorem ok_mixed (F : FnP K "_law_mixed" 37 f fd) (gI : mg "int" = none) : FnOk P w K mg base CX0 1 f fd ["_law_number", "_law_turn"] spMixed := by
  refine F.ok scM (fun vs H Q E h => ?_) (fun cdv A outer s H vs Q E hr h => ?_)
  · obtain ⟨n, t, rfl, _⟩ := h
    rfl
  · obtain ⟨n, t, rfl, n0, n1, t0, t1, k⟩ := h
    refine ⟨_, PSs.nox (pss_cons (ps_set (i := 2) scM.nd rfl (Or.inl rfl) (pe_op op_mod (pe_callTy call_int1 (by rfl) gI PyProof.Rows.boot_int (pa_cons (pe_op op_add (pe_op op_add (pe_op op_mul (pv 0) pe_int) (pe_op op_mul (pv 1) pe_int)) pe_int) pa_nil)) pe_int))
      (pss_cons (ps_set (i := 3) scM.nd rfl (Or.inl rfl) (pe_op op_mod (pe_callTy call_int1 (by rfl) gI PyProof.Rows.boot_int (pa_cons (pe_op op_add (pe_op op_add (pe_op op_mul (pv 2) (pv 2)) (pe_op op_mul (pv 1) pe_int)) (pe_op op_fdiv (pv 2) pe_int)) pa_nil)) pe_int))
      (pss_one (ps_ret (pe_op op_fdiv (pe_callTy call_int1 (by rfl) gI PyProof.Rows.boot_int (pa_cons (pe_op op_mod (pe_callTy call_int1 (by rfl) gI PyProof.Rows.boot_int (pa_cons (pe_op op_add (pe_op op_mul (pv 3) pe_int) (pe_op op_fdiv (pv 2) pe_int)) pa_nil)) pe_int) pa_nil)) pe_int))))), ?_⟩
    refine ⟨_, rfl, _, _, rfl, rfl, .inr ⟨by decide, by decide⟩, _, rfl, _, _, rfl, rfl, .inr ⟨by decide, by decide⟩, _, _, rfl, rfl, _, _, rfl, rfl, .inl ⟨_, rfl, _, _, rfl, rfl, (by show (0 : Int) < 2147483399; decide), ?_⟩⟩
    have bo := emod_in (a := n * 48271 + t * 7919 + 30011) (m := 2147483399) (by decide)
    refine ⟨_, rfl, _, rfl, _, _, rfl, rfl, .inl ⟨by show (-(2 ^ 64) : Int) < (n * 48271 + t * 7919 + 30011) % 2147483399; omega, by show (n * 48271 + t * 7919 + 30011) % 2147483399 < (2 ^ 64 : Int); omega⟩, _, rfl, _, _, rfl, rfl, .inr ⟨by decide, by decide⟩, _, _, rfl, rfl, _, rfl, _, _, rfl, rfl, ⟨by decide, by decide⟩, _, _, rfl, rfl, .inl ⟨_, rfl, _, _, rfl, rfl, (by show (0 : Int) < 2147483629; decide), ?_⟩⟩
    refine ⟨_, rfl, _, _, rfl, rfl, .inr ⟨by decide, by decide⟩, _, rfl, _, _, rfl, rfl, ⟨by decide, by decide⟩, _, _, rfl, rfl, .inl ⟨_, rfl, _, _, rfl, rfl, (by show (0 : Int) < 2147483587; decide), .inl ⟨_, rfl, _, _, rfl, rfl, ⟨by decide, by decide⟩, ?_⟩⟩⟩
    exact k _ (Int.ediv_nonneg (emod_in (by decide)).1 (by decide))

theorem scH : FnScope ["_law_script", "_law_total", "_law_cells", "_law_cell"] ["_law_script"] (defScope (top 36)) := ⟨rfl, rfl, rfl, by decide +kernel, rfl, by decide +kernel, by decide +kernel⟩
theorem ok_hand (F : FnP K "_law_hand" 36 f fd) (gI : mg "int" = none) (gL : mg "len" = none) (gA : mg "abs" = none) : FnOk P w K mg base CX0 1 f fd ["_law_script"] (spHand K) := by
  refine F.ok scH (fun vs H Q E h => ?_) (fun cdv A outer s H vs Q E hr h => ?_)
  · obtain ⟨a, ns, rfl, _⟩ := h
    rfl
  · obtain ⟨a, ns, rfl, hS, hl, k⟩ := h
    refine ⟨_, PSs.nox (pss_cons (ps_set (i := 1) scH.nd rfl (Or.inl rfl) (pe_op op_add (pe_callB call_len_seq (by rfl) gL PySem.boot_len (pa_cons (pv 0) pa_nil)) pe_int))
      (pss_cons (ps_set (i := 2) scH.nd rfl (Or.inl rfl) (pe_lst pa_nil))
      (pss_cons (ps_for PassesOwn.never rfl (pi_list (pv 0)) (pg_name (i := 3) scH.nd rfl (Or.inl rfl))
        (pss_cons (ps_set (i := 1) scH.nd rfl (Or.inl rfl) (pe_op op_mod (pe_callTy call_int1 (by rfl) gI PyProof.Rows.boot_int (pa_cons (pe_op op_add (pe_op op_mul (pv 1) pe_int) (pe_callTy call_int1 (by rfl) gI PyProof.Rows.boot_int (pa_cons (pv 3) pa_nil))) pa_nil)) pe_int))
        (pss_one (ps_expr (pe_bm PySem.F.plainAttrs_list PySem.F.slot_list_append PySem.F.type_list_append mt_append (pv 2) (pa_cons (pe_callB call_abs (by rfl) gA PyProof.Rows.boot_abs (pa_cons (pe_callTy call_int1 (by rfl) gI PyProof.Rows.boot_int (pa_cons (pv 3) pa_nil)) pa_nil)) pa_nil))))))
      (pss_one (ps_ret (pe_lst (pa_cons (pv 2) (pa_cons pe_int (pa_cons pe_int (pa_cons (pv 1) pa_nil)))))))))), ?_⟩
    refine ⟨_, rfl, a, _, rfl, .inl hS, _, _, rfl, rfl, Nat.zero_le _, fun q hq => ?_⟩
    have sq : Same H (upd H q (.lst [])) := fun b o e => by
      rw [upd_ne (ne_of_none e hq)]
      exact e
    refine ⟨_, rfl, a, rfl, ⟨_, sq.seq hS⟩, for_list (K := K) (a := a) (xs := ns.map V.int) (fun i σ H' => ∃ (t : Int) (cs : List Int) (v : Option V), σ = [some (.ref a), some (.int t), some (.ref q), v] ∧ Same H H' ∧ H q = none ∧ H' q = some (.lst (cs.map V.int)) ∧ cs.length = i ∧ (∀ c ∈ cs, 0 ≤ c) ∧ 0 ≤ t ∧ t < 2147483549)
      ⟨_, [], none, rfl, sq, hq, upd_same, rfl, (fun c hc => by cases hc), ?_, ?_⟩ (fun i σ H' _ ⟨_, _, _, _, s, _⟩ => s.seq hS) ?_ ?_⟩
    · show (0 : Int) ≤ ((ns.map V.int).length : Int) + 37
      omega
    · show ((ns.map V.int).length : Int) + 37 < 2147483549
      rw [List.length_map]
      omega
    · rintro i y σ H' hi ⟨t, cs, v, rfl, s, hq0, hc, hln, h0, t0, t1⟩
      obtain ⟨u, rfl⟩ : ∃ u, y = V.int u := by
        rw [List.getElem?_map] at hi
        cases e : ns[i]? with
        | none =>
          rw [e] at hi
          cases hi
        | some u =>
          rw [e] at hi
          exact ⟨u, (Option.some.inj hi).symm⟩
      have hi63 : i < ns.length := by
        have z := (List.getElem?_eq_some_iff.mp hi).1
        rw [List.length_map] at z
        exact z
      refine ⟨_, rfl, _, _, rfl, rfl, .inr ⟨by decide, by decide⟩, _, rfl, .inl ⟨_, rfl, _, _, rfl, rfl, .inl ⟨_, rfl, _, _, rfl, rfl, (by show (0 : Int) < 2147483549; decide), ?_⟩⟩⟩
      have bt := emod_in (a := t * 1709 + u) (m := 2147483549) (by decide)
      refine ⟨_, rfl, .inl ⟨rfl, _, SqL.of hc⟩, _, rfl, .inl ⟨_, rfl, _, rfl, q, _, _, rfl, rfl, hc, ?_, ?_⟩⟩
      · rw [List.length_map]
        exact small1000 (by omega)
      · refine ⟨_, cs ++ [if u < 0 then -u else u], _, rfl, fun b o e => ?_, hq0, ?_, ?_, ?_, bt.1, bt.2⟩
        · rw [upd_ne (ne_of_none e hq0)]
          exact s b o e
        · rw [upd_same, List.map_append]
          rfl
        · rw [List.length_append, hln]
          rfl
        · intro c hc'
          rcases List.mem_append.mp hc' with z | z
          · exact h0 c z
          · rw [List.mem_singleton.mp z]
            split <;> omega
    · rintro σ H' ⟨t, cs, v, rfl, s, hq0, hc, hln, h0, t0, t1⟩
      refine ⟨_, rfl, _, rfl, (by show 4 ≤ sizeLine; decide), fun p hp => ?_⟩
      have npq : p ≠ q := fun z => by
        rw [z, hc] at hp
        cases hp
      have hln' : cs.length = ns.length := by
        rw [hln, List.length_map]
      refine k p q _ (fun b o e => ?_) (s.free hp) hq0 ⟨cs, 0, 0, t, upd_same, by rw [upd_ne npq.symm]; exact hc, npq, h0, Int.le_refl _, by omega, by omega, Int.le_refl _, t0, t1⟩
      rw [upd_ne (ne_of_none (s b o e) hp)]
      exact s b o e
end
theorem at4 {a b c d : V} : atI [a, b, c, d] 0 = some a ∧ atI [a, b, c, d] 1 = some b ∧ atI [a, b, c, d] 2 = some c ∧ atI [a, b, c, d] 3 = some d := ⟨rfl, rfl, rfl, rfl⟩
theorem vint {a b : Int} (h : decide (V.int a = V.int b) = true) : a = b := V.int.inj (of_decide_eq_true h)
theorem dec_t {c : Prop} [Decidable c] (h : decide c = true) : c := of_decide_eq_true h
theorem dec_f {c : Prop} [Decidable c] (h : ¬ decide c = true) : ¬ c := fun z => h (decide_eq_true z)
section
variable {P : Program} {w : World} {K : PySem.W.Frag} {mg : Str → Option Value} {base : Heap} {f fM : Addr} {fd fdM : FuncData}
theorem scT : FnScope ["_law_hand_here", "_law_many", "_law_cell", "_law_rest"] ["_law_hand_here", "_law_many"] (defScope (top 38)) := ⟨rfl, rfl, rfl, by decide +kernel, rfl, by decide +kernel, by decide +kernel⟩
theorem ok_take (F : FnP K "_law_take" 38 f fd) (FM : FnP K "_law_mixed" 37 fM fdM) (mM : mg "_law_mixed" = some (.ref fM)) (gI : mg "int" = none) (gL : mg "len" = none) : FnOk P w K mg base CX0 2 f fd ["_law_hand_here", "_law_many"] spTake := by
  have GM : FnOk P w K mg base CX0 1 fM fdM ["_law_number", "_law_turn"] spMixed := ok_mixed FM gI
  have bM : Binds K fdM ["_law_number", "_law_turn"] [] := FM.bindsN fun _ _ _ _ _ _ us hl => match us, hl with | [_, _], _ => rfl
  refine F.ok scT (fun vs H Q E h => ?_) (fun cdv A outer s H vs Q E hr h => ?_)
  · obtain ⟨n, q, t, rfl, _⟩ := h
    rfl
  · obtain ⟨p, q, m, rfl, m1, m2, hh, k⟩ := h
    refine ⟨_, PSs.nox (C8.pss_cut (ps_if (PW.pt (pw_and (pt_cmpR op_eq (pe_ix ix_list (pv 0) pe_int (fun _ _ => rfl)) pe_int (nomark _)) (pw_and1 (pt_cmpR op_lt (pe_ix ix_list (pv 0) pe_int (fun _ _ => rfl)) (pe_callB call_len_seq (by rfl) gL PySem.boot_len (pa_cons (pe_ix ix_list (pv 0) pe_int (fun _ _ => rfl)) pa_nil)) (nomark _)))))
        (pss_cons (ps_set (i := 2) scT.nd rfl (Or.inl rfl) (pe_ix ix_list (pe_ix ix_list (pv 0) pe_int (fun _ _ => rfl)) (pe_ix ix_list (pv 0) pe_int (fun _ _ => rfl)) (fun _ _ => rfl)))
        (pss_cons (ps_asg (pe_op op_add (pe_ix ix_list (pv 0) pe_int (fun _ _ => rfl)) pe_int) (pg_sub (pv 0) pe_int set_list (fun _ => rfl)))
        (pss_cons (ps_if (pt_cmpR op_lt (pv 2) (pe_op op_pow pe_int pe_int) (nomark _))
            (pss_one (ps_ret (pe_op op_mod (pe_callTy call_int1 (by rfl) gI PyProof.Rows.boot_int (pa_cons (pe_call GM hr rfl mM FM.kp bM .nil pass0 (pa_cons (pe_op op_mod (pe_callTy call_int1 (by rfl) gI PyProof.Rows.boot_int (pa_cons (pv 2) pa_nil)) pe_int) (pa_cons (pe_ix ix_list (pv 0) pe_int (fun _ _ => rfl)) pa_nil))) pa_nil)) (pv 1)))) pss_nil)
        (pss_one (ps_asg (pv 2) (pg_sub (pv 0) pe_int set_list (fun _ => rfl))))))) pss_nil)
      (C8.pss_cut (ps_if (pt_cmpR op_gt (pe_ix ix_list (pv 0) pe_int (fun _ _ => rfl)) pe_int (nomark _))
        (pss_cons (ps_set (i := 3) scT.nd rfl (Or.inl rfl) (pe_ix ix_list (pv 0) pe_int (fun _ _ => rfl)))
        (pss_cons (ps_asg (pe_op op_fdiv (pe_callTy call_int1 (by rfl) gI PyProof.Rows.boot_int (pa_cons (pv 3) pa_nil)) (pv 1)) (pg_sub (pv 0) pe_int set_list (fun _ => rfl)))
        (pss_one (ps_ret (pe_op op_mod (pe_callTy call_int1 (by rfl) gI PyProof.Rows.boot_int (pa_cons (pv 3) pa_nil)) (pv 1)))))) pss_nil)
      (pss_cons (ps_asg (pe_op op_mod (pe_callTy call_int1 (by rfl) gI PyProof.Rows.boot_int (pa_cons (pe_op op_add (pe_ix ix_list (pv 0) pe_int (fun _ _ => rfl)) pe_int) pa_nil)) pe_int) (pg_sub (pv 0) pe_int set_list (fun _ => rfl)))
      (pss_one (ps_ret (pe_op op_mod (pe_callTy call_int1 (by rfl) gI PyProof.Rows.boot_int (pa_cons (pe_call GM hr rfl mM FM.kp bM .nil pass0 (pa_cons (pe_ix ix_list (pv 0) pe_int (fun _ _ => rfl)) (pa_cons (pe_ix ix_list (pv 0) pe_int (fun _ _ => rfl)) pa_nil))) pa_nil)) (pv 1))))))), ?_⟩
    -- between the statements: some hand stands at p, nothing else has changed
    let Mid : L2.St → Hp → Prop := fun σ H' => ∃ c d, σ = [some (.ref p), some (.int m), c, d] ∧ HandAt H' p q ∧ ∀ b, b ≠ p → H' b = H b
    have setH : ∀ {H' : Hp} {cs : List Int} {i r t : Int}, H' q = some (.lst (cs.map V.int)) → p ≠ q → (∀ c ∈ cs, 0 ≤ c) → 0 ≤ i → i ≤ (cs.length : Int) → cs.length ≤ 63 → 0 ≤ r → 0 ≤ t → t < 2147483549 →
        HandAt (upd H' p (.lst [.ref q, .int i, .int r, .int t])) p q := fun hq npq h0 i0 i1 l r0 t0 t1 => ⟨_, _, _, _, upd_same, by rw [upd_ne npq.symm]; exact hq, npq, h0, i0, i1, l, r0, t0, t1⟩
    have setB : ∀ {H' : Hp} {o : HO}, (∀ b, b ≠ p → H' b = H b) → ∀ b, b ≠ p → upd H' p o b = H b := fun h b hb => by rw [upd_ne hb]; exact h b hb
    refine ⟨Mid, ?_, ?_⟩
    · obtain ⟨cs, i, r, t, hp, hq, npq, h0, i0, i1, hl, r0, t0, t1⟩ := id hh
      refine ⟨_, rfl, p, _, _, _, rfl, rfl, SqL.of hp, at4.2.2.1, rfl, _, rfl, ?_⟩
      refine ite2 (fun e => ?_) (fun _ => iteF ⟨_, _, rfl, hh, fun b _ => rfl⟩)
      refine ⟨_, rfl, p, _, _, _, rfl, rfl, SqL.of hp, at4.2.1, _, rfl, p, _, _, _, rfl, rfl, SqL.of hp, at4.1, q, _, rfl, .inl (SqL.of hq), _, _, rfl, rfl, _, rfl, ?_⟩
      refine ite2 (fun e2 => ?_) (fun _ => ⟨_, _, rfl, hh, fun b _ => rfl⟩)
      have il : i < ((cs.map V.int).length : Int) := dec_t e2
      rw [List.length_map] at il
      obtain ⟨j, rfl⟩ : ∃ j : Nat, i = (j : Int) := ⟨i.toNat, by omega⟩
      have jl : j < cs.length := by omega
      have hc : (cs.map V.int)[j]? = some (V.int cs[j]) := by
        rw [List.getElem?_map, List.getElem?_eq_getElem jl]
        rfl
      have c0 := h0 _ (List.getElem_mem jl)
      generalize cs[j] = c at hc c0
      refine ⟨_, rfl, p, _, _, _, rfl, rfl, SqL.of hp, at4.1, _, rfl, p, _, _, _, rfl, rfl, SqL.of hp, at4.2.1, q, _, _, _, rfl, rfl, SqL.of hq, atI_nat hc, ?_⟩
      refine ⟨_, rfl, p, _, _, _, rfl, rfl, SqL.of hp, at4.2.1, _, _, rfl, rfl, _, rfl, p, _, _, 1, rfl, rfl, hp, rfl, ?_⟩
      have hh1 : HandAt (upd H p (.lst [.ref q, .int ((j : Int) + 1), .int r, .int t])) p q := setH hq npq h0 (by omega) (by omega) hl r0 t0 t1
      refine ⟨_, rfl, _, _, rfl, rfl, ⟨by decide, by decide, by decide⟩, _, _, rfl, rfl, _, rfl, ?_⟩
      refine ite2 (fun _ => ?_) (fun _ => ?_)
      · refine ⟨_, rfl, .inl ⟨_, rfl, _, _, rfl, rfl, (by show (0 : Int) < 2147483399; decide), _, rfl, p, _, _, _, rfl, rfl, SqL.of upd_same, at4.2.1, ?_⟩⟩
        have b := emod_in (a := c) (m := 2147483399) (by decide)
        refine ⟨_, _, rfl, b.1, by omega, by omega, by omega, fun x x0 => .inl ⟨_, rfl, _, rfl, _, _, rfl, rfl, (by show (0 : Int) < m; omega), ?_⟩⟩
        have bm := emod_in (a := x) (m := m) (by omega)
        exact k _ _ bm.1 bm.2 hh1 (setB fun b _ => rfl)
      · refine ⟨_, rfl, _, rfl, p, _, _, 2, rfl, rfl, upd_same, rfl, ?_⟩
        rw [upd_upd]
        exact ⟨_, _, rfl, setH hq npq h0 (by omega) (by omega) hl c0 t0 t1, setB fun b _ => rfl⟩
    · rintro σ H1 ⟨c, d, rfl, hh1, hb1⟩
      refine ⟨Mid, ?_, ?_⟩
      · obtain ⟨cs, i, r, t, hp, hq, npq, h0, i0, i1, hl, r0, t0, t1⟩ := id hh1
        refine ⟨_, rfl, p, _, _, _, rfl, rfl, SqL.of hp, at4.2.2.1, _, _, rfl, rfl, _, rfl, ?_⟩
        refine ite2 (fun e => ?_) (fun _ => ⟨_, _, rfl, hh1, hb1⟩)
        refine ⟨_, rfl, p, _, _, _, rfl, rfl, SqL.of hp, at4.2.2.1, _, rfl, .inl ⟨_, rfl, _, rfl, _, _, rfl, rfl, ⟨by show (0 : Int) < m; omega, m2⟩, _, rfl, p, _, _, 2, rfl, rfl, hp, rfl, _, rfl, .inl ⟨_, rfl, _, rfl, _, _, rfl, rfl, (by show (0 : Int) < m; omega), ?_⟩⟩⟩
        have bm := emod_in (a := r) (m := m) (by omega)
        exact k _ _ bm.1 bm.2 (setH hq npq h0 i0 i1 hl (Int.ediv_nonneg r0 (by omega)) t0 t1) (setB hb1)
      · rintro σ H2 ⟨c, d, rfl, hh2, hb2⟩
        obtain ⟨cs, i, r, t, hp, hq, npq, h0, i0, i1, hl, r0, t0, t1⟩ := id hh2
        refine ⟨_, rfl, p, _, _, _, rfl, rfl, SqL.of hp, at4.2.2.2, _, _, rfl, rfl, .inl ⟨_, rfl, _, _, rfl, rfl, (by show (0 : Int) < 2147483549; decide), _, rfl, p, _, _, 3, rfl, rfl, hp, rfl, ?_⟩⟩
        have bt := emod_in (a := t + 1) (m := 2147483549) (by decide)
        refine ⟨_, rfl, p, _, _, _, rfl, rfl, SqL.of upd_same, at4.2.2.2, _, rfl, p, _, _, _, rfl, rfl, SqL.of upd_same, at4.2.1, _, _, rfl, bt.1, by omega, i0, by omega, fun x x0 => .inl ⟨_, rfl, _, rfl, _, _, rfl, rfl, (by show (0 : Int) < m; omega), ?_⟩⟩
        have bm := emod_in (a := x) (m := m) (by omega)
        exact k _ _ bm.1 bm.2 (setH hq npq h0 i0 i1 hl r0 bt.1 bt.2) (setB hb2)
end
end K12

set_option maxRecDepth 100000
set_option maxHeartbeats 4000000
namespace K12
open PySem PySem.Spec PyProof.Rows L2 Kw
theorem HandAt.keep {H H' : Hp} {p q : Addr} (h : HandAt H p q) (s : ∀ b, b = p ∨ b = q → ∀ o, H b = some o → H' b = some o) : HandAt H' p q := by
  obtain ⟨cs, i, r, t, h1, h2, h3⟩ := h
  exact ⟨cs, i, r, t, s p (.inl rfl) _ h1, s q (.inr rfl) _ h2, h3⟩
theorem HandAt.same {H H' : Hp} {p q : Addr} (h : HandAt H p q) (s : Same H H') : HandAt H' p q := h.keep fun b _ o e => s b o e
theorem HandAt.ne {H : Hp} {p q l : Addr} (h : HandAt H p q) (hl : H l = none) : l ≠ p ∧ l ≠ q := by
  obtain ⟨cs, i, r, t, h1, h2, h3⟩ := h
  exact ⟨fun z => (by rw [z, h1] at hl; cases hl), fun z => (by rw [z, h2] at hl; cases hl)⟩
theorem HandAt.upd {H : Hp} {p q l : Addr} {o : HO} (h : HandAt H p q) (hp : l ≠ p) (hq : l ≠ q) : HandAt (upd H l o) p q := h.keep fun b hb u e => by
  refine upB (fun z => ?_) e
  rcases hb with hb | hb
  · exact hp (z ▸ hb)
  · exact hq (z ▸ hb)
theorem tab_at {tab : List Int} {r : Int} (h0 : 0 ≤ r) (h1 : r < (tab.length : Int)) : ∃ v, atI (tab.map V.int) r = some (V.int v) ∧ v ∈ tab := by
  obtain ⟨j, rfl⟩ : ∃ j : Nat, r = (j : Int) := ⟨r.toNat, by omega⟩
  have hj : j < tab.length := by omega
  exact ⟨tab[j], atI_nat (by rw [List.getElem?_map, List.getElem?_eq_getElem hj]; rfl), List.getElem_mem hj⟩
section
variable {P : Program} {w : World} {K : PySem.W.Frag} {mg : Str → Option Value} {base : Heap} {f fT fM : Addr} {fd fdT fdM : FuncData}
def spBases : Sp := fun vs H Q _ => ∃ (p q : Addr) (c : Nat), vs = [.ref p, .int (c : Int)] ∧ c ≤ 12 ∧ HandAt H p q ∧
  ∀ l H' (bs : List Nat), Oth p H H' → HandAt H' p q → H l = none → H' l = some (.lst (bs.map natV)) → bs.Nodup → (∀ b ∈ bs, b < c) → bs.length ≤ 3 → Q (.ref l) H'
theorem sc_bases : FnScope ["_law_hand_here", "_law_c", "_law_bases_here", "_law_step", "_law_base"] ["_law_hand_here", "_law_c"] (defScope (top 39)) := ⟨rfl, rfl, rfl, by decide +kernel, rfl, by decide +kernel, by decide +kernel⟩
theorem ok_bases (F : FnP K "_law_bases" 39 f fd) (B : Fr mg) (FT : FnP K "_law_take" 38 fT fdT) (mT : mg "_law_take" = some (.ref fT)) (FM : FnP K "_law_mixed" 37 fM fdM) (mM : mg "_law_mixed" = some (.ref fM)) :
    FnOk P w K mg base CX0 3 f fd ["_law_hand_here", "_law_c"] spBases := by
  have GT : FnOk P w K mg base CX0 2 fT fdT ["_law_hand_here", "_law_many"] spTake := ok_take FT FM mM B.int B.len
  have bT : L2.Binds K fdT ["_law_hand_here", "_law_many"] [] := FT.bindsN fun _ _ _ _ _ _ us hl => match us, hl with | [_, _], _ => rfl
  refine F.ok sc_bases (fun vs H Q E h => ?_) (fun cdv A outer s H vs Q E hr h => ?_)
  · obtain ⟨p, q, c, rfl, _⟩ := h
    rfl
  · obtain ⟨p, q, c, rfl, hc, hh, k⟩ := h
    refine ⟨_, PSs.nox (pss_cons (ps_set (i := 2) sc_bases.nd rfl (Or.inl rfl) (pe_lst pa_nil))
      (pss_cons (ps_for PassesOwn.never rfl (pi_range1 (by rfl) B.range (pa_cons (pe_ix ix_tup (pe_tup (pa_cons pe_int (pa_cons pe_int (pa_cons pe_int (pa_cons pe_int (pa_cons pe_int (pa_cons pe_int (pa_cons pe_int (pa_cons pe_int pa_nil))))))))) (pe_call GT hr (by rfl) mT FT.kp bT .nil pass0 (pa_cons (pv 0) (pa_cons pe_int pa_nil))) (fun _ _ => rfl)) pa_nil)) (pg_name (i := 3) sc_bases.nd rfl (Or.inl rfl))
        (pss_one (ps_if (pt_cmpR op_gt (pv 1) pe_int (nomark _))
          (pss_cons (ps_set (i := 4) sc_bases.nd rfl (Or.inl rfl) (pe_call GT hr (by rfl) mT FT.kp bT .nil pass0 (pa_cons (pv 0) (pa_cons (pv 1) pa_nil))))
          (pss_one (ps_if (pt_cmpR (r := rIn K true) op_notIn_seq (pv 4) (pv 2) (by rfl)) (pss_one (ps_expr (pe_bm PySem.F.plainAttrs_list PySem.F.slot_list_append PySem.F.type_list_append mt_append (pv 2) (pa_cons (pv 4) pa_nil)))) pss_nil))) pss_nil)))
      (pss_one (ps_ret (pv 2))))), ?_⟩
    refine ⟨by decide, fun l hl => ?_⟩
    obtain ⟨lp, lq⟩ := hh.ne hl
    have h1 : HandAt (upd H l (.lst [])) p q := hh.upd lp lq
    refine ⟨by (show 8 ≤ sizeLine); decide, fun t ht => ?_⟩
    obtain ⟨tp, tq⟩ := h1.ne ht
    have tl : t ≠ l := fun z => by
      rw [z, upd_same] at ht
      cases ht
    refine ⟨_, rfl, p, q, 8, rfl, by decide, by decide, h1.upd tp tq, fun r H2 r0 r1 h2 e2 => ?_⟩
    obtain ⟨v, hv, hm⟩ := tab_at (tab := [0, 1, 1, 2, 2, 2, 3, 1]) r0 r1
    have hv3 : 0 ≤ v ∧ v ≤ 3 := (by decide : ∀ v ∈ ([0, 1, 1, 2, 2, 2, 3, 1] : List Int), 0 ≤ v ∧ v ≤ 3) v hm
    have T2 : H2 t = some (.tup (([0, 1, 1, 2, 2, 2, 3, 1] : List Int).map V.int)) := by
      rw [e2 t tp]
      exact upd_same
    have O2 : Oth p H H2 := fun b o nb e => by
      rw [e2 b nb]
      exact upB (ne_of_none (upB (ne_of_none e hl) e) ht) (upB (ne_of_none e hl) e)
    have L2' : H2 l = some (.lst []) := by
      rw [e2 l lp]
      exact upB tl.symm upd_same
    refine ⟨t, _, r, _, rfl, rfl, SqT.of T2, hv, v, rfl, by omega, by omega, for_range (n := v.toNat) (fun i σ H' => ∃ (bs : List Nat) (x3 x4 : Option V), σ = [some (.ref p), some (.int (c : Int)), some (.ref l), x3, x4] ∧ HandAt H' p q ∧ Oth p H H' ∧ H' l = some (.lst (bs.map natV)) ∧ bs.Nodup ∧ (∀ b ∈ bs, b < c) ∧ bs.length ≤ i)
      ⟨[], none, none, rfl, h2, O2, L2', List.nodup_nil, fun b hb => (by cases hb), Nat.le_refl _⟩ ?_ ?_⟩
    · rintro i σ H3 hi ⟨bs, x3, x4, rfl, h3, O3, L3, nd, hb, hl3⟩
      refine ⟨_, rfl, _, _, rfl, rfl, _, rfl, ?_⟩
      refine ite2 (fun e => ?_) (fun _ => ⟨bs, _, _, rfl, h3, O3, L3, nd, hb, by omega⟩)
      have c0 : (0 : Int) < (c : Int) := of_decide_eq_true e
      refine ⟨_, rfl, _, rfl, p, q, (c : Int), rfl, by omega, by omega, h3, fun r H4 r0 r1 h4 e4 => ?_⟩
      obtain ⟨b, rfl⟩ : ∃ b : Nat, r = (b : Int) := ⟨r.toNat, by omega⟩
      have L4 : H4 l = some (.lst (bs.map natV)) := by
        rw [e4 l lp]
        exact L3
      have O4 : Oth p H H4 := fun a o na e => by
        rw [e4 a na]
        exact O3 a o na e
      refine ⟨_, rfl, _, rfl, l, _, rfl, .inl (SqL.of L4), rfl, flat_nats bs, _, rfl, ?_⟩
      have ein : inV (.int (b : Int)) (bs.map natV) = bs.contains b := inV_nat b bs
      show (if (!inV (.int (b : Int)) (bs.map natV)) = true then _ else _)
      rw [ein]
      cases hbc : bs.contains b with
      | true => exact iteF ⟨bs, _, _, rfl, h4, O4, L4, nd, hb, by omega⟩
      | false =>
        have nb : b ∉ bs := fun z => by
          rw [List.contains_iff_mem.mpr z] at hbc
          cases hbc
        refine iteT ⟨_, rfl, .inl ⟨rfl, _, SqL.of L4⟩, _, rfl, l, _, _, rfl, rfl, L4, ?_, bs ++ [b], _, _, rfl, h4.upd lp lq, fun a o na e => upB (ne_of_none e hl) (O4 a o na e), ?_, ?_, ?_, ?_⟩
        · rw [List.length_map]
          show _ < 2 ^ 24
          omega
        · rw [upd_same, List.map_append]
          rfl
        · refine List.nodup_append.mpr ⟨nd, by simp, fun a ha b' hb' z => nb ?_⟩
          rw [List.mem_singleton.mp hb'] at z
          exact z ▸ ha
        · intro a ha
          rcases List.mem_append.mp ha with ha | ha
          · exact hb a ha
          · rw [List.mem_singleton.mp ha]
            omega
        · rw [List.length_append]
          simp only [List.length_cons, List.length_nil]
          omega
    · rintro σ H3 ⟨bs, x3, x4, rfl, h3, O3, L3, nd, hb, hl3⟩
      exact ⟨_, rfl, k l H3 bs O3 h3 hl L3 nd hb (by omega)⟩
end
end K12

set_option maxRecDepth 100000
set_option maxHeartbeats 4000000
namespace K12
open PySem PySem.Spec PyProof.Rows L2 Kw
/-- list(xs) -/
def rListOf (K : PySem.W.Frag) : List V → Hp → VK → Prop := fun xs H Q => ∃ p ys, xs = [.ref p] ∧ (SqL K H p ys ∨ SqT K H p ys) ∧ ∀ l, H l = none → Q (.ref l) (upd H l (.lst ys))
theorem call_lst {X : Cx} : CallR X (.type "list") (rListOf X.K) := call_list_of
end K12

set_option maxRecDepth 100000
set_option maxHeartbeats 4000000
namespace Kw
open PySem PySem.Spec PyProof.Rows L2
/-- an empty set, as it is laid -/
abbrev mtS (w : World) : Obj := { cls := .type "set", dict := none, data := .set #[] 0 (.fresh 0 0 (!w.params.followText "set-order")) }
section
variable {P : Program} {w : World} {A : Around} {E : Value → Shared → Prop}
set_option maxHeartbeats 8000000 in
/-- set(l), l a list of whole numbers, doubles among them -/
theorem set_of_list {s : Shared} {l : Addr} {items : Array Value} (ns : List Int) {Q : Value → Shared → Prop} (hh : A.handled = none) (hl : s.heap.IsList l items) (hit : IntsAre items.toList ns) (room : ns.length + 1 < scanBound)
    (fin : ∀ (G : Heap) (tk c : Nat), SetR w G s.heap.objs.size (fun j => decide (j ∈ ns)) c → c ≤ ns.length → (∀ b o, s.heap.get? b = some o → G.get? b = some o) → Q (.ref s.heap.objs.size) { s with heap := G, toks := tk }) :
    wpAny (model P w) A (call (.type "set") [.ref l]) Q E s := by
  have size_eq : items.size = ns.length := Array.length_toList.symm.trans (IntsAre.length hit)
  have each : ∀ (i : Nat) (v : Value), items[i]? = some v → ∃ k t, ns[i]? = some k ∧ v = .int k t := by
    intro i v hv
    have lt : i < ns.length := by
      rw [← size_eq]
      exact (Array.getElem?_eq_some_iff.mp hv).1
    obtain ⟨t, e⟩ := IntsAre.int_at hit i v (by rw [Array.getElem?_toList]; exact hv)
    rw [List.getD_eq_getElem?_getD, List.getElem?_eq_getElem lt] at e
    exact ⟨ns[i], t, List.getElem?_eq_getElem lt, e⟩
  have made := F.called_set.made
  have sub := F.called_set.sub
  obtain ⟨_, _, mro⟩ := F.called_set.mro
  refine wpAny_call (codeAny_of_tree (wpAny_pure ⟨Code.quiet_builtin _ (by decide +kernel), codeAny_builtin F.entry_type_call ?_⟩))
  rw [Around.under_plain (weight_type_call_type "set" [.ref l] []) rfl]
  have nt := F.called_set.notType
  have cc := F.called_set.canCreate
  have tc := F.typeCall_set_1 (.ref l)
  repeat (any_goals (first | assumption | wp_step))
  refine codeAny_mono (code_set_led1 (.ref l) (E := E) (Q₁ := fun obj t => obj = .ref s.heap.objs.size ∧ t = { s with heap := s.heap.push (mtS w) }) ⟨rfl, rfl⟩) fun r t hr => ?_
  match r, hr with
  | .error e, hr => exact hr
  | .ok .next, hr => exact hr.elim
  | .ok .brk, hr => exact hr.elim
  | .ok .cont, hr => exact hr.elim
  | .ok (.ret obj), hr =>
    obtain ⟨rfl, rfl⟩ := hr
    have at0 : (s.heap.push (mtS w)).get? s.heap.objs.size = some (mtS w) := Heap.get?_push_size _ rfl
    have ty0 : Shared.TypeIs { s with heap := s.heap.push (mtS w) } (.ref s.heap.objs.size) "set" := ⟨_, at0, rfl⟩
    have look := F.called_set.init.lookup
    have bind := F.called_set.init.bind (.ref s.heap.objs.size)
    repeat (any_goals (first | assumption | wp_step))
    refine codeAny_mono (codeAny_call_builtin (R := wants (fun r t => r = .none ∧ ∃ G tk c, t = { s with heap := G, toks := tk } ∧ SetR w G s.heap.objs.size (fun j => decide (j ∈ ns)) c ∧ c ≤ ns.length ∧ ∀ b o, s.heap.get? b = some o → G.get? b = some o) E)
      F.called_set.init.plain F.entry_set_init (check_set_init_1 ty0 ?_)) fun r t hr => ?_
    · have lt0 : l < s.heap.objs.size := by
        obtain ⟨_, e, _⟩ := hl
        exact Heap.lt_size e
      have hl1 : (s.heap.push (mtS w)).IsList l items := hl.push _
      obtain ⟨⟨ocls, odict, odata, oslots⟩, hol, hcl, nl, hdl⟩ := hl
      simp only at hcl hdl
      subst hcl hdl
      have hol1 := Heap.get?_push_of_some (mtS w) hol
      have sub1 := F.sub_list_set
      have sub2 := F.sub_list_frozenset
      have nd : (Value.type "list" == Value.type "dict") = false := by decide
      unfold Builtin.«set.__init__» noKeywords Builtin.Frozenset.updateFrom
      generalize hPI : pyIter = PI
      wp_walk
      subst hPI
      refine wpAny_pyIter_list hl1 (wpAny_bind (wpAny_runValue ?_))
      have h3 : A.in1.in1.in1.handled = none := by simp [hh]
      have sz1 : (s.heap.push (mtS w)).objs.size = s.heap.objs.size + 1 := Heap.size_push ..
      have nIt : l ≠ (s.heap.push (mtS w)).objs.size := by
        rw [sz1]
        exact Nat.ne_of_lt (Nat.lt_succ_of_lt lt0)
      have nSet : s.heap.objs.size ∉ [(s.heap.push (mtS w)).objs.size, l] := by
        rw [sz1]
        intro z
        rcases List.mem_cons.mp z with z | z
        · exact absurd z (Nat.ne_of_lt (Nat.lt_succ_self _))
        · exact absurd (List.mem_singleton.mp z) (Nat.ne_of_gt lt0)
      have W := (Walks.list (prog := P) (w := w) h3 (s.heap.push (mtS w)).objs.size l nIt items).toS
      refine set_update_ints W s.heap.objs.size nSet ns size_eq room each (items.size - 0) 0 _ (by omega) (Nat.zero_le _) ⟨⟨_, Heap.get?_push_size _ rfl, rfl, rfl⟩, hl1.push _⟩ ⟨0, Nat.le_refl 0, setR_new_at (Heap.get?_push_of_some _ at0)⟩ ?_
      rintro ⟨G, g, d, tk, os⟩ c moved hc hS
      obtain rfl : g = s.gens := moved.gens
      obtain rfl : d = s.drawn := moved.drawn
      obtain rfl : os = s.os := moved.os
      refine wpAny_pure (wpAny_pure ⟨rfl, G, tk, c, rfl, hS, size_eq ▸ hc, fun b o e => ?_⟩)
      have ltb : b < s.heap.objs.size := Heap.lt_size e
      refine moved.heap b o (fun z => ?_) (Heap.get?_push_of_some _ (Heap.get?_push_of_some _ e))
      rcases List.mem_cons.mp z with z | z
      · exact absurd z (Nat.ne_of_lt ltb)
      · have z' := List.mem_singleton.mp z
        rw [sz1] at z'
        exact absurd z' (Nat.ne_of_lt (Nat.lt_succ_of_lt ltb))
    · match r, hr with
      | .error e, hr => exact hr
      | .ok .next, hr => exact hr.elim
      | .ok .brk, hr => exact hr.elim
      | .ok .cont, hr => exact hr.elim
      | .ok (.ret r), hr =>
        obtain ⟨rfl, G, tk, c, rfl, hS, hc, kept⟩ := hr
        repeat (any_goals (first | assumption | wp_step))
        exact fin _ _ _ hS hc kept
end
/-- set(xs), xs a list or a tuple of whole numbers -/
def rSetSI (K : PySem.W.Frag) (w : World) : List V → Hp → VK → Prop := fun vs H Q => ∃ (l : Addr) (ns : List Int), vs = [.ref l] ∧ (SqL K H l (ns.map V.int) ∨ SqT K H l (ns.map V.int)) ∧ ns.length ≤ 4000 ∧
  ∀ (p : Addr) (c : Nat), H p = none → c ≤ ns.length → Q (.ref p) (upd H p (SetO w p (fun j => decide (j ∈ ns)) c))
theorem ints_of_vals : ∀ {ns : List Int} {us : List Value}, Vals (ns.map V.int) us → IntsAre us ns
  | [], _, .nil => .nil
  | n :: r, _, .cons h t => by
    obtain ⟨k, e⟩ := h
    rw [e]
    exact .cons n k (ints_of_vals t)
theorem call_setSI {X : Cx} (hc : X.calm = true) : CallR X (.type "set") (rSetSI X.K X.w) := by
  intro pins s σ H vs us Q I r h
  obtain ⟨l, ns, rfl, hq, h4, q⟩ := h
  rw [Vals.ref1 r]
  have room : ns.length + 1 < scanBound := by
    unfold scanBound
    omega
  have fin : ∀ (G : Heap) (tk c : Nat), SetR X.w G s.heap.objs.size (fun j => decide (j ∈ ns)) c → c ≤ ns.length → (∀ b o, s.heap.get? b = some o → G.get? b = some o) → EP X pins σ Q (.ref s.heap.objs.size) { s with heap := G, toks := tk } := fun G tk c hS hcl k =>
    ⟨.ref s.heap.objs.size, _, I.laid (t' := tk) k (Nat.le_refl _) (setO_new hS), rfl, q _ c (I.hok.fresh (Nat.le_refl _)) hcl⟩
  rcases hq with hq | hq
  · obtain ⟨its, rv, pl, hz⟩ := I.list hq
    exact set_of_list ns (I.ok.hd hc) pl.isList (by simpa using ints_of_vals rv) room fin
  · obtain ⟨its, rv, pl, hz⟩ := I.tuple hq
    exact call_set_tupI ns (I.ok.hd hc) pl (by simpa using ints_of_vals rv) room fin
end Kw

set_option maxRecDepth 100000
set_option maxHeartbeats 4000000
namespace K12
open PySem PySem.Spec PyProof.Rows L2 Kw
/-- rows (bases, fields, methods) of a law's own -/
def RowsAt (H : Hp) : List V → List (List Nat) → Prop := Paired fun v bs => ∃ t b g m, v = .ref t ∧ H t = some (.tup [.ref b, g, m]) ∧ SeqAt H b (bs.map natV)
theorem RowsAt.same {H H' : Hp} (s : Same H H') : ∀ {vs : List V} {ls : List (List Nat)}, RowsAt H vs ls → RowsAt H' vs ls
  | [], [], _ => .nil
  | _ :: _, _ :: _, .cons ⟨t, b, g, m, e, h1, h2⟩ r => .cons ⟨t, b, g, m, e, s _ _ h1, h2.same s⟩ (RowsAt.same s r)
theorem RowsAt.get {H : Hp} : ∀ {vs : List V} {ls : List (List Nat)} {i : Nat} {l : List Nat}, RowsAt H vs ls → ls[i]? = some l → ∃ t b g m, vs[i]? = some (.ref t) ∧ H t = some (.tup [.ref b, g, m]) ∧ SeqAt H b (l.map natV)
  | [], [], _, _, _, h => by simp at h
  | _ :: _, _ :: _, 0, _, .cons ⟨t, b, g, m, e1, h⟩ _, e => by
    obtain rfl := Option.some.inj e
    exact ⟨t, b, g, m, by rw [e1]; rfl, h⟩
  | _ :: _, _ :: _, i + 1, _, .cons _ r, e => RowsAt.get (i := i) r e
def ListsAt (H : Hp) : List V → List (List Nat) → Prop := Paired fun v l => ∃ t, v = .ref t ∧ H t = some (.lst (l.map natV))
theorem ListsAt.mono {H H' : Hp} {R : Addr} (k : ∀ b o, b ≠ R → H b = some o → H' b = some o) : ∀ {vs : List V} {ls : List (List Nat)}, (∀ v ∈ vs, v ≠ .ref R) → ListsAt H vs ls → ListsAt H' vs ls
  | [], [], _, _ => .nil
  | v :: _, _ :: _, n, .cons ⟨t, e, h⟩ r => .cons ⟨t, e, k _ _ (fun z => n v List.mem_cons_self (by rw [e, z])) h⟩ (ListsAt.mono k (fun v hv => n v (List.mem_cons_of_mem _ hv)) r)
theorem ListsAt.get {H : Hp} : ∀ {vs : List V} {ls : List (List Nat)} {i : Nat} {l : List Nat}, ListsAt H vs ls → ls[i]? = some l → ∃ t, vs[i]? = some (.ref t) ∧ H t = some (.lst (l.map natV))
  | [], [], _, _, _, h => by simp at h
  | _ :: _, _ :: _, 0, _, .cons ⟨t, e1, h⟩ _, e => by
    obtain rfl := Option.some.inj e
    exact ⟨t, by rw [e1]; rfl, h⟩
  | _ :: _, _ :: _, i + 1, _, .cons _ r, e => ListsAt.get (i := i) r e
theorem ListsAt.app {H : Hp} : ∀ {vs us : List V} {ls ms : List (List Nat)}, ListsAt H vs ls → ListsAt H us ms → ListsAt H (vs ++ us) (ls ++ ms)
  | [], _, [], _, _, h => h
  | _ :: _, _, _ :: _, _, .cons h r, s => .cons h (ListsAt.app r s)
theorem ListsAt.len {H : Hp} {vs : List V} {ls : List (List Nat)} (h : ListsAt H vs ls) : vs.length = ls.length := Paired.length h
/-- ascending lists with the same things in them -/
theorem asc_one {a : List Int} {b : List Nat} (ha : a.Pairwise (· < ·)) (hb : b.Pairwise (· < ·)) (hm : ∀ k : Int, k ∈ a ↔ ∃ n : Nat, n ∈ b ∧ k = (n : Int)) : a.map V.int = b.map natV := by
  have hb2 : (b.map fun (n : Nat) => (n : Int)).Pairwise (· < ·) := List.pairwise_map.mpr (hb.imp fun h => by omega)
  have p : a.Perm (b.map fun (n : Nat) => (n : Int)) := (List.perm_ext_iff_of_nodup (ha.imp fun h => Int.ne_of_lt h) (hb2.imp fun h => Int.ne_of_lt h)).mpr fun k => by
    rw [hm k, List.mem_map]
    exact ⟨fun ⟨n, h, e⟩ => ⟨n, h, e.symm⟩, fun ⟨n, h, e⟩ => ⟨n, h, e.symm⟩⟩
  have e : a = b.map fun (n : Nat) => (n : Int) := p.eq_of_pairwise (fun x y _ _ h1 h2 => by omega) ha hb2
  rw [e, List.map_map]
  rfl
section
variable {P : Program} {w : World} {K : PySem.W.Frag} {mg : Str → Option Value} {base : Heap} {f : Addr} {fd : FuncData}
/-- over a list or a tuple that stands -/
theorem for_seqS {a : Addr} {xs : List V} {g : TG} {tb : TS} {D : Ends} {σ : L2.St} {H H0 : Hp} {j : Nat} (hj : σ[j]? = some (some (.ref a))) (hA : SeqAt H0 a xs) (s0 : Same H0 H) (Pv : Nat → L2.St → Hp → Prop) (h0 : Pv 0 σ H) (keep : ∀ i σ' H', Pv i σ' H' → Same H0 H')
    (hs : ∀ i x σ H, xs[i]? = some x → Pv i σ H → g x σ H fun σ2 H2 => tb { D with nx := Pv (i + 1), ct := Pv (i + 1), bk := D.nx } σ2 H2) (hd : ∀ σ H, Pv xs.length σ H → D.nx σ H) :
    tFor (fun σ H R => iList K (tVar j) σ H R ∨ iTup K (tVar j) σ H R) g tb D σ H := by
  rcases hA with hA | hA
  · exact .inl ⟨_, hj, a, rfl, ⟨_, SqL.of (s0 _ _ hA)⟩, for_list (K := K) (a := a) (xs := xs) Pv h0 (fun i σ H' _ h => SqL.of (keep i σ H' h _ _ hA)) hs hd⟩
  · exact .inr ⟨_, hj, a, rfl, ⟨_, SqT.of (s0 _ _ hA)⟩, for_tup (K := K) (a := a) (xs := xs) Pv h0 (fun i σ H' _ h => SqT.of (keep i σ H' h _ _ hA)) hs hd⟩
def spLElders : Sp := fun vs H Q _ => ∃ (a : Addr) (ws : List V) (bs : List (List Nat)), vs = [.ref a] ∧ H a = some (.lst ws) ∧ RowsAt H ws bs ∧ validB bs ∧ bs.length ≤ 64 ∧ (∀ row ∈ bs, row.length * bs.length < 64) ∧
  ∀ H' l us, Same H H' → H l = none → H' l = some (.lst us) → (∀ v ∈ us, v ≠ .ref l) → ListsAt H' us (elders bs) → Q (.ref l) H'
theorem sc_lelders : FnScope ["_law_rows", "_law_found", "_law_bases_here", "_law_fields", "_law_methods", "_law_mine", "_law_base"] ["_law_rows"] (defScope (top 40)) := ⟨rfl, rfl, rfl, by decide +kernel, rfl, by decide +kernel, by decide +kernel⟩
theorem ok_lelders (F : FnP K "_law_elders" 40 f fd) (B : Fr mg) : FnOk P w K mg base CX0 1 f fd ["_law_rows"] spLElders := by
  refine F.ok sc_lelders (fun vs H Q E h => ?_) (fun cdv A outer s H vs Q E hr h => ?_)
  · obtain ⟨a, ws, bs, rfl, _⟩ := h
    rfl
  · obtain ⟨a, ws, bs, rfl, hA, hT, hv, h64, hr64, k⟩ := h
    refine ⟨_, PSs.nox (pss_cons (ps_set (i := 1) sc_lelders.nd rfl (Or.inl rfl) (pe_lst pa_nil))
      (pss_cons (ps_for PassesOwn.never rfl (pi_list (pv 0)) (pg_tup (by rfl) (pgs_cons (pg_name (i := 2) sc_lelders.nd rfl (Or.inl rfl)) (pgs_cons (pg_name (i := 3) sc_lelders.nd rfl (Or.inl rfl)) (pgs_cons (pg_name (i := 4) sc_lelders.nd rfl (Or.inl rfl)) pgs_nil))))
        (pss_cons (ps_set (i := 5) sc_lelders.nd rfl (Or.inl rfl) (pe_lst pa_nil))
        (pss_cons (ps_for PassesOwn.never rfl (pi_or (pi_list (pv 2)) (pi_tup (pv 2))) (pg_name (i := 6) sc_lelders.nd rfl (Or.inl rfl))
          (pss_one (ps_set (i := 5) sc_lelders.nd rfl (Or.inl rfl) (pe_op op_cat (pe_op op_cat (pv 5) (pe_lst (pa_cons (pv 6) pa_nil))) (pe_ix ix_list (pv 1) (pv 6) (fun _ _ => rfl))))))
        (pss_one (ps_expr (pe_bm PySem.F.plainAttrs_list PySem.F.slot_list_append PySem.F.type_list_append mt_append (pv 1) (pa_cons (pe_callB (cr_sortedSet rfl) (by rfl) B.sorted (by decide +kernel) (pa_cons (pe_callTy (T := "set") (r := rSetSI K w) (call_setSI (X := _) rfl) (by rfl) B.set (by decide +kernel) (pa_cons (pv 5) pa_nil)) pa_nil)) pa_nil)))))))
      (pss_one (ps_ret (pv 1))))), ?_⟩
    refine ⟨by decide, fun R hR => ?_⟩
    refine ⟨_, rfl, a, rfl, ⟨_, SqL.of (same_new hR _ _ hA)⟩, for_list (K := K) (a := a) (xs := ws) (fun i σ H' => Same H H' ∧ ∃ us x2 x3 x4 x5 x6, σ = [some (.ref a), some (.ref R), x2, x3, x4, x5, x6] ∧ H' R = some (.lst us) ∧ (∀ v ∈ us, v ≠ .ref R) ∧ ListsAt H' us (elders (bs.take i)))
      ⟨same_new hR, [], none, none, none, none, none, rfl, upd_same, (fun v hv => by cases hv), .nil⟩ (fun i σ H' _ h => SqL.of (h.1 _ _ hA)) ?_ ?_⟩
    · rintro i y σ H' hi ⟨sH, us, x2, x3, x4, x5, x6, rfl, hRu, hne, hU⟩
      have hbl : ws.length = bs.length := Paired.length hT
      have hil : i < bs.length := by
        rw [← hbl]
        exact (List.getElem?_eq_some_iff.mp hi).1
      obtain ⟨row, hrow⟩ : ∃ row, bs[i]? = some row := ⟨_, List.getElem?_eq_getElem hil⟩
      obtain ⟨t, b, g, m, et, ht, hb⟩ := hT.get hrow
      obtain rfl : V.ref t = y := Option.some.inj (et.symm.trans hi)
      have hE : (elders (bs.take i)).length = i := by rw [elders_len, List.length_take, Nat.min_eq_left (Nat.le_of_lt hil)]
      have hlt : ∀ c ∈ row, c < i := hv i row hrow
      have hr6 : row.length * bs.length < 64 := hr64 row (List.mem_of_getElem? hrow)
      have hus : us.length = i := hU.len.trans hE
      refine ⟨t, _, rfl, SqT.of (sH _ _ ht), rfl, _, _, rfl, _, _, rfl, _, _, rfl, rfl, ?_⟩
      refine ⟨by decide, fun M hM => ?_⟩
      have sM : Same H' (upd H' M (.lst [])) := same_new hM
      refine for_seqS (K := K) (a := b) (xs := row.map natV) rfl hb (sH.trans sM) (fun j σ H3 => Same H' H3 ∧ ∃ M x6 mi, σ = [some (.ref a), some (.ref R), some (.ref b), some g, some m, some (.ref M), x6] ∧ H3 M = some (.lst (mi.map natV)) ∧ mi.length ≤ j * bs.length ∧ ∀ x, x ∈ mi ↔ ∃ c ∈ row.take j, x = c ∨ x ∈ (elders (bs.take i)).getD c [])
        ⟨sM, M, x6, [], rfl, upd_same, Nat.zero_le _, fun x => by simp⟩ (fun j σ H3 h => sH.trans h.1) ?_ ?_
      · rintro j y σ H3 hj ⟨s3, M, x6, mi, rfl, hMi, hml, hmem⟩
        rw [List.getElem?_map] at hj
        obtain ⟨c, hc, rfl⟩ := Option.map_eq_some_iff.mp hj
        have hjl : j < row.length := (List.getElem?_eq_some_iff.mp hc).1
        have hci : c < i := hlt c (List.mem_of_getElem? hc)
        obtain ⟨l, hl⟩ : ∃ l, (elders (bs.take i))[c]? = some l := ⟨_, List.getElem?_eq_getElem (by rw [hE]; exact hci)⟩
        have hgd : (elders (bs.take i)).getD c [] = l := by
          rw [List.getD_eq_getElem?_getD, hl]
          rfl
        have hll : l.length + 1 ≤ bs.length := by
          have := elders_len_row _ _ _ hl
          rw [List.length_take] at this
          omega
        have hmle : mi.length + (1 + l.length) ≤ (j + 1) * bs.length := by
          rw [Nat.succ_mul]
          omega
        have hbig : (j + 1) * bs.length < 64 := Nat.lt_of_le_of_lt (Nat.mul_le_mul_right _ hjl) hr6
        obtain ⟨q, eq, hq⟩ := hU.get hl
        refine ⟨_, rfl, _, rfl, (by show 1 ≤ 2 ^ 24; decide), fun L hL => ?_⟩
        have sL := same_new (o := .lst [natV c]) hL
        refine ⟨M, L, _, _, rfl, rfl, sL _ _ hMi, upd_same, ?_, fun N1 hN1 => ?_⟩
        · rw [List.length_map]
          show mi.length + 1 ≤ 2 ^ 24
          omega
        have s1 := same_new (o := .lst (mi.map natV ++ [natV c])) hN1
        have sA : Same H' (upd (upd H3 L (.lst [natV c])) N1 (.lst (mi.map natV ++ [natV c]))) := (s3.trans sL).trans s1
        refine ⟨_, rfl, _, rfl, R, us, _, _, rfl, rfl, SqL.of (sA _ _ hRu), atI_nat eq, ?_⟩
        refine ⟨N1, q, _, _, rfl, rfl, upd_same, sA _ _ hq, ?_, fun N2 hN2 => ?_⟩
        · rw [List.length_append, List.length_map, List.length_map]
          show mi.length + 1 + l.length ≤ 2 ^ 24
          omega
        · refine ⟨Same.trans sA (same_new hN2), N2, _, mi ++ [c] ++ l, rfl, ?_, ?_, fun x => ?_⟩
          · rw [upd_same, List.map_append, List.map_append]
            rfl
          · rw [List.length_append, List.length_append]
            show mi.length + 1 + l.length ≤ _
            omega
          · rw [List.take_add_one, hc, Option.toList_some, List.mem_append, List.mem_append, hmem, List.mem_singleton]
            constructor
            · rintro ((⟨d, hd, h⟩ | h) | h)
              · exact ⟨d, List.mem_append_left _ hd, h⟩
              · exact ⟨c, List.mem_append_right _ (List.mem_singleton.mpr rfl), .inl h⟩
              · exact ⟨c, List.mem_append_right _ (List.mem_singleton.mpr rfl), .inr (by rw [hgd]; exact h)⟩
            · rintro ⟨d, hd, h⟩
              rcases List.mem_append.mp hd with hd | hd
              · exact .inl (.inl ⟨d, hd, h⟩)
              · obtain rfl := List.mem_singleton.mp hd
                rcases h with h | h
                · exact .inl (.inr h)
                · rw [hgd] at h
                  exact .inr h
      · rintro σ H3 ⟨s3, M, x6, mi, rfl, hMi, hml, hmem⟩
        rw [List.length_map] at hml
        rw [List.length_map, List.take_length] at hmem
        refine ⟨_, rfl, .inl ⟨rfl, _, SqL.of (s3 _ _ hRu)⟩, _, rfl, M, mi.map (fun (n : Nat) => (n : Int)), rfl, .inl ?_, ?_, fun S c hS hc => ?_⟩
        · rw [List.map_map]
          exact SqL.of hMi
        · rw [List.length_map]
          omega
        · rw [List.length_map] at hc
          have sS := same_new (o := SetO w S (fun j => decide (j ∈ mi.map (fun (n : Nat) => (n : Int)))) c) hS
          refine ⟨S, _, c, rfl, upd_same, by omega, fun ns L asc hns hlen hL => ?_⟩
          have sL := same_new (o := .lst (ns.map V.int)) hL
          have sA : Same H' (upd (upd H3 S (SetO w S (fun j => decide (j ∈ mi.map (fun (n : Nat) => (n : Int)))) c)) L (.lst (ns.map V.int))) := (s3.trans sS).trans sL
          have ens : ns.map V.int = (elStep (elders (bs.take i)) row).map natV := asc_one asc (elStep_up _ _) fun k => by
            rw [hns k, decide_eq_true_iff, List.mem_map]
            constructor
            · rintro ⟨n, hn, e⟩
              exact ⟨n, (elStep_mem (fun b hb => by rw [hE]; exact hlt b hb) (elders_lt _) n).mpr ((hmem n).mp hn), e.symm⟩
            · rintro ⟨n, hn, e⟩
              exact ⟨n, (hmem n).mpr ((elStep_mem (fun b hb => by rw [hE]; exact hlt b hb) (elders_lt _) n).mp hn), e.symm⟩
          have neL : L ≠ R := fun z => by
            have y := (Same.trans s3 sS) _ _ hRu
            rw [← z, hL] at y
            cases y
          refine ⟨R, us, _, rfl, rfl, sA _ _ hRu, by rw [hus]; show i < 2 ^ 24; omega, same_upd (sH.trans sA) hR, us ++ [.ref L], _, _, _, _, _, rfl, upd_same, ?_, ?_⟩
          · intro v hv
            rcases List.mem_append.mp hv with hv | hv
            · exact hne v hv
            · rw [List.mem_singleton.mp hv]
              exact fun z => neL (V.ref.inj z)
          · rw [elders_more hrow]
            refine (ListsAt.mono (R := R) (fun b o hb e => upB hb (sA _ _ e)) hne hU).app (.cons ⟨L, rfl, ?_⟩ .nil)
            rw [← ens]
            exact upB neL upd_same
    · rintro σ H' ⟨sH, us, x2, x3, x4, x5, x6, rfl, hRu, hne, hU⟩
      have hbl : ws.length = bs.length := Paired.length hT
      rw [hbl, List.take_length] at hU
      exact ⟨_, rfl, k H' R us sH hR hRu hne hU⟩
end
end K12

set_option maxRecDepth 100000
set_option maxHeartbeats 4000000
namespace K12
open PySem PySem.Spec PyProof.Rows L2 Kw
section
variable {P : Program} {w : World} {K : PySem.W.Frag} {mg : Str → Option Value} {base : Heap} {f fT fM : Addr} {fd fdT fdM : FuncData}
def spMethods : Sp := fun vs H Q _ => ∃ (p q : Addr), vs = [.ref p] ∧ HandAt H p q ∧
  ∀ l H' (ms : List Nat), Oth p H H' → HandAt H' p q → H l = none → H' l = some (.lst (ms.map natV)) → ms.Pairwise (· < ·) → (∀ m ∈ ms, m < 6) → ms.length ≤ 3 → Q (.ref l) H'
end
end K12

set_option maxRecDepth 100000
set_option maxHeartbeats 4000000
namespace Kw
open PySem PySem.Spec PyProof.Rows L2
theorem PE.weak {X : Cx} {e : Expr} {t t' : TE} (h : PE X e t) (w : ∀ σ H Q, t' σ H Q → t σ H Q) : PE X e t' := ⟨fun pins s σ H Q I k => h.run pins s σ H Q I (w σ H Q k)⟩
theorem PA.weak {X : Cx} {e : List Expr} {t t' : TA} (h : PA X e t) (w : ∀ σ H Q, t' σ H Q → t σ H Q) : PA X e t' := ⟨fun pos pins s σ H Q I k => h.run pos pins s σ H Q I (w σ H Q k)⟩
theorem same_nw {H : Hp} {p : Addr} {o : HO} (hp : H p = none) : Same H (upd H p o) := fun b u e => by
  rw [upd_ne (ne_of_none e hp)]
  exact e
/-- lists of ints -/
def ListsI (H : Hp) : List V → List (List Int) → Prop := Paired fun v l => ∃ t, v = .ref t ∧ H t = some (.lst (l.map V.int))
theorem ListsI.same {H H' : Hp} (s : Same H H') : ∀ {vs : List V} {ls : List (List Int)}, ListsI H vs ls → ListsI H' vs ls
  | [], [], _ => .nil
  | _ :: _, _ :: _, .cons ⟨t, e, h⟩ r => .cons ⟨t, e, s _ _ h⟩ (ListsI.same s r)
theorem ListsI.get {H : Hp} : ∀ {vs : List V} {ls : List (List Int)} {i : Nat} {l : List Int}, ListsI H vs ls → ls[i]? = some l → ∃ t, vs[i]? = some (.ref t) ∧ H t = some (.lst (l.map V.int))
  | [], [], _, _, _, h => by simp at h
  | _ :: _, _ :: _, 0, _, .cons ⟨t, e1, h⟩ _, e => by
    obtain rfl := Option.some.inj e
    exact ⟨t, by rw [e1]; rfl, h⟩
  | _ :: _, _ :: _, i + 1, _, .cons _ r, e => ListsI.get (i := i) r e
def TabsI (H : Hp) : List V → List (List (List Int)) → Prop := Paired fun v lss => ∃ t us, v = .ref t ∧ H t = some (.lst us) ∧ ListsI H us lss
theorem TabsI.get {H : Hp} : ∀ {vs : List V} {ls : List (List (List Int))} {i : Nat} {l : List (List Int)}, TabsI H vs ls → ls[i]? = some l → ∃ t us, vs[i]? = some (.ref t) ∧ H t = some (.lst us) ∧ ListsI H us l
  | [], [], _, _, _, h => by simp at h
  | _ :: _, _ :: _, 0, _, .cons ⟨t, us, e1, h⟩ _, e => by
    obtain rfl := Option.some.inj e
    exact ⟨t, us, by rw [e1]; rfl, h⟩
  | _ :: _, _ :: _, i + 1, _, .cons _ r, e => TabsI.get (i := i) r e
/-- a written list of ints -/
def tIntL (ns : List Int) : TE := fun σ H Q => ∀ p, H p = none → Q (.ref p) (upd H p (.lst (ns.map V.int)))
section
variable {X : Cx} {p p1 p2 : Pos}
theorem pe_il0 : PE X (.List [] p) (tIntL []) := PE.weak (pe_lst pa_nil) fun σ H Q k => ⟨by decide, k⟩
theorem pe_il1 {a : Int} {x1} {y1 : Pos} : PE X (.List [.Constant (.int a) x1 y1] p) (tIntL [a]) := PE.weak (pe_lst (pa_cons pe_int pa_nil)) fun σ H Q k => ⟨by show 1 ≤ sizeLine; decide, k⟩
theorem pe_il2 {a b : Int} {x1 x2} {y1 y2 : Pos} : PE X (.List [.Constant (.int a) x1 y1, .Constant (.int b) x2 y2] p) (tIntL [a, b]) := PE.weak (pe_lst (pa_cons pe_int (pa_cons pe_int pa_nil))) fun σ H Q k => ⟨by show 2 ≤ sizeLine; decide, k⟩
def tLits (lss : List (List Int)) : TA := fun σ H Q => ∀ vs H', Same H H' → ListsI H' vs lss → Q vs H'
theorem pa_lits_nil : PA X [] (tLits []) := PA.weak pa_nil fun σ H Q k => k [] H (Same.refl H) .nil
theorem pa_lits {e : Expr} {es : List Expr} {ns : List Int} {lss : List (List Int)} (he : PE X e (tIntL ns)) (hr : PA X es (tLits lss)) (hs : starEach (e :: es) X.env = (false, eval e X.env) :: starEach es X.env := by rfl) : PA X (e :: es) (tLits (ns :: lss)) :=
  PA.weak (pa_cons he hr hs) fun σ H Q k q hq vs H' s h => k _ H' (Same.trans (same_nw hq) s) (.cons ⟨q, rfl, s _ _ upd_same⟩ h)
def tLit2 (lss : List (List Int)) : TE := fun σ H Q => ∀ q us H', Same H H' → H' q = some (.lst us) → ListsI H' us lss → Q (.ref q) H'
theorem pe_lit2 {es : List Expr} {lss : List (List Int)} (h : PA X es (tLits lss)) (hl : lss.length ≤ sizeLine := by decide) : PE X (.List es p) (tLit2 lss) :=
  PE.weak (pe_lst h) fun σ H Q k vs H' s hv => ⟨by rw [Paired.length hv]; exact hl, fun q hq => k q vs _ (Same.trans s (same_nw hq)) upd_same (hv.same (same_nw hq))⟩
def tLits2 (lsss : List (List (List Int))) : TA := fun σ H Q => ∀ vs H', Same H H' → TabsI H' vs lsss → Q vs H'
theorem pa_lits2_nil : PA X [] (tLits2 []) := PA.weak pa_nil fun σ H Q k => k [] H (Same.refl H) .nil
theorem pa_lits2 {e : Expr} {es : List Expr} {ns : List (List Int)} {lss : List (List (List Int))} (he : PE X e (tLit2 ns)) (hr : PA X es (tLits2 lss)) (hs : starEach (e :: es) X.env = (false, eval e X.env) :: starEach es X.env := by rfl) : PA X (e :: es) (tLits2 (ns :: lss)) :=
  PA.weak (pa_cons he hr hs) fun σ H Q k q us H1 s1 h1 h2 vs H' s h => k _ H' (Same.trans s1 s) (.cons ⟨q, us, rfl, s _ _ h1, h2.same s⟩ h)
/-- a written list of lists of lists of ints -/
def tLit3 (lsss : List (List (List Int))) : TE := fun σ H Q => ∀ q us H', Same H H' → H' q = some (.lst us) → TabsI H' us lsss → Q (.ref q) H'
theorem TabsI.same {H H' : Hp} (s : Same H H') : ∀ {vs : List V} {ls : List (List (List Int))}, TabsI H vs ls → TabsI H' vs ls
  | [], [], _ => .nil
  | _ :: _, _ :: _, .cons ⟨t, us, e, h, h2⟩ r => .cons ⟨t, us, e, s _ _ h, h2.same s⟩ (TabsI.same s r)
theorem pe_lit3 {es : List Expr} {lsss : List (List (List Int))} (h : PA X es (tLits2 lsss)) (hl : lsss.length ≤ sizeLine := by decide) : PE X (.List es p) (tLit3 lsss) :=
  PE.weak (pe_lst h) fun σ H Q k vs H' s hv => ⟨by rw [Paired.length hv]; exact hl, fun q hq => k q vs _ (Same.trans s (same_nw hq)) upd_same (hv.same (same_nw hq))⟩
end
end Kw

set_option maxRecDepth 100000
set_option maxHeartbeats 4000000
namespace K12
open PySem PySem.Spec PyProof.Rows L2 Kw
/-- tuples and lists of ints stay, but for the object at R -/
def IntsO (o : HO) : Prop := (∃ xs, o = .tup xs) ∨ ∃ ns : List Int, o = .lst (ns.map V.int)
def KeepX (R : Addr) (H H' : Hp) : Prop := ∀ b o, b ≠ R → H b = some o → IntsO o → H' b = some o
theorem KeepX.trans {R : Addr} {H H1 H2 : Hp} (a : KeepX R H H1) (b : KeepX R H1 H2) : KeepX R H H2 := fun c o n e i => b c o n (a c o n e i) i
theorem KeepX.of {R : Addr} {H H1 : Hp} (s : Same H H1) : KeepX R H H1 := fun c o _ e _ => s c o e
theorem KeepX.upd {R : Addr} {H : Hp} {o : HO} : KeepX R H (upd H R o) := fun c u n e _ => by
  rw [upd_ne n]
  exact e
theorem KeepX.oth {R p q : Addr} {H H1 : Hp} (s : Oth p H H1) (h : HandAt H p q) : KeepX R H H1 := fun c o _ e i => by
  refine s c o (fun z => ?_) e
  obtain ⟨cs, i1, r, t, h1, _⟩ := h
  rw [z, h1] at e
  have e := Option.some.inj e
  rcases i with ⟨xs, rfl⟩ | ⟨ns, rfl⟩
  · cases e
  · cases ns with
    | nil => cases e
    | cons n r =>
      injection e with e
      injection e with e _
      cases e
theorem natsI (l : List Nat) : l.map natV = (l.map fun (n : Nat) => (n : Int)).map V.int := by
  rw [List.map_map]
  rfl
theorem ints_o (l : List Nat) : IntsO (.lst (l.map natV)) := .inr ⟨l.map fun (n : Nat) => (n : Int), by rw [natsI]⟩
/-- lists of numbers, none of them at R -/
def LsN (R : Addr) (H : Hp) : List V → List (List Nat) → Prop := Paired fun v l => ∃ t, v = .ref t ∧ t ≠ R ∧ H t = some (.lst (l.map natV))
theorem LsN.keep {R : Addr} {H H' : Hp} (k : KeepX R H H') : ∀ {vs : List V} {ls : List (List Nat)}, LsN R H vs ls → LsN R H' vs ls
  | [], [], _ => .nil
  | _ :: _, _ :: _, .cons ⟨t, e, n, h⟩ r => .cons ⟨t, e, n, k _ _ n h (ints_o _)⟩ (LsN.keep k r)
theorem LsN.get {R : Addr} {H : Hp} : ∀ {vs : List V} {ls : List (List Nat)} {i : Nat} {l : List Nat}, LsN R H vs ls → ls[i]? = some l → ∃ t, vs[i]? = some (.ref t) ∧ t ≠ R ∧ H t = some (.lst (l.map natV))
  | [], [], _, _, _, h => by simp at h
  | _ :: _, _ :: _, 0, _, .cons ⟨t, e1, h⟩ _, e => by
    obtain rfl := Option.some.inj e
    exact ⟨t, by rw [e1]; rfl, h⟩
  | _ :: _, _ :: _, i + 1, _, .cons _ r, e => LsN.get (i := i) r e
theorem LsN.app {R : Addr} {H : Hp} : ∀ {vs us : List V} {ls ms : List (List Nat)}, LsN R H vs ls → LsN R H us ms → LsN R H (vs ++ us) (ls ++ ms)
  | [], _, [], _, _, h => h
  | _ :: _, _, _ :: _, _, .cons h r, s => .cons h (LsN.app r s)
theorem LsN.len {R : Addr} {H : Hp} {vs : List V} {ls : List (List Nat)} (h : LsN R H vs ls) : vs.length = ls.length := Paired.length h
theorem LsN.set {R : Addr} {H : Hp} {t : Addr} {l : List Nat} (n : t ≠ R) (h : H t = some (.lst (l.map natV))) : ∀ {vs : List V} {ls : List (List Nat)} (i : Nat), LsN R H vs ls → LsN R H (vs.set i (.ref t)) (ls.set i l)
  | [], [], _, _ => .nil
  | _ :: _, _ :: _, 0, .cons _ r => .cons ⟨t, rfl, n, h⟩ r
  | _ :: _, _ :: _, i + 1, .cons z r => .cons z (LsN.set n h i r)
theorem LsN.lists {R : Addr} {H : Hp} : ∀ {vs : List V} {ls : List (List Nat)}, LsN R H vs ls → ListsAt H vs ls
  | [], [], _ => .nil
  | _ :: _, _ :: _, .cons ⟨t, e, n, h⟩ r => .cons ⟨t, e, h⟩ (LsN.lists r)
/-- rows of bases as a law draws them -/
def BOk (bs : List (List Nat)) : Prop := ∀ (i : Nat) (row : List Nat), bs[i]? = some row → row.Nodup ∧ (∀ b ∈ row, b < i) ∧ row.length ≤ 3
theorem BOk.app {bs : List (List Nat)} {row : List Nat} (h : BOk bs) (nd : row.Nodup) (hb : ∀ b ∈ row, b < bs.length) (hl : row.length ≤ 3) : BOk (bs ++ [row]) := fun i r e => by
  by_cases q : i < bs.length
  · rw [List.getElem?_append_left q] at e
    exact h i r e
  · rw [List.getElem?_append_right (by omega)] at e
    by_cases q2 : i - bs.length = 0
    · rw [q2] at e
      obtain rfl : row = r := Option.some.inj e
      have : i = bs.length := by omega
      rw [this]
      exact ⟨nd, hb, hl⟩
    · rw [List.getElem?_eq_none (by rw [List.length_singleton]; omega)] at e
      cases e
theorem BOk.set {bs : List (List Nat)} {row : List Nat} {j : Nat} (h : BOk bs) (nd : row.Nodup) (hb : ∀ b ∈ row, b < j) (hl : row.length ≤ 3) : BOk (bs.set j row) := fun i r e => by
  rw [List.getElem?_set] at e
  by_cases q : j = i
  · rw [if_pos q] at e
    split at e
    · obtain rfl : row = r := Option.some.inj e
      rw [← q]
      exact ⟨nd, hb, hl⟩
    · cases e
  · rw [if_neg q] at e
    exact h i r e
theorem BOk.take {bs : List (List Nat)} (h : BOk bs) (n : Nat) : BOk (bs.take n) := fun i r e => by
  rw [List.getElem?_take] at e
  split at e
  · exact h i r e
  · cases e
theorem oth_free {p D : Addr} {H H1 : Hp} (s : Oth p H H1) (n : D ≠ p) (h : H1 D = none) : H D = none := by
  cases e : H D with
  | none => rfl
  | some o =>
    rw [s D o n e] at h
    cases h
theorem Oth.take {p : Addr} {H H1 : Hp} (e2 : ∀ b, b ≠ p → H1 b = H b) : Oth p H H1 := fun b o nb e => (e2 b nb).trans e
/-- written again at a place that was free -/
theorem Oth.updN {p D : Addr} {H H1 : Hp} {o : HO} (s : Oth p H H1) (hD : H D = none) : Oth p H (L2.upd H1 D o) := fun b u nb e => upB (ne_of_none e hD) (s b u nb e)
end K12

set_option maxRecDepth 100000
set_option maxHeartbeats 8000000
namespace K12
open PySem PySem.Spec PyProof.Rows L2 Kw
def shapeTab : List (List (List Nat)) := [[[], [], [0, 1], [], [1, 3], [3, 0], [2, 4]], [[], [], [], [0, 1], [1, 2], [2, 0], [3, 4], [5]], [[], [0], [0], [2, 1], [0], [4, 2], [1, 4], [3, 4]], [[], [0], [0], [0], [1, 2], [2, 3], [3, 1], [4, 3]], [[], [0], [0], [1, 2], [0], [3, 4], [4], [5, 6]], [[], [], [0, 1], [], [2, 3], [0], [5, 3], [4]]]
def bokB (bs : List (List Nat)) : Bool := (List.range bs.length).all fun i => decide (bs.getD i []).Nodup && ((bs.getD i []).all (fun b => decide (b < i)) && decide ((bs.getD i []).length ≤ 3))
theorem bokB_ok {bs : List (List Nat)} (h : bokB bs = true) : BOk bs := fun i r e => by
  have hi : i < bs.length := (List.getElem?_eq_some_iff.mp e).1
  have z := List.all_eq_true.mp h i (List.mem_range.mpr hi)
  rw [List.getD_eq_getElem?_getD, e, Option.getD_some] at z
  simp only [Bool.and_eq_true, decide_eq_true_eq, List.all_eq_true] at z
  exact ⟨z.1, z.2.1, z.2.2⟩
theorem shapeTab_ok : ∀ bs ∈ shapeTab, BOk bs := fun bs h => bokB_ok ((by decide : ∀ bs ∈ shapeTab, bokB bs = true) bs h)
theorem ixN_at {n j : Nat} (hj : j < n) : ixN n (j : Int) = some j := by
  unfold ixN
  rw [if_pos (by omega), if_pos (by omega), Int.toNat_natCast]
def cz (l : List (List Nat)) : List (List Int) := l.map fun r => r.map fun (n : Nat) => (n : Int)
theorem cutV_take (xs : List V) (n : Nat) : cutV xs none (some (n : Int)) = xs.take n := by
  unfold cutV
  rw [HT.sIx_nat, HT.sIx_none, Nat.sub_zero, List.drop_zero]
  by_cases h : n ≤ xs.length
  · rw [Nat.min_eq_left h]
  · rw [Nat.min_eq_right (by omega), List.take_of_length_le (Nat.le_refl _), List.take_of_length_le (by omega)]
section
variable {P : Program} {w : World} {K : PySem.W.Frag} {mg : Str → Option Value} {base : Heap} {f fT fM fB : Addr} {fd fdT fdM fdB : FuncData}
def spShape : Sp := fun vs H Q _ => ∃ (p q : Addr) (n : Nat), vs = [.ref p, .int (n : Int)] ∧ 1 ≤ n ∧ n ≤ 12 ∧ HandAt H p q ∧
  ∀ l H' us (bs : List (List Nat)), Oth p H H' → HandAt H' p q → H l = none → H' l = some (.lst us) → LsN l H' us bs → bs.length = n → BOk bs → Q (.ref l) H'
end
end K12

set_option maxRecDepth 100000
set_option maxHeartbeats 8000000
namespace K12
open PySem PySem.Spec PyProof.Rows L2 Kw
/-- a law's own rows (bases, fields, methods), nothing of them at R -/
def RwN (R : Addr) (H : Hp) : List V → List Ent → Prop := Paired fun v d => ∃ t b m, v = .ref t ∧ t ≠ R ∧ H t = some (.tup [.ref b, natV d.2.1, .ref m]) ∧ b ≠ R ∧ H b = some (.lst (d.1.map natV)) ∧ m ≠ R ∧ H m = some (.lst (d.2.2.map natV))
theorem RwN.keep {R : Addr} {H H' : Hp} (k : KeepX R H H') : ∀ {vs : List V} {ls : List Ent}, RwN R H vs ls → RwN R H' vs ls
  | [], [], _ => .nil
  | _ :: _, _ :: _, .cons ⟨t, b, m, e, n1, h1, n2, h2, n3, h3⟩ r => .cons ⟨t, b, m, e, n1, k _ _ n1 h1 (.inl ⟨_, rfl⟩), n2, k _ _ n2 h2 (ints_o _), n3, k _ _ n3 h3 (ints_o _)⟩ (RwN.keep k r)
theorem RwN.get {R : Addr} {H : Hp} : ∀ {vs : List V} {ls : List Ent} {i : Nat} {d : Ent}, RwN R H vs ls → ls[i]? = some d → ∃ t b m, vs[i]? = some (.ref t) ∧ H t = some (.tup [.ref b, natV d.2.1, .ref m]) ∧ H b = some (.lst (d.1.map natV)) ∧ H m = some (.lst (d.2.2.map natV))
  | [], [], _, _, _, h => by simp at h
  | _ :: _, _ :: _, 0, _, .cons ⟨t, b, m, e1, n1, h1, n2, h2, n3, h3⟩ _, e => by
    obtain rfl := Option.some.inj e
    exact ⟨t, b, m, by rw [e1]; rfl, h1, h2, h3⟩
  | _ :: _, _ :: _, i + 1, _, .cons _ r, e => RwN.get (i := i) r e
theorem RwN.app {R : Addr} {H : Hp} : ∀ {vs us : List V} {ls ms : List Ent}, RwN R H vs ls → RwN R H us ms → RwN R H (vs ++ us) (ls ++ ms)
  | [], _, [], _, _, h => h
  | _ :: _, _, _ :: _, _, .cons h r, s => .cons h (RwN.app r s)
theorem RwN.len {R : Addr} {H : Hp} {vs : List V} {ls : List Ent} (h : RwN R H vs ls) : vs.length = ls.length := Paired.length h
theorem RwN.rows {R : Addr} {H : Hp} : ∀ {vs : List V} {ls : List Ent}, RwN R H vs ls → RowsAt H vs (ls.map (·.1))
  | [], [], _ => .nil
  | _ :: _, _ :: _, .cons ⟨t, b, m, e, n1, h1, n2, h2, n3, h3⟩ r => .cons ⟨t, b, _, _, e, h1, .inl h2⟩ (RwN.rows r)
/-- right rows -/
def EOk (i : Nat) (d : Ent) : Prop := d.1.Nodup ∧ (∀ b ∈ d.1, b < i) ∧ d.1.length ≤ 5 ∧ d.2.1 ≤ 3 ∧ d.2.2.Pairwise (· < ·) ∧ (∀ m ∈ d.2.2, m < 6) ∧ d.2.2.length ≤ 3
def DsOk (ds : List Ent) : Prop := ∀ (i : Nat) (d : Ent), ds[i]? = some d → EOk i d
theorem DsOk.app {ds : List Ent} {d : Ent} (h : DsOk ds) (z : EOk ds.length d) : DsOk (ds ++ [d]) := fun i r e => by
  by_cases q : i < ds.length
  · rw [List.getElem?_append_left q] at e
    exact h i r e
  · rw [List.getElem?_append_right (by omega)] at e
    by_cases q2 : i - ds.length = 0
    · rw [q2] at e
      obtain rfl : d = r := Option.some.inj e
      have : i = ds.length := by omega
      rw [this]
      exact z
    · rw [List.getElem?_eq_none (by rw [List.length_singleton]; omega)] at e
      cases e
theorem DsOk.valid {ds : List Ent} (h : DsOk ds) : validB (ds.map (·.1)) := fun c row e b hb => by
  rw [List.getElem?_map] at e
  obtain ⟨d, hd, rfl⟩ := Option.map_eq_some_iff.mp e
  exact (h c d hd).2.1 b hb
theorem DsOk.short {ds : List Ent} (h : DsOk ds) : ∀ row ∈ ds.map (·.1), row.length ≤ 5 := fun row hr => by
  obtain ⟨d, hd, rfl⟩ := List.mem_map.mp hr
  obtain ⟨i, hi⟩ := List.mem_iff_getElem?.mp hd
  exact (h i d hi).2.2.1
/-- as World takes them -/
theorem RwN.entries {R : Addr} {H : Hp} {vs : List V} {ds : List Ent} (h : RwN R H vs ds) (ok : DsOk ds) : ∀ (i : Nat) (d : Ent), ds[i]? = some d → ∃ e, vs[i]? = some e ∧ EntryOk H e i d := fun i d hd => by
  obtain ⟨t, b, m, e, h1, h2, h3⟩ := h.get hd
  obtain ⟨o1, o2, o3, o4, o5, o6, o7⟩ := ok i d hd
  exact ⟨_, e, t, b, m, rfl, .inr h1, .inl h2, .inl h3, ⟨o1, by omega, o2⟩, o4, up_nodup o5, o7, o6⟩
section
variable {P : Program} {w : World} {K : PySem.W.Frag} {mg : Str → Option Value} {base : Heap} {f fT fM fB fS fMe : Addr} {fd fdT fdM fdB fdS fdMe : FuncData}
def spClasses : Sp := fun vs H Q _ => ∃ (p q : Addr) (lo hi most : Nat) (wanted : Bool), vs = [.ref p, .int (lo : Int), .int (hi : Int), .int (most : Int), .bl wanted] ∧ 1 ≤ lo ∧ lo ≤ hi ∧ hi ≤ 12 ∧ HandAt H p q ∧
  ∀ l H' us (ds : List Ent), Oth p H H' → HandAt H' p q → H l = none → H' l = some (.lst us) → RwN l H' us ds → lo ≤ ds.length → ds.length ≤ hi → DsOk ds → Q (.ref l) H'
end
end K12

set_option maxRecDepth 100000
set_option maxHeartbeats 8000000
namespace K12
open PySem PySem.Spec PyProof.Rows L2 Kw
/-! ### a law's own kin, hues and clashes -/
def kinOf (els : List (List Nat)) (c : Nat) : List Nat := els.getD c [] ++ [c]
def kins (els : List (List Nat)) : List (List Nat) := (List.range els.length).map (kinOf els)
theorem kins_len (els : List (List Nat)) : (kins els).length = els.length := by
  unfold kins
  rw [List.length_map, List.length_range]
theorem kins_at {els : List (List Nat)} {c : Nat} (h : c < els.length) : (kins els)[c]? = some (kinOf els c) := by
  unfold kins
  rw [List.getElem?_map, List.getElem?_range h]
  rfl
theorem kins_getD {els : List (List Nat)} {c : Nat} (h : c < els.length) : (kins els).getD c [] = kinOf els c := by
  rw [List.getD_eq_getElem?_getD, kins_at h]
  rfl
def hV : Option Nat → V
  | none => .non
  | some n => natV n
def hueOf (hs : List (Option Nat)) (x : Nat) : Option Nat := hs.getD x none
theorem hue_at {hs : List (Option Nat)} {x : Nat} (h : x < hs.length) : (hs.map hV)[x]? = some (hV (hueOf hs x)) := by
  unfold hueOf
  rw [List.getElem?_map, List.getElem?_eq_getElem h, List.getD_eq_getElem?_getD, List.getElem?_eq_getElem h]
  rfl
theorem hV_inj {a b : Option Nat} (h : hV a = hV b) : a = b := by
  cases a <;> cases b
  · rfl
  · cases h
  · cases h
  · exact congrArg some (by have := V.int.inj h; omega)
theorem hV_eq (a b : Option Nat) : decide (hV a = hV b) = (a == b) := by
  rw [Bool.eq_iff_iff, decide_eq_true_iff, beq_iff_eq]
  exact ⟨hV_inj, fun h => by rw [h]⟩
theorem hV_scal (a b : Option Nat) : scal (hV a) (hV b) = true := by cases a <;> cases b <;> rfl
theorem hV_non (a : Option Nat) : decide (hV a = V.non) = a.isNone := by cases a <;> rfl
def OptTup (H : Hp) (v : V) (o : Option (List Nat)) : Prop := (o = none ∧ v = .non) ∨ ∃ l t, o = some l ∧ v = .ref t ∧ H t = some (.tup (l.map natV))
theorem OptTup.same {H H' : Hp} {v : V} {o : Option (List Nat)} (h : OptTup H v o) (s : Same H H') : OptTup H' v o := by
  rcases h with h | ⟨l, t, e1, e2, h⟩
  · exact .inl h
  · exact .inr ⟨l, t, e1, e2, s _ _ h⟩
def Least (c : Nat → Nat → Bool) (xs : List Nat) (o : Option (List Nat)) : Prop :=
  (o = none ∧ ∀ a ∈ xs, ∀ b ∈ xs, c a b = false) ∨ ∃ a b, o = some [a, b] ∧ a ∈ xs ∧ b ∈ xs ∧ c a b = true ∧ ∀ a' ∈ xs, ∀ b' ∈ xs, c a' b' = true → a < a' ∨ (a = a' ∧ b ≤ b')
theorem Least.one {c : Nat → Nat → Bool} {xs : List Nat} {o o' : Option (List Nat)} (h : Least c xs o) (h' : Least c xs o') : o = o' := by
  rcases h with ⟨rfl, h⟩ | ⟨a, b, rfl, ha, hb, hc, hm⟩
  · rcases h' with ⟨rfl, _⟩ | ⟨a, b, rfl, ha, hb, hc, hm⟩
    · rfl
    · rw [h a ha b hb] at hc
      cases hc
  · rcases h' with ⟨rfl, h'⟩ | ⟨a', b', rfl, ha', hb', hc', hm'⟩
    · rw [h' a ha b hb] at hc
      cases hc
    · have z1 := hm a' ha' b' hb' hc'
      have z2 := hm' a ha b hb hc
      have : a = a' ∧ b = b' := by omega
      rw [this.1, this.2]
def condL (ks : List (List Nat)) (hs : List (Option Nat)) (a b : Nat) : Bool := decide (a < b) && ((hueOf hs a).isSome && ((hueOf hs a == hueOf hs b) && !((ks.getD b []).contains a)))
section
variable {P : Program} {w : World} {K : PySem.W.Frag} {mg : Str → Option Value} {base : Heap} {f fE fP : Addr} {fd fdE fdP : FuncData}
def spKin : Sp := fun vs H Q _ => ∃ (a : Addr) (ws : List V) (bs : List (List Nat)), vs = [.ref a] ∧ H a = some (.lst ws) ∧ RowsAt H ws bs ∧ validB bs ∧ bs.length ≤ 12 ∧ (∀ row ∈ bs, row.length ≤ 4) ∧
  ∀ H' l us, Same H H' → H l = none → H' l = some (.lst us) → (∀ v ∈ us, v ≠ .ref l) → ListsAt H' us (kins (elders bs)) → Q (.ref l) H'
theorem elders_row_up (bs : List (List Nat)) (c : Nat) (l : List Nat) (h : (elders bs)[c]? = some l) : l.Pairwise (· < ·) := by
  have key : ∀ (bs : List (List Nat)) (acc : List (List Nat)), (∀ l ∈ acc, l.Pairwise (· < ·)) → ∀ l ∈ bs.foldl (fun rows row => rows ++ [elStep rows row]) acc, l.Pairwise (· < ·) := by
    intro bs
    induction bs with
    | nil => intro acc h; exact h
    | cons b r ih =>
      intro acc h l hl
      rw [List.foldl_cons] at hl
      refine ih _ (fun l hl => ?_) l hl
      rcases List.mem_append.mp hl with hl | hl
      · exact h l hl
      · rw [List.mem_singleton.mp hl]
        exact elStep_up _ _
  exact key bs [] (fun l hl => by cases hl) l (List.mem_of_getElem? h)
theorem kin_up (bs : List (List Nat)) (c : Nat) (h : c < bs.length) : (kinOf (elders bs) c).Pairwise (· < ·) ∧ ∀ x ∈ kinOf (elders bs) c, x ≤ c := by
  obtain ⟨l, hl⟩ : ∃ l, (elders bs)[c]? = some l := ⟨_, List.getElem?_eq_getElem (by rw [elders_len]; exact h)⟩
  have e : (elders bs).getD c [] = l := by
    rw [List.getD_eq_getElem?_getD, hl]
    rfl
  unfold kinOf
  rw [e]
  have lt := elders_lt bs c l hl
  refine ⟨List.pairwise_append.mpr ⟨elders_row_up bs c l hl, List.pairwise_singleton _ _, fun a ha b hb => ?_⟩, fun x hx => ?_⟩
  · rw [List.mem_singleton.mp hb]
    exact lt a ha
  · rcases List.mem_append.mp hx with hx | hx
    · exact Nat.le_of_lt (lt x hx)
    · rw [List.mem_singleton.mp hx]
      exact Nat.le_refl _
end
end K12

set_option maxRecDepth 100000
set_option maxHeartbeats 8000000
namespace K12
open PySem PySem.Spec PyProof.Rows L2 Kw
/-! ### hues and depths: the mathematics -/
theorem elders_pre (bs : List (List Nat)) (i : Nat) : ∀ j, i ≤ j → (elders (bs.take j)).take i = elders (bs.take i) := by
  intro j
  induction j with
  | zero =>
    intro h
    obtain rfl : i = 0 := by omega
    rw [List.take_of_length_le (by rw [elders_len, List.length_take]; omega)]
  | succ j ih =>
    intro h
    by_cases e : i = j + 1
    · rw [← e, List.take_of_length_le (by rw [elders_len, List.length_take]; omega)]
    · by_cases q : j < bs.length
      · obtain ⟨row, hrow⟩ : ∃ row, bs[j]? = some row := ⟨_, List.getElem?_eq_getElem q⟩
        rw [elders_more hrow, List.take_append_of_le_length (by rw [elders_len, List.length_take]; omega)]
        exact ih (by omega)
      · rw [show bs.take (j + 1) = bs.take j by rw [List.take_of_length_le (by omega), List.take_of_length_le (by omega)]]
        exact ih (by omega)
theorem elders_pre_all (bs : List (List Nat)) (i : Nat) : (elders bs).take i = elders (bs.take i) := by
  by_cases h : i ≤ bs.length
  · have z := elders_pre bs i bs.length h
    rw [List.take_of_length_le (Nat.le_refl _)] at z
    exact z
  · rw [List.take_of_length_le (by rw [elders_len]; omega), List.take_of_length_le (by omega)]
theorem elders_row {bs : List (List Nat)} {c : Nat} {row : List Nat} (h : bs[c]? = some row) : (elders bs).getD c [] = elStep (elders (bs.take c)) row := by
  have hc := (List.getElem?_eq_some_iff.mp h).1
  have z : ((elders bs).take (c + 1))[c]? = (elders bs)[c]? := by
    rw [List.getElem?_take, if_pos (by omega)]
  rw [elders_pre_all, elders_more h, List.getElem?_append_right (by rw [elders_len, List.length_take]; omega), elders_len, List.length_take, show c - min c bs.length = 0 by omega] at z
  rw [List.getD_eq_getElem?_getD, ← z]
  rfl
theorem elders_getD_take {bs : List (List Nat)} {b c : Nat} (h : b < c) : (elders (bs.take c)).getD b [] = (elders bs).getD b [] := by
  rw [← elders_pre_all, List.getD_eq_getElem?_getD, List.getElem?_take, if_pos h, ← List.getD_eq_getElem?_getD]
theorem elders_mem {bs : List (List Nat)} (hv : validB bs) {c : Nat} {row : List Nat} (h : bs[c]? = some row) (x : Nat) : x ∈ (elders bs).getD c [] ↔ ∃ b ∈ row, x = b ∨ x ∈ (elders bs).getD b [] := by
  have hc := (List.getElem?_eq_some_iff.mp h).1
  rw [elders_row h, elStep_mem (fun b hb => by rw [elders_len, List.length_take]; have := hv c row h b hb; omega) (elders_lt _)]
  constructor
  · rintro ⟨b, hb, e⟩
    exact ⟨b, hb, e.imp id fun e => by rw [elders_getD_take (hv c row h b hb)] at e; exact e⟩
  · rintro ⟨b, hb, e⟩
    exact ⟨b, hb, e.imp id fun e => by rw [elders_getD_take (hv c row h b hb)]; exact e⟩
theorem elders_below {bs : List (List Nat)} {c x : Nat} (h : x ∈ (elders bs).getD c []) : x < c := by
  rw [List.getD_eq_getElem?_getD] at h
  cases e : (elders bs)[c]? with
  | none =>
    rw [e] at h
    cases h
  | some l =>
    rw [e] at h
    exact elders_lt bs c l e x h
theorem elders_trans {bs : List (List Nat)} (hv : validB bs) : ∀ (c : Nat) {x y : Nat}, y ∈ (elders bs).getD c [] → x ∈ (elders bs).getD y [] → x ∈ (elders bs).getD c [] := by
  intro c
  induction c using Nat.strongRecOn with
  | _ c ih =>
    intro x y hy hx
    have hc : c < bs.length := by
      apply Classical.byContradiction
      intro q
      rw [List.getD_eq_getElem?_getD, List.getElem?_eq_none (by rw [elders_len]; omega)] at hy
      cases hy
    obtain ⟨row, hrow⟩ : ∃ row, bs[c]? = some row := ⟨_, List.getElem?_eq_getElem hc⟩
    obtain ⟨b, hb, e⟩ := (elders_mem hv hrow y).mp hy
    refine (elders_mem hv hrow x).mpr ⟨b, hb, .inr ?_⟩
    rcases e with e | e
    · rw [← e]
      exact hx
    · exact ih b (hv c row hrow b hb) e hx
theorem nodup_sub_len' {ks ns : List Nat} (hn : ks.Nodup) (hs : ∀ k ∈ ks, k ∈ ns) : ks.length ≤ ns.length := by
  induction ks generalizing ns with
  | nil => exact Nat.zero_le _
  | cons k r ih =>
    have hk : k ∈ ns := hs k List.mem_cons_self
    obtain ⟨h1, h2⟩ := List.nodup_cons.mp hn
    have z := ih (ns := ns.erase k) h2 fun y hy => by
      have ne : y ≠ k := fun e => h1 (by rw [← e]; exact hy)
      exact (List.mem_erase_of_ne ne).mpr (hs y (List.mem_cons_of_mem _ hy))
    rw [List.length_erase_of_mem hk] at z
    have := List.length_pos_of_mem hk
    show r.length + 1 ≤ ns.length
    omega
/-- each row holds its own class last, the others below it, and the rows of all of them -/
structure KinsOk (ks : List (List Nat)) : Prop where
  up : ∀ c, c < ks.length → (ks.getD c []).Pairwise (· < ·)
  self : ∀ c, c < ks.length → c ∈ ks.getD c []
  le : ∀ c, c < ks.length → ∀ x ∈ ks.getD c [], x ≤ c
  tr : ∀ c, c < ks.length → ∀ y ∈ ks.getD c [], ∀ x ∈ ks.getD y [], x ∈ ks.getD c []
theorem kins_ok {bs : List (List Nat)} (hv : validB bs) : KinsOk (kins (elders bs)) := by
  have hl : ∀ {c}, c < (kins (elders bs)).length → c < bs.length := fun h => by
    rw [kins_len, elders_len] at h
    exact h
  have g : ∀ {c}, c < bs.length → (kins (elders bs)).getD c [] = (elders bs).getD c [] ++ [c] := fun h => kins_getD (by rw [elders_len]; exact h)
  refine ⟨fun c h => ?_, fun c h => ?_, fun c h x hx => ?_, fun c h y hy x hx => ?_⟩
  · rw [g (hl h)]
    exact (kin_up bs c (hl h)).1
  · rw [g (hl h)]
    exact List.mem_append_right _ (List.mem_singleton.mpr rfl)
  · rw [g (hl h)] at hx
    exact (kin_up bs c (hl h)).2 x hx
  · rw [g (hl h)] at hy ⊢
    have yc := (kin_up bs c (hl h)).2 y hy
    rw [g (by have := hl h; omega)] at hx
    rcases List.mem_append.mp hy with hy | hy
    · rcases List.mem_append.mp hx with hx | hx
      · exact List.mem_append_left _ (elders_trans hv c hy hx)
      · rw [List.mem_singleton.mp hx]
        exact List.mem_append_left _ hy
    · obtain rfl := List.mem_singleton.mp hy
      exact hx
/-- those of a row that have the hue of x -/
def likeH (hs : List (Option Nat)) (row : List Nat) (x : Nat) : List Nat := row.filter fun k => hueOf hs k == hueOf hs x
def depthI (ks : List (List Nat)) (hs : List (Option Nat)) (x : Nat) : Int := ((likeH hs (ks.getD x []) x).length : Int) - 1
def huedR (hs : List (Option Nat)) (row : List Nat) : List Nat := row.filter fun k => (hueOf hs k).isSome
def metOf (ks : List (List Nat)) (hs : List (Option Nat)) (k : Nat) : List Int := [(((hueOf hs k).getD 0 : Nat) : Int), depthI ks hs k]
def metR (ks : List (List Nat)) (hs : List (Option Nat)) (row : List Nat) : List (List Int) := (huedR hs row).map (metOf ks hs)
theorem mem_like {hs : List (Option Nat)} {row : List Nat} {x k : Nat} : k ∈ likeH hs row x ↔ k ∈ row ∧ hueOf hs k = hueOf hs x := by
  unfold likeH
  rw [List.mem_filter, beq_iff_eq]
theorem mem_hued {hs : List (Option Nat)} {row : List Nat} {k : Nat} : k ∈ huedR hs row ↔ k ∈ row ∧ (hueOf hs k).isSome = true := by
  unfold huedR
  rw [List.mem_filter]
theorem like_nodup {hs : List (Option Nat)} {row : List Nat} {x : Nat} (h : row.Pairwise (· < ·)) : (likeH hs row x).Nodup := up_nodup (List.Pairwise.filter _ h)
theorem met_inj {ks : List (List Nat)} {hs : List (Option Nat)} {a b : Nat} (ha : (hueOf hs a).isSome = true) (hb : (hueOf hs b).isSome = true) (h : metOf ks hs a = metOf ks hs b) : hueOf hs a = hueOf hs b ∧ depthI ks hs a = depthI ks hs b := by
  unfold metOf at h
  injection h with h1 h2
  injection h2 with h2 _
  refine ⟨?_, h2⟩
  cases ea : hueOf hs a with
  | none =>
    rw [ea] at ha
    cases ha
  | some x =>
    cases eb : hueOf hs b with
    | none =>
      rw [eb] at hb
      cases hb
    | some y =>
      rw [ea, eb] at h1
      have : x = y := by
        have h1 : (x : Int) = (y : Int) := h1
        omega
      rw [this]
/-- below in the same row and of the same hue: less deep -/
theorem depth_lt {ks : List (List Nat)} (ok : KinsOk ks) {hs : List (Option Nat)} {a b : Nat} (hb : b < ks.length) (hab : a ∈ ks.getD b []) (ne : a ≠ b) (he : hueOf hs a = hueOf hs b) : depthI ks hs a < depthI ks hs b := by
  have alt : a < b := by
    have := ok.le b hb a hab
    omega
  have z := nodup_sub_len' (ks := b :: likeH hs (ks.getD a []) a) (ns := likeH hs (ks.getD b []) b) (List.nodup_cons.mpr ⟨fun h => ?_, like_nodup (ok.up a (by omega))⟩) (fun k hk => ?_)
  · unfold depthI
    rw [List.length_cons] at z
    omega
  · have := ok.le a (by omega) b (mem_like.mp h).1
    omega
  · rcases List.mem_cons.mp hk with rfl | hk
    · exact mem_like.mpr ⟨ok.self _ hb, rfl⟩
    · obtain ⟨h1, h2⟩ := mem_like.mp hk
      exact mem_like.mpr ⟨ok.tr b hb a hab k h1, h2.trans he⟩
theorem nodup_map {α β : Type} {f : α → β} : ∀ {l : List α}, l.Nodup → (∀ a ∈ l, ∀ b ∈ l, f a = f b → a = b) → (l.map f).Nodup
  | [], _, _ => List.nodup_nil
  | x :: r, hn, hi => by
    obtain ⟨h1, h2⟩ := List.nodup_cons.mp hn
    refine List.nodup_cons.mpr ⟨fun h => ?_, nodup_map h2 fun a ha b hb => hi a (List.mem_cons_of_mem _ ha) b (List.mem_cons_of_mem _ hb)⟩
    obtain ⟨y, hy, e⟩ := List.mem_map.mp h
    have := hi y (List.mem_cons_of_mem _ hy) x List.mem_cons_self e
    rw [this] at hy
    exact h1 hy
theorem inj_of_nodup_map {α β : Type} {f : α → β} : ∀ {l : List α}, (l.map f).Nodup → ∀ a ∈ l, ∀ b ∈ l, f a = f b → a = b
  | [], _, a, ha, _, _, _ => by cases ha
  | x :: r, hn, a, ha, b, hb, e => by
    obtain ⟨h1, h2⟩ := List.nodup_cons.mp hn
    rcases List.mem_cons.mp ha with ea | ha'
    · rcases List.mem_cons.mp hb with eb | hb'
      · rw [ea, eb]
      · rw [ea] at e
        exact absurd (e ▸ List.mem_map_of_mem hb') h1
    · rcases List.mem_cons.mp hb with eb | hb'
      · rw [eb] at e
        exact absurd (e ▸ List.mem_map_of_mem ha') h1
      · exact inj_of_nodup_map h2 a ha' b hb' e
theorem condL_iff {ks : List (List Nat)} {hs : List (Option Nat)} {a b : Nat} : condL ks hs a b = true ↔ a < b ∧ (hueOf hs a).isSome = true ∧ hueOf hs a = hueOf hs b ∧ a ∉ ks.getD b [] := by
  unfold condL
  rw [Bool.and_eq_true, Bool.and_eq_true, Bool.and_eq_true, decide_eq_true_eq, beq_iff_eq, Bool.not_eq_true', ← Bool.not_eq_true, List.contains_iff_mem]
/-- unlike depths: where u is not below v it is no less deep -/
theorem depth_ge {ks : List (List Nat)} (ok : KinsOk ks) {hs : List (Option Nat)} {c : Nat} (hc : c < ks.length) (hn : (metR ks hs (ks.getD c [])).Nodup) {u v : Nat} (hu : u ∈ ks.getD c []) (hv : v ∈ ks.getD c []) (hs1 : (hueOf hs u).isSome = true) (he : hueOf hs u = hueOf hs v) (hno : u ∉ ks.getD v []) : ¬ depthI ks hs u < depthI ks hs v := by
  intro hlt
  have vc := ok.le c hc v hv
  have inj : ∀ x ∈ likeH hs (ks.getD c []) v, ∀ y ∈ likeH hs (ks.getD c []) v, depthI ks hs x = depthI ks hs y → x = y := fun x hx y hy e => by
    obtain ⟨x1, x2⟩ := mem_like.mp hx
    obtain ⟨y1, y2⟩ := mem_like.mp hy
    have hxs : (hueOf hs x).isSome = true := by rw [x2, ← he]; exact hs1
    have hys : (hueOf hs y).isSome = true := by rw [y2, ← he]; exact hs1
    refine inj_of_nodup_map hn x (mem_hued.mpr ⟨x1, hxs⟩) y (mem_hued.mpr ⟨y1, hys⟩) ?_
    unfold metOf
    rw [x2, y2, e]
  -- the less deep ones of this row
  let T := (likeH hs (ks.getD c []) v).filter fun x => decide (depthI ks hs x < depthI ks hs v)
  have memT : ∀ x, x ∈ T ↔ (x ∈ ks.getD c [] ∧ hueOf hs x = hueOf hs v) ∧ depthI ks hs x < depthI ks hs v := fun x => by
    show x ∈ List.filter _ _ ↔ _
    rw [List.mem_filter, mem_like, decide_eq_true_eq]
  have d0 : ∀ x, x ∈ ks.getD c [] → 0 ≤ depthI ks hs x := fun x hx => by
    have xc := ok.le c hc x hx
    have : 0 < (likeH hs (ks.getD x []) x).length := List.length_pos_of_mem (mem_like.mpr ⟨ok.self x (by omega), rfl⟩)
    unfold depthI
    omega
  have nT : T.Nodup := List.Pairwise.filter _ (like_nodup (ok.up c hc))
  have small : T.length ≤ (depthI ks hs v).toNat := by
    have z := nodup_sub_len' (ks := T.map fun x => (depthI ks hs x).toNat) (ns := List.range (depthI ks hs v).toNat) (nodup_map nT fun x hx y hy e => ?_) (fun k hk => ?_)
    · rw [List.length_map, List.length_range] at z
      exact z
    · obtain ⟨⟨x1, x2⟩, _⟩ := (memT x).mp hx
      obtain ⟨⟨y1, y2⟩, _⟩ := (memT y).mp hy
      have q1 := d0 x x1
      have q2 := d0 y y1
      exact inj x (mem_like.mpr ⟨x1, x2⟩) y (mem_like.mpr ⟨y1, y2⟩) (by have e : (depthI ks hs x).toNat = (depthI ks hs y).toNat := e; omega)
    · obtain ⟨x, hx, rfl⟩ := List.mem_map.mp hk
      obtain ⟨⟨x1, _⟩, x3⟩ := (memT x).mp hx
      have q1 := d0 x x1
      rw [List.mem_range]
      omega
  have lv : (likeH hs (ks.getD v []) v).Nodup := like_nodup (ok.up v (by omega))
  have vin : v ∈ likeH hs (ks.getD v []) v := mem_like.mpr ⟨ok.self v (by omega), rfl⟩
  have big := nodup_sub_len' (ks := u :: (likeH hs (ks.getD v []) v).erase v) (ns := T) (List.nodup_cons.mpr ⟨fun h => hno (mem_like.mp (List.mem_of_mem_erase h)).1, lv.erase v⟩) (fun k hk => ?_)
  · rw [List.length_cons, List.length_erase_of_mem vin] at big
    have := List.length_pos_of_mem vin
    unfold depthI at small
    omega
  · rcases List.mem_cons.mp hk with rfl | hk
    · exact (memT _).mpr ⟨⟨hu, he⟩, hlt⟩
    · obtain ⟨ne, hk⟩ := (lv.mem_erase_iff).mp hk
      obtain ⟨k1, k2⟩ := mem_like.mp hk
      exact (memT k).mpr ⟨⟨ok.tr c hc v hv k k1, k2⟩, depth_lt ok (by omega) k1 ne k2⟩
/-- no clash exactly if no row has two of one hue at one depth -/
theorem clash_iff {ks : List (List Nat)} (ok : KinsOk ks) (hs : List (Option Nat)) (c : Nat) (hc : c < ks.length) : (∀ a ∈ ks.getD c [], ∀ b ∈ ks.getD c [], condL ks hs a b = false) ↔ (metR ks hs (ks.getD c [])).Nodup := by
  constructor
  · intro h
    have main : ∀ a b, a ∈ ks.getD c [] → b ∈ ks.getD c [] → (hueOf hs a).isSome = true → (hueOf hs b).isSome = true → metOf ks hs a = metOf ks hs b → ¬ a < b := fun a b ha hb sa sb e lt => by
      obtain ⟨e1, e2⟩ := met_inj sa sb e
      have bc := ok.le c hc b hb
      have inb : a ∈ ks.getD b [] := by
        apply Classical.byContradiction
        intro q
        have z := h a ha b hb
        rw [condL_iff.mpr ⟨lt, sa, e1, q⟩] at z
        cases z
      have := depth_lt ok (by omega) inb (by omega) e1
      omega
    refine nodup_map (up_nodup (List.Pairwise.filter _ (ok.up c hc))) fun a ha b hb e => ?_
    obtain ⟨a1, a2⟩ := mem_hued.mp ha
    obtain ⟨b1, b2⟩ := mem_hued.mp hb
    have z1 := main a b a1 b1 a2 b2 e
    have z2 := main b a b1 a1 b2 a2 e.symm
    omega
  · intro h a ha b hb
    apply Classical.byContradiction
    intro q
    have q : condL ks hs a b = true := by
      cases e : condL ks hs a b with
      | false => exact absurd e q
      | true => rfl
    obtain ⟨lt, sa, e, no⟩ := condL_iff.mp q
    have bc := ok.le c hc b hb
    have n1 := depth_ge ok hc h ha hb sa e no
    have n2 := depth_ge ok hc h hb ha (by rw [← e]; exact sa) e.symm (fun z => by have := ok.le a (by omega) b z; omega)
    have : metOf ks hs a = metOf ks hs b := by
      unfold metOf
      rw [e, show depthI ks hs a = depthI ks hs b by omega]
    have := inj_of_nodup_map h a (mem_hued.mpr ⟨ha, sa⟩) b (mem_hued.mpr ⟨hb, by rw [← e]; exact sa⟩) this
    omega
/-- the first clash of all rows -/
def FirstC (ks : List (List Nat)) (hs : List (Option Nat)) (o : Option (List Nat)) : Prop :=
  (o = none ∧ ∀ c < ks.length, Least (condL ks hs) (ks.getD c []) none) ∨ ∃ c a b, o = some [c, a, b] ∧ c < ks.length ∧ (∀ c' < c, Least (condL ks hs) (ks.getD c' []) none) ∧ Least (condL ks hs) (ks.getD c []) (some [a, b])
theorem FirstC.one {ks : List (List Nat)} {hs : List (Option Nat)} {o o' : Option (List Nat)} (h : FirstC ks hs o) (h' : FirstC ks hs o') : o = o' := by
  rcases h with ⟨rfl, h⟩ | ⟨c, a, b, rfl, h1, h2, h3⟩
  · rcases h' with ⟨rfl, _⟩ | ⟨c, a, b, rfl, h1, h2, h3⟩
    · rfl
    · cases (h c h1).one h3
  · rcases h' with ⟨rfl, h⟩ | ⟨c', a', b', rfl, h1', h2', h3'⟩
    · cases (h c h1).one h3
    · have e : c = c' := by
        apply Classical.byContradiction
        intro q
        by_cases l : c < c'
        · cases (h2' c l).one h3
        · cases (h2 c' (by omega)).one h3'
      subst e
      have z := h3.one h3'
      injection z with z
      rw [z]
theorem FirstC.none_iff {ks : List (List Nat)} (ok : KinsOk ks) {hs : List (Option Nat)} {o : Option (List Nat)} (h : FirstC ks hs o) : o = none ↔ ∀ row ∈ ks, (metR ks hs row).Nodup := by
  have none_of : ∀ c, Least (condL ks hs) (ks.getD c []) none ↔ ∀ a ∈ ks.getD c [], ∀ b ∈ ks.getD c [], condL ks hs a b = false := fun c => by
    constructor
    · rintro (⟨_, h⟩ | ⟨a, b, h, _⟩)
      · exact h
      · cases h
    · intro h
      exact .inl ⟨rfl, h⟩
  constructor
  · rintro rfl row hr
    obtain ⟨c, hc⟩ := List.mem_iff_getElem?.mp hr
    have hl := (List.getElem?_eq_some_iff.mp hc).1
    have e : ks.getD c [] = row := by
      rw [List.getD_eq_getElem?_getD, hc]
      rfl
    rcases h with ⟨_, h⟩ | ⟨_, _, _, z, _⟩
    · have z := (clash_iff ok hs c hl).mp ((none_of c).mp (h c hl))
      rw [e] at z
      exact z
    · cases z
  · intro hm
    rcases h with ⟨rfl, _⟩ | ⟨c, a, b, rfl, h1, h2, h3⟩
    · rfl
    · have e : ks.getD c [] ∈ ks := by
        rw [List.getD_eq_getElem?_getD, List.getElem?_eq_getElem h1]
        exact List.getElem_mem h1
      have z := (none_of c).mpr ((clash_iff ok hs c h1).mpr (hm _ e))
      cases z.one h3
end K12

set_option maxRecDepth 100000
set_option maxHeartbeats 4000000
namespace K12
open PySem PySem.Spec PyProof.Rows L2 Kw
/-- the facts of a world that others read: the object's fields -/
theorem WorldAt.mono {H H' : Hp} {p C : Addr} {ds : List Ent} (h : WorldAt H p C ds) (s : Same H H') : WorldAt H' p C ds := by
  obtain ⟨dx, ac, ab, ao, am, ae, ah, cs, bs, ms, es, hs, h1, h2, h3, h4, h5, h6, h7, h8, h9, h10, h11, h12⟩ := h
  exact ⟨dx, ac, ab, ao, am, ae, ah, cs, bs, ms, es, hs, s _ _ h1, s _ _ h2, h3.mono (Same.tupK s), s _ _ h4, h5.mono (Same.tupK s), s _ _ h6, s _ _ h7, h8.mono (Same.tupK s), s _ _ h9, h10.mono (Same.tupK s), s _ _ h11, h12.mono (Same.tupK s)⟩
section
variable {P : Program} {w : World} {K : PySem.W.Frag} {mg : Str → Option Value} {base : Heap} {f fW fN fC C Cn : Addr} {fd fdW fdN fdC : FuncData}
theorem sc_noClass : FnScope ["self", "cls"] ["self", "cls"] (defScope (inClass (top 4) 0)) := ⟨rfl, rfl, rfl, by decide +kernel, rfl, by decide +kernel, by decide +kernel⟩
theorem ok_noClass (F : FnM K "__init__" "NoClass.__init__" (inClass (top 4) 0) f fd) (T : ErrX K mg "NoClass" ["cls"] C f) : FnOk P w K mg base CX0 1 f fd ["self", "cls"] (spR C ["cls"]) ∧ Binds K fd ["self", "cls"] [] := by
  refine ⟨F.ok sc_noClass (fun vs H Q E h => ?_) (fun cdv A outer s H vs Q E hr h => ?_), F.bindsN fun _ _ _ _ _ _ us hl => match us, hl with | [_, _], _ => rfl⟩
  · obtain ⟨a, xs, rfl, hl, _⟩ := h
    exact congrArg Nat.succ hl
  · obtain ⟨a, xs, rfl, hl, ha, k⟩ := h
    match xs, hl with
    | [x1], _ =>
      refine ⟨_, PSs.nox (pss_one (ps_ost (pv 0) (pv 1))), ?_⟩
      refine ⟨_, rfl, _, rfl, a, C, rfl, T.oex, T.no _ (List.mem_of_getElem? (i := 0) rfl), .inl ⟨ha, fun dx hd ne => ?_⟩⟩
      exact k dx _ hd ne upd_same (upB ne upd_same) fun b o hb e => upB hb (upB (ne_of_none e hd) e)
/-- a class is told, or NoClass -/
def spCheck (C Cn : Addr) : Sp := fun vs H Q E => ∃ (p : Addr) (c : V) (t : String) (ds : List Ent), vs = [.ref p, c] ∧ WorldAt H p C ds ∧ Ty0 H c t ∧
  ((wholeB (.int 0) (.int ((ds.length : Int) - 1)) c = true ∧ ∀ H', Same H H' → Q c H') ∨
   (wholeB (.int 0) (.int ((ds.length : Int) - 1)) c = false ∧ ∀ d H', Same H H' → H' d = some (.xd (errF ["cls"] [c])) → E (.ref Cn) (some d) H'))
theorem sc_check : FnScope ["world", "c"] ["world", "c"] (defScope (top 13)) := ⟨rfl, rfl, rfl, by decide +kernel, rfl, by decide +kernel, by decide +kernel⟩
theorem ok_check (F : FnP K "check_class" 13 f fd) (B : Fr mg) (TC : ClsWorld K mg C) (FW : FnDf K "is_whole" 10 [.non, .non] fW fdW) (mW : mg "is_whole" = some (.ref fW)) (FN : FnM K "__init__" "NoClass.__init__" (inClass (top 4) 0) fN fdN) (TN : ErrX K mg "NoClass" ["cls"] Cn fN) :
    FnOk P w K mg base (L2.CX P w) 3 f fd ["world", "c"] (spCheck C Cn) := by
  have GW : FnOk P w K mg base CX0 1 fW fdW ["thing", "low", "high"] spWhole := ok_whole FW B
  obtain ⟨GN, bN⟩ : FnOk P w K mg base CX0 1 fN fdN ["self", "cls"] (spR Cn ["cls"]) ∧ Binds K fdN ["self", "cls"] [] := ok_noClass FN TN
  have bW := binds_whole3 FW
  refine F.ok sc_check (fun vs H Q E h => ?_) (fun cdv A outer s H vs Q E hr h => ?_)
  · obtain ⟨p, c, t, ds, rfl, _⟩ := h
    rfl
  · obtain ⟨p, c, t, ds, rfl, hw, ty, h⟩ := h
    have hw0 := hw
    obtain ⟨dx, ac, ab, ao, am, ae, ah, cs, bs, ms, es, hs, h1, h2, h3, _⟩ := hw
    refine ⟨_, (pss_cons (ps_if (pt_not (pt_val (pe_call GW (hr.mono (by decide)) (by rfl) mW FW.kp bW .nil pass0 (pa_cons (pv 1) (pa_cons pe_int (pa_cons (pe_op op_sub (pe_callB call_len_seq (by rfl) B.len PySem.boot_len (pa_cons (pe_fld (pv 0) rfl) pa_nil)) pe_int) pa_nil))))))
        (pss_one (ps_raise rfl (takes_of rfl rfl rfl rfl) (pmk_oex TN.oex TN.ini TN.inT GN (hr.mono (by decide)) bN .nil pass0 (by rfl) TN.mg (pa_cons (pv 1) pa_nil)))) pss_nil)
      (pss_one (ps_ret (pv 1)))), ?_⟩
    refine ⟨_, rfl, _, rfl, p, C, dx, _, _, rfl, h1, TC.cl, TC.no _ (List.mem_of_getElem? (i := 0) rfl), rfl, ac, cs, rfl, .inr (SqT.of h2), _, _, rfl, rfl, c, _, _, t, rfl, ty, .inr ⟨_, rfl⟩, .inr ⟨_, rfl⟩, _, rfl, ?_⟩
    rw [h3.len]
    rcases h with ⟨e, k⟩ | ⟨e, k⟩
    · rw [e]
      exact iteF ⟨_, rfl, k H (Same.refl H)⟩
    · rw [e]
      exact iteT ⟨_, rfl, raise_q rfl (by decide) fun d H' s1 _ e => k d H' s1 e⟩
end
end K12

set_option maxRecDepth 100000
set_option maxHeartbeats 4000000
namespace K12
open PySem PySem.Spec PyProof.Rows L2 Kw
section
variable {P : Program} {w : World} {K : PySem.W.Frag} {mg : Str → Option Value} {base : Heap} {f fT fM : Addr} {fd fdT fdM : FuncData}
def spRow : Sp := fun vs H Q _ => ∃ (p q a : Addr) (xs : List V), vs = [.ref p, .ref a] ∧ HandAt H p q ∧ a ≠ p ∧ SeqAt H a xs ∧
  ∀ l H', Oth p H H' → HandAt H' p q → ((H l = none ∧ H' l = some (.lst xs)) ∨ H' l = some (.tup xs)) → Q (.ref l) H'
theorem sc_row : FnScope ["_law_hand_here", "_law_items"] ["_law_hand_here", "_law_items"] (defScope (top 41)) := ⟨rfl, rfl, rfl, by decide +kernel, rfl, by decide +kernel, by decide +kernel⟩
theorem ok_row (F : FnP K "_law_row" 41 f fd) (B : Fr mg) (FT : FnP K "_law_take" 38 fT fdT) (mT : mg "_law_take" = some (.ref fT)) (FM : FnP K "_law_mixed" 37 fM fdM) (mM : mg "_law_mixed" = some (.ref fM)) :
    FnOk P w K mg base CX0 3 f fd ["_law_hand_here", "_law_items"] spRow := by
  have GT : FnOk P w K mg base CX0 2 fT fdT ["_law_hand_here", "_law_many"] spTake := ok_take FT FM mM B.int B.len
  have bT : L2.Binds K fdT ["_law_hand_here", "_law_many"] [] := FT.bindsN fun _ _ _ _ _ _ us hl => match us, hl with | [_, _], _ => rfl
  refine F.ok sc_row (fun vs H Q E h => ?_) (fun cdv A outer s H vs Q E hr h => ?_)
  · obtain ⟨p, q, a, xs, rfl, _⟩ := h
    rfl
  · obtain ⟨p, q, a, xs, rfl, hh, hap, hA, k⟩ := h
    refine ⟨_, PSs.nox (pss_one (ps_ret (pe_ifExp (pt_truth (pe_call GT hr (by rfl) mT FT.kp bT .nil pass0 (pa_cons (pv 0) (pa_cons pe_int pa_nil))) (by intro _; rfl))
      (pe_callTy (T := "list") (r := rListOf K) (call_lst (X := _)) (by rfl) B.list (by decide +kernel) (pa_cons (pv 1) pa_nil))
      (pe_callTy (T := "tuple") (r := rTupOf K) (call_tup (X := _)) (by rfl) B.tuple (by decide +kernel) (pa_cons (pv 1) pa_nil))))), ?_⟩
    refine ⟨_, rfl, p, q, 2, rfl, by decide, by decide, hh, fun r H2 r0 r1 h2 e2 => ?_⟩
    have A2 : SeqAt H2 a xs := by
      rcases hA with hA | hA
      · exact .inl ((e2 a hap).trans hA)
      · exact .inr ((e2 a hap).trans hA)
    have O2 : Oth p H H2 := fun b o nb e => (e2 b nb).trans e
    refine ⟨r != 0, rfl, ?_⟩
    cases hr0 : (r != 0) with
    | true =>
      refine iteT ⟨_, rfl, a, xs, rfl, A2.sq, fun l hl => ?_⟩
      obtain ⟨lp, lq⟩ := h2.ne hl
      refine k l _ (O2.trans (Oth.of (same_new hl))) (h2.upd lp lq) (.inl ⟨?_, upd_same⟩)
      rw [← e2 l lp]
      exact hl
    | false =>
      refine iteF ⟨_, rfl, ?_⟩
      refine tup_q A2 fun l H3 s3 hl => k l _ (O2.trans (Oth.of s3)) (h2.same s3) (.inr hl)
end
end K12

set_option maxRecDepth 100000
set_option maxHeartbeats 4000000
namespace Kw
open PySem PySem.Spec PyProof.Rows L2
section
variable {X : Cx} {CX : CXT} {k : Nat} {fI C : Addr} {fd : FuncData} {ps : List Str} {sp : Sp} {x : Str} {p pos : Pos} {e : Expr} {es : List Expr} {ta : TA}
/-- C(e, ..), an own class whose __init__ may raise, where σ tells what the raising asks -/
theorem made_at {W : XK} {pins : List (Addr × Obj)} {σ : L2.St} {H : Hp} {s : Shared} {Q : VK} {us : List Value} {vs : List V} (M : Mk X.K C fI) (G : FnOk X.prog X.w X.K X.mg X.base CX k fI fd ps sp)
    (room : Room (k + 1) X.A) (bd : Binds X.K fd ps []) (out : PassesAt CX X σ W) (I : Inv X pins σ H s) (rel : Vals vs us)
    (q : ∀ o dx, H o = none → H dx = none → dx ≠ o → sp (.ref o :: vs) (upd (upd H dx (.own o)) o (.ins C dx [])) (fun v H2 => v = .non ∧ Q (.ref o) H2) W) :
    wpAny (model X.prog X.w) X.A (call (.ref C) us) (EP X pins σ Q) X.xe s := by
  generalize en : s.heap.objs.size = n at *
  have J := Inv.made (C := C) I
  rw [en] at J
  have f1 : H (n + 1) = none := I.hok.fresh (by rw [en]; exact Nat.le_succ _)
  have f2 : H n = none := I.hok.fresh (by rw [en]; exact Nat.le_refl _)
  have go := q (n + 1) n f1 f2 (Nat.ne_of_lt (Nat.lt_succ_self _))
  have rel2 : Vals (V.ref (n + 1) :: vs) (Value.ref (n + 1) :: us) := .cons rfl rel
  have len : (Value.ref (n + 1) :: us ++ []).length = ps.length := by
    rw [List.append_nil, ← rel2.length]
    exact G.len _ _ _ _ go
  have b2 := bd _ (Value.ref (n + 1) :: us) J.kIn len
  rw [List.append_nil] at b2
  have ran := G.run _ X.stack _ _ ⟨Value.ref (n + 1) :: us, []⟩ (Value.ref (n + 1) :: us) _ _ W (room.make C us []) (J.env0.make C us []) b2 rel2 go
  refine wpAny_call (make_map (f := fI) I.kIn M.makes M.init (beq_iff_eq.mp M.fn) ?_)
  rw [en]
  refine codeAny_mono ran fun r s' z => ?_
  cases r with
  | error er => exact out pins _ _ er s' J z
  | ok fl =>
    cases fl with
    | ret u =>
      obtain ⟨v, H3, I3, rv, ev, q3⟩ := J.after z
      subst ev
      exact ⟨rv, .ref (n + 1), H3, I3, rfl, q3⟩
    | next => exact False.elim z
    | brk => exact False.elim z
    | cont => exact False.elim z
def tMadeS (C : Addr) (sp : Sp) (W : L2.St → XK) (ta : TA) : TE := fun σ H Q => ta σ H fun vs H1 => ∀ o dx, H1 o = none → H1 dx = none → dx ≠ o → sp (.ref o :: vs) (upd (upd H1 dx (.own o)) o (.ins C dx [])) (fun v H2 => v = .non ∧ Q (.ref o) H2) (W σ)
theorem pe_madeS {W : L2.St → XK} (M : Mk X.K C fI) (G : FnOk X.prog X.w X.K X.mg X.base CX k fI fd ps sp) (room : Room (k + 1) X.A) (hg : Gl X x) (hm : X.mg x = some (.ref C)) (bd : Binds X.K fd ps []) (out : ∀ σ, PassesAt CX X σ (W σ))
    (ha : PA X (e :: es) ta) (hdb : (x == ("__debug__" : Str)) = false := by decide) (he : starEach (e :: es) X.env = (false, eval e X.env) :: starEach es X.env := by rfl) (hpl : (backTo pos (starEach es X.env)).any (·.1) = false := by rfl) :
    PE X (.Call (.Name x p) (e :: es) [] pos) (tMadeS C sp W ta) := by
  refine ⟨fun pins s σ H Q I h => wpAny_Call_Name_kw (ld_glob I hg hm ?_ hdb)⟩
  refine PySem.W.callWith_K (h₀ := X.base) I.ok.mod.kin M.kp (thn (ha.run pos pins s σ H _ I h) fun us s1 ⟨vs, H1, I1, r1, q1⟩ => ?_) he hpl
  exact ⟨I1.kIn, made_at M G room bd (out σ) I1 r1 q1⟩
variable {o : Expr} {to : TE} {m : Str} {apos : Pos}
/-- o.m(e, ..), a method that may raise, where σ tells what the raising asks -/
def tMethU (C : Addr) (m : Str) (sp : Sp) (W : L2.St → XK) (to : TE) (ta : TA) : TE := fun σ H Q => to σ H fun x H1 => ∃ a dx fs, x = .ref a ∧ H1 a = some (.ins C dx fs) ∧ fs.lookup m = none ∧ ta σ H1 fun vs H2 => sp (.ref a :: vs) H2 Q (W σ)
theorem pe_methU {W : L2.St → XK} {pl : Sem Bool} (ho : PE X o to) (cl : Cls X.K C) (mt : Meth X.K C m fI) (G : FnOk X.prog X.w X.K X.mg X.base CX k fI fd ps sp) (room : Room k X.A) (bd : Binds X.K fd ps []) (out : ∀ σ, PassesAt CX X σ (W σ)) (args : PA X (e :: es) ta)
    (h1 : starEach (e :: es) X.env = (false, eval e X.env) :: starEach es X.env := by rfl) (h2 : (backTo pos (starEach es X.env)).any (·.1) = false := by rfl)
    (way : eval (.Call (.Attribute o m apos) (e :: es) [] pos) X.env = (do let ov ← eval o X.env; standAt apos.atName; let (f, first) ← holding [ov] (getMethod ov m pl); callWith pos f first (backTo pos (starEach (e :: es) X.env)) (backToKw pos (keywordEach [] X.env))) := by rfl) :
    PE X (.Call (.Attribute o m apos) (e :: es) [] pos) (tMethU C m sp W to ta) := by
  refine ⟨fun pins s σ H Q I h => PySem.W.methodCall_KW (pl := pl) (thn (ho.run pins s σ H _ I h) fun u s1 z => ?_) way⟩
  obtain ⟨x, H1, I1, rx, a, dx, fs, rfl, ea, l, q⟩ := z
  obtain rfl : u = Value.ref a := rx
  refine getmeth_ok I1 ea cl mt l (PySem.W.callWith_K (first := [.ref a]) (h₀ := X.base) I.ok.mod.kin mt.kp (thn (args.run pos pins s1 σ H1 _ I1 q) fun us s2 z => ?_) h1 h2)
  obtain ⟨vs, H2, I2, r, q2⟩ := z
  exact ⟨I2.kIn, run_fnS (us := .ref a :: us) (vs := .ref a :: vs) G room bd (out σ) I2 (.cons rfl r) q2⟩
end
end Kw

set_option maxRecDepth 100000
set_option maxHeartbeats 4000000
namespace Kw
open PySem PySem.Spec PyProof.Rows L2
/-- len(set(xs)), xs a list of tuples of ints: as many as unlike ones -/
def tLenSetT (K : PySem.W.Frag) (ta : TE) : TE := fun σ H Q => ta σ H fun x H1 => ∃ (l : Addr) (ks : List (Addr × List Int)), x = V.ref l ∧ SqL K H1 l (ks.map fun p => V.ref p.1) ∧ (∀ p ∈ ks, SqT K H1 p.1 (p.2.map V.int)) ∧ ks.length < 64 ∧
  ∀ n : Nat, (n = ks.length ↔ (ks.map (·.2)).Nodup) → Q (.int n) H1
theorem nodup_sub_len {α : Type} [DecidableEq α] : ∀ {ks ns : List α}, ks.Nodup → (∀ k ∈ ks, k ∈ ns) → ks.length ≤ ns.length
  | [], _, _, _ => Nat.zero_le _
  | k :: r, ns, hn, hs => by
    have hk : k ∈ ns := hs k List.mem_cons_self
    obtain ⟨h1, h2⟩ := List.nodup_cons.mp hn
    have ih := nodup_sub_len (ks := r) (ns := ns.erase k) h2 fun y hy => by
      have ne : y ≠ k := fun e => h1 (by rw [← e]; exact hy)
      exact (List.mem_erase_of_ne ne).mpr (hs y (List.mem_cons_of_mem _ hy))
    rw [List.length_erase_of_mem hk] at ih
    have := List.length_pos_of_mem hk
    show r.length + 1 ≤ ns.length
    omega
theorem nodup_of_sub_len {α : Type} [DecidableEq α] : ∀ {ns ks : List α}, ks.Nodup → (∀ k ∈ ks, k ∈ ns) → ns.length ≤ ks.length → ns.Nodup
  | [], _, _, _, _ => List.nodup_nil
  | n :: r, ks, hn, hs, hl => by
    by_cases hr : n ∈ r
    · have z := nodup_sub_len (ks := ks) (ns := r) hn fun k hk => by
        rcases List.mem_cons.mp (hs k hk) with e | e
        · rw [e]; exact hr
        · exact e
      have : r.length + 1 ≤ ks.length := hl
      omega
    · refine List.nodup_cons.mpr ⟨hr, nodup_of_sub_len (ks := ks.erase n) (hn.erase n) (fun k hk => ?_) ?_⟩
      · have h1 := (hn.mem_erase_iff).mp hk
        rcases List.mem_cons.mp (hs k h1.2) with e | e
        · exact absurd e h1.1
        · exact e
      · have h2 : r.length + 1 ≤ ks.length := hl
        by_cases hm : n ∈ ks
        · rw [List.length_erase_of_mem hm]
          omega
        · rw [List.erase_of_not_mem hm]
          omega
theorem pe_lenSetT {X : Cx} {a : Expr} {ta : TE} {p p2 q pos : Pos} (hu : X.A.units + 64 < cLine) (hg : Gl X "len") (hm : X.mg "len" = none) (hg2 : Gl X "set") (hm2 : X.mg "set" = none) (ha : PE X a ta) (hc : X.calm = true := by rfl)
    (na : starEach [a] X.env = (false, eval a X.env) :: starEach [] X.env := by rfl) : PE X (.Call (.Name "len" p) [.Call (.Name "set" p2) [a] [] q] [] pos) (tLenSetT X.K ta) := by
  refine ⟨fun pins s σ H Q I h => Call_ (ld_blt I hg hm PySem.boot_len ?_)⟩
  refine callWith_builtin1 (args_cons (Call_ (ld_blt I hg2 hm2 PyProof.Rows.boot_set ?_)) rfl) rfl rfl
  refine callWith_type1 (args_cons (thn (ha.run pins s σ H _ I h) fun v s1 ⟨x, H1, I1, r1, q1⟩ => args_nil ?_) na) na rfl
  obtain ⟨l, ks, ex, hq, hk, hf, q2⟩ := q1
  subst ex
  obtain rfl : v = Value.ref l := r1
  obtain ⟨its, rv, pl, hz⟩ := I1.list hq
  refine call_set_tups (P := X.prog) (w := X.w) ks (I1.ok.hd hc) pl.isList (by simpa using refs_of_vals rv) (fun p hp => I1.isT (hk p hp)) hf (by omega) fun h' tk L es ep t R g k => args_nil ?_
  obtain ⟨o, ho, hex, hd⟩ := R.ob
  have sz := SetTR.size (s := { s1 with heap := h', toks := tk }) R
  have I2 : Inv X pins σ H1 { s1 with heap := h', toks := tk } := I1.kept fun b o e => k b o e
  have key : L.length = ks.length ↔ (ks.map (·.2)).Nodup := by
    have sub : ∀ x ∈ L.map (·.2), x ∈ ks.map (·.2) := fun x hx => by
      obtain ⟨p, hp, rfl⟩ := List.mem_map.mp hx
      exact List.mem_map_of_mem (List.mem_of_mem_take (g.sub p hp))
    have all : ∀ x ∈ ks.map (·.2), x ∈ L.map (·.2) := fun x hx => by
      obtain ⟨p, hp, rfl⟩ := List.mem_map.mp hx
      exact g.all p (by rw [List.take_length]; exact hp)
    have l1 := nodup_sub_len R.nd sub
    rw [List.length_map, List.length_map] at l1
    constructor
    · intro e
      refine nodup_of_sub_len R.nd sub ?_
      rw [List.length_map, List.length_map, e]
      exact Nat.le_refl _
    · intro hn
      have l2 := nodup_sub_len hn all
      rw [List.length_map, List.length_map] at l2
      omega
  exact call_len_set ho hex hd (SetTR.fits (s := { s1 with heap := h', toks := tk }) R) (by have := R.few; rw [sz]; omega) ⟨.int es.size, H1, I2.tok _, ⟨_, rfl⟩, q2 es.size (by rw [sz]; exact key)⟩
end Kw

set_option maxRecDepth 100000
set_option maxHeartbeats 8000000
namespace K12
open PySem PySem.Spec PyProof.Rows L2 Kw
/-! the general parts of e2, s4, s6, s8, s9, s10, t1, t3, v4, t5, u1, u2, u5, u7, v8, u11: for laws that have no hues (made by a script out of those) -/
def onLine (els : List (List Nat)) (x y : Nat) : Bool := decide (x = y) || ((els.getD y []).contains x || (els.getD x []).contains y)
def elsOf (ds : List Ent) : List (List Nat) := elders (ds.map (·.1))
theorem elsOf_len (ds : List Ent) : (elsOf ds).length = ds.length := by
  unfold elsOf
  rw [elders_len, List.length_map]
theorem WorldAt.elder {H : Hp} {p C : Addr} {ds : List Ent} (h : WorldAt H p C ds) {x : Nat} (hx : x < ds.length) : ∃ (dx : Addr) (fs : List (Str × V)) (ae : Addr) (es : List V) (t : Addr), H p = some (.ins C dx fs) ∧ List.lookup ("elders" : Str) fs = some (V.ref ae) ∧ H ae = some (.tup es) ∧ es[x]? = some (.ref t) ∧ H t = some (.tup (((elsOf ds).getD x []).map natV)) := by
  obtain ⟨dx, ac, ab, ao, am, ae, ah, cs, bs, ms, es, hs, h1, h2, h3, h4, h5, h6, h7, h8, h9, h10, h11, h12⟩ := h
  obtain ⟨l, hl⟩ : ∃ l, (elsOf ds)[x]? = some l := ⟨_, List.getElem?_eq_getElem (by rw [elsOf_len]; exact hx)⟩
  obtain ⟨t, e1, e2⟩ := h10.get hl
  refine ⟨dx, _, ae, es, t, h1, rfl, h9, e1, ?_⟩
  rw [List.getD_eq_getElem?_getD, hl]
  exact e2
theorem whole_nat {n : Nat} {c : V} (h : wholeB (.int 0) (.int ((n : Int) - 1)) c = true) : ∃ x : Nat, c = natV x ∧ x < n := by
  cases c with
  | int i =>
    unfold wholeB inLo inHi at h
    simp only [Bool.and_eq_true, decide_eq_true_eq] at h
    exact ⟨i.toNat, by (show V.int i = V.int _); congr 1; omega, by omega⟩
  | _ => cases h
theorem iteT' {c : Bool} {A B : Prop} (h : c = true) (a : A) : if c = true then A else B := by
  rw [if_pos h]
  exact a
theorem iteF' {c : Bool} {A B : Prop} (h : c = false) (b : B) : if c = true then A else B := by
  rw [if_neg (by rw [h]; decide)]
  exact b
theorem whole_of {n x : Nat} (h : x < n) : wholeB (.int 0) (.int ((n : Int) - 1)) (natV x) = true := by
  show wholeB (.int 0) (.int ((n : Int) - 1)) (.int (x : Int)) = true
  unfold wholeB inLo inHi
  simp only [Bool.and_eq_true, decide_eq_true_eq]
  omega
/-- a class of one's own, by the fields it keeps -/
structure ClsF (K : PySem.W.Frag) (C : Addr) (fs : List Str) : Prop where
  cl : Cls K C
  no : ∀ f ∈ fs, NoAttr K C f
theorem cut_tail (xs : List V) (i : Nat) (h : i < xs.length) : ¬ (HT.sIx xs.length 0 (some ((i : Int) + 1)) = 0 ∧ HT.sIx xs.length xs.length none = xs.length) ∧ cutV xs (some ((i : Int) + 1)) none = xs.drop (i + 1) := by
  have e : ((i : Int) + 1) = ((i + 1 : Nat) : Int) := by omega
  rw [e]
  constructor
  · rw [HT.sIx_nat]
    omega
  · unfold cutV
    rw [HT.sIx_nat, HT.sIx_none, Nat.min_eq_left (by omega), List.take_of_length_le (by rw [List.length_drop]; exact Nat.le_refl _)]
theorem kins_els {ds : List Ent} {x : Nat} (h : x < ds.length) : (kins (elsOf ds)).getD x [] = (elsOf ds).getD x [] ++ [x] := kins_getD (by rw [elsOf_len]; exact h)
theorem line_kin {ds : List Ent} {a b : Nat} (hab : a < b) (hb : b < ds.length) : onLine (elsOf ds) a b = ((kins (elsOf ds)).getD b []).contains a := by
  rw [kins_els hb]
  unfold onLine
  have e1 : decide (a = b) = false := decide_eq_false (by omega)
  have e2 : ((elsOf ds).getD a []).contains b = false := by
    cases e : ((elsOf ds).getD a []).contains b with
    | false => rfl
    | true =>
      have := elders_below (List.contains_iff_mem.mp e)
      omega
  rw [e1, e2, Bool.false_or, Bool.or_false, Bool.eq_iff_iff, List.contains_iff_mem, List.contains_iff_mem, List.mem_append, List.mem_singleton]
  exact ⟨.inl, fun h => h.resolve_right (by omega)⟩
def LayD (n : Nat) (d : PyData) : Prop := d.canLay0 = true ∧ d.depth ≤ n
theorem lay_all {n : Nat} : ∀ {ds : List PyData}, (∀ d ∈ ds, LayD n d) → PyData.canLayAll0 ds = true ∧ PyData.depthAll ds ≤ n
  | [], _ => ⟨by simp [PyData.canLayAll0], by simp [PyData.depthAll]⟩
  | d :: r, h => by
    obtain ⟨h1, h2⟩ := h d List.mem_cons_self
    obtain ⟨h3, h4⟩ := lay_all (ds := r) fun x hx => h x (List.mem_cons_of_mem _ hx)
    refine ⟨by simp [PyData.canLayAll0, h1, h3], ?_⟩
    simp only [PyData.depthAll]
    omega
theorem LayD.tup {n : Nat} {ds : List PyData} (h : ∀ d ∈ ds, LayD n d) : LayD (n + 1) (.tuple ds) := by
  obtain ⟨h1, h2⟩ := lay_all h
  refine ⟨by simp [PyData.canLay0, h1], ?_⟩
  simp only [PyData.depth]
  omega
theorem LayD.int {n : Nat} (i : Int) : LayD n (.int i) := ⟨by simp [PyData.canLay0], by simp [PyData.depth]⟩
theorem LayD.shaped {n : Nat} {d : PyData} (h : LayD n d) (hn : n ≤ 64) : SeqAt.shaped d = true := by
  show (d.canLay0 && decide (d.depth ≤ 64)) = true
  rw [Bool.and_eq_true]
  exact ⟨h.1, decide_eq_true (Nat.le_trans h.2 hn)⟩
theorem LayD.refl {n : Nat} {d : PyData} (h : LayD n d) : PyData.eqv d d = true := SeqAt.eqv_refl d h.1
def dN (n : Nat) : PyData := .int (n : Int)
def dNs (l : List Nat) : PyData := .tuple (l.map dN)
def dNss (ls : List (List Nat)) : PyData := .tuple (ls.map dNs)
def dEnt (d : Ent) : PyData := .tuple [dNs d.1, dN d.2.1, dNs (sortN d.2.2)]
def dEnts (ds : List Ent) : PyData := .tuple (ds.map dEnt)
theorem lay_ns (l : List Nat) : LayD 1 (dNs l) := LayD.tup fun d hd => by
  obtain ⟨n, _, rfl⟩ := List.mem_map.mp hd
  exact .int _
theorem LayD.le {n m : Nat} {d : PyData} (h : LayD n d) (k : n ≤ m) : LayD m d := ⟨h.1, Nat.le_trans h.2 k⟩
theorem lay_nss (ls : List (List Nat)) : LayD 2 (dNss ls) := LayD.tup fun d hd => by
  obtain ⟨n, _, rfl⟩ := List.mem_map.mp hd
  exact lay_ns n
theorem lay_ent (e : Ent) : LayD 2 (dEnt e) := LayD.tup fun d hd => by
  rcases List.mem_cons.mp hd with rfl | hd
  · exact lay_ns _
  · rcases List.mem_cons.mp hd with rfl | hd
    · exact .int _
    · rw [List.mem_singleton.mp hd]
      exact lay_ns _
theorem lay_ents (es : List Ent) : LayD 3 (dEnts es) := LayD.tup fun d hd => by
  obtain ⟨n, _, rfl⟩ := List.mem_map.mp hd
  exact lay_ent n
theorem dp_nats {K : PySem.W.Frag} {H : Hp} : ∀ (l : List Nat), DpAll K H (l.map natV) (l.map dN)
  | [] => .nil
  | n :: r => .cons (.int _) (dp_nats r)
theorem dp_ns {K : PySem.W.Frag} {H : Hp} {t : Addr} {l : List Nat} (h : H t = some (.tup (l.map natV))) : Dp K H (.ref t) (dNs l) := .tup (SqT.of h) (dp_nats l)
theorem dp_tups {K : PySem.W.Frag} {H : Hp} : ∀ {vs : List V} {ls : List (List Nat)}, TupsAt H vs ls → DpAll K H vs (ls.map dNs)
  | [], [], _ => .nil
  | _ :: _, _ :: _, .cons ⟨t, e, h⟩ r => by
    rw [e]
    exact .cons (dp_ns h) (dp_tups r)
theorem dp_ents {K : PySem.W.Frag} {H : Hp} : ∀ {vs : List V} {ds : List Ent}, EntsAt H vs ds → DpAll K H vs (ds.map dEnt)
  | [], [], _ => .nil
  | _ :: _, _ :: _, .cons ⟨t, e, tb, tm, h1, h2, h3⟩ r => by
    rw [e]
    exact .cons (.tup (SqT.of h1) (.cons (dp_ns h2) (.cons (.int _) (.cons (dp_ns h3) .nil)))) (dp_ents r)
/-- what isinstance asks of a class of one's own -/
structure IsiC (K : PySem.W.Frag) (C : Addr) : Prop where
  cla : PySem.W.findIn K (.ref C) "__class__" = some (some (.builtin "object.__class__"))
  get : PySem.W.specialIn K (.builtin "object.__class__") "__get__" = some (some (.builtin "getset_descriptor.__get__"))
  takes : PySem.W.takesIn K (.builtin "object.__class__") = some true
  obj : PySem.W.mroIn K C (.type "object") = some true
theorem kit_self {K : PySem.W.Frag} {C : Addr} : PySem.W.kitOne K (.ref C) (.ref C) = some true := by
  unfold PySem.W.kitOne
  rw [if_pos (beq_iff_eq.mpr rfl)]
/-- t + u of tuples, kept as it is said -/
structure rCatQ (K : PySem.W.Frag) (x y : V) (H : Hp) (Q : VK) : Prop where
  h : rCatA K x y H Q
theorem op_catQ {X : Cx} : OpR X (binaryOp .Add) (rCatQ X.K) := fun pins s σ H x y v u Q I rx ry h => op_catA pins s σ H x y v u Q I rx ry h.h
/-- t + u of tuples, whatever of them is empty -/
theorem cat_q {K : PySem.W.Frag} {H0 H : Hp} {a b : Addr} {xs ys : List V} {Q : VK} (ha : H0 a = some (.tup xs)) (hb : H b = some (.tup ys)) (hl : xs.length + ys.length ≤ sizeLine) (s : Same H0 H) (q : ∀ t H', Same H0 H' → H' t = some (.tup (xs ++ ys)) → Q (.ref t) H') : rCatQ K (.ref a) (.ref b) H Q := by
  refine ⟨a, b, xs, ys, rfl, rfl, SqT.of (s _ _ ha), SqT.of hb, hl, fun e => ?_, fun _ e => ?_, fun _ _ p hp => q p _ (s.trans (same_new hp)) upd_same⟩
  · exact q b H s (by rw [hb, e]; rfl)
  · exact q a H s (by rw [s _ _ ha, e, List.append_nil])
section
variable {P : Program} {w : World} {K : PySem.W.Frag} {mg : Str → Option Value} {base : Heap} {f fS fW fN fC fL fI fU fH fA fK C Cn Cc Cl Cnl : Addr} {fd fdS fdW fdN fdC fdL fdI fdU fdH fdA fdK : FuncData}
/-! ### World.__eq__ -/
def REq (C : Addr) : Addr → Addr → Hp → Prop := fun a b H => ∃ ds, WorldAt H a C ds ∧ WorldAt H b C ds
theorem sc_worldEq : FnScope ["self", "other"] ["self", "other"] (defScope (inClass (top 20) 8)) := ⟨rfl, rfl, rfl, by decide +kernel, rfl, by decide +kernel, by decide +kernel⟩
theorem ok_worldEq (F : FnM K "__eq__" "World.__eq__" (inClass (top 20) 8) f fd) (B : Fr mg) (TC : ClsWorld K mg C) (TI : IsiC K C) (mC : mg "World" = some (.ref C)) : FnOk P w K mg base CX0 1 f fd ["self", "other"] (spEq (REq C)) ∧ Binds K fd ["self", "other"] [] := by
  refine ⟨F.ok sc_worldEq (fun vs H Q E h => ?_) (fun cdv A outer s H vs Q E hr h => ?_), F.bindsN fun _ _ _ _ _ _ us hl => match us, hl with | [_, _], _ => rfl⟩
  · obtain ⟨a, b, rfl, _⟩ := h
    rfl
  · obtain ⟨a, b, rfl, ⟨ds, ha, hb⟩, k⟩ := h
    obtain ⟨dx, ac, _, _, _, _, _, cs, _, _, _, _, h1, h2, h3, _⟩ := ha
    obtain ⟨dy, bc, _, _, _, _, _, cs', _, _, _, _, g1, g2, g3, _⟩ := hb
    refine ⟨_, PSs.nox (pss_one (ps_ret (pe_and (pe_callB call_isi (by rfl) B.isinstance PyProof.Rows.boot_isinstance (pa_cons (pv 1) (pa_cons (pe_glob (v := .ref C) (by rfl) mC rfl) pa_nil)))
      (pe_one (pe_cmpR (op_eqD hr.units) (pe_fld (pv 0) rfl) (pe_fld (pv 1) rfl) (nomark _)))))), ?_⟩
    refine ⟨_, rfl, .ref b, .ref C, .ref C, .ref C, true, rfl, .own C, .base (.ins g1 TC.cl TI.cla TI.get TI.takes TI.obj), kit_self, _, rfl, iteT' rfl ?_⟩
    refine ⟨_, rfl, a, C, dx, _, _, rfl, h1, TC.cl, TC.no _ (List.mem_of_getElem? (i := 0) rfl), rfl, _, rfl, b, C, dy, _, _, rfl, g1, TC.cl, TC.no _ (List.mem_of_getElem? (i := 0) rfl), rfl, dEnts ds, dEnts ds, .tup (SqT.of h2) (dp_ents h3), .tup (SqT.of g2) (dp_ents g3), (lay_ents ds).shaped (by decide), (lay_ents ds).shaped (by decide), ?_⟩
    rw [(lay_ents ds).refl]
    exact k H Ext.rfl'
/-! ### hue_fault -/
theorem worldEld {H : Hp} {p C : Addr} {ds : List Ent} (h : WorldAt H p C ds) {x : Nat} (hx : x < ds.length) : ∃ (dx : Addr) (fs : List (Str × V)) (ae : Addr) (es : List V) (t : Addr), H p = some (.ins C dx fs) ∧ List.lookup ("elders" : Str) fs = some (V.ref ae) ∧ H ae = some (.tup es) ∧ es[x]? = some (.ref t) ∧ H t = some (.tup (((elsOf ds).getD x []).map natV)) := h.elder hx
end
theorem ListsAt.sameAll {H H' : Hp} (s : Same H H') : ∀ {vs : List V} {ls : List (List Nat)}, ListsAt H vs ls → ListsAt H' vs ls
  | [], [], _ => .nil
  | _ :: _, _ :: _, .cons ⟨t, e, h⟩ r => .cons ⟨t, e, s _ _ h⟩ (ListsAt.sameAll s r)
def rLenS (K : PySem.W.Frag) : List V → Hp → VK → Prop := fun xs H Q => ∃ p ys, xs = [.ref p] ∧ (SqL K H p ys ∨ SqT K H p ys) ∧ Q (.int ys.length) H
theorem call_lenS {X : Cx} : CallR X (.builtin "len") (rLenS X.K) := call_len_seq
theorem Ty0.isTup {K : PySem.W.Frag} {H : Hp} {x : V} {t : String} (h : Ty0 H x t) : PySem.W.kitOne K (.type t) (.type "tuple") = some (t == "tuple") := by
  cases h <;> exact kit_ty (by decide +kernel)
theorem Ty0.isStr {K : PySem.W.Frag} {H : Hp} {x : V} {t : String} (h : Ty0 H x t) : PySem.W.kitOne K (.type t) (.type "str") = some (t == "str") := by
  cases h <;> exact kit_ty (by decide +kernel)
/-- a plain thing: None, a bool, a number, a text -/
def Flat : V → Prop
  | .non => True
  | .bl _ => True
  | .int _ => True
  | .str _ => True
  | _ => False
/-- the thing is just what is due: plain, or tuples of such, n deep -/
def TupR (H : Hp) (a : Addr) (xs : List V) : Prop := Rd H a (.tup xs)
theorem TupR.of {H : Hp} {a : Addr} {xs : List V} (h : H a = some (.tup xs)) : TupR H a xs := .inl h
theorem TupR.same {H H' : Hp} {a : Addr} {xs : List V} (h : TupR H a xs) (s : Same H H') : TupR H' a xs := by
  rcases h with h | ⟨o, h⟩
  · exact .inl (s _ _ h)
  · exact .inr ⟨o, s _ _ h⟩
theorem TupR.sq {K : PySem.W.Frag} {H : Hp} {a : Addr} {xs : List V} (h : TupR H a xs) : SqT K H a xs := .inl h
theorem TupR.ty {K : PySem.W.Frag} {H : Hp} {a : Addr} {xs : List V} (h : TupR H a xs) : TyX K H (.ref a) (.type "tuple") := by
  rcases h with h | ⟨o, h⟩
  · exact .base (.tup h)
  · exact .fTuple h
theorem kit_tup {K : PySem.W.Frag} : PySem.W.kitOne K (.type "tuple") (.type "tuple") = some true := kit_ty (by decide +kernel)
def Exact (H : Hp) : Nat → V → V → Prop
  | 0, x, d => x = d ∧ Flat d
  | n + 1, x, d => (x = d ∧ Flat d) ∨ ∃ a b xs ys, x = .ref a ∧ d = .ref b ∧ TupR H a xs ∧ TupR H b ys ∧ xs.length = ys.length ∧ ys.length ≤ 1000 ∧ ∀ (i : Nat) (u v : V), xs[i]? = some u → ys[i]? = some v → Exact H n u v
theorem Exact.same {H H' : Hp} (s : Same H H') : ∀ {n : Nat} {x d : V}, Exact H n x d → Exact H' n x d
  | 0, _, _, h => h
  | n + 1, _, _, .inl h => .inl h
  | n + 1, _, _, .inr ⟨a, b, xs, ys, e1, e2, h1, h2, h3, h5, h4⟩ => .inr ⟨a, b, xs, ys, e1, e2, h1.same s, h2.same s, h3, h5, fun i u v hu hv => (h4 i u v hu hv).same s⟩
def spExact (n : Nat) : Sp := fun vs H Q _ => ∃ x d, vs = [x, d] ∧ Exact H n x d ∧ ∀ H', Same H H' → Q (.bl true) H'
section
variable {P : Program} {w : World} {K : PySem.W.Frag} {mg : Str → Option Value} {base : Heap} {f fI : Addr} {fd fdI : FuncData}
def spInt : Sp := fun vs H Q _ => ∃ i, vs = [.int i] ∧ Q (.bl true) H
theorem sc_exact : FnScope ["_law_told", "_law_due", "_law_at"] ["_law_told", "_law_due"] (defScope (top 42)) := ⟨rfl, rfl, rfl, by decide +kernel, rfl, by decide +kernel, by decide +kernel⟩
end
theorem flat_hV (o : Option Nat) : Flat (hV o) := by cases o <;> exact True.intro
theorem Exact.flat {H : Hp} {x : V} (n : Nat) (h : Flat x) : Exact H n x x := by
  cases n with
  | zero => exact ⟨rfl, h⟩
  | succ n => exact .inl ⟨rfl, h⟩
theorem Exact.tup {H : Hp} {a b : Addr} {xs : List V} (n : Nat) (ha : H a = some (.tup xs)) (hb : H b = some (.tup xs)) (hf : ∀ x ∈ xs, Flat x) (hz : xs.length ≤ 1000) : Exact H (n + 1) (.ref a) (.ref b) :=
  .inr ⟨a, b, xs, xs, rfl, rfl, .inl ha, .inl hb, rfl, hz, fun i u v hu hv => by
    rw [hu] at hv
    rw [← Option.some.inj hv]
    exact Exact.flat n (hf u (List.mem_of_getElem? hu))⟩
theorem passOut {X : Cx} {E : XK} : Passes (L2.CX X.prog X.w) X (fun _ _ _ => False) := fun _ _ _ _ _ _ _ h => by
  obtain ⟨_, _, _, _, _, _, _, _, _, _, _, _, h⟩ := h
  exact h.elim
theorem kin_props {ds : List Ent} (ok : DsOk ds) {x : Nat} (h : x < ds.length) : ((kins (elsOf ds)).getD x []).Pairwise (· < ·) ∧ (∀ k ∈ (kins (elsOf ds)).getD x [], k ≤ x) := by
  have z := kin_up (ds.map (·.1)) x (by rw [List.length_map]; exact h)
  rw [← kins_getD (by rw [elders_len, List.length_map]; exact h)] at z
  exact z
theorem kin_len {ds : List Ent} (ok : DsOk ds) {x : Nat} (h : x < ds.length) (h12 : ds.length ≤ 12) : ((kins (elsOf ds)).getD x []).length ≤ 12 := by
  obtain ⟨u, l⟩ := kin_props ok h
  have h1 := nodup_sub_len' (ns := List.range 12) (up_nodup u) fun k hk => List.mem_range.mpr (by have := l k hk; omega)
  rw [List.length_range] at h1
  exact h1
theorem sortN_nat {l : List Nat} (up : l.Pairwise (· < ·)) (h6 : ∀ m ∈ l, m < 6) : (sortN l).map natV = l.map natV := by
  have e : ((sortN l).map fun (n : Nat) => (n : Int)).map V.int = (sortN l).map natV := by
    rw [List.map_map]
    rfl
  rw [← e]
  refine asc_one ?_ up fun k => ?_
  · have u : (sortN l).Pairwise (· < ·) := List.Pairwise.filter _ List.pairwise_lt_range
    exact List.pairwise_map.mpr (u.imp fun z => by omega)
  · rw [List.mem_map]
    constructor
    · rintro ⟨n, hn, rfl⟩
      unfold sortN at hn
      rw [List.mem_filter] at hn
      exact ⟨n, by simpa using hn.2, rfl⟩
    · rintro ⟨n, hn, rfl⟩
      refine ⟨n, ?_, rfl⟩
      unfold sortN
      rw [List.mem_filter, List.mem_range]
      exact ⟨h6 n hn, by simpa using hn⟩
section
variable {P : Program} {w : World} {K : PySem.W.Frag} {mg : Str → Option Value} {base : Heap} {f fS fW fN fC fL fI fU fH fA fWW fWI C Cn Cc Cl Cnl Ck Cb : Addr} {fd fdS fdW fdN fdC fdL fdI fdU fdH fdA fdWW fdWI : FuncData}
def spWithC (C : Addr) : Sp := fun vs H Q _ => ∃ (p ab am : Addr) (ds : List Ent) (d : Ent), vs = [.ref p, .ref ab, natV d.2.1, .ref am] ∧ WorldAt H p C ds ∧ DsOk ds ∧ ds.length + 1 ≤ 12 ∧ SeqAt H ab (d.1.map natV) ∧ SeqAt H am (d.2.2.map natV) ∧ EOk ds.length d ∧
  ∀ p' H', Same H H' → H p' = none → WorldAt H' p' C (ds ++ [d]) → Q (.ref p') H'
end
theorem els_app {ds : List Ent} {d : Ent} {c : Nat} (h : c < ds.length) : (elsOf (ds ++ [d])).getD c [] = (elsOf ds).getD c [] := by
  unfold elsOf
  have e : (List.map (·.1) (ds ++ [d])).take ds.length = ds.map (·.1) := by
    rw [List.map_append, List.take_append_of_le_length (by rw [List.length_map]; exact Nat.le_refl _), List.take_of_length_le (by rw [List.length_map]; exact Nat.le_refl _)]
  rw [← elders_getD_take (c := ds.length) h, e]
theorem els_fst {ds : List Ent} {d e : Ent} (h : d.1 = e.1) : elsOf (ds ++ [d]) = elsOf (ds ++ [e]) := by
  unfold elsOf
  rw [List.map_append, List.map_append, List.map_cons, List.map_cons, h]
theorem kins_app {ds : List Ent} {d : Ent} {c : Nat} (h : c < ds.length) : (kins (elsOf (ds ++ [d]))).getD c [] = (kins (elsOf ds)).getD c [] := by
  rw [kins_els (by rw [List.length_append]; omega), kins_els h, els_app h]
theorem kinsL {ds : List Ent} : (kins (elsOf ds)).length = ds.length := by rw [kins_len, elsOf_len]
theorem DsOk.kins {ds : List Ent} (ok : DsOk ds) : KinsOk (kins (elsOf ds)) := kins_ok ok.valid
def PairsAt (H : Hp) : List V → List (Nat × Nat) → Prop := Paired fun v p => ∃ t, v = .ref t ∧ H t = some (.tup [natV p.1, natV p.2])
theorem PairsAt.keep {H H' : Hp} {R : Addr} {us0 : List V} (hR : H R = some (.lst us0)) (s : Oth R H H') : ∀ {us : List V} {ps : List (Nat × Nat)}, PairsAt H us ps → PairsAt H' us ps
  | [], [], _ => .nil
  | _ :: _, _ :: _, .cons ⟨t, e, h⟩ r => .cons ⟨t, e, s _ _ (fun z => by rw [z, hR] at h; cases h) h⟩ (PairsAt.keep hR s r)
theorem PairsAt.same {H H' : Hp} (s : Same H H') : ∀ {us : List V} {ps : List (Nat × Nat)}, PairsAt H us ps → PairsAt H' us ps
  | [], [], _ => .nil
  | _ :: _, _ :: _, .cons ⟨t, e, h⟩ r => .cons ⟨t, e, s _ _ h⟩ (PairsAt.same s r)
theorem PairsAt.app {H : Hp} : ∀ {vs us : List V} {ls ms : List (Nat × Nat)}, PairsAt H vs ls → PairsAt H us ms → PairsAt H (vs ++ us) (ls ++ ms)
  | [], _, [], _, _, h => h
  | _ :: _, _, _ :: _, _, .cons h r, s => .cons h (PairsAt.app r s)
theorem PairsAt.len {H : Hp} {vs : List V} {ls : List (Nat × Nat)} (h : PairsAt H vs ls) : vs.length = ls.length := Paired.length h
def dPair (p : Nat × Nat) : PyData := .tuple [.int (p.1 : Int), .int (p.2 : Int)]
theorem dp_pairs {K : PySem.W.Frag} {H : Hp} : ∀ {us : List V} {ps : List (Nat × Nat)}, PairsAt H us ps → DpAll K H us (ps.map dPair)
  | [], [], _ => .nil
  | _ :: _, _ :: _, .cons ⟨t, e, h⟩ r => by
    rw [e]
    exact .cons (.tup (SqT.of h) (.cons (.int _) (.cons (.int _) .nil))) (dp_pairs r)
theorem lay_pair (p : Nat × Nat) : LayD 1 (dPair p) := LayD.tup fun d hd => by
  rcases List.mem_cons.mp hd with rfl | hd
  · exact .int _
  · rw [List.mem_singleton.mp hd]
    exact .int _
theorem LayD.lst {n : Nat} {ds : List PyData} (h : ∀ d ∈ ds, LayD n d) : LayD (n + 1) (.list ds) := by
  obtain ⟨h1, h2⟩ := lay_all h
  refine ⟨by simp [PyData.canLay0, h1], ?_⟩
  simp only [PyData.depth]
  omega
theorem lay_pairs (ps : List (Nat × Nat)) : LayD 2 (.list (ps.map dPair)) := LayD.lst fun d hd => by
  obtain ⟨p, _, rfl⟩ := List.mem_map.mp hd
  exact lay_pair p
theorem eqv_pair (p q : Nat × Nat) : PyData.eqv (dPair p) (dPair q) = decide (p = q) := by
  obtain ⟨a, b⟩ := p
  obtain ⟨c, d⟩ := q
  have e : PyData.eqv (dPair (a, b)) (dPair (c, d)) = (((a : Int) == (c : Int)) && (((b : Int) == (d : Int)) && true)) := by simp only [dPair, PyData.eqv, PyData.eqvAll]
  rw [e, Bool.eq_iff_iff, Bool.and_eq_true, Bool.and_true, beq_iff_eq, beq_iff_eq, decide_eq_true_eq]
  constructor
  · rintro ⟨h1, h2⟩
    rw [show a = c by omega, show b = d by omega]
  · intro h
    cases h
    exact ⟨rfl, rfl⟩
theorem any_pair (ps : List (Nat × Nat)) (q : Nat × Nat) : ((ps.map dPair).any fun z => PyData.eqv z (dPair q)) = decide (q ∈ ps) := by
  rw [Bool.eq_iff_iff, List.any_eq_true, decide_eq_true_eq]
  constructor
  · rintro ⟨z, hz, e⟩
    obtain ⟨p, hp, rfl⟩ := List.mem_map.mp hz
    rw [eqv_pair, decide_eq_true_eq] at e
    rw [← e]
    exact hp
  · intro h
    exact ⟨_, List.mem_map_of_mem h, by rw [eqv_pair, decide_eq_true_eq]⟩
def SortP (ps : List (Nat × Nat)) : Prop := ps.Pairwise fun p q => p.1 < q.1 ∨ (p.1 = q.1 ∧ p.2 < q.2)
theorem SortP.snoc {ps : List (Nat × Nat)} {a b : Nat} (h : SortP ps) (z : ∀ p ∈ ps, p.1 < a ∨ (p.1 = a ∧ p.2 < b)) : SortP (ps ++ [(a, b)]) := by
  unfold SortP
  rw [List.pairwise_append]
  refine ⟨h, List.pairwise_singleton _ _, fun p hp q hq => ?_⟩
  rw [List.mem_singleton.mp hq]
  exact z p hp
theorem sortP_one : ∀ {ps qs : List (Nat × Nat)}, SortP ps → SortP qs → (∀ p, p ∈ ps ↔ p ∈ qs) → ps = qs
  | [], [], _, _, _ => rfl
  | [], q :: _, _, _, h => by have := (h q).mpr List.mem_cons_self; cases this
  | p :: _, [], _, _, h => by have := (h p).mp List.mem_cons_self; cases this
  | p :: ps, q :: qs, hp, hq, h => by
    obtain ⟨p1, p2⟩ := List.pairwise_cons.mp hp
    obtain ⟨q1, q2⟩ := List.pairwise_cons.mp hq
    have e : p = q := by
      have a := (h p).mp List.mem_cons_self
      have b := (h q).mpr List.mem_cons_self
      rcases List.mem_cons.mp a with a | a
      · exact a
      · rcases List.mem_cons.mp b with b | b
        · exact b.symm
        · have x := q1 p a
          have y := p1 q b
          omega
    subst e
    have np : p ∉ ps := fun z => by have := p1 p z; omega
    have nq : p ∉ qs := fun z => by have := q1 p z; omega
    rw [sortP_one p2 q2 fun r => ⟨fun hr => ?_, fun hr => ?_⟩]
    · rcases List.mem_cons.mp ((h r).mp (List.mem_cons_of_mem _ hr)) with e | e
      · rw [e] at hr
        exact (np hr).elim
      · exact e
    · rcases List.mem_cons.mp ((h r).mpr (List.mem_cons_of_mem _ hr)) with e | e
      · rw [e] at hr
        exact (nq hr).elim
      · exact e
theorem room65 {k : Nat} {A : Around} (r : Room k A) : A.units + 65 < cLine := by
  have := r.un
  omega
theorem nodup_sub_len'' {α : Type} [DecidableEq α] {ks ns : List α} (hn : ks.Nodup) (hs : ∀ k ∈ ks, k ∈ ns) : ks.length ≤ ns.length := Kw.nodup_sub_len hn hs
def lx : List Nat → List Nat → Bool
  | [], [] => false
  | [], _ :: _ => true
  | _ :: _, [] => false
  | a :: as, b :: bs => decide (a < b) || (decide (a = b) && lx as bs)
theorem lx_cons {a b : Nat} {as bs : List Nat} : lx (a :: as) (b :: bs) = true ↔ a < b ∨ (a = b ∧ lx as bs = true) := by
  simp [lx]
theorem lx_refl : ∀ l, lx l l = false
  | [] => rfl
  | a :: as => by
    simp [lx, lx_refl as]
theorem lx_anti : ∀ {l m : List Nat}, lx l m = false → lx m l = false → l = m
  | [], [], _, _ => rfl
  | [], _ :: _, h, _ => by simp [lx] at h
  | _ :: _, [], _, h => by simp [lx] at h
  | a :: as, b :: bs, h1, h2 => by
    have e1 : (a < b ∨ (a = b ∧ lx as bs = true)) → False := fun z => by
      have := lx_cons.mpr z
      rw [h1] at this
      cases this
    have e2 : (b < a ∨ (b = a ∧ lx bs as = true)) → False := fun z => by
      have := lx_cons.mpr z
      rw [h2] at this
      cases this
    have : a = b := by
      apply Classical.byContradiction
      intro q
      rcases Nat.lt_or_gt_of_ne q with z | z
      · exact e1 (.inl z)
      · exact e2 (.inl z)
    subst this
    have t1 : lx as bs = false := by
      cases c : lx as bs with
      | false => rfl
      | true => exact (e1 (.inr ⟨rfl, c⟩)).elim
    have t2 : lx bs as = false := by
      cases c : lx bs as with
      | false => rfl
      | true => exact (e2 (.inr ⟨rfl, c⟩)).elim
    rw [lx_anti t1 t2]
theorem lx_trans : ∀ {l m k : List Nat}, lx l m = true → lx m k = true → lx l k = true
  | [], [], _, h, _ => by simp [lx] at h
  | [], _ :: _, [], _, h => by simp [lx] at h
  | [], _ :: _, _ :: _, _, _ => rfl
  | _ :: _, [], _, h, _ => by simp [lx] at h
  | _ :: _, _ :: _, [], _, h => by simp [lx] at h
  | a :: as, b :: bs, c :: cs, h1, h2 => by
    rw [lx_cons] at *
    rcases h1 with h1 | ⟨rfl, h1⟩
    · rcases h2 with h2 | ⟨rfl, h2⟩
      · exact .inl (by omega)
      · exact .inl h1
    · rcases h2 with h2 | ⟨rfl, h2⟩
      · exact .inl h2
      · exact .inr ⟨rfl, lx_trans h1 h2⟩
theorem lx_pre : ∀ (p : List Nat) {a b : Nat} (as bs : List Nat), a < b → lx (p ++ a :: as) (p ++ b :: bs) = true
  | [], _, _, _, _, h => lx_cons.mpr (.inl h)
  | _ :: p, _, _, as, bs, h => lx_cons.mpr (.inr ⟨rfl, lx_pre p as bs h⟩)
theorem lx_pre_same : ∀ (p l m : List Nat), lx (p ++ l) (p ++ m) = lx l m
  | [], _, _ => rfl
  | a :: p, l, m => by
    show lx (a :: (p ++ l)) (a :: (p ++ m)) = _
    rw [← lx_pre_same p l m]
    simp [lx]
theorem lx_app : ∀ {l m : List Nat} (p q : List Nat), l.length = m.length → lx l m = true → lx (l ++ p) (m ++ q) = true
  | [], [], _, _, _, h => by simp [lx] at h
  | [], _ :: _, _, _, e, _ => by simp at e
  | _ :: _, [], _, _, e, _ => by simp at e
  | a :: as, b :: bs, p, q, e, h => by
    rw [lx_cons] at h
    show lx (a :: (as ++ p)) (b :: (bs ++ q)) = true
    rw [lx_cons]
    rcases h with h | ⟨rfl, h⟩
    · exact .inl h
    · exact .inr ⟨rfl, lx_app p q (by simpa using e) h⟩
theorem getD_snoc (r : List Nat) (h i : Nat) : (r ++ [h]).getD i 0 = if i < r.length then r.getD i 0 else if i = r.length then h else 0 := by
  by_cases c : i < r.length
  · rw [if_pos c, List.getD_eq_getElem?_getD, List.getElem?_append_left c, ← List.getD_eq_getElem?_getD]
  · rw [if_neg c, List.getD_eq_getElem?_getD, List.getElem?_append_right (by omega)]
    by_cases q : i = r.length
    · rw [if_pos q, q, Nat.sub_self]
      rfl
    · rw [if_neg q, List.getElem?_eq_none (by rw [List.length_singleton]; omega)]
      rfl
def firstS {α : Type} (k : Nat) (f : Nat → Option α) : Option α := (List.range k).findSome? f
theorem firstS_succ {α : Type} {k : Nat} {f : Nat → Option α} : firstS (k + 1) f = (firstS k f).or (f k) := by
  unfold firstS
  rw [List.range_succ, List.findSome?_append]
  congr 1
  simp [List.findSome?]
  cases f k <;> rfl
theorem firstS_none {α : Type} {f : Nat → Option α} : ∀ {k : Nat}, firstS k f = none ↔ ∀ h, h < k → f h = none
  | 0 => ⟨fun _ _ h => absurd h (Nat.not_lt_zero _), fun _ => rfl⟩
  | k + 1 => by
    rw [firstS_succ, Option.or_eq_none_iff, firstS_none (k := k)]
    constructor
    · rintro ⟨h1, h2⟩ h hh
      by_cases q : h < k
      · exact h1 h q
      · rw [show h = k by omega]
        exact h2
    · intro h
      exact ⟨fun j hj => h j (by omega), h k (by omega)⟩
theorem firstS_some {α : Type} {f : Nat → Option α} {r : α} : ∀ {k : Nat}, firstS k f = some r ↔ ∃ h, h < k ∧ f h = some r ∧ ∀ j, j < h → f j = none
  | 0 => ⟨(fun h => by cases h), fun ⟨_, h, _⟩ => absurd h (Nat.not_lt_zero _)⟩
  | k + 1 => by
    rw [firstS_succ]
    constructor
    · intro h
      cases e : firstS k f with
      | some z =>
        rw [e] at h
        obtain rfl := Option.some.inj h
        obtain ⟨j, hj, h2, h3⟩ := firstS_some.mp e
        exact ⟨j, by omega, h2, h3⟩
      | none =>
        rw [e] at h
        exact ⟨k, by omega, h, fun j hj => firstS_none.mp e j hj⟩
    · rintro ⟨h, hh, h2, h3⟩
      by_cases q : h < k
      · rw [firstS_some.mpr ⟨h, q, h2, h3⟩]
        rfl
      · have : h = k := by omega
        subst this
        rw [firstS_none.mpr h3]
        exact h2
/-! ### min of a list of lists or tuples of numbers -/
def dR (tup : Bool) (r : List Nat) : PyData := if tup = true then .tuple (r.map fun (n : Nat) => .int (n : Int)) else .list (r.map fun (n : Nat) => .int (n : Int))
def toksN (r : List Nat) : List (Int ⊕ List Nat) := PySem.W.keyToksAll (r.map fun (n : Nat) => .int (n : Int))
theorem keyToks_dR (tup : Bool) (r : List Nat) : PySem.W.keyToks (dR tup r) = toksN r := by
  unfold dR toksN
  cases tup <;> simp [PySem.W.keyToks]
theorem alike_ints : ∀ (r s : List Nat), PySem.W.alikeAll (r.map fun (n : Nat) => PyData.int (n : Int)) (s.map fun (n : Nat) => PyData.int (n : Int)) = true
  | [], [] => by simp [PySem.W.alikeAll]
  | [], _ :: _ => by simp [PySem.W.alikeAll]
  | _ :: _, [] => by simp [PySem.W.alikeAll]
  | a :: r, b :: s => by
    rw [List.map_cons, List.map_cons, PySem.W.alikeAll, alike_ints r s]
    simp [PySem.W.alike]
theorem alike_dR (tup : Bool) (r s : List Nat) : PySem.W.alike (dR tup r) (dR tup s) = true := by
  unfold dR
  cases tup
  · show PySem.W.alike (.list _) (.list _) = true
    rw [PySem.W.alike]
    exact alike_ints r s
  · show PySem.W.alike (.tuple _) (.tuple _) = true
    rw [PySem.W.alike]
    exact alike_ints r s
theorem dR_inj {tup : Bool} : ∀ {r s : List Nat}, dR tup r = dR tup s → r = s := by
  intro r s h
  have e : (r.map fun (n : Nat) => PyData.int (n : Int)) = s.map fun (n : Nat) => PyData.int (n : Int) := by
    unfold dR at h
    cases tup
    · exact PyData.list.inj h
    · exact PyData.tuple.inj h
  refine List.map_inj_right (f := fun (n : Nat) => PyData.int (n : Int)) (fun a b h => ?_) |>.mp e
  have := PyData.int.inj h
  omega
theorem lt_toks : ∀ (r s : List Nat), PyProof.Rows.lexLt itemOrd (toksN r) (toksN s) = lx r s
  | [], [] => by
    unfold toksN
    simp only [List.map_nil]
    rw [PySem.W.keyToksAll]
    decide
  | [], b :: s => by
    unfold toksN
    rw [List.map_nil, List.map_cons, PySem.W.toks_all_cons, PySem.W.keyToksAll, PySem.W.lex_atom (by simp)]
    show _ = true
    decide
  | a :: r, [] => by
    unfold toksN
    rw [List.map_nil, List.map_cons, PySem.W.toks_all_cons, PySem.W.keyToksAll, PySem.W.lex_atom (by simp)]
    show _ = false
    decide
  | a :: r, b :: s => by
    have ha : PySem.W.alike (.int (a : Int)) (.int (b : Int)) = true := by simp [PySem.W.alike]
    unfold toksN
    rw [List.map_cons, List.map_cons]
    cases e : PyData.eqv (.int (a : Int)) (.int (b : Int)) with
    | true =>
      rw [PySem.W.dataLt_all_yes ha e]
      have z : a = b := by
        have : ((a : Int) == (b : Int)) = true := by simpa only [PyData.eqv] using e
        have := beq_iff_eq.mp this
        omega
      have ih := lt_toks r s
      unfold toksN at ih
      rw [ih, z]
      simp [lx]
    | false =>
      rw [PySem.W.dataLt_all_no ha e, PySem.W.dataLt_int]
      have z : a ≠ b := by
        intro z
        have : ((a : Int) == (b : Int)) = false := by simpa only [PyData.eqv] using e
        rw [z] at this
        simp at this
      rw [Bool.eq_iff_iff, lx_cons, decide_eq_true_eq]
      constructor
      · intro h
        exact .inl (by omega)
      · rintro (h | h)
        · omega
        · exact (z h.1).elim
theorem lt_dR (tup : Bool) (r s : List Nat) : PySem.W.dataLt (dR tup r) (dR tup s) = lx r s := by
  unfold PySem.W.dataLt
  rw [keyToks_dR, keyToks_dR, lt_toks]
def minL (r : List Nat) (rs : List (List Nat)) : List Nat := rs.foldl (fun a y => if lx y a = true then y else a) r
theorem minD_dR (tup : Bool) : ∀ (rs : List (List Nat)) (r : List Nat), PySem.W.minD (dR tup r) (rs.map (dR tup)) = dR tup (minL r rs)
  | [], r => rfl
  | s :: rs, r => by
    show PySem.W.minD (if PySem.W.dataLt (dR tup s) (dR tup r) = true then dR tup s else dR tup r) (rs.map (dR tup)) = dR tup (minL (if lx s r = true then s else r) rs)
    rw [lt_dR]
    cases c : lx s r with
    | true => exact minD_dR tup rs s
    | false => exact minD_dR tup rs r
theorem minL_spec : ∀ (rs : List (List Nat)) (r : List Nat), minL r rs ∈ r :: rs ∧ ∀ y ∈ r :: rs, lx y (minL r rs) = false
  | [], r => ⟨List.mem_cons_self, fun y hy => by rw [List.mem_singleton.mp hy]; exact lx_refl _⟩
  | s :: rs, r => by
    show minL (if lx s r = true then s else r) rs ∈ _ ∧ ∀ y ∈ _, lx y (minL (if lx s r = true then s else r) rs) = false
    cases c : lx s r with
    | true =>
      rw [if_pos rfl]
      obtain ⟨h1, h2⟩ := minL_spec rs s
      refine ⟨List.mem_cons_of_mem _ h1, fun y hy => ?_⟩
      rcases List.mem_cons.mp hy with rfl | hy
      · cases d : lx y (minL s rs) with
        | false => rfl
        | true =>
          have := lx_trans c d
          rw [h2 s List.mem_cons_self] at this
          cases this
      · exact h2 y hy
    | false =>
      rw [if_neg (by decide)]
      obtain ⟨h1, h2⟩ := minL_spec rs r
      refine ⟨?_, fun y hy => ?_⟩
      · rcases List.mem_cons.mp h1 with h1 | h1
        · rw [h1]
          exact List.mem_cons_self
        · exact List.mem_cons_of_mem _ (List.mem_cons_of_mem _ h1)
      · rcases List.mem_cons.mp hy with rfl | hy
        · exact h2 y List.mem_cons_self
        · rcases List.mem_cons.mp hy with rfl | hy
          · cases d : lx y (minL r rs) with
            | false => rfl
            | true =>
              -- y before the least, r not behind y
              have q : lx r (minL r rs) = false := h2 r List.mem_cons_self
              by_cases e : r = y
              · rw [← e, q] at d
                cases d
              · cases x : lx r y with
                | true =>
                  have := lx_trans x d
                  rw [q] at this
                  cases this
                | false => exact (e (lx_anti x c)).elim
          · exact h2 y (List.mem_cons_of_mem _ hy)
theorem depth_ints : ∀ r : List Nat, PyData.depthAll (r.map fun (n : Nat) => PyData.int (n : Int)) = 0
  | [] => by simp [PyData.depthAll]
  | a :: r => by
    rw [List.map_cons, PyData.depthAll, depth_ints r]
    simp [PyData.depth]
theorem depth_dR (tup : Bool) (r : List Nat) : (dR tup r).depth ≤ 1 := by
  unfold dR
  cases tup
  · show (PyData.list _).depth ≤ 1
    rw [PyData.depth, depth_ints]
    exact Nat.le_refl _
  · show (PyData.tuple _).depth ≤ 1
    rw [PyData.depth, depth_ints]
    exact Nat.le_refl _
theorem depthAll_dR (tup : Bool) : ∀ rs : List (List Nat), PyData.depthAll (rs.map (dR tup)) ≤ 1
  | [] => by simp [PyData.depthAll]
  | r :: rs => by
    rw [List.map_cons, PyData.depthAll]
    have := depth_dR tup r
    have := depthAll_dR tup rs
    omega
theorem vals_at {us : List V} {its : List Value} (h : Vals us its) (i : Nat) (v : Value) (hv : its[i]? = some v) : ∃ u, us[i]? = some u ∧ RelV u v := by
  have h : Paired RelV us its := h
  induction h generalizing i with
  | nil => cases hv
  | cons r _ ih =>
    cases i with
    | zero =>
      obtain rfl := Option.some.inj hv
      exact ⟨_, rfl, r⟩
    | succ i => exact ih (by assumption) i hv
/-- min(xs), xs a list of lists (or of tuples) of whole numbers: one that none stands before -/
def rMinN (K : PySem.W.Frag) (tup : Bool) : List V → Hp → VK → Prop := fun vs H Q => ∃ (a : Addr) (us : List V) (rows : List (List Nat)), vs = [.ref a] ∧ SqL K H a us ∧ DpAll K H us (rows.map (dR tup)) ∧ rows ≠ [] ∧
  ∀ (i : Nat) (u : V) (r : List Nat), us[i]? = some u → rows[i]? = some r → (∀ s ∈ rows, lx s r = false) → Q u H
theorem cr_minN {X : Cx} (tup : Bool) (hc : X.calm = true) (hu : X.A.units + 65 < cLine) : CallR X (.builtin "min") (rMinN X.K tup) := by
  intro pins s σ H vs us Q I r h
  obtain ⟨a, ws, rows, rfl, hs, hd, hne, q⟩ := h
  obtain ⟨its, rv, hl, _⟩ := I.list hs
  rw [Vals.ref1 r]
  obtain ⟨as, hr⟩ := Dp.readsAll I _ _ _ hd rv
  match rows, hne with
  | r0 :: rows, _ =>
    have ha : PySem.W.AlikeAll ((r0 :: rows).map (dR tup)) := by
      refine ⟨fun x hx y hy => ?_, fun x hx => ?_⟩
      · obtain ⟨p, _, rfl⟩ := List.mem_map.mp hx
        obtain ⟨p', _, rfl⟩ := List.mem_map.mp hy
        exact alike_dR tup _ _
      · obtain ⟨p, _, rfl⟩ := List.mem_map.mp hx
        unfold dR
        cases tup <;> simp
    have hdep := depthAll_dR tup (r0 :: rows)
    refine PySem.W.min_list_data (x := dR tup r0) (xs := rows.map (dR tup)) (I.ok.hd hc) hl.isList hr ha (by have : PyData.depthAll (dR tup r0 :: rows.map (dR tup)) ≤ 1 := hdep; omega) fun i v h' tk bs hv rd hk => ?_
    have hv' : its[i]? = some v := by
      rw [← hv]
      simp
    obtain ⟨u, hu1, hu2⟩ := vals_at rv i v hv'
    have hr' : ReadsAll s.heap its ((r0 :: rows).map (dR tup)) as := hr
    obtain ⟨bs2, rd2, hi, _, _⟩ := PySem.W.readsAll_at hr' i v hv'
    rw [List.length_map] at hi
    obtain ⟨ri, hri⟩ : ∃ ri, (r0 :: rows)[i]? = some ri := ⟨_, List.getElem?_eq_getElem hi⟩
    have e1 : ((r0 :: rows).map (dR tup)).getD i .none = dR tup ri := by
      rw [List.getD_eq_getElem?_getD, List.getElem?_map, hri]
      rfl
    rw [e1] at rd2
    rw [minD_dR] at rd
    have e2 := PySem.W.alike_unique _ _ _ _ _ (alike_dR tup ri (minL r0 rows)) (PySem.W.reads_keeps hk rd2) rd
    have e3 := dR_inj e2
    exact ⟨u, H, I.kept hk, hu2, q i u ri hu1 hri fun y hy => by rw [e3]; exact (minL_spec rows r0).2 y hy⟩
/-- the inner walk of a comprehension over two ranges -/
theorem lc2_in {m : Nat} {lo : Int} {g1 : TG} {tt1 : TT} {te : TE} {vs1 : List Nat} {σ2 : L2.St} {H4 : Hp} {D : Addr} {Nx : Hp → Prop} (Pw : Nat → Hp → Prop) (h0 : Pw 0 H4)
    (hs : ∀ j H, j < m → Pw j H → g1 (.int (lo + (j : Int))) (wipe σ2 vs1) H fun σ3 H5 => wipe σ3 vs1 = wipe σ2 vs1 ∧ tt1 σ3 H5 fun b H6 =>
        if b = true then te σ3 H6 fun y H7 => ∃ acc, H7 D = some (.lst acc) ∧ acc.length < sizeLine ∧ Pw (j + 1) (upd H7 D (.lst (acc ++ [y]))) else Pw (j + 1) H6)
    (hd : ∀ H, Pw m H → Nx H) :
    ∃ W1 : Nat → Nat → Hp → Prop, (∃ m, W1 0 m H4) ∧ ∀ j k H, W1 j k H →
        ((Itr lo m).stop j H ∧ Nx H) ∨ ((Itr lo m).go j H ∧ ∃ Nx1 : Hp → Prop, (∀ H', Nx1 H' → ∃ k', k' < k ∧ W1 (j + 1) k' H') ∧ ∀ x H', (Itr lo m).yld j H x H' → g1 x (wipe σ2 vs1) H' fun σ3 H5 => wipe σ3 vs1 = wipe σ2 vs1 ∧ tt1 σ3 H5 fun b H6 =>
          if b = true then te σ3 H6 fun y H7 => ∃ acc, H7 D = some (.lst acc) ∧ acc.length < sizeLine ∧ Nx1 (upd H7 D (.lst (acc ++ [y]))) else Nx1 H6) := by
  refine ⟨fun i k H => k = m - i ∧ i ≤ m ∧ Pw i H, ⟨m, by simp, Nat.zero_le _, h0⟩, ?_⟩
  rintro i k H ⟨rfl, hi, p⟩
  by_cases hlt : i < m
  · refine .inr ⟨hlt, Pw (i + 1), fun H' p' => ⟨m - (i + 1), by omega, rfl, hlt, p'⟩, fun x H' y => ?_⟩
    obtain ⟨e, y⟩ := y
    subst e y
    exact hs i _ hlt p
  · have e : i = m := by omega
    subst e
    exact .inl ⟨Nat.le_refl _, hd _ p⟩
/-- the outer walk, over a range -/
theorem lc2_out {n : Nat} {lo : Int} {wi1 : TI} {g g1 : TG} {tt tt1 : TT} {te : TE} {vs vs1 : List Nat} {σ : L2.St} {H1 : Hp} {D : Addr} {Qd : Hp → Prop} (Pv : Nat → Hp → Prop) (h0 : Pv 0 (upd H1 D (.lst [])))
    (hs : ∀ i H, i < n → Pv i H → ∀ Nx : Hp → Prop, (∀ H', Pv (i + 1) H' → Nx H') → g (.int (lo + (i : Int))) (wipe σ vs) H fun σ2 H2 => wipe σ2 vs = wipe σ vs ∧ tt σ2 H2 fun b H3 => if b = true then wi1 σ2 H3 fun J1 H4 => ∃ W1 : Nat → Nat → Hp → Prop, (∃ m, W1 0 m H4) ∧ ∀ j k H, W1 j k H →
        (J1.stop j H ∧ Nx H) ∨ (J1.go j H ∧ ∃ Nx1 : Hp → Prop, (∀ H', Nx1 H' → ∃ k', k' < k ∧ W1 (j + 1) k' H') ∧ ∀ x H', J1.yld j H x H' → g1 x (wipe σ2 vs1) H' fun σ3 H5 => wipe σ3 vs1 = wipe σ2 vs1 ∧ tt1 σ3 H5 fun b H6 =>
          if b = true then te σ3 H6 fun y H7 => ∃ acc, H7 D = some (.lst acc) ∧ acc.length < sizeLine ∧ Nx1 (upd H7 D (.lst (acc ++ [y]))) else Nx1 H6) else Nx H3)
    (hd : ∀ H, Pv n H → Qd H) :
    ∃ W : Nat → Nat → Hp → Prop, (∃ m, W 0 m (upd H1 D (.lst []))) ∧ ∀ i m H, W i m H →
  ((Itr lo n).stop i H ∧ Qd H) ∨ ((Itr lo n).go i H ∧ ∃ Nx : Hp → Prop, (∀ H', Nx H' → ∃ m', m' < m ∧ W (i + 1) m' H') ∧ ∀ x H', (Itr lo n).yld i H x H' → g x (wipe σ vs) H' fun σ2 H2 => wipe σ2 vs = wipe σ vs ∧ tt σ2 H2 fun b H3 =>
    if b = true then wi1 σ2 H3 fun J1 H4 => ∃ W1 : Nat → Nat → Hp → Prop, (∃ m, W1 0 m H4) ∧ ∀ j k H, W1 j k H →
        (J1.stop j H ∧ Nx H) ∨ (J1.go j H ∧ ∃ Nx1 : Hp → Prop, (∀ H', Nx1 H' → ∃ k', k' < k ∧ W1 (j + 1) k' H') ∧ ∀ x H', J1.yld j H x H' → g1 x (wipe σ2 vs1) H' fun σ3 H5 => wipe σ3 vs1 = wipe σ2 vs1 ∧ tt1 σ3 H5 fun b H6 =>
          if b = true then te σ3 H6 fun y H7 => ∃ acc, H7 D = some (.lst acc) ∧ acc.length < sizeLine ∧ Nx1 (upd H7 D (.lst (acc ++ [y]))) else Nx1 H6) else Nx H3) := by
  refine ⟨fun i k H => k = n - i ∧ i ≤ n ∧ Pv i H, ⟨n, by simp, Nat.zero_le _, h0⟩, ?_⟩
  rintro i k H ⟨rfl, hi, p⟩
  by_cases hlt : i < n
  · refine .inr ⟨hlt, Pv (i + 1), fun H' p' => ⟨n - (i + 1), by omega, rfl, hlt, p'⟩, fun x H' y => ?_⟩
    obtain ⟨e, y⟩ := y
    subst e y
    exact hs i _ hlt p _ fun _ z => z
  · have e : i = n := by omega
    subst e
    exact .inl ⟨Nat.le_refl _, hd _ p⟩
/-- the outer walk, over a list that stands still -/
theorem lc2_outL {K : PySem.W.Frag} {a : Addr} {xs : List V} {wi1 : TI} {g g1 : TG} {tt tt1 : TT} {te : TE} {vs vs1 : List Nat} {σ : L2.St} {H1 : Hp} {D : Addr} {Qd : Hp → Prop} (Pv : Nat → Hp → Prop) (h0 : Pv 0 (upd H1 D (.lst []))) (hl : ∀ i H, i ≤ xs.length → Pv i H → SqL K H a xs)
    (hs : ∀ i x H, xs[i]? = some x → Pv i H → ∀ Nx : Hp → Prop, (∀ H', Pv (i + 1) H' → Nx H') → g x (wipe σ vs) H fun σ2 H2 => wipe σ2 vs = wipe σ vs ∧ tt σ2 H2 fun b H3 => if b = true then wi1 σ2 H3 fun J1 H4 => ∃ W1 : Nat → Nat → Hp → Prop, (∃ m, W1 0 m H4) ∧ ∀ j k H, W1 j k H →
        (J1.stop j H ∧ Nx H) ∨ (J1.go j H ∧ ∃ Nx1 : Hp → Prop, (∀ H', Nx1 H' → ∃ k', k' < k ∧ W1 (j + 1) k' H') ∧ ∀ x H', J1.yld j H x H' → g1 x (wipe σ2 vs1) H' fun σ3 H5 => wipe σ3 vs1 = wipe σ2 vs1 ∧ tt1 σ3 H5 fun b H6 =>
          if b = true then te σ3 H6 fun y H7 => ∃ acc, H7 D = some (.lst acc) ∧ acc.length < sizeLine ∧ Nx1 (upd H7 D (.lst (acc ++ [y]))) else Nx1 H6) else Nx H3)
    (hd : ∀ H, Pv xs.length H → Qd H) :
    ∃ W : Nat → Nat → Hp → Prop, (∃ m, W 0 m (upd H1 D (.lst []))) ∧ ∀ i m H, W i m H →
  ((Itl K a).stop i H ∧ Qd H) ∨ ((Itl K a).go i H ∧ ∃ Nx : Hp → Prop, (∀ H', Nx H' → ∃ m', m' < m ∧ W (i + 1) m' H') ∧ ∀ x H', (Itl K a).yld i H x H' → g x (wipe σ vs) H' fun σ2 H2 => wipe σ2 vs = wipe σ vs ∧ tt σ2 H2 fun b H3 =>
    if b = true then wi1 σ2 H3 fun J1 H4 => ∃ W1 : Nat → Nat → Hp → Prop, (∃ m, W1 0 m H4) ∧ ∀ j k H, W1 j k H →
        (J1.stop j H ∧ Nx H) ∨ (J1.go j H ∧ ∃ Nx1 : Hp → Prop, (∀ H', Nx1 H' → ∃ k', k' < k ∧ W1 (j + 1) k' H') ∧ ∀ x H', J1.yld j H x H' → g1 x (wipe σ2 vs1) H' fun σ3 H5 => wipe σ3 vs1 = wipe σ2 vs1 ∧ tt1 σ3 H5 fun b H6 =>
          if b = true then te σ3 H6 fun y H7 => ∃ acc, H7 D = some (.lst acc) ∧ acc.length < sizeLine ∧ Nx1 (upd H7 D (.lst (acc ++ [y]))) else Nx1 H6) else Nx H3) := by
  refine ⟨fun i m H => m = xs.length - i ∧ i ≤ xs.length ∧ Pv i H, ⟨xs.length, by simp, Nat.zero_le _, h0⟩, ?_⟩
  rintro i m H ⟨rfl, hi, p⟩
  have q := hl i H hi p
  by_cases hlt : i < xs.length
  · refine .inr ⟨⟨xs, xs[i], q, by simp [hlt]⟩, Pv (i + 1), fun H' p' => ⟨xs.length - (i + 1), by omega, rfl, hlt, p'⟩, fun x H' y => ?_⟩
    obtain ⟨e, y⟩ := y
    subst e
    exact hs i x _ (y xs q) p _ fun _ z => z
  · have e : i = xs.length := by omega
    subst e
    exact .inl ⟨⟨xs, q, Nat.le_refl _⟩, hd H p⟩
theorem PairsAt.at {H : Hp} {us : List V} {ps : List (Nat × Nat)} (h : PairsAt H us ps) : ∀ {j : Nat} {v : V}, us[j]? = some v → ∃ p t, ps[j]? = some p ∧ v = .ref t ∧ H t = some (.tup [natV p.1, natV p.2]) := by
  have h : Paired (fun v (p : Nat × Nat) => ∃ t, v = .ref t ∧ H t = some (.tup [natV p.1, natV p.2])) us ps := h
  induction h with
  | nil => intro j v hv; cases hv
  | cons r _ ih =>
    intro j v hv
    cases j with
    | zero =>
      obtain rfl := Option.some.inj hv
      obtain ⟨t, e, ht⟩ := r
      exact ⟨_, t, rfl, e, ht⟩
    | succ j => exact ih (by assumption) hv
/-- x in t, t a tuple of data -/
def rInDT (K : PySem.W.Frag) : R2 := fun x y H Q => ∃ d ds, Dp K H x d ∧ Dp K H y (.tuple ds) ∧ SeqAt.shaped d = true ∧ SeqAt.shaped (.tuple ds) = true ∧ Q (.bl (ds.any fun z => PyData.eqv z d)) H
theorem op_inDT {X : Cx} (hu : X.A.units + 65 < cLine) : OpR X (compareOp .In) (rInDT X.K) := by
  intro pins s σ H x y v u Q I rx ry h
  obtain ⟨d, ds, hd, he, sd, se, q⟩ := h
  obtain ⟨as, r1⟩ := Dp.reads I d x v hd rx
  obtain ⟨bs, r2⟩ := Dp.reads I (.tuple ds) y u he ry
  exact SeqAt.in_tuple_reads r2 r1 (SeqAt.canLay_of_shaped se) (SeqAt.canLay_of_shaped sd) (room_in_shaped sd hu) ⟨.bl _, H, I, rfl, q⟩
theorem lay_pairsT (ps : List (Nat × Nat)) : LayD 2 (.tuple (ps.map dPair)) := LayD.tup fun d hd => by
  obtain ⟨p, _, rfl⟩ := List.mem_map.mp hd
  exact lay_pair p
theorem TupsAt.keep {H H' : Hp} {R : Addr} {us0 : List V} (hR : H R = some (.lst us0)) (s : Oth R H H') {us : List V} {ls : List (List Nat)} (h : TupsAt H us ls) : TupsAt H' us ls :=
  h.mono fun b xs e => s b _ (fun z => by rw [z, hR] at e; cases e) e
theorem TupsAt.at {H : Hp} {us : List V} {ls : List (List Nat)} (h : TupsAt H us ls) {j : Nat} {v : V} (hv : us[j]? = some v) : ∃ l t, ls[j]? = some l ∧ v = .ref t ∧ H t = some (.tup (l.map natV)) := by
  have hj : j < ls.length := by
    rw [← h.len]
    exact (List.getElem?_eq_some_iff.mp hv).1
  obtain ⟨t, e, ht⟩ := h.get (List.getElem?_eq_getElem hj)
  rw [hv] at e
  exact ⟨_, t, List.getElem?_eq_getElem hj, Option.some.inj e, ht⟩
theorem LsN.of_lists {R : Addr} {H : Hp} (hn : ∀ t o, H t = some o → t ≠ R) : ∀ {vs : List V} {ls : List (List Nat)}, ListsAt H vs ls → LsN R H vs ls
  | [], [], _ => .nil
  | _ :: _, _ :: _, .cons ⟨t, e, h⟩ r => .cons ⟨t, e, hn _ _ h, h⟩ (LsN.of_lists hn r)
theorem dp_lists {K : PySem.W.Frag} {H : Hp} : ∀ {vs : List V} {ls : List (List Nat)}, ListsAt H vs ls → DpAll K H vs (ls.map (dR false))
  | [], [], _ => .nil
  | _ :: _, _ :: _, .cons ⟨t, e, h⟩ r => by
    rw [e]
    exact .cons (.lst (SqL.of h) (dp_nats _)) (dp_lists r)
theorem dp_tupR {K : PySem.W.Frag} {H : Hp} : ∀ {vs : List V} {ls : List (List Nat)}, TupsAt H vs ls → DpAll K H vs (ls.map (dR true))
  | [], [], _ => .nil
  | _ :: _, _ :: _, .cons ⟨t, e, h⟩ r => by
    rw [e]
    exact .cons (.tup (SqT.of h) (dp_nats _)) (dp_tupR r)
theorem row_ints (row : List Nat) (z : Int) : row.map natV ++ [V.int z] = (row.map (fun (n : Nat) => (n : Int)) ++ [z]).map V.int := by
  rw [List.map_append, List.map_map]
  rfl
def HandLike (o : HO) : Prop := ∃ q i r t, o = .lst [.ref q, .int i, .int r, .int t]
def KI (H H' : Hp) : Prop := ∀ b o, H b = some o → ¬ HandLike o → H' b = some o
theorem KI.of {H H' : Hp} (s : Same H H') : KI H H' := fun b o e _ => s b o e
theorem KI.trans {H H1 H2 : Hp} (a : KI H H1) (b : KI H1 H2) : KI H H2 := fun c o e n => b c o (a c o e n) n
theorem KI.oth {p q : Addr} {H H' : Hp} (O : Oth p H H') (h : HandAt H p q) : KI H H' := fun b o e n => O b o (fun z => by
  obtain ⟨cs, i, r, t, h1, _⟩ := h
  rw [z, h1] at e
  exact n ⟨_, _, _, _, (Option.some.inj e).symm⟩) e
theorem nh_tup {xs : List V} : ¬ HandLike (.tup xs) := fun ⟨_, _, _, _, e⟩ => by cases e
theorem nh_ins {C dx : Addr} {fs : List (Str × V)} : ¬ HandLike (.ins C dx fs) := fun ⟨_, _, _, _, e⟩ => by cases e
theorem nh_hues {hs : List (Option Nat)} : ¬ HandLike (.lst (hs.map hV)) := fun ⟨_, _, _, _, e⟩ => by
  cases hs with
  | nil => cases e
  | cons o r =>
    injection e with e
    injection e with e _
    cases o <;> cases e
theorem nh_nats {l : List Nat} : ¬ HandLike (.lst (l.map natV)) := fun ⟨_, _, _, _, e⟩ => by
  cases l with
  | nil => cases e
  | cons n r =>
    injection e with e
    injection e with e _
    cases e
theorem nh_refs {us : List V} (h : ∀ v ∈ us, ∃ a, v = .ref a) : ¬ HandLike (.lst us) := fun ⟨_, i, _, _, e⟩ => by
  injection e with e
  obtain ⟨a, z⟩ := h (.int i) (by rw [e]; exact List.mem_cons_of_mem _ List.mem_cons_self)
  cases z
theorem RwN.refs {R : Addr} {H : Hp} : ∀ {vs : List V} {ls : List Ent}, RwN R H vs ls → ∀ v ∈ vs, ∃ a, v = .ref a
  | [], [], _, v, hv => by cases hv
  | _ :: _, _ :: _, .cons ⟨t, b, m, e, _⟩ r, v, hv => by
    rcases List.mem_cons.mp hv with z | hv
    · exact ⟨t, z.trans e⟩
    · exact RwN.refs r v hv
theorem ListsAt.refs {H : Hp} : ∀ {vs : List V} {ls : List (List Nat)}, ListsAt H vs ls → ∀ v ∈ vs, ∃ a, v = .ref a
  | [], [], _, v, hv => by cases hv
  | _ :: _, _ :: _, .cons ⟨t, e, _⟩ r, v, hv => by
    rcases List.mem_cons.mp hv with z | hv
    · exact ⟨t, z.trans e⟩
    · exact ListsAt.refs r v hv
theorem RwN.ki {R : Addr} {H H' : Hp} (k : KI H H') : ∀ {vs : List V} {ls : List Ent}, RwN R H vs ls → RwN R H' vs ls
  | [], [], _ => .nil
  | _ :: _, _ :: _, .cons ⟨t, b, m, e, n1, h1, n2, h2, n3, h3⟩ r => .cons ⟨t, b, m, e, n1, k _ _ h1 nh_tup, n2, k _ _ h2 nh_nats, n3, k _ _ h3 nh_nats⟩ (RwN.ki k r)
theorem RwN.new {R R' : Addr} {H : Hp} (hn : H R' = none) : ∀ {vs : List V} {ls : List Ent}, RwN R H vs ls → RwN R' H vs ls
  | [], [], _ => .nil
  | _ :: _, _ :: _, .cons ⟨t, b, m, e, n1, h1, n2, h2, n3, h3⟩ r => .cons ⟨t, b, m, e, ne_of_none h1 hn, h1, ne_of_none h2 hn, h2, ne_of_none h3 hn, h3⟩ (RwN.new hn r)
theorem ListsAt.ki {H H' : Hp} (k : KI H H') : ∀ {vs : List V} {ls : List (List Nat)}, ListsAt H vs ls → ListsAt H' vs ls
  | [], [], _ => .nil
  | _ :: _, _ :: _, .cons ⟨t, e, h⟩ r => .cons ⟨t, e, k _ _ h nh_nats⟩ (ListsAt.ki k r)
theorem WorldAt.ki {H H' : Hp} {p C : Addr} {ds : List Ent} (h : WorldAt H p C ds) (k : KI H H') : WorldAt H' p C ds := by
  have kt : TupK H H' := fun b xs e => k b _ e nh_tup
  obtain ⟨dx, ac, ab, ao, am, ae, ah, cs, bs, ms, es, hs, h1, h2, h3, h4, h5, h6, h7, h8, h9, h10, h11, h12⟩ := h
  exact ⟨dx, ac, ab, ao, am, ae, ah, cs, bs, ms, es, hs, k _ _ h1 nh_ins, kt _ _ h2, h3.mono kt, kt _ _ h4, h5.mono kt, kt _ _ h6, kt _ _ h7, h8.mono kt, kt _ _ h9, h10.mono kt, kt _ _ h11, h12.mono kt⟩
theorem HandAt.ne_of {H : Hp} {p q b : Addr} {o : HO} (h : HandAt H p q) (e : H b = some o) (n : ¬ HandLike o) : b ≠ p := fun z => by
  obtain ⟨cs, i, r, t, h1, _⟩ := h
  rw [z, h1] at e
  exact n ⟨_, _, _, _, (Option.some.inj e).symm⟩
section
variable {P : Program} {w : World} {K : PySem.W.Frag} {C Cb : Addr}
theorem world_q {H : Hp} {wp wdx l : Addr} {us : List V} {ds : List Ent} {Q : VK} {E : XK} (hl : H l = some (.lst us)) (hR : RwN l H us ds) (ok : DsOk ds) (h0 : 1 ≤ ds.length) (h12 : ds.length ≤ 12) (hwp : H wp = none) (hwdx : H wdx = none) (wne : wdx ≠ wp) (q : ∀ H', Same H H' → WorldAt H' wp C ds → Q .non H') :
    spWorld C Cb (.ref wp :: ([.ref l] ++ [])) (upd (upd H wdx (.own wp)) wp (.ins C wdx [])) Q E := by
  have s7 := (same_new (o := .own wp) hwdx).trans (same_new (o := .ins C wdx []) (by rw [upd_ne (Ne.symm wne)]; exact hwp))
  have W7 : upd (upd H wdx (.own wp)) wp (.ins C wdx []) wp = some (.ins C wdx []) := upd_same
  generalize upd (upd H wdx (.own wp)) wp (.ins C wdx []) = G7 at s7 W7 ⊢
  have usl := hR.len
  exact ⟨wp, wdx, .ref l, rfl, W7, .inr ⟨l, us, ds, rfl, .inl (s7 _ _ hl), by omega, by omega, by omega, (hR.keep (KeepX.of s7)).entries ok, .inr ⟨usl.symm, fun H8 O8 hW => q H8 (fun b u e => O8 b u (ne_of_none e hwp) (s7 _ _ e)) hW⟩⟩⟩
end
/-- max(t), t a tuple of whole numbers -/
def rMaxT (K : PySem.W.Frag) : List V → Hp → VK → Prop := fun vs H Q => ∃ (a : Addr) (ns : List Int), vs = [V.ref a] ∧ SqT K H a (ns.map V.int) ∧ 0 < ns.length ∧ ∀ m, m ∈ ns → (∀ y, y ∈ ns → y ≤ m) → Q (.int m) H
theorem foldl_max : ∀ (ns : List Int) (n : Int), n ≤ ns.foldl max n ∧ ∀ y ∈ ns, y ≤ ns.foldl max n
  | [], n => ⟨by show n ≤ n; omega, fun y hy => by cases hy⟩
  | a :: r, n => by
    obtain ⟨h1, h2⟩ := foldl_max r (max n a)
    show n ≤ r.foldl max (max n a) ∧ ∀ y ∈ a :: r, y ≤ r.foldl max (max n a)
    refine ⟨by omega, fun y hy => ?_⟩
    rcases List.mem_cons.mp hy with rfl | hy
    · omega
    · exact h2 y hy
theorem dp_ints {K : PySem.W.Frag} {H : Hp} : ∀ ns : List Int, DpAll K H (ns.map V.int) (ns.map .int)
  | [] => .nil
  | n :: r => .cons (.int _) (dp_ints r)
theorem depth_intsI : ∀ ns : List Int, PyData.depthAll (ns.map .int) = 0
  | [] => by simp [PyData.depthAll]
  | a :: r => by
    rw [List.map_cons, PyData.depthAll, depth_intsI r]
    simp [PyData.depth]
theorem call_maxT {X : Cx} (hc : X.calm = true) (hu : X.A.units + 65 < cLine) : CallR X (.builtin "max") (rMaxT X.K) := by
  intro pins s σ H vs us Q I r h
  obtain ⟨a, ns, rfl, hs, hne, q⟩ := h
  obtain ⟨its, rv, hl, _⟩ := I.tuple hs
  rw [Vals.ref1 r]
  obtain ⟨as, hr⟩ := Dp.readsAll I _ _ _ (dp_ints (K := X.K) (H := H) ns) rv
  match ns, hne with
  | n :: ns, _ =>
    have ha : PySem.W.AlikeAll ((n :: ns).map PyData.int) := by
      refine ⟨fun x hx y hy => ?_, fun x hx => ?_⟩
      · obtain ⟨p, _, rfl⟩ := List.mem_map.mp hx
        obtain ⟨p', _, rfl⟩ := List.mem_map.mp hy
        simp [PySem.W.alike]
      · obtain ⟨p, _, rfl⟩ := List.mem_map.mp hx
        simp
    have hdep := depth_intsI (n :: ns)
    refine PySem.W.max_tuple_data (x := .int n) (xs := ns.map .int) (I.ok.hd hc) hl hr ha (by have : PyData.depthAll (.int n :: ns.map .int) = 0 := hdep; omega) fun i v h' tk bs hv rd hk => ?_
    have hv' : its[i]? = some v := by
      rw [← hv]
      simp
    obtain ⟨u, hu1, hu2⟩ := vals_at rv i v hv'
    have hr' : ReadsAll s.heap its ((n :: ns).map PyData.int) as := hr
    obtain ⟨bs2, rd2, hi, _, _⟩ := PySem.W.readsAll_at hr' i v hv'
    rw [List.length_map] at hi
    obtain ⟨ri, hri⟩ : ∃ ri, (n :: ns)[i]? = some ri := ⟨_, List.getElem?_eq_getElem hi⟩
    have e1 : ((n :: ns).map PyData.int).getD i .none = .int ri := by
      rw [List.getD_eq_getElem?_getD, List.getElem?_map, hri]
      rfl
    rw [e1] at rd2
    rw [PySem.W.maxD_ints] at rd
    have e2 := PySem.W.alike_unique (.int ri) (.int (ns.foldl max n)) _ _ _ (by simp [PySem.W.alike]) (PySem.W.reads_keeps hk rd2) rd
    have e3 : ri = ns.foldl max n := PyData.int.inj e2
    rw [List.getElem?_map, hri] at hu1
    obtain rfl := Option.some.inj hu1
    refine ⟨.int ri, H, I.kept hk, hu2, q ri (List.mem_of_getElem? hri) fun y hy => ?_⟩
    obtain ⟨h1, h2⟩ := foldl_max ns n
    rw [e3]
    rcases List.mem_cons.mp hy with rfl | hy
    · exact h1
    · exact h2 y hy
theorem tIfS_join {c : TT} {tb te : TS} {nx bk ct : L2.St → Hp → Prop} {rt : VK} {σ : L2.St} {H : Hp} (Inv : L2.St → Hp → Prop) (k : ∀ σ H, Inv σ H → nx σ H) (h : ∀ N : L2.St → Hp → Prop, (∀ σ H, Inv σ H → N σ H) → tIfS c tb te ⟨N, rt, bk, ct⟩ σ H) : tIfS c tb te ⟨nx, rt, bk, ct⟩ σ H := h nx k
theorem RwN.set {R : Addr} {H : Hp} {t b m : Addr} {d : Ent} (n1 : t ≠ R) (h1 : H t = some (.tup [.ref b, natV d.2.1, .ref m])) (n2 : b ≠ R) (h2 : H b = some (.lst (d.1.map natV))) (n3 : m ≠ R) (h3 : H m = some (.lst (d.2.2.map natV))) : ∀ {vs : List V} {ls : List Ent} (i : Nat), RwN R H vs ls → RwN R H (vs.set i (.ref t)) (ls.set i d)
  | [], [], _, _ => .nil
  | _ :: _, _ :: _, 0, .cons _ r => .cons ⟨t, b, m, rfl, n1, h1, n2, h2, n3, h3⟩ r
  | _ :: _, _ :: _, i + 1, .cons z r => .cons z (RwN.set n1 h1 n2 h2 n3 h3 i r)
theorem exact_pairs {H : Hp} {t1 t2 : Addr} {us1 us2 : List V} {ps : List (Nat × Nat)} (h1 : H t1 = some (.tup us1)) (h2 : H t2 = some (.tup us2)) (hP1 : PairsAt H us1 ps) (hP2 : PairsAt H us2 ps) (hl : ps.length ≤ 1000) : Exact H 2 (.ref t1) (.ref t2) := by
  refine .inr ⟨t1, t2, us1, us2, rfl, rfl, .inl h1, .inl h2, by rw [hP1.len, hP2.len], by rw [hP2.len]; exact hl, fun i u v hu hv => ?_⟩
  obtain ⟨p1, a1, e1, rfl, g1⟩ := hP1.at hu
  obtain ⟨p2, a2, e2, rfl, g2⟩ := hP2.at hv
  rw [e1] at e2
  obtain rfl := Option.some.inj e2
  exact Exact.tup 0 g1 g2 (fun v hv => by
    rcases List.mem_cons.mp hv with rfl | hv
    · exact True.intro
    · rw [List.mem_singleton.mp hv]
      exact True.intro) (by show 2 ≤ 1000; decide)
theorem tIf_join {c : TT} {a b : TE} {σ : L2.St} {H : Hp} {Q : VK} (Inv : V → Hp → Prop) (k : ∀ v H, Inv v H → Q v H) (h : ∀ Q' : VK, (∀ v H, Inv v H → Q' v H) → tIf c a b σ H Q') : tIf c a b σ H Q := h Q k
end K12

set_option maxRecDepth 100000
set_option maxHeartbeats 8000000
namespace K12
open PySem PySem.Spec PyProof.Rows L2 Kw
section
variable {P : Program} {w : World} {K : PySem.W.Frag} {mg : Str → Option Value} {base : Heap} {f fW fN fC C Cn : Addr} {fd fdW fdN fdC : FuncData}
def spOnLine (C Cn : Addr) : Sp := fun vs H Q E => ∃ (p : Addr) (a b : V) (ta tb : String) (ds : List Ent), vs = [.ref p, a, b] ∧ WorldAt H p C ds ∧ Ty0 H a ta ∧ Ty0 H b tb ∧
  ((wholeB (.int 0) (.int ((ds.length : Int) - 1)) a = false ∧ ∀ d H', Same H H' → H' d = some (.xd (errF ["cls"] [a])) → E (.ref Cn) (some d) H') ∨
   (wholeB (.int 0) (.int ((ds.length : Int) - 1)) a = true ∧ wholeB (.int 0) (.int ((ds.length : Int) - 1)) b = false ∧ ∀ d H', Same H H' → H' d = some (.xd (errF ["cls"] [b])) → E (.ref Cn) (some d) H') ∨
   ∃ x y : Nat, a = natV x ∧ b = natV y ∧ x < ds.length ∧ y < ds.length ∧ ∀ H', Same H H' → Q (.bl (onLine (elsOf ds) x y)) H')
theorem sc_onLine : FnScope ["world", "a", "b"] ["world", "a", "b"] (defScope (top 14)) := ⟨rfl, rfl, rfl, by decide +kernel, rfl, by decide +kernel, by decide +kernel⟩
theorem ok_onLine (F : FnP K "on_line" 14 f fd) (B : Fr mg) (TC : ClsWorld K mg C) (FC : FnP K "check_class" 13 fC fdC) (mC : mg "check_class" = some (.ref fC)) (FW : FnDf K "is_whole" 10 [.non, .non] fW fdW) (mW : mg "is_whole" = some (.ref fW)) (FN : FnM K "__init__" "NoClass.__init__" (inClass (top 4) 0) fN fdN) (TN : ErrX K mg "NoClass" ["cls"] Cn fN) :
    FnOk P w K mg base (L2.CX P w) 4 f fd ["world", "a", "b"] (spOnLine C Cn) := by
  have GC : FnOk P w K mg base (L2.CX P w) 3 fC fdC ["world", "c"] (spCheck C Cn) := ok_check FC B TC FW mW FN TN
  have bC : L2.Binds K fdC ["world", "c"] [] := FC.bindsN fun _ _ _ _ _ _ us hl => match us, hl with | [_, _], _ => rfl
  refine F.ok sc_onLine (fun vs H Q E h => ?_) (fun cdv A outer s H vs Q E hr h => ?_)
  · obtain ⟨p, a, b, ta, tb, ds, rfl, _⟩ := h
    rfl
  · obtain ⟨p, a, b, ta, tb, ds, rfl, hw, tya, tyb, h⟩ := h
    refine ⟨_, (pss_cons (ps_expr (pe_callS GC hr (by rfl) mC FC.kp bC (fun σ => passAt (takes_of rfl rfl rfl rfl) σ) (pa_cons (pv 0) (pa_cons (pv 1) pa_nil))))
      (pss_cons (ps_expr (pe_callS GC hr (by rfl) mC FC.kp bC (fun σ => passAt (takes_of rfl rfl rfl rfl) σ) (pa_cons (pv 0) (pa_cons (pv 2) pa_nil))))
      (pss_one (ps_ret (pe_or (pe_cmp (pc_eqI (pv 1) (pv 2)) rfl) (pe_or (pe_cmpR (r := rIn K false) op_in_seq (pv 1) (pe_ix (r := rIxT K) ix_tup (pe_fld (pv 0) rfl) (pv 2) (fun _ _ => rfl)) (by rfl)) (pe_one (pe_cmpR (r := rIn K false) op_in_seq (pv 2) (pe_ix (r := rIxT K) ix_tup (pe_fld (pv 0) rfl) (pv 1) (fun _ _ => rfl)) (by rfl))))))))), ?_⟩
    rcases h with ⟨e, k⟩ | ⟨e1, e, k⟩ | ⟨x, y, rfl, rfl, hx, hy, k⟩
    · exact ⟨_, rfl, _, rfl, p, a, ta, ds, rfl, hw, tya, .inr ⟨e, k⟩⟩
    · refine ⟨_, rfl, _, rfl, p, a, ta, ds, rfl, hw, tya, .inl ⟨e1, fun H1 s1 => ?_⟩⟩
      exact ⟨_, rfl, _, rfl, p, b, tb, ds, rfl, hw.mono s1, tyb.same s1, .inr ⟨e, fun d H' s2 z => k d H' (s1.trans s2) z⟩⟩
    · refine ⟨_, rfl, _, rfl, p, _, ta, ds, rfl, hw, tya, .inl ⟨whole_of hx, fun H1 s1 => ?_⟩⟩
      refine ⟨_, rfl, _, rfl, p, _, tb, ds, rfl, hw.mono s1, tyb.same s1, .inl ⟨whole_of hy, fun H2 s2 => ?_⟩⟩
      have hw2 := (hw.mono s1).mono s2
      have k2 := k H2 (s1.trans s2)
      obtain ⟨dx, fs, ae, es, t1, p1, p2, p3, p4, p5⟩ := hw2.elder hy
      obtain ⟨dx', fs', ae', es', t2, q1, q2, q3, q4, q5⟩ := hw2.elder hx
      unfold onLine at k2
      refine ⟨_, rfl, _, rfl, x, y, rfl, rfl, _, rfl, ?_⟩
      by_cases hxy : x = y
      · rw [decide_eq_true hxy, Bool.true_or] at k2
        refine iteT' (decide_eq_true (show (x : Int) = (y : Int) by omega)) k2
      · rw [decide_eq_false hxy, Bool.false_or] at k2
        refine iteF' (decide_eq_false (show ¬ (x : Int) = (y : Int) by omega)) ?_
        refine ⟨_, rfl, _, rfl, p, C, dx, _, _, rfl, p1, TC.cl, TC.no _ (List.mem_of_getElem? (i := 4) rfl), p2, _, rfl, ae, es, (y : Int), _, rfl, rfl, SqT.of p3, atI_nat p4, t1, _, rfl, .inr (SqT.of p5), rfl, flat_nats _, _, rfl, ?_⟩
        have e1 : inV (natV x) (((elsOf ds).getD y []).map natV) = ((elsOf ds).getD y []).contains x := inV_nat _ _
        show (if inV (natV x) (((elsOf ds).getD y []).map natV) = true then _ else _)
        rw [e1]
        cases hc : ((elsOf ds).getD y []).contains x with
        | true =>
          rw [hc, Bool.true_or] at k2
          exact iteT k2
        | false =>
          rw [hc, Bool.false_or] at k2
          refine iteF ⟨_, rfl, _, rfl, p, C, dx', _, _, rfl, q1, TC.cl, TC.no _ (List.mem_of_getElem? (i := 4) rfl), q2, _, rfl, ae', es', (x : Int), _, rfl, rfl, SqT.of q3, atI_nat q4, t2, _, rfl, .inr (SqT.of q5), rfl, flat_nats _, ?_⟩
          have e2 : inV (natV y) (((elsOf ds).getD x []).map natV) = ((elsOf ds).getD x []).contains y := inV_nat _ _
          rw [← e2] at k2
          exact k2
end
end K12

set_option maxRecDepth 100000
set_option maxHeartbeats 4000000
namespace Kw
open PySem PySem.Spec PyProof.Rows L2
/-! ### sets of tuples of ints that grow: set(), add, in -/
/-- a set of tuples at a, what stands in it being there to be read -/
structure TSet (P : Program) (w : World) (K : PySem.W.Frag) (H : Hp) (a : Addr) (L : List (Addr × List Int)) : Prop where
  at_ : H a = some (SetTO P w a L)
  tup : ∀ p ∈ L, H p.1 = some (.tup (p.2.map V.int))
theorem setTO_at {X : Cx} {pins : List (Addr × Obj)} {σ : L2.St} {H : Hp} {s : Shared} {a : Addr} {L : List (Addr × List Int)} (I : Inv X pins σ H s) (h : TSet X.prog X.w X.K H a L) : ∃ es ep t, SetTR X.prog X.w s.heap a L es ep t := by
  have R : SetT0 X.prog X.w s.heap a L := (I.hok a _ h.at_).1
  exact R.full fun p hp => I.isT (SqT.of (h.tup p hp))
def rSet0T (P : Program) (w : World) : List V → Hp → VK → Prop := fun xs H Q => xs = [] ∧ ∀ p, H p = none → Q (.ref p) (upd H p (SetTO P w p []))
theorem cr_set0T {X : Cx} : CallR X (.type "set") (rSet0T X.prog X.w) := by
  intro pins s σ H xs us Q I r h
  obtain ⟨rfl, q⟩ := h
  cases r
  refine setR_new fun _ => ?_
  have new : SetTR X.prog X.w (s.heap.push { cls := .type "set", dict := none, data := .set #[] 0 (.fresh 0 0 (!X.w.params.followText "set-order")) }) s.heap.objs.size [] #[] 0 (.fresh 0 0 (!X.w.params.followText "set-order")) := setTR_fresh (Heap.get?_push_size _ rfl)
  exact ⟨.ref _, upd H s.heap.objs.size (SetTO X.prog X.w s.heap.objs.size []), I.laid (t' := s.toks) (fun b u e => Heap.get?_push_of_some _ e) (Nat.le_refl _) (setTO_new new.t0), rfl, q _ (I.hok.fresh (Nat.le_refl _))⟩
def rSAddT (P : Program) (w : World) (K : PySem.W.Frag) : V → List V → Hp → VK → Prop := fun x xs H Q => ∃ (a b : Addr) (k : List Int) (L : List (Addr × List Int)), x = V.ref a ∧ xs = [V.ref b] ∧ TSet P w K H a L ∧ H b = some (.tup (k.map V.int)) ∧ L.length + 1 < 64 ∧
  ∀ L', (k ∈ L.map (·.2) → L' = L) → (k ∉ L.map (·.2) → L'.Perm ((b, k) :: L)) → Q .non (upd H a (SetTO P w a L'))
theorem mt_saddT {X : Cx} (hu : X.A.units + 64 < cLine) : MtR X "set.add" (rSAddT X.prog X.w X.K) := by
  intro pins s σ H x xs v us Q I rx rxs h
  obtain ⟨a, b, k, L, rfl, rfl, hS, hb, few, q⟩ := h
  cases rx
  cases rxs with
  | cons ry rt =>
    cases rt
    cases ry
    have hu1 : X.A.in1.units < cLine := by
      show X.A.units + 1 < cLine
      omega
    obtain ⟨es, ep, t, R⟩ := setTO_at I hS
    have hx : IsT X.prog X.w s.heap k b := I.isT (SqT.of hb)
    obtain ⟨o, ho, hex, hd⟩ := R.ob
    refine wpAny_call_entry F.slot_set_add ⟨o, ho, hex.1⟩ F.entry_set_add ?_ (F.args_set_add_2 _ _)
    unfold Builtin.«set.add» Builtin.Frozenset.oneOther
    simp only [List.isEmpty_nil, bind_assoc]
    unfold Builtin.Frozenset.addrOf setAdd
    refine wpAny_bind (wpAny_pure ?_)
    try dsimp only
    refine wpAny_bind (wpAny_pure ?_)
    try dsimp only
    refine wpAny_bind ?_
    refine wpAny_holding ?_
    refine wpAny_bind (wpAny_pyHash_tuple hu1 hx ?_)
    refine add_at (s := { s with toks := s.toks + (k.length + 1) }) R hx hu1 few fun b' h' L' es' ep' t' hsb hS2 c1 c2 => ?_
    have he : ∃ u, h'.get? a = some u := by
      obtain ⟨o, ho, _⟩ := hS2.ob
      exact ⟨o, ho⟩
    show wpAny _ _ (ret Value.none) _ _ _
    exact wpAny_pure ⟨_, rfl, ⟨.non, upd H a (SetTO X.prog X.w a L'), I.write (e := a) (t' := s.toks + (k.length + 1)) (by rw [hS.at_]; trivial) (.inl rfl) (fun b u hb hu => (hsb.2 b hb).trans hu) he (setTO_new hS2.t0), rfl, q L' c1 c2⟩⟩
/-! ### in: the search that adds nothing -/
/-- where the search stands behind c steps -/
def prb (t : SetTable) (h : Int) (c : Nat) : SetTable.Probe := nth t.mask (t.probeStart h) c
theorem prb_off {t : SetTable} {h : Int} (c q : Nat) : nth t.mask (prb t h c) q = prb t h (c + q) := (nth_add t.mask c _ q).symm
theorem prb_j {t : SetTable} {h : Int} (c : Nat) : (prb t h c).j = way t.mask h c := rfl
theorem nth_clean {m : Nat} : ∀ (n : Nat) {p : SetTable.Probe}, p.dummy = none → (nth m p n).dummy = none
  | 0, _, e => e
  | n + 1, p, e => nth_clean n (p := adv m p) (by unfold adv; split <;> exact e)
section
variable {P : Program} {w : World} {A : Around} {E : Value → Shared → Prop} {s : Shared} {a x : Addr} {L : List (Addr × List Int)} {es : Array (Int × Value)} {ep : Nat} {t : SetTable} {k : List Int}
theorem look_from (R : SetTR P w s.heap a L es ep t) (hx : IsT P w s.heap k x) (hu : A.units < cLine) {K : Nat} {hk : Int} (ehk : thash P w k = hk) (far : K < 10 * SetTable.turns t.mask) (hole : way t.mask hk K ∉ t.place.toList) (full : ∀ c, c < K → way t.mask hk c ∈ t.place.toList)
    {Q : SetFound → Shared → Prop} (yes : ∀ i, k ∈ L.map (·.2) → Q (.there (some i)) s) (no : k ∉ L.map (·.2) → Q (.free (way t.mask hk K) false) s) :
    ∀ (f c : Nat) (o : Option SetTable.Probe), o.getD (t.probeStart hk) = prb t hk c → c ≤ K → K - c < f →
      (∀ (i : Nat) (p : Addr × List Int), L[i]? = some p → p.2 = k → ∃ d, c ≤ d ∧ d < K ∧ t.place.toList[i]? = some (way t.mask hk d)) →
      wpAny (model P w) A (setSearchFrom a (.ref x) hk false f o) Q E s := by
  intro f
  induction f with
  | zero => exact fun c o _ _ z _ => absurd z (Nat.not_lt_zero _)
  | succ f ih =>
    intro c o eo hc hf ahead
    obtain ⟨ob, hob, hex, hd⟩ := R.ob
    rw [setSearchFrom_succ]
    refine wpAny_bind (wpAny_setState_of hob hd R.fits ?_)
    dsimp only
    refine wp_if_neg R.gw ?_
    try refine wpAny_bind (wpAny_pure ?_)
    have wj : ∀ q, (nth t.mask (prb t hk c) q).j = way t.mask hk (c + q) := fun q => by rw [prb_off, prb_j]
    have at_ : ∀ (i : Nat) (p : Addr × List Int), L[i]? = some p → (es[i]?.map (·.1)).getD 0 = thash P w p.2 := fun i p hp => by rw [R.entry hp]; rfl
    have same : ∀ (i : Nat) (p : Addr × List Int), L[i]? = some p → p.2 = k → (es[i]?.map (·.1)).getD 0 = hk := fun i p hp e => by rw [at_ i p hp, e, ehk]
    rcases go_spec t R.tab.ris R.tab.dm (fun i => (es[i]?.map (·.1)).getD 0) hk (10 * SetTable.turns t.mask) (K - c) (prb t hk c) (nth_clean c rfl) (by omega)
      (fun q hq => by rw [wj]; exact full _ (by omega)) (by rw [wj, show c + (K - c) = K by omega]; exact hole) with ⟨q, i, hq, hi, hh, first, met⟩ | ⟨first, met⟩
    · rw [wj] at hi met
      rw [prb_off] at met
      have met : t.probe (fun i => (es[i]?.map (·.1)).getD 0) hk (o.getD (t.probeStart hk)) = some (.candidate (way t.mask hk (c + q)) i (prb t hk (c + (q + 1)))) := by
        rw [eo]
        exact met
      rw [met]
      dsimp only
      have il : i < L.length := by
        have h1 := (List.getElem?_eq_some_iff.mp hi).1
        have h2 := R.tab.sz
        rw [List.length_map] at h2
        rw [Array.length_toList] at h1
        omega
      obtain ⟨p, hp⟩ : ∃ p, L[i]? = some p := ⟨_, List.getElem?_eq_getElem il⟩
      have pm := List.mem_of_getElem? hp
      have slot := slot_live R.tab.ris hi
      have rest : wpAny (model P w) A (searchRest a (.ref x) hk false f es t (way t.mask hk (c + q)) i (prb t hk (c + (q + 1)))) Q E s := by
        unfold searchRest
        rw [R.entry hp]
        dsimp only
        refine wpAny_bind (wpAny_holding (wpAny_eqBool_tuple hu (R.tup p pm) hx ?_))
        refine wpAny_bind (wpAny_setState_of hob hd R.fits ?_)
        dsimp only
        refine wp_if_neg (by simp) ?_
        try refine wpAny_bind (wpAny_pure ?_)
        rw [sameMem]
        dsimp only
        simp only [if_true, slot, R.entry hp]
        refine wpAny_bind (wpAny_isSame_ref_self (wpAny_bind (wpAny_pure ?_)))
        simp only [if_true]
        by_cases e : p.2 = k
        · refine wp_if_pos (by simp [e]) (wpAny_pure (yes i (List.mem_map.mpr ⟨p, pm, e⟩)))
        · refine wp_if_neg (by simp [e]) (ih (c + (q + 1)) _ rfl (by omega) (by omega) fun j z hz ez => ?_)
          obtain ⟨d, d1, d2, d3⟩ := ahead j z hz ez
          refine ⟨d, Classical.byContradiction fun nd => ?_, d2, d3⟩
          by_cases dq : d = c + q
          · rw [dq] at d3
            have two := slot_live R.tab.ris d3
            rw [slot] at two
            injection two with two
            rw [← two, hp] at hz
            exact e (by rw [Option.some.inj hz]; exact ez)
          · refine first (d - c) j (by omega) (by rw [wj, show c + (d - c) = d by omega]; exact d3) (same j z hz ez)
      by_cases hl : t.led = true
      · refine wp_if_neg (by simp [hl]) ?_
        try refine wpAny_bind (wpAny_pure ?_)
        exact rest
      · refine wp_if_pos (by simp [hl]) (wpAny_bind (seen_tup hx (fun y hy => ?_) ?_))
        · obtain ⟨e, he, rfl⟩ := List.mem_map.mp hy
          have he : e ∈ es.toList := by
            have : e ∈ es ∧ e.1 = hk := by simpa using he
            simpa using this.1
          rw [R.rows] at he
          obtain ⟨z, hz, rfl⟩ := List.mem_map.mp he
          exact ⟨z.2, z.1, rfl, R.tup z hz⟩
        · refine wp_if_neg (by decide) ?_
          try refine wpAny_bind (wpAny_pure ?_)
          exact rest
    · rw [wj, show c + (K - c) = K by omega] at met
      have met : t.probe (fun i => (es[i]?.map (·.1)).getD 0) hk (o.getD (t.probeStart hk)) = some (.empty (way t.mask hk K) none) := by
        rw [eo]
        exact met
      rw [met]
      dsimp only
      refine wpAny_pure (no fun hm => ?_)
      obtain ⟨z, hz, ez⟩ := List.mem_map.mp hm
      obtain ⟨j, hj⟩ := List.mem_iff_getElem?.mp hz
      obtain ⟨d, d1, d2, d3⟩ := ahead j z hj ez
      exact first (d - c) j (by omega) (by rw [wj, show c + (d - c) = d by omega]; exact d3) (same j z hj ez)
theorem look_at (R : SetTR P w s.heap a L es ep t) (hx : IsT P w s.heap k x) (hu : A.units < cLine) {Q : Option Nat → Shared → Prop} (q : ∀ r : Option Nat, r.isSome = decide (k ∈ L.map (·.2)) → Q r s) :
    wpAny (model P w) A (setFind a (.ref x) (thash P w k)) Q E s := by
  obtain ⟨ob, hob, hex, hd⟩ := R.ob
  have hroom := R.room
  obtain ⟨K, far, hole, full⟩ := R.tab.first (by rw [List.length_map]; omega) (thash P w k)
  have big : K < 100000 := by
    have : 10 * SetTable.turns t.mask ≤ 1420 := by
      unfold SetTable.turns
      rcases R.tab.mok with e | e | e <;> omega
    omega
  unfold setFind setFindIn
  refine wpAny_bind (wpAny_setState_of hob hd R.fits ?_)
  dsimp only
  refine wp_if_neg (by simp [byScan, Value.scannable]) ?_
  try refine wpAny_bind (wpAny_pure ?_)
  unfold setSearch
  refine wpAny_bind (look_from R hx hu rfl far hole full (fun i hm => ?_) (fun hm => ?_) 100000 0 none rfl (Nat.zero_le _) (by omega) fun i p hp e => ?_)
  · dsimp only
    exact wpAny_pure (q _ (by rw [decide_eq_true hm]; rfl))
  · dsimp only
    exact wpAny_pure (q _ (by rw [decide_eq_false hm]; rfl))
  · have hi : (L.map fun p => thash P w p.2)[i]? = some (thash P w k) := by rw [List.getElem?_map, hp, ← e]; rfl
    have il : i < t.place.toList.length := by
      have h1 := (List.getElem?_eq_some_iff.mp hp).1
      have h2 := R.tab.sz
      rw [List.length_map] at h2
      rw [Array.length_toList]
      omega
    have hj := List.getElem?_eq_getElem il
    obtain ⟨d, hd, e⟩ := R.tab.before hole hi hj
    exact ⟨d, Nat.zero_le _, hd, by rw [hj, e]⟩
end
def rSInT (P : Program) (w : World) (K : PySem.W.Frag) : V → V → Hp → VK → Prop := fun x y H Q => ∃ (b a : Addr) (k : List Int) (L : List (Addr × List Int)), x = V.ref b ∧ y = V.ref a ∧ H b = some (.tup (k.map V.int)) ∧ TSet P w K H a L ∧ Q (.bl (decide (k ∈ L.map (·.2)))) H
theorem or_sinT {X : Cx} (hu : X.A.units + 64 < cLine) : OpR X (compareOp .In) (rSInT X.prog X.w X.K) := by
  intro pins s σ H x y v u Q I rx ry h
  obtain ⟨b, a, k, L, rfl, rfl, hb, hS, q⟩ := h
  cases rx
  cases ry
  obtain ⟨es, ep, t, R⟩ := setTO_at I hS
  have hx : IsT X.prog X.w s.heap k b := I.isT (SqT.of hb)
  obtain ⟨o, ho, hex, hd⟩ := R.ob
  have hT : s.TypeIs (.ref a) "set" := ⟨o, ho, hex.1⟩
  show wpAny _ _ (do return Value.bool (← contains (Value.ref a) (Value.ref b))) _ _ s
  refine wpAny_bind ?_
  unfold contains
  try with_reducible refine wpAny_holding ?_
  refine wpAny_bind (wpAny_specialOf hT F.slot_set_contains.lookup ?_)
  show wpAny _ _ (if (some (Value.builtin "set.__contains__") == some Value.none) = true then _ else _) _ _ s
  rw [if_neg (by rw [beq_builtin_none]; exact Bool.false_ne_true)]
  have hu1 : X.A.in1.in1.units < cLine := by
    show X.A.units + 1 + 1 < cLine
    omega
  have hu2 : X.A.in1.units < cLine := by
    show X.A.units + 1 < cLine
    omega
  refine wpAny_bind (wpAny_callSpecialUnlessNone?_slot (name := Str.ofString "__contains__") hT F.slot_set_contains (wpAny_call_entry F.slot_set_contains hT entry_set_contains ?_ (F.args_set_contains_2 _ _)))
  unfold Builtin.«frozenset.__contains__» Builtin.Frozenset.oneOther
  simp only [List.isEmpty_nil, bind_assoc]
  unfold Builtin.Frozenset.addrOf Builtin.Frozenset.withSetAsKey setContains
  refine wpAny_bind (wpAny_pure ?_)
  try dsimp only
  refine wpAny_bind (wpAny_pure ?_)
  try dsimp only
  refine wpAny_bind (wpAny_tryCatch ?_)
  refine wpAny_holding ?_
  refine wpAny_bind (wpAny_pyHash_tuple (by first | exact hu2 | exact hu1) hx ?_)
  refine wpAny_bind (look_at (s := { s with toks := s.toks + (k.length + 1) }) R hx (by first | exact hu2 | exact hu1) fun r hr => ?_)
  refine wpAny_pure ?_
  show wpAny _ _ (ret (Value.bool r.isSome)) _ _ _
  rw [hr]
  exact wpAny_pure ⟨_, rfl, wpAny_truthy_bool (wpAny_pure ⟨.bl (decide (k ∈ L.map fun (z : Addr × List Int) => z.2)), H, I.tok _, rfl, q⟩)⟩
def tAddT (P : Program) (w : World) (K : PySem.W.Frag) (to : TE) (t : TA) : TE := fun σ H Q => to σ H fun x H1 => (∃ a L, x = V.ref a ∧ H1 a = some (SetTO P w a L)) ∧ t σ H1 fun xs H2 => rSAddT P w K x xs H2 Q
theorem pe_addT {X : Cx} {o e : Expr} {es : List Expr} {to : TE} {t : TA} {apos cpos : Pos} (hu : X.A.units + 64 < cLine) (ho : PE X o to) (ha : PA X (e :: es) t)
    (h1 : attributeBase o "add" X.env (eval o X.env) = eval o X.env := by rfl)
    (h2 : ((backTo cpos (starEach (e :: es) X.env)).all (fun x => !x.1) && (backToKw cpos (keywordEach [] X.env)).all (fun x => x.1.isSome) && decide ((e :: es).length + ([] : List Keyword).length + (if ([] : List Keyword).isEmpty then 0 else 1) < 30)) = true := by rfl)
    (h3 : (apos.endLine == cpos.line) = true := by rfl) (h4 : starEach (e :: es) X.env = (false, eval e X.env) :: starEach es X.env := by rfl) (h5 : (backTo cpos (starEach es X.env)).any (·.1) = false := by rfl) :
    PE X (.Call (.Attribute o "add" apos) (e :: es) [] cpos) (tAddT X.prog X.w X.K to t) := by
  refine ⟨fun pins s σ H Q I h => wpAny_Call_method_late h1 h2 h3 rfl (thn (ho.run pins s σ H _ I h) fun v s1 ⟨x, H1, I1, r1, ty, q1⟩ => ?_)⟩
  obtain ⟨a, L, rfl, hka⟩ := ty
  have R0 : SetT0 X.prog X.w s1.heap a L := (I1.hok a _ hka).1
  obtain ⟨es', ep, t', ⟨ob, hob, hex, hd⟩, _⟩ := R0.ex
  cases r1
  refine ⟨"set", "set.add", F.plainAttrs_set, F.slot_set_add, F.type_set_add, ⟨ob, hob, hex.1⟩, fun b e => ?_, ?_⟩
  · injection e with e
    subst e
    exact ⟨ob, hob, hex.2.1⟩
  have hA := ha.run cpos pins s1 σ H1 _ I1 q1
  rw [h4] at hA ⊢
  refine Calls.callWith_builtin (by show (false || (backTo cpos (starEach es X.env)).any (·.1)) = false; rw [h5]; rfl) (Calls.evalArgs_plain (thn hA fun us s2 ⟨vs, H2, I2, r2, q2⟩ => ?_))
  exact mt_saddT hu pins s2 σ H2 (.ref a) vs (.ref a) us Q I2 rfl r2 q2
/-- x is True, x is False; x anything plain -/
def rIsBx : R2 := fun x y H Q => ∃ b : Bool, y = .bl b ∧ Q (.bl (decide (x = .bl b))) H
theorem op_isBx {X : Cx} : OpR X (compareOp .Is) rIsBx := by
  intro pins s σ H x y v u Q I rx ry h
  obtain ⟨b, rfl, q⟩ := h
  cases (show u = Value.bool b from ry)
  by_cases e : x = .bl b
  · subst e
    cases (show v = Value.bool b from rx)
    exact wpAny_is_self rfl ⟨.bl true, H, I, rfl, by simpa using q⟩
  · have ne : v ≠ Value.bool b := fun z => by
      subst z
      cases x with
      | bl a => exact e (by rw [Value.bool.inj (show Value.bool b = Value.bool a from rx)])
      | non => cases rx
      | int i => obtain ⟨t, z⟩ := rx; cases z
      | str i => obtain ⟨t, z⟩ := rx; cases z
      | byt i => obtain ⟨t, z⟩ := rx; cases z
      | flt i => obtain ⟨t, z⟩ := rx; cases z
      | ref i => cases rx
      | ty i => cases rx
    rw [decide_eq_false e] at q
    refine wpAny_is_other ?_ ne ⟨.bl false, H, I, rfl, q⟩
    cases x <;> first
      | (cases rx; rfl)
      | (obtain ⟨t, rfl⟩ := rx; rfl)
end Kw

set_option maxRecDepth 100000
set_option maxHeartbeats 8000000
namespace K12
open PySem PySem.Spec PyProof.Rows L2 Kw
/-! ### kinds: the mathematics of what keeps them -/
structure KOk (n : Nat) (js : List (Nat × Nat)) (lone : List Nat) : Prop where
  lo : 1 ≤ n
  hi : n ≤ 5
  so : SortP js
  lt : ∀ p ∈ js, p.1 < p.2 ∧ p.2 < n
  up : lone.Pairwise (· < ·)
  bl : ∀ x ∈ lone, x < n
def joinedB (js : List (Nat × Nat)) (x y : Nat) : Bool := decide ((min x y, max x y) ∈ js)
def gAt (gs : List Nat) (c : Nat) : Nat := gs.getD c 0
def pairW (els : List (List Nat)) (js : List (Nat × Nat)) (gs : List Nat) (a b : Nat) : Option Str :=
  if gAt gs a = gAt gs b then (if onLine els a b = true then none else some ("line" : Str)) else (if joinedB js (gAt gs a) (gAt gs b) = true then none else some ("kind" : Str))
def rowW (els : List (List Nat)) (js : List (Nat × Nat)) (gs : List Nat) (a : Nat) (bs : List Nat) : Option (Nat × Nat × Str) := bs.findSome? fun b => (pairW els js gs a b).map fun w => (a, b, w)
def lotW (els : List (List Nat)) (js : List (Nat × Nat)) (gs lot : List Nat) : Option (Nat × Nat × Str) := firstS lot.length fun i => rowW els js gs (lot.getD i 0) (lot.drop (i + 1))
def kinL (els : List (List Nat)) (c : Nat) : List Nat := els.getD c [] ++ [c]
def breachC (els : List (List Nat)) (flds : Nat) (js : List (Nat × Nat)) (lone gs : List Nat) (c : Nat) : Option (Nat × Nat × Nat × Str) :=
  if (decide (0 < flds) && lone.contains (gAt gs c)) = true then some (c, c, c, ("bare" : Str)) else (lotW els js gs (kinL els c)).map fun z => (c, z)
def fldsOf (ds : List Ent) (c : Nat) : Nat := (ds.getD c ([], 0, [])).2.1
def breachD (ds : List Ent) (js : List (Nat × Nat)) (lone gs : List Nat) (c : Nat) : Option (Nat × Nat × Nat × Str) := breachC (elsOf ds) (fldsOf ds c) js lone gs c
def breachA (ds : List Ent) (js : List (Nat × Nat)) (lone gs : List Nat) : Option (Nat × Nat × Nat × Str) := firstS ds.length (breachD ds js lone gs)
theorem fs_none {α β : Type} {g : α → Option β} {xs : List α} {j : Nat} {x : α} (h : (xs.take j).findSome? g = none) (hx : xs[j]? = some x) (e : g x = none) : (xs.take (j + 1)).findSome? g = none := by
  rw [List.take_add_one, hx, Option.toList_some, List.findSome?_append, h]
  simp [e]
theorem fs_hit {α β : Type} {g : α → Option β} {xs : List α} {j : Nat} {x : α} {r : β} (h : (xs.take j).findSome? g = none) (hx : xs[j]? = some x) (e : g x = some r) : xs.findSome? g = some r := by
  obtain ⟨h1, h2⟩ := List.getElem?_eq_some_iff.mp hx
  rw [← List.take_append_drop j xs, List.findSome?_append, h, List.drop_eq_getElem_cons h1, h2, List.findSome?_cons, e]
  rfl
theorem first_hit {α : Type} {f : Nat → Option α} {k i : Nat} {r : α} (h : ∀ j, j < i → f j = none) (hi : i < k) (e : f i = some r) : firstS k f = some r := firstS_some.mpr ⟨i, hi, e, h⟩
/-! ### a Kinds as an object -/
def KFs (n : Nat) (aj ab : Addr) : List (Str × V) := [("many", natV n), ("joined", .ref aj), ("bare", .ref ab)]
def KindsAt (H : Hp) (p Ck : Addr) (n : Nat) (js : List (Nat × Nat)) (lone : List Nat) : Prop := ∃ dx aj ab us, H p = some (.ins Ck dx (KFs n aj ab)) ∧ H aj = some (.tup us) ∧ PairsAt H us js ∧ H ab = some (.tup (lone.map natV))
theorem PairsAt.ki {H H' : Hp} (k : KI H H') : ∀ {us : List V} {ps : List (Nat × Nat)}, PairsAt H us ps → PairsAt H' us ps
  | [], [], _ => .nil
  | _ :: _, _ :: _, .cons ⟨t, e, h⟩ r => .cons ⟨t, e, k _ _ h nh_tup⟩ (PairsAt.ki k r)
theorem KindsAt.ki {H H' : Hp} {p Ck : Addr} {n : Nat} {js : List (Nat × Nat)} {lone : List Nat} (h : KindsAt H p Ck n js lone) (k : KI H H') : KindsAt H' p Ck n js lone := by
  obtain ⟨dx, aj, ab, us, h1, h2, h3, h4⟩ := h
  exact ⟨dx, aj, ab, us, k _ _ h1 nh_ins, k _ _ h2 nh_tup, h3.ki k, k _ _ h4 nh_tup⟩
theorem KindsAt.mono {H H' : Hp} {p Ck : Addr} {n : Nat} {js : List (Nat × Nat)} {lone : List Nat} (h : KindsAt H p Ck n js lone) (s : Same H H') : KindsAt H' p Ck n js lone := h.ki (KI.of s)
section
variable {P : Program} {w : World} {K : PySem.W.Frag} {mg : Str → Option Value} {base : Heap} {f fW fC Ck : Addr} {fd fdW fdC : FuncData}
def spKind (Ck : Addr) : Sp := fun vs H Q _ => ∃ (p : Addr) (n x : Nat) (js : List (Nat × Nat)) (lone : List Nat), vs = [.ref p, natV x] ∧ KindsAt H p Ck n js lone ∧ x < n ∧ Q (natV x) H
theorem sc_kind : FnScope ["kinds", "kind"] ["kinds", "kind"] (defScope (top 30)) := ⟨rfl, rfl, rfl, by decide +kernel, rfl, by decide +kernel, by decide +kernel⟩
theorem ok_kind (F : FnP K "check_kind" 30 f fd) (B : Fr mg) (TK : ClsF K Ck ["many", "joined", "bare"]) (FW : FnDf K "is_whole" 10 [.non, .non] fW fdW) (mW : mg "is_whole" = some (.ref fW)) : FnOk P w K mg base CX0 2 f fd ["kinds", "kind"] (spKind Ck) := by
  have GW : FnOk P w K mg base CX0 1 fW fdW ["thing", "low", "high"] spWhole := ok_whole FW B
  have bW := binds_whole3 FW
  refine F.ok sc_kind (fun vs H Q E h => ?_) (fun cdv A outer s H vs Q E hr h => ?_)
  · obtain ⟨p, n, x, js, lone, rfl, _⟩ := h
    rfl
  · obtain ⟨p, n, x, js, lone, rfl, ⟨dx, aj, ab, us, h1, h2, h3, h4⟩, hx, k⟩ := h
    refine ⟨_, PSs.nox (pss_cons (ps_if (pt_not (pt_val (pe_call GW hr (by rfl) mW FW.kp bW .nil pass0 (pa_cons (pv 1) (pa_cons pe_int (pa_cons (pe_op op_sub (pe_fld (pv 0) rfl) pe_int) pa_nil)))))) (pss_one ps_never) pss_nil) (pss_one (ps_ret (pv 1)))), ?_⟩
    refine ⟨_, rfl, _, rfl, p, Ck, dx, _, _, rfl, h1, TK.cl, TK.no _ (List.mem_of_getElem? (i := 0) rfl), rfl, _, _, rfl, rfl, natV x, _, _, "int", rfl, .int _, .inr ⟨_, rfl⟩, .inr ⟨_, rfl⟩, _, rfl, ?_⟩
    have e : wholeB (.int 0) (.int ((n : Int) - 1)) (natV x) = true := whole_of hx
    rw [e]
    exact iteF' rfl ⟨_, rfl, k⟩
def spIsBare (Ck : Addr) : Sp := fun vs H Q _ => ∃ (p : Addr) (n x : Nat) (js : List (Nat × Nat)) (lone : List Nat), vs = [.ref p, natV x] ∧ KindsAt H p Ck n js lone ∧ x < n ∧ Q (.bl (lone.contains x)) H
theorem sc_isBare : FnScope ["self", "kind"] ["self", "kind"] (defScope (inClass (top 26) 3)) := ⟨rfl, rfl, rfl, by decide +kernel, rfl, by decide +kernel, by decide +kernel⟩
theorem ok_isBare (F : FnM K "is_bare" "Kinds.is_bare" (inClass (top 26) 3) f fd) (TK : ClsF K Ck ["many", "joined", "bare"]) (FC : FnP K "check_kind" 30 fC fdC) (mC : mg "check_kind" = some (.ref fC)) (GC : FnOk P w K mg base CX0 2 fC fdC ["kinds", "kind"] (spKind Ck)) : FnOk P w K mg base CX0 3 f fd ["self", "kind"] (spIsBare Ck) := by
  have bC : L2.Binds K fdC ["kinds", "kind"] [] := FC.bindsN fun _ _ _ _ _ _ us hl => match us, hl with | [_, _], _ => rfl
  refine F.ok sc_isBare (fun vs H Q E h => ?_) (fun cdv A outer s H vs Q E hr h => ?_)
  · obtain ⟨p, n, x, js, lone, rfl, _⟩ := h
    rfl
  · obtain ⟨p, n, x, js, lone, rfl, hk, hx, k⟩ := h
    have hk0 := hk
    obtain ⟨dx, aj, ab, us, h1, h2, h3, h4⟩ := hk
    refine ⟨_, PSs.nox (pss_one (ps_ret (pe_cmpR (r := rIn K false) op_in_seq (pe_call GC hr (by rfl) mC FC.kp bC .nil pass0 (pa_cons (pv 0) (pa_cons (pv 1) pa_nil))) (pe_fld (pv 0) rfl) (by rfl)))), ?_⟩
    refine ⟨_, rfl, _, rfl, p, n, x, js, lone, rfl, hk0, hx, ?_⟩
    refine ⟨_, rfl, p, Ck, dx, _, _, rfl, h1, TK.cl, TK.no _ (List.mem_of_getElem? (i := 2) rfl), rfl, ab, _, rfl, .inr (SqT.of h4), rfl, flat_nats _, ?_⟩
    have e : inV (natV x) (lone.map natV) = lone.contains x := inV_nat _ _
    rw [← e] at k
    exact k
def spJoined (Ck : Addr) : Sp := fun vs H Q _ => ∃ (p : Addr) (n x y : Nat) (js : List (Nat × Nat)) (lone : List Nat), vs = [.ref p, natV x, natV y] ∧ KindsAt H p Ck n js lone ∧ x < n ∧ y < n ∧ ∀ H', Same H H' → Q (.bl (joinedB js x y)) H'
theorem sc_joined : FnScope ["self", "one", "other"] ["self", "one", "other"] (defScope (inClass (top 26) 2)) := ⟨rfl, rfl, rfl, by decide +kernel, rfl, by decide +kernel, by decide +kernel⟩
theorem min_nat {x y : Nat} : (if (y : Int) < (x : Int) then (y : Int) else (x : Int)) = ((min x y : Nat) : Int) := by
  by_cases h : y < x
  · rw [if_pos (by omega)]
    omega
  · rw [if_neg (by omega)]
    omega
theorem max_nat {x y : Nat} : (if (x : Int) < (y : Int) then (y : Int) else (x : Int)) = ((max x y : Nat) : Int) := by
  by_cases h : x < y
  · rw [if_pos (by omega)]
    omega
  · rw [if_neg (by omega)]
    omega
theorem ok_joined (F : FnM K "are_joined" "Kinds.are_joined" (inClass (top 26) 2) f fd) (gMin : mg "min" = none) (gMax : mg "max" = none) (TK : ClsF K Ck ["many", "joined", "bare"]) (FC : FnP K "check_kind" 30 fC fdC) (mC : mg "check_kind" = some (.ref fC)) (GC : FnOk P w K mg base CX0 2 fC fdC ["kinds", "kind"] (spKind Ck)) : FnOk P w K mg base CX0 3 f fd ["self", "one", "other"] (spJoined Ck) := by
  have bC : L2.Binds K fdC ["kinds", "kind"] [] := FC.bindsN fun _ _ _ _ _ _ us hl => match us, hl with | [_, _], _ => rfl
  refine F.ok sc_joined (fun vs H Q E h => ?_) (fun cdv A outer s H vs Q E hr h => ?_)
  · obtain ⟨p, n, x, y, js, lone, rfl, _⟩ := h
    rfl
  · obtain ⟨p, n, x, y, js, lone, rfl, hk, hx, hy, k⟩ := h
    have hk0 := hk
    obtain ⟨dx, aj, ab, us, h1, h2, h3, h4⟩ := hk
    refine ⟨_, PSs.nox (pss_cons (ps_expr (pe_call GC hr (by rfl) mC FC.kp bC .nil pass0 (pa_cons (pv 0) (pa_cons (pv 1) pa_nil))))
      (pss_cons (ps_expr (pe_call GC hr (by rfl) mC FC.kp bC .nil pass0 (pa_cons (pv 0) (pa_cons (pv 2) pa_nil))))
      (pss_one (ps_ret (pe_cmpR (r := rInDT K) (op_inDT (room65 hr)) (pe_tup (pa_cons (pe_callB (call_min2 rfl) (by rfl) gMin (by decide +kernel) (pa_cons (pv 1) (pa_cons (pv 2) pa_nil))) (pa_cons (pe_callB (call_max2 rfl) (by rfl) gMax (by decide +kernel) (pa_cons (pv 1) (pa_cons (pv 2) pa_nil))) pa_nil))) (pe_fld (pv 0) rfl) (by rfl)))))), ?_⟩
    refine ⟨_, rfl, _, rfl, p, n, x, js, lone, rfl, hk0, hx, ?_⟩
    refine ⟨_, rfl, _, rfl, p, n, y, js, lone, rfl, hk0, hy, ?_⟩
    refine ⟨_, rfl, _, rfl, _, _, rfl, ?_⟩
    refine ⟨_, rfl, _, rfl, _, _, rfl, (by show 2 ≤ sizeLine; decide), fun T hT => ?_⟩
    simp only [GT.gt, min_nat, max_nat]
    have sT := same_new (o := .tup [.int ((min x y : Nat) : Int), .int ((max x y : Nat) : Int)]) hT
    refine ⟨_, rfl, p, Ck, dx, _, _, rfl, sT _ _ h1, TK.cl, TK.no _ (List.mem_of_getElem? (i := 1) rfl), rfl, ?_⟩
    refine ⟨dPair (min x y, max x y), js.map dPair, .tup (SqT.of upd_same) (.cons (.int _) (.cons (.int _) .nil)), .tup (SqT.of (sT _ _ h2)) (dp_pairs (h3.same sT)), (lay_pair _).shaped (by decide), (lay_pairsT _).shaped (by decide), ?_⟩
    rw [any_pair]
    exact k _ sT
end
end K12

set_option maxRecDepth 100000
set_option maxHeartbeats 8000000
namespace K12
open PySem PySem.Spec PyProof.Rows L2 Kw
section
variable {P : Program} {w : World} {K : PySem.W.Frag} {mg : Str → Option Value} {base : Heap} {f fW fC fL fN fJ fI fS fU C Cn Cb Ck : Addr} {fd fdW fdC fdL fdN fdJ fdI fdS fdU : FuncData}
/-! ### Breach -/
def spBreachI (Cb : Addr) : Sp := fun vs H Q _ => ∃ (p dx : Addr) (x y z v : V), vs = [.ref p, x, y, z, v] ∧ H p = some (.ins Cb dx []) ∧ ∀ H', Oth p H H' → H' p = some (.ins Cb dx [("cls", x), ("first", y), ("second", z), ("what", v)]) → Q .non H'
theorem sc_breachI : FnScope ["self", "cls", "first", "second", "what"] ["self", "cls", "first", "second", "what"] (defScope (inClass (top 27) 0)) := ⟨rfl, rfl, rfl, by decide +kernel, rfl, by decide +kernel, by decide +kernel⟩
theorem ok_breachI (F : FnM K "__init__" "Breach.__init__" (inClass (top 27) 0) f fd) (T : ClsF K Cb ["cls", "first", "second", "what"]) : FnOk P w K mg base CX0 1 f fd ["self", "cls", "first", "second", "what"] (spBreachI Cb) ∧ Binds K fd ["self", "cls", "first", "second", "what"] [] := by
  refine ⟨F.ok sc_breachI (fun vs H Q E h => ?_) (fun cdv A outer s H vs Q E hr h => ?_), F.bindsN fun _ _ _ _ _ _ us hl => match us, hl with | [_, _, _, _, _], _ => rfl⟩
  · obtain ⟨p, dx, x, y, z, v, rfl, _⟩ := h
    rfl
  · obtain ⟨p, dx, x, y, z, v, rfl, hp, k⟩ := h
    refine ⟨_, PSs.nox (pss_cons (ps_fld (pv 0) (pv 1) rfl) (pss_cons (ps_fld (pv 0) (pv 2) rfl) (pss_cons (ps_fld (pv 0) (pv 3) rfl) (pss_one (ps_fld (pv 0) (pv 4) rfl))))), ?_⟩
    refine ⟨_, rfl, _, rfl, p, Cb, dx, [], rfl, hp, T.cl, T.no _ (List.mem_of_getElem? (i := 0) rfl), by simp, ?_⟩
    refine ⟨_, rfl, _, rfl, p, Cb, dx, _, rfl, upd_same, T.cl, T.no _ (List.mem_of_getElem? (i := 1) rfl), (by show 1 < _; decide), ?_⟩
    refine ⟨_, rfl, _, rfl, p, Cb, dx, _, rfl, upd_same, T.cl, T.no _ (List.mem_of_getElem? (i := 2) rfl), (by show 2 < _; decide), ?_⟩
    refine ⟨_, rfl, _, rfl, p, Cb, dx, _, rfl, upd_same, T.cl, T.no _ (List.mem_of_getElem? (i := 3) rfl), (by show 3 < _; decide), ?_⟩
    exact k _ (Oth.upd (Oth.upd (Oth.upd (Oth.upd (Oth.of (Same.refl H)))))) upd_same
def BrAt (H : Hp) (p Cb : Addr) (z : Nat × Nat × Nat × Str) : Prop := ∃ dx, H p = some (.ins Cb dx [("cls", natV z.1), ("first", natV z.2.1), ("second", natV z.2.2.1), ("what", .str z.2.2.2)])
def OptBr (H : Hp) (Cb : Addr) (v : V) (o : Option (Nat × Nat × Nat × Str)) : Prop := (o = none ∧ v = .non) ∨ ∃ z p, o = some z ∧ v = .ref p ∧ BrAt H p Cb z
/-! ### pair_fault -/
def optS : Option Str → V
  | none => .non
  | some z => .str z
def spPairF (C Ck : Addr) : Sp := fun vs H Q _ => ∃ (p q g : Addr) (ds : List Ent) (n : Nat) (js : List (Nat × Nat)) (lone gs : List Nat) (a b : Nat), vs = [.ref p, .ref q, .ref g, natV a, natV b] ∧ WorldAt H p C ds ∧ KindsAt H q Ck n js lone ∧ H g = some (.tup (gs.map natV)) ∧ gs.length = ds.length ∧ (∀ x ∈ gs, x < n) ∧ a < ds.length ∧ b < ds.length ∧
  ∀ H', Same H H' → Q (optS (pairW (elsOf ds) js gs a b)) H'
theorem sc_pairF : FnScope ["world", "kinds", "given", "first", "second"] ["world", "kinds", "given", "first", "second"] (defScope (top 34)) := ⟨rfl, rfl, rfl, by decide +kernel, rfl, by decide +kernel, by decide +kernel⟩
theorem gAt_get {gs : List Nat} {c : Nat} (h : c < gs.length) : (gs.map natV)[c]? = some (natV (gAt gs c)) := by
  rw [List.getElem?_map, List.getElem?_eq_getElem h]
  show some (natV gs[c]) = some (natV (gs.getD c 0))
  rw [List.getD_eq_getElem?_getD, List.getElem?_eq_getElem h]
  rfl
theorem gAt_mem {gs : List Nat} {c : Nat} (h : c < gs.length) : gAt gs c ∈ gs := by
  unfold gAt
  rw [List.getD_eq_getElem?_getD, List.getElem?_eq_getElem h]
  exact List.getElem_mem h
theorem nat_eq {x y : Nat} : decide (natV x = natV y) = decide (x = y) := by
  by_cases h : x = y
  · rw [h, decide_eq_true rfl, decide_eq_true rfl]
  · rw [decide_eq_false h, decide_eq_false fun e => h (by have := V.int.inj (show V.int (x : Int) = V.int (y : Int) from e); omega)]
theorem ok_pairF (F : FnP K "pair_fault" 34 f fd) (B : Fr mg) (TC : ClsWorld K mg C) (TK : ClsF K Ck ["many", "joined", "bare"]) (FL : FnP K "on_line" 14 fL fdL) (mL : mg "on_line" = some (.ref fL)) (GL : FnOk P w K mg base (L2.CX P w) 4 fL fdL ["world", "a", "b"] (spOnLine C Cn))
    (FJ : FnM K "are_joined" "Kinds.are_joined" (inClass (top 26) 2) fJ fdJ) (MJ : Meth K Ck "are_joined" fJ) (GJ : FnOk P w K mg base CX0 3 fJ fdJ ["self", "one", "other"] (spJoined Ck)) : FnOk P w K mg base CX0 5 f fd ["world", "kinds", "given", "first", "second"] (spPairF C Ck) := by
  have bL : L2.Binds K fdL ["world", "a", "b"] [] := FL.bindsN fun _ _ _ _ _ _ us hl => match us, hl with | [_, _, _], _ => rfl
  have bJ : L2.Binds K fdJ ["self", "one", "other"] [] := FJ.bindsN fun _ _ _ _ _ _ us hl => match us, hl with | [_, _, _], _ => rfl
  refine F.ok sc_pairF (fun vs H Q E h => ?_) (fun cdv A outer s H vs Q E hr h => ?_)
  · obtain ⟨p, q, g, ds, n, js, lone, gs, a, b, rfl, _⟩ := h
    rfl
  · obtain ⟨p, q, g, ds, n, js, lone, gs, a, b, rfl, hw, hk, hg, gl, gn, ha, hb, k⟩ := h
    refine ⟨_, PSs.nox (pss_cons (ps_if (pt_cmpR op_eq (pe_ix (r := rIxT K) ix_tup (pv 2) (pv 3) (fun _ _ => rfl)) (pe_ix (r := rIxT K) ix_tup (pv 2) (pv 4) (fun _ _ => rfl)) (nomark _))
        (pss_one (ps_ret (pe_ifExp (pt_val (pe_call GL hr (by rfl) mL FL.kp bL .nil (passOut (E := fun _ _ _ => False)) (pa_cons (pv 0) (pa_cons (pv 3) (pa_cons (pv 4) pa_nil))))) pe_non pe_str))) pss_nil)
      (pss_one (ps_ret (pe_ifExp (pt_val (pe_meth (pv 1) TK.cl MJ GJ (hr.mono (by decide)) bJ .nil pass0 (pa_cons (pe_ix (r := rIxT K) ix_tup (pv 2) (pv 3) (fun _ _ => rfl)) (pa_cons (pe_ix (r := rIxT K) ix_tup (pv 2) (pv 4) (fun _ _ => rfl)) pa_nil)))) pe_non pe_str)))), ?_⟩
    have ea := gAt_get (gs := gs) (c := a) (by omega)
    have eb := gAt_get (gs := gs) (c := b) (by omega)
    refine ⟨_, rfl, _, rfl, g, _, (a : Int), _, rfl, rfl, SqT.of hg, atI_nat ea, _, rfl, _, rfl, g, _, (b : Int), _, rfl, rfl, SqT.of hg, atI_nat eb, rfl, _, rfl, ?_⟩
    rw [nat_eq]
    by_cases c1 : gAt gs a = gAt gs b
    · refine iteT' (decide_eq_true c1) ⟨_, rfl, _, rfl, _, rfl, p, natV a, natV b, "int", "int", ds, rfl, hw, .int _, .int _, .inr (.inr ⟨a, b, rfl, rfl, ha, hb, fun H3 s3 => ?_⟩)⟩
      have ew : pairW (elsOf ds) js gs a b = if onLine (elsOf ds) a b = true then none else some ("line" : Str) := by
        unfold pairW
        rw [if_pos c1]
      rw [ew] at k
      refine ⟨_, rfl, ?_⟩
      cases c2 : onLine (elsOf ds) a b with
      | true =>
        rw [c2] at k
        exact iteT' rfl (k H3 s3)
      | false =>
        rw [c2] at k
        exact iteF' rfl (k H3 s3)
    · refine iteF' (decide_eq_false c1) ?_
      have ew : pairW (elsOf ds) js gs a b = if joinedB js (gAt gs a) (gAt gs b) = true then none else some ("kind" : Str) := by
        unfold pairW
        rw [if_neg c1]
      rw [ew] at k
      have hk0 := hk
      obtain ⟨dx, aj, ab, us, h1, h2, h3, h4⟩ := hk
      refine ⟨_, rfl, q, dx, _, rfl, h1, rfl, ?_⟩
      refine ⟨_, rfl, _, rfl, g, _, (a : Int), _, rfl, rfl, SqT.of hg, atI_nat ea, _, rfl, _, rfl, g, _, (b : Int), _, rfl, rfl, SqT.of hg, atI_nat eb, ?_⟩
      refine ⟨q, n, gAt gs a, gAt gs b, js, lone, rfl, hk0, gn _ (gAt_mem (by omega)), gn _ (gAt_mem (by omega)), fun H3 s3 => ?_⟩
      refine ⟨_, rfl, ?_⟩
      cases c2 : joinedB js (gAt gs a) (gAt gs b) with
      | true =>
        rw [c2] at k
        exact iteT' rfl (k H3 s3)
      | false =>
        rw [c2] at k
        exact iteF' rfl (k H3 s3)
end
end K12

set_option maxRecDepth 100000
set_option maxHeartbeats 8000000
namespace K12
open PySem PySem.Spec PyProof.Rows L2 Kw
theorem kinL_kins {ds : List Ent} {c : Nat} (hc : c < ds.length) : kinL (elsOf ds) c = (kins (elsOf ds)).getD c [] := (kins_els hc).symm
theorem kinL_len {ds : List Ent} (ok : DsOk ds) {c : Nat} (hc : c < ds.length) (h12 : ds.length ≤ 12) : (kinL (elsOf ds) c).length ≤ 12 := by
  rw [kinL_kins hc]
  exact kin_len ok hc h12
theorem kinL_lt {ds : List Ent} (ok : DsOk ds) {c x : Nat} (hc : c < ds.length) (h : x ∈ kinL (elsOf ds) c) : x < ds.length := by
  rw [kinL_kins hc] at h
  have := ok.kins.le c (by rw [kinsL]; exact hc) x h
  omega
theorem set_if {σ : L2.St} {H : Hp} {c : TT} {t e rest : TS} {D : Ends} (Inv : L2.St → Hp → Prop) (k : ∀ σ H, Inv σ H → rest D σ H) (h : ∀ N : L2.St → Hp → Prop, (∀ σ H, Inv σ H → N σ H) → tIfS c t e { D with nx := N } σ H) : tSeq (tIfS c t e) rest D σ H := h _ k
theorem optS_non (o : Option Str) : decide (optS o = V.non) = o.isNone := by
  cases o with
  | none => exact decide_eq_true rfl
  | some z => exact decide_eq_false fun e => by cases e
theorem getD_get {l : List Nat} {i a : Nat} (h : l[i]? = some a) : l.getD i 0 = a := by
  rw [List.getD_eq_getElem?_getD, h]
  rfl
section
variable {P : Program} {w : World} {K : PySem.W.Frag} {mg : Str → Option Value} {base : Heap} {f fW fC fN fB fI fS fP fG fA C Cn Cb Cg Ck : Addr} {fd fdW fdC fdN fdB fdI fdS fdP fdG fdA : FuncData}
def spBr (C Cb Ck : Addr) : Sp := fun vs H Q _ => ∃ (p q g : Addr) (ds : List Ent) (n : Nat) (js : List (Nat × Nat)) (lone gs : List Nat) (c : Nat), vs = [.ref p, .ref q, .ref g, natV c] ∧ WorldAt H p C ds ∧ DsOk ds ∧ ds.length ≤ 12 ∧ KindsAt H q Ck n js lone ∧ H g = some (.tup (gs.map natV)) ∧ gs.length = ds.length ∧ (∀ x ∈ gs, x < n) ∧ c < ds.length ∧
  ∀ v H', Same H H' → OptBr H' Cb v (breachD ds js lone gs c) → Q v H'
theorem sc_br : FnScope ["world", "kinds", "given", "c", "among", "k", "first", "second", "what"] ["world", "kinds", "given", "c"] (defScope (top 33)) := ⟨rfl, rfl, rfl, by decide +kernel, rfl, by decide +kernel, by decide +kernel⟩
theorem ok_br (F : FnP K "class_breach" 33 f fd) (B : Fr mg) (TC : ClsWorld K mg C) (TK : ClsF K Ck ["many", "joined", "bare"]) (FB : FnM K "is_bare" "Kinds.is_bare" (inClass (top 26) 3) fB fdB) (MB : Meth K Ck "is_bare" fB) (GB : FnOk P w K mg base CX0 3 fB fdB ["self", "kind"] (spIsBare Ck))
    (FP : FnP K "pair_fault" 34 fP fdP) (mP : mg "pair_fault" = some (.ref fP)) (GP : FnOk P w K mg base CX0 5 fP fdP ["world", "kinds", "given", "first", "second"] (spPairF C Ck))
    (FI : FnM K "__init__" "Breach.__init__" (inClass (top 27) 0) fI fdI) (TI : ClsF K Cb ["cls", "first", "second", "what"]) (MI : Mk K Cb fI) (mI : mg "Breach" = some (.ref Cb)) : FnOk P w K mg base CX0 6 f fd ["world", "kinds", "given", "c"] (spBr C Cb Ck) := by
  have bB : L2.Binds K fdB ["self", "kind"] [] := FB.bindsN fun _ _ _ _ _ _ us hl => match us, hl with | [_, _], _ => rfl
  have bP : L2.Binds K fdP ["world", "kinds", "given", "first", "second"] [] := FP.bindsN fun _ _ _ _ _ _ us hl => match us, hl with | [_, _, _, _, _], _ => rfl
  obtain ⟨GI, bI⟩ : FnOk P w K mg base CX0 1 fI fdI ["self", "cls", "first", "second", "what"] (spBreachI Cb) ∧ Binds K fdI ["self", "cls", "first", "second", "what"] [] := ok_breachI FI TI
  refine F.ok sc_br (fun vs H Q E h => ?_) (fun cdv A outer s H vs Q E hr h => ?_)
  · obtain ⟨p, q, g, ds, n, js, lone, gs, c, rfl, _⟩ := h
    rfl
  · obtain ⟨p, q, g, ds, n, js, lone, gs, c, rfl, hw, ok, h12, hk, hg, gl, gn, hc, k⟩ := h
    refine ⟨_, PSs.nox (pss_cons (ps_if (PW.pt (pw_and (pt_cmp (pc_gt (pe_ix (r := rIxT K) ix_tup (pe_fld (pv 0) rfl) (pv 3) (fun _ _ => rfl)) pe_int)) (pw_and1 (pt_val (pe_meth (pv 1) TK.cl MB GB (hr.mono (by decide)) bB .nil pass0 (pa_cons (pe_ix (r := rIxT K) ix_tup (pv 2) (pv 3) (fun _ _ => rfl)) pa_nil))))))
        (pss_one (ps_ret (pe_make MI GI (hr.mono (by decide)) (by rfl) mI bI .nil pass0 (pa_cons (pv 3) (pa_cons (pv 3) (pa_cons (pv 3) (pa_cons pe_str pa_nil))))))) pss_nil)
      (pss_cons (ps_set (i := 4) sc_br.nd rfl (Or.inl rfl) (pe_op (r := rCatQ K) op_catQ (pe_ix (r := rIxT K) ix_tup (pe_fld (pv 0) rfl) (pv 3) (fun _ _ => rfl)) (pe_tup (pa_cons (pv 3) pa_nil))))
      (pss_cons (ps_for PassesOwn.never rfl (pi_enumT (by rfl) B.enumerate (pa_cons (pv 4) pa_nil)) (pg_tup (by rfl) (pgs_cons (pg_name (i := 5) sc_br.nd rfl (Or.inl rfl)) (pgs_cons (pg_name (i := 6) sc_br.nd rfl (Or.inl rfl)) pgs_nil)))
        (pss_one (ps_for PassesOwn.never rfl (pi_tup (pe_slice sl_tup (pv 4) (po_some (pe_op op_add (pv 5) pe_int)) po_none)) (pg_name (i := 7) sc_br.nd rfl (Or.inl rfl))
          (pss_cons (ps_set (i := 8) sc_br.nd rfl (Or.inl rfl) (pe_call GP hr (by rfl) mP FP.kp bP .nil pass0 (pa_cons (pv 0) (pa_cons (pv 1) (pa_cons (pv 2) (pa_cons (pv 6) (pa_cons (pv 7) pa_nil)))))))
          (pss_one (ps_if (pt_cmpR op_notN (pv 8) pe_non (nomark _)) (pss_one (ps_ret (pe_make MI GI (hr.mono (by decide)) (by rfl) mI bI .nil pass0 (pa_cons (pv 3) (pa_cons (pv 6) (pa_cons (pv 7) (pa_cons (pv 8) pa_nil))))))) pss_nil))))))
      (pss_one (ps_ret pe_non))))), ?_⟩
    have hw0 := hw
    have hk0 := hk
    obtain ⟨dx, ac, ab, ao, am, ae, ah, cs, bs, ms, es, hs, h1, h2, h3, h4, h5, h6, _⟩ := hw
    obtain ⟨dk, aj, al, ku, k1, k2, k3, k4⟩ := hk
    obtain ⟨d, hd⟩ : ∃ d, ds[c]? = some d := ⟨_, List.getElem?_eq_getElem hc⟩
    have ef : ((ds.map (·.2.1)).map natV)[c]? = some (natV (fldsOf ds c)) := by
      unfold fldsOf
      rw [List.getElem?_map, List.getElem?_map, hd, List.getD_eq_getElem?_getD, hd]
      rfl
    have eg := gAt_get (gs := gs) (c := c) (by omega)
    refine set_if (fun σ' H' => σ' = [some (.ref p), some (.ref q), some (.ref g), some (natV c), none, none, none, none, none] ∧ H' = H ∧ (decide (0 < fldsOf ds c) && lone.contains (gAt gs c)) = false) ?_ (fun N hN => ?_)
    · rintro σ' H' ⟨rfl, rfl, cf⟩
      have eb : breachD ds js lone gs c = (lotW (elsOf ds) js gs (kinL (elsOf ds) c)).map fun z => (c, z) := by
        unfold breachD breachC
        rw [if_neg (by rw [cf]; decide)]
      rw [eb] at k
      obtain ⟨dx', fs, ae', es', t1, p1, p2, p3, p4, p5⟩ := hw0.elder hc
      refine ⟨_, rfl, p, C, dx', _, _, rfl, p1, TC.cl, TC.no _ (List.mem_of_getElem? (i := 4) rfl), p2, _, rfl, ae', es', (c : Int), _, rfl, rfl, SqT.of p3, atI_nat p4, _, rfl, (by show 1 ≤ sizeLine; decide), fun T hT => ?_⟩
      have sT := same_new (o := .tup [natV c]) hT
      have ll := kinL_len ok hc h12
      have lx : ∀ x ∈ kinL (elsOf ds) c, x < ds.length := fun x hx => kinL_lt ok hc hx
      have el : ((elsOf ds).getD c []).length + 1 ≤ 12 := by
        have : (kinL (elsOf ds) c).length = ((elsOf ds).getD c []).length + 1 := by
          unfold kinL
          rw [List.length_append]
          rfl
        omega
      refine cat_q (xs := ((elsOf ds).getD c []).map natV) (ys := [natV c]) (sT _ _ p5) upd_same (by rw [List.length_map]; show _ + 1 ≤ 2 ^ 24; omega) (Same.refl _) fun am' H2 s2 hM => ?_
      have ek : ((elsOf ds).getD c []).map natV ++ [natV c] = (kinL (elsOf ds) c).map natV := by
        unfold kinL
        rw [List.map_append]
        rfl
      rw [ek] at hM
      have s02 := sT.trans s2
      generalize hlot : kinL (elsOf ds) c = xs at hM ll lx k
      clear sT hT
      refine ⟨_, rfl, am', _, rfl, SqT.of hM, for_enumT (K := K) (a := am') (xs := xs.map natV) (fun i σ H' => Same H2 H' ∧ (∃ x5 x6 x7 x8, σ = [some (.ref p), some (.ref q), some (.ref g), some (natV c), some (.ref am'), x5, x6, x7, x8]) ∧ ∀ j, j < i → rowW (elsOf ds) js gs (xs.getD j 0) (xs.drop (j + 1)) = none)
        ⟨Same.refl _, ⟨_, _, _, _, rfl⟩, fun j z => absurd z (Nat.not_lt_zero _)⟩ (fun i σ H' _ h => SqT.of (h.1 _ _ hM)) ?_ ?_⟩
      · rintro i y σ H3 T hi ⟨s3, ⟨x5, x6, x7, x8, rfl⟩, hno⟩ hT
        rw [List.getElem?_map] at hi
        obtain ⟨a, ha, rfl⟩ := Option.map_eq_some_iff.mp hi
        have ad := lx a (List.mem_of_getElem? ha)
        have hil := (List.getElem?_eq_some_iff.mp ha).1
        refine ⟨T, _, rfl, SqT.of upd_same, rfl, _, _, rfl, _, _, rfl, rfl, ?_⟩
        have sT := s3.trans (same_new (o := .tup [.int (i : Nat), natV a]) hT)
        generalize hG : upd H3 T (.tup [.int (i : Nat), natV a]) = G at sT ⊢
        obtain ⟨c1, c2⟩ := cut_tail (xs.map natV) i (by rw [List.length_map]; exact hil)
        refine ⟨_, rfl, _, rfl, _, _, rfl, rfl, _, rfl, am', xs.map natV, rfl, SqT.of (sT _ _ hM), c1, fun S hS => ?_⟩
        rw [c2, ← List.map_drop]
        have sS := sT.trans (same_new (o := .tup ((xs.drop (i + 1)).map natV)) hS)
        have hSS : upd G S (.tup ((xs.drop (i + 1)).map natV)) S = some (.tup ((xs.drop (i + 1)).map natV)) := upd_same
        generalize hG2 : upd G S (.tup ((xs.drop (i + 1)).map natV)) = G2 at sS hSS ⊢
        refine ⟨S, rfl, ⟨_, SqT.of hSS⟩, for_tup (K := K) (a := S) (xs := (xs.drop (i + 1)).map natV) (fun j σ H' => Same G2 H' ∧ (∃ x7 x8, σ = [some (.ref p), some (.ref q), some (.ref g), some (natV c), some (.ref am'), some (.int (i : Nat)), some (natV a), x7, x8]) ∧ rowW (elsOf ds) js gs a ((xs.drop (i + 1)).take j) = none)
          ⟨Same.refl _, ⟨_, _, rfl⟩, rfl⟩ (fun j σ H' _ h => SqT.of (h.1 _ _ hSS)) ?_ ?_⟩
        · rintro j y σ H4 hj ⟨s4, ⟨x7, x8, rfl⟩, hno2⟩
          rw [List.getElem?_map] at hj
          obtain ⟨b, hb, rfl⟩ := Option.map_eq_some_iff.mp hj
          have bd := lx b (List.mem_of_mem_drop (List.mem_of_getElem? hb))
          have z4 := s02.trans (sS.trans s4)
          refine ⟨_, rfl, _, rfl, _, rfl, _, rfl, _, rfl, p, q, g, ds, n, js, lone, gs, a, b, rfl, hw0.mono z4, hk0.mono z4, z4 _ _ hg, gl, gn, ad, bd, fun H5 s5 => ?_⟩
          refine ⟨_, rfl, rfl, _, rfl, ?_⟩
          rw [optS_non]
          cases ew : pairW (elsOf ds) js gs a b with
          | none => exact iteF' rfl ⟨s4.trans s5, ⟨_, _, rfl⟩, fs_none hno2 hb (by rw [ew]; rfl)⟩
          | some wd =>
            refine iteT' rfl ⟨_, rfl, _, rfl, _, rfl, _, rfl, fun r dr hr' hdr ne => ?_⟩
            refine ⟨r, dr, natV c, natV a, natV b, .str wd, rfl, upd_same, fun H6 O6 h6 => ⟨rfl, ?_⟩⟩
            have s56 : Same H5 H6 := fun u o e => O6 _ _ (ne_of_none e hr') (upB (ne_of_none e hr') (upB (ne_of_none e hdr) e))
            have eR : rowW (elsOf ds) js gs a (xs.drop (i + 1)) = some (a, b, wd) := fs_hit hno2 hb (by rw [ew]; rfl)
            have eL : lotW (elsOf ds) js gs xs = some (a, b, wd) := first_hit hno hil (by rw [getD_get ha]; exact eR)
            exact k _ _ ((z4.trans s5).trans s56) (.inr ⟨(c, a, b, wd), r, by rw [eL]; rfl, rfl, dr, h6⟩)
        · rintro σ H4 ⟨s4, ⟨x7, x8, rfl⟩, hno2⟩
          rw [List.length_map, List.take_length] at hno2
          refine ⟨sS.trans s4, ⟨_, _, _, _, rfl⟩, fun j hj => ?_⟩
          by_cases z : j = i
          · rw [z, getD_get ha]
            exact hno2
          · exact hno j (by omega)
      · rintro σ H3 ⟨s3, ⟨x5, x6, x7, x8, rfl⟩, hno⟩
        rw [List.length_map] at hno
        have eL : lotW (elsOf ds) js gs xs = none := firstS_none.mpr hno
        exact k _ _ (s02.trans s3) (.inl ⟨by rw [eL]; rfl, rfl⟩)
    · refine ⟨_, rfl, p, C, dx, _, _, rfl, h1, TC.cl, TC.no _ (List.mem_of_getElem? (i := 2) rfl), rfl, _, rfl, ao, _, (c : Int), _, rfl, rfl, SqT.of h6, atI_nat ef, _, _, rfl, rfl, ?_⟩
      refine ⟨_, rfl, ?_⟩
      by_cases z : 0 < fldsOf ds c
      · refine iteT' (decide_eq_true (by omega)) ⟨_, rfl, q, dk, _, rfl, k1, rfl, ?_⟩
        refine ⟨_, rfl, _, rfl, g, _, (c : Int), _, rfl, rfl, SqT.of hg, atI_nat eg, q, n, gAt gs c, js, lone, rfl, hk0, gn _ (gAt_mem (by omega)), ?_⟩
        refine ⟨_, rfl, ?_⟩
        cases cl : lone.contains (gAt gs c) with
        | true =>
          refine iteT' rfl ⟨_, rfl, _, rfl, _, rfl, fun r dr hr' hdr ne => ?_⟩
          refine ⟨r, dr, natV c, natV c, natV c, .str "bare", rfl, upd_same, fun H6 O6 h6 => ⟨rfl, ?_⟩⟩
          have s56 : Same H H6 := fun u o e => O6 _ _ (ne_of_none e hr') (upB (ne_of_none e hr') (upB (ne_of_none e hdr) e))
          refine k _ _ s56 (.inr ⟨(c, c, c, "bare"), r, ?_, rfl, dr, h6⟩)
          unfold breachD breachC
          rw [if_pos (by rw [cl, decide_eq_true z]; rfl)]
        | false => exact iteF' rfl (hN _ _ ⟨rfl, rfl, by rw [cl, Bool.and_false]⟩)
      · exact iteF' (decide_eq_false (by omega)) (hN _ _ ⟨rfl, rfl, by rw [decide_eq_false z, Bool.false_and]⟩)
end
end K12

set_option maxRecDepth 100000
set_option maxHeartbeats 8000000
namespace K12
open PySem PySem.Spec PyProof.Rows L2 Kw
theorem ne_self' {x : V} : (!decide (x = x)) = false := by rw [decide_eq_true rfl]; rfl
theorem ne_len {m n : Nat} (h : m ≠ n) : (!decide (V.int (m : Int) = V.int (n : Int))) = true := by
  rw [decide_eq_false fun e => h (by have := V.int.inj e; omega)]
  rfl
section
variable {P : Program} {w : World} {K : PySem.W.Frag} {mg : Str → Option Value} {base : Heap} {f fW fC fN fB fI fS fP fG fA C Cn Cb Cg Ck : Addr} {fd fdW fdC fdN fdB fdI fdS fdP fdG fdA : FuncData}
theorem sc_badGiven : FnScope ["self", "index"] ["self", "index"] (defScope (inClass (top 7) 0)) := ⟨rfl, rfl, rfl, by decide +kernel, rfl, by decide +kernel, by decide +kernel⟩
theorem ok_badGiven (F : FnM K "__init__" "BadGiven.__init__" (inClass (top 7) 0) f fd) (T : ErrX K mg "BadGiven" ["index"] C f) : FnOk P w K mg base CX0 1 f fd ["self", "index"] (spR C ["index"]) ∧ Binds K fd ["self", "index"] [] := by
  refine ⟨F.ok sc_badGiven (fun vs H Q E h => ?_) (fun cdv A outer s H vs Q E hr h => ?_), F.bindsN fun _ _ _ _ _ _ us hl => match us, hl with | [_, _], _ => rfl⟩
  · obtain ⟨a, xs, rfl, hl, _⟩ := h
    exact congrArg Nat.succ hl
  · obtain ⟨a, xs, rfl, hl, ha, k⟩ := h
    match xs, hl with
    | [x1], _ =>
      refine ⟨_, PSs.nox (pss_one (ps_ost (pv 0) (pv 1))), ?_⟩
      refine ⟨_, rfl, _, rfl, a, C, rfl, T.oex, T.no _ (List.mem_of_getElem? (i := 0) rfl), .inl ⟨ha, fun dx hd ne => ?_⟩⟩
      exact k dx _ hd ne upd_same (upB ne upd_same) fun b o hb e => upB hb (upB (ne_of_none e hd) e)
/-- a row of kinds given: right, or the index of the first that is wrong -/
inductive GivenIs (H : Hp) (m n : Nat) (x : V) : Option Nat → Prop where
  | odd {t : String} (ty : Ty0 H x t) (hs : seqT t = false) : GivenIs H m n x (some 0)
  | len {a : Addr} {xs : List V} (e : x = .ref a) (hA : SeqAt H a xs) (hl : xs.length ≠ m) (h64 : xs.length ≤ 1000) : GivenIs H m n x (some 0)
  | bad {a : Addr} {xs : List V} {i : Nat} {y : V} {t : String} (e : x = .ref a) (hA : SeqAt H a xs) (hl : xs.length = m) (pre : ∀ j z, j < i → xs[j]? = some z → ∃ k : Nat, z = natV k ∧ k < n) (hy : xs[i]? = some y) (ty : Ty0 H y t) (hb : wholeB (.int 0) (.int ((n : Int) - 1)) y = false) : GivenIs H m n x (some i)
  | good {a : Addr} {gs : List Nat} (e : x = .ref a) (hA : SeqAt H a (gs.map natV)) (hl : gs.length = m) (hn : ∀ k ∈ gs, k < n) : GivenIs H m n x none
def GoodAt (H : Hp) (m n : Nat) (x : V) (gs : List Nat) : Prop := ∃ a, x = .ref a ∧ SeqAt H a (gs.map natV) ∧ gs.length = m ∧ ∀ k ∈ gs, k < n
def BadAt (H : Hp) (m n : Nat) (x : V) (i : Nat) : Prop := GivenIs H m n x (some i)
def spGiven (C Ck Cg : Addr) : Sp := fun vs H Q E => ∃ (p q : Addr) (x : V) (ds : List Ent) (n : Nat) (js : List (Nat × Nat)) (lone : List Nat), vs = [.ref p, .ref q, x] ∧ WorldAt H p C ds ∧ ds.length ≤ 12 ∧ KindsAt H q Ck n js lone ∧
  ((∃ gs, GoodAt H ds.length n x gs ∧ ∀ t H', Same H H' → H' t = some (.tup (gs.map natV)) → Q (.ref t) H') ∨
   (∃ i, BadAt H ds.length n x i ∧ ∀ d H', Same H H' → H' d = some (.xd (errF ["index"] [.int (i : Nat)])) → E (.ref Cg) (some d) H'))
theorem sc_given : FnScope ["world", "kinds", "given", "index", "kind"] ["world", "kinds", "given"] (defScope (top 31)) := ⟨rfl, rfl, rfl, by decide +kernel, rfl, by decide +kernel, by decide +kernel⟩
theorem ok_given (F : FnP K "check_given" 31 f fd) (B : Fr mg) (TC : ClsWorld K mg C) (TK : ClsF K Ck ["many", "joined", "bare"]) (FS : FnP K "is_sequence" 9 fS fdS) (mS : mg "is_sequence" = some (.ref fS)) (FW : FnDf K "is_whole" 10 [.non, .non] fW fdW) (mW : mg "is_whole" = some (.ref fW))
    (FG : FnM K "__init__" "BadGiven.__init__" (inClass (top 7) 0) fG fdG) (TG : ErrX K mg "BadGiven" ["index"] Cg fG) : FnOk P w K mg base (L2.CX P w) 3 f fd ["world", "kinds", "given"] (spGiven C Ck Cg) := by
  have GS : FnOk P w K mg base CX0 1 fS fdS ["thing"] spIsSeq := ok_isSeq FS B
  have GW : FnOk P w K mg base CX0 1 fW fdW ["thing", "low", "high"] spWhole := ok_whole FW B
  have bS : L2.Binds K fdS ["thing"] [] := FS.bindsN fun _ _ _ _ _ _ us hl => match us, hl with | [_], _ => rfl
  have bW := binds_whole3 FW
  obtain ⟨GG, bG⟩ : FnOk P w K mg base CX0 1 fG fdG ["self", "index"] (spR Cg ["index"]) ∧ Binds K fdG ["self", "index"] [] := ok_badGiven FG TG
  refine F.ok sc_given (fun vs H Q E h => ?_) (fun cdv A outer s H vs Q E hr h => ?_)
  · obtain ⟨p, q, x, ds, n, js, lone, rfl, _⟩ := h
    rfl
  · obtain ⟨p, q, x, ds, n, js, lone, rfl, hw, h12, hk, h⟩ := h
    refine ⟨_, (pss_cons (ps_if (PW.pt (pw_or (pt_not (pt_val (pe_call GS (hr.mono (by decide)) (by rfl) mS FS.kp bS .nil pass0 (pa_cons (pv 2) pa_nil)))) (pw_or1 (pt_cmpR op_ne (pe_callB call_len_seq (by rfl) B.len PySem.boot_len (pa_cons (pv 2) pa_nil)) (pe_callB call_len_seq (by rfl) B.len PySem.boot_len (pa_cons (pe_fld (pv 0) rfl) pa_nil)) (nomark _)))))
        (pss_one (ps_raise rfl (takes_of rfl rfl rfl rfl) (pmk_oex TG.oex TG.ini TG.inT GG (hr.mono (by decide)) bG .nil pass0 (by rfl) TG.mg (pa_cons pe_int pa_nil)))) pss_nil)
      (pss_cons (ps_for (passes_of rfl) rfl (pi_or (pi_enum (by rfl) B.enumerate (pa_cons (pv 2) pa_nil)) (pi_enumT (by rfl) B.enumerate (pa_cons (pv 2) pa_nil))) (pg_tup (by rfl) (pgs_cons (pg_name (i := 3) sc_given.nd rfl (Or.inl rfl)) (pgs_cons (pg_name (i := 4) sc_given.nd rfl (Or.inl rfl)) pgs_nil)))
        (pss_one (ps_if (pt_not (pt_val (pe_call GW (hr.mono (by decide)) (by rfl) mW FW.kp bW .nil pass0 (pa_cons (pv 4) (pa_cons pe_int (pa_cons (pe_op op_sub (pe_fld (pv 1) rfl) pe_int) pa_nil))))))
          (pss_one (ps_raise rfl (takes_of rfl rfl rfl rfl) (pmk_oex TG.oex TG.ini TG.inT GG (hr.mono (by decide)) bG .nil pass0 (by rfl) TG.mg (pa_cons (pv 3) pa_nil)))) pss_nil)))
      (pss_one (ps_ret (pe_callTy (T := "tuple") (r := rTupOf K) (call_tup (X := _)) (by rfl) B.tuple (by decide +kernel) (pa_cons (pv 2) pa_nil)))))), ?_⟩
    obtain ⟨dx, ac, ab, ao, am, ae, ah, cs, bs, ms, es, hs, h1, h2, h3, _⟩ := hw
    obtain ⟨dk, aj, al, ku, k1, k2, k3, k4⟩ := hk
    have lcs : cs.length = ds.length := h3.len
    rcases h with ⟨gs, ⟨a, rfl, hA, hl, hn⟩, k⟩ | ⟨i, hb, k⟩
    · obtain ⟨ty, tyA, hseq⟩ := hA.ty
      refine ⟨_, rfl, _, ty, rfl, tyA, fun H1 s1 => ⟨_, rfl, ?_⟩⟩
      rw [hseq]
      refine iteF ⟨_, rfl, a, _, rfl, (hA.same s1).sq, ?_⟩
      refine ⟨_, rfl, p, C, dx, _, _, rfl, s1 _ _ h1, TC.cl, TC.no _ (List.mem_of_getElem? (i := 0) rfl), rfl, ac, cs, rfl, .inr (SqT.of (s1 _ _ h2)), rfl, _, rfl, ?_⟩
      rw [List.length_map, lcs, hl]
      refine iteF' ne_self' ?_
      refine for_enumS (K := K) (a := a) (xs := gs.map natV) rfl hA s1 (fun i σ H' => Same H H' ∧ ∃ x3 x4, σ = [some (.ref p), some (.ref q), some (.ref a), x3, x4]) ⟨s1, _, _, rfl⟩ (fun i σ H' h => h.1) ?_ ?_
      · rintro i e σ H' T hi ⟨sH, x3, x4, rfl⟩ hT
        rw [List.getElem?_map] at hi
        obtain ⟨o, ho, rfl⟩ := Option.map_eq_some_iff.mp hi
        have ol := hn o (List.mem_of_getElem? ho)
        have sT := sH.trans (same_new (o := .tup [.int (i : Nat), natV o]) hT)
        refine ⟨T, _, rfl, SqT.of upd_same, rfl, _, _, rfl, _, _, rfl, rfl, ?_⟩
        refine ⟨_, rfl, _, rfl, q, Ck, dk, _, _, rfl, sT _ _ k1, TK.cl, TK.no _ (List.mem_of_getElem? (i := 0) rfl), rfl, _, _, rfl, rfl, natV o, _, _, "int", rfl, .int _, .inr ⟨_, rfl⟩, .inr ⟨_, rfl⟩, _, rfl, ?_⟩
        rw [whole_of ol]
        exact iteF' rfl ⟨sT, _, _, rfl⟩
      · rintro σ H2 ⟨sH, x3, x4, rfl⟩
        exact ⟨_, rfl, tup_q (hA.same sH) fun t H3 s3 ht => k t H3 (sH.trans s3) ht⟩
    · cases hb with
      | odd ty hs =>
        refine ⟨_, rfl, x, _, rfl, ty, fun H1 s1 => ⟨_, rfl, ?_⟩⟩
        rw [hs]
        exact iteT (raise_q rfl (by decide) fun d H' s2 _ e => k d H' (s1.trans s2) e)
      | len e hA hl h64 =>
        subst e
        obtain ⟨ty, tyA, hseq⟩ := hA.ty
        refine ⟨_, rfl, _, ty, rfl, tyA, fun H1 s1 => ⟨_, rfl, ?_⟩⟩
        rw [hseq]
        refine iteF ⟨_, rfl, _, _, rfl, (hA.same s1).sq, ?_⟩
        refine ⟨_, rfl, p, C, dx, _, _, rfl, s1 _ _ h1, TC.cl, TC.no _ (List.mem_of_getElem? (i := 0) rfl), rfl, ac, cs, rfl, .inr (SqT.of (s1 _ _ h2)), rfl, _, rfl, ?_⟩
        rw [lcs]
        refine iteT' (ne_len hl) (raise_q rfl (by decide) fun d H' s2 _ e => k d H' (s1.trans s2) e)
      | bad e hA hl pre hy ty hb =>
        subst e
        rename_i a xs y t
        obtain ⟨ty', tyA, hseq⟩ := hA.ty
        refine ⟨_, rfl, _, ty', rfl, tyA, fun H1 s1 => ⟨_, rfl, ?_⟩⟩
        rw [hseq]
        refine iteF ⟨_, rfl, _, _, rfl, (hA.same s1).sq, ?_⟩
        refine ⟨_, rfl, p, C, dx, _, _, rfl, s1 _ _ h1, TC.cl, TC.no _ (List.mem_of_getElem? (i := 0) rfl), rfl, ac, cs, rfl, .inr (SqT.of (s1 _ _ h2)), rfl, _, rfl, ?_⟩
        rw [lcs, hl]
        refine iteF' ne_self' ?_
        have il := (List.getElem?_eq_some_iff.mp hy).1
        refine for_enumS (K := K) (a := a) (xs := xs) rfl hA s1 (fun j σ H' => Same H H' ∧ j ≤ i ∧ ∃ x3 x4, σ = [some (.ref p), some (.ref q), some (.ref a), x3, x4]) ⟨s1, Nat.zero_le _, _, _, rfl⟩ (fun j σ H' h => h.1) ?_ ?_
        · rintro j e σ H' T hj ⟨sH, ji, x3, x4, rfl⟩ hT
          have sT := sH.trans (same_new (o := .tup [.int (j : Nat), e]) hT)
          by_cases z : j = i
          · subst z
            obtain rfl := Option.some.inj (hj.symm.trans hy)
            refine ⟨T, _, rfl, SqT.of upd_same, rfl, _, _, rfl, _, _, rfl, rfl, ?_⟩
            refine ⟨_, rfl, _, rfl, q, Ck, dk, _, _, rfl, sT _ _ k1, TK.cl, TK.no _ (List.mem_of_getElem? (i := 0) rfl), rfl, _, _, rfl, rfl, e, _, _, t, rfl, ty.same sT, .inr ⟨_, rfl⟩, .inr ⟨_, rfl⟩, _, rfl, ?_⟩
            rw [hb]
            exact iteT' rfl ⟨_, rfl, raise_q rfl (by decide) fun d H' s2 _ e => k d H' (sT.trans s2) e⟩
          · obtain ⟨o, rfl, ol⟩ := pre j e (by omega) hj
            refine ⟨T, _, rfl, SqT.of upd_same, rfl, _, _, rfl, _, _, rfl, rfl, ?_⟩
            refine ⟨_, rfl, _, rfl, q, Ck, dk, _, _, rfl, sT _ _ k1, TK.cl, TK.no _ (List.mem_of_getElem? (i := 0) rfl), rfl, _, _, rfl, rfl, natV o, _, _, "int", rfl, .int _, .inr ⟨_, rfl⟩, .inr ⟨_, rfl⟩, _, rfl, ?_⟩
            rw [whole_of ol]
            exact iteF' rfl ⟨sT, by omega, _, _, rfl⟩
        · rintro σ H2 ⟨sH, ji, x3, x4, rfl⟩
          omega
end
end K12

set_option maxRecDepth 100000
set_option maxHeartbeats 8000000
namespace K12
open PySem PySem.Spec PyProof.Rows L2 Kw
theorem cut_headT (xs : List V) (i : Nat) (h : i < xs.length) : ¬ (HT.sIx xs.length 0 none = 0 ∧ HT.sIx xs.length xs.length (some (i : Int)) = xs.length) ∧ cutV xs none (some (i : Int)) = xs.take i := by
  constructor
  · rw [HT.sIx_nat]
    omega
  · unfold cutV
    rw [HT.sIx_nat, HT.sIx_none, Nat.min_eq_left (by omega)]
    simp
theorem OptBr.non {H : Hp} {Cb : Addr} {v : V} {o : Option (Nat × Nat × Nat × Str)} (h : OptBr H Cb v o) : (!decide (v = V.non)) = o.isSome := by
  rcases h with ⟨rfl, rfl⟩ | ⟨z, p, rfl, rfl, _⟩
  · rfl
  · rw [decide_eq_false fun e => by cases e]
    rfl
section
variable {P : Program} {w : World} {K : PySem.W.Frag} {mg : Str → Option Value} {base : Heap} {f fW fB fS fG fR fJ C Cn Cb Cg Ck Cd : Addr} {fd fdW fdB fdS fdG fdR fdJ : FuncData}
def spKept (C Cb Ck Cg : Addr) : Sp := fun vs H Q E => ∃ (p q : Addr) (x : V) (ds : List Ent) (n : Nat) (js : List (Nat × Nat)) (lone : List Nat), vs = [.ref p, .ref q, x] ∧ WorldAt H p C ds ∧ DsOk ds ∧ ds.length ≤ 12 ∧ KindsAt H q Ck n js lone ∧
  ((∃ gs, GoodAt H ds.length n x gs ∧ ∀ v H', Same H H' → OptBr H' Cb v (breachA ds js lone gs) → Q v H') ∨
   (∃ i, BadAt H ds.length n x i ∧ ∀ d H', Same H H' → H' d = some (.xd (errF ["index"] [.int (i : Nat)])) → E (.ref Cg) (some d) H'))
theorem sc_kept : FnScope ["world", "kinds", "given", "row", "c", "fault"] ["world", "kinds", "given"] (defScope (top 32)) := ⟨rfl, rfl, rfl, by decide +kernel, rfl, by decide +kernel, by decide +kernel⟩
theorem ok_kept (F : FnP K "kept_fault" 32 f fd) (B : Fr mg) (TC : ClsWorld K mg C) (FG : FnP K "check_given" 31 fG fdG) (mG : mg "check_given" = some (.ref fG)) (GG : FnOk P w K mg base (L2.CX P w) 3 fG fdG ["world", "kinds", "given"] (spGiven C Ck Cg))
    (FB : FnP K "class_breach" 33 fB fdB) (mB : mg "class_breach" = some (.ref fB)) (GB : FnOk P w K mg base CX0 6 fB fdB ["world", "kinds", "given", "c"] (spBr C Cb Ck)) : FnOk P w K mg base (L2.CX P w) 7 f fd ["world", "kinds", "given"] (spKept C Cb Ck Cg) := by
  have bG : L2.Binds K fdG ["world", "kinds", "given"] [] := FG.bindsN fun _ _ _ _ _ _ us hl => match us, hl with | [_, _, _], _ => rfl
  have bB : L2.Binds K fdB ["world", "kinds", "given", "c"] [] := FB.bindsN fun _ _ _ _ _ _ us hl => match us, hl with | [_, _, _, _], _ => rfl
  refine F.ok sc_kept (fun vs H Q E h => ?_) (fun cdv A outer s H vs Q E hr h => ?_)
  · obtain ⟨p, q, x, ds, n, js, lone, rfl, _⟩ := h
    rfl
  · obtain ⟨p, q, x, ds, n, js, lone, rfl, hw, ok, h12, hk, h⟩ := h
    refine ⟨_, (pss_cons (ps_set (i := 3) sc_kept.nd rfl (Or.inl rfl) (pe_callS GG (hr.mono (by decide)) (by rfl) mG FG.kp bG (fun σ => passAt (takes_of rfl rfl rfl rfl) σ) (pa_cons (pv 0) (pa_cons (pv 1) (pa_cons (pv 2) pa_nil)))))
      (pss_cons (ps_for (passes_of rfl) rfl (pi_range1 (by rfl) B.range (pa_cons (pe_callB call_len_seq (by rfl) B.len PySem.boot_len (pa_cons (pe_fld (pv 0) rfl) pa_nil)) pa_nil)) (pg_name (i := 4) sc_kept.nd rfl (Or.inl rfl))
        (pss_cons (ps_set (i := 5) sc_kept.nd rfl (Or.inl rfl) (pe_call GB hr (by rfl) mB FB.kp bB .nil pass0 (pa_cons (pv 0) (pa_cons (pv 1) (pa_cons (pv 3) (pa_cons (pv 4) pa_nil))))))
        (pss_one (ps_if (pt_cmpR op_notN (pv 5) pe_non (nomark _)) (pss_one (ps_ret (pv 5))) pss_nil))))
      (pss_one (ps_ret pe_non)))), ?_⟩
    rcases h with ⟨gs, hgd, k⟩ | ⟨i, hb, k⟩
    · have gl := hgd
      obtain ⟨ga, _, _, gl, gn⟩ := gl
      refine ⟨_, rfl, _, rfl, _, rfl, p, q, x, ds, n, js, lone, rfl, hw, h12, hk, .inl ⟨gs, hgd, fun t H1 s1 ht => ?_⟩⟩
      have hw0 := hw
      obtain ⟨dx, ac, ab, ao, am, ae, ah, cs, bs, ms, es, hs, h1, h2, h3, _⟩ := hw
      have lcs : cs.length = ds.length := h3.len
      refine ⟨_, rfl, p, C, dx, _, _, rfl, s1 _ _ h1, TC.cl, TC.no _ (List.mem_of_getElem? (i := 0) rfl), rfl, ac, cs, rfl, .inr (SqT.of (s1 _ _ h2)), cs.length, rfl, by omega, by omega, ?_⟩
      rw [lcs]
      refine for_range (n := ds.length) (fun i σ H' => Same H1 H' ∧ (∃ x4 x5, σ = [some (.ref p), some (.ref q), some x, some (.ref t), x4, x5]) ∧ ∀ j, j < i → breachD ds js lone gs j = none) ⟨Same.refl _, ⟨_, _, rfl⟩, fun j z => absurd z (Nat.not_lt_zero _)⟩ ?_ ?_
      · rintro c σ H2 hc ⟨s2, ⟨x4, x5, rfl⟩, hno⟩
        have ec : (0 : Int) + (c : Int) = (c : Int) := by omega
        rw [ec]
        have s12 := s1.trans s2
        refine ⟨_, rfl, _, rfl, _, rfl, _, rfl, p, q, t, ds, n, js, lone, gs, c, rfl, hw0.mono s12, ok, h12, hk.mono s12, s2 _ _ ht, gl, gn, hc, fun v H3 s3 hv => ?_⟩
        refine ⟨_, rfl, rfl, _, rfl, ?_⟩
        rw [hv.non]
        cases eb : breachD ds js lone gs c with
        | none => exact iteF' rfl ⟨s2.trans s3, ⟨_, _, rfl⟩, fun j hj => by
            by_cases z : j = c
            · rw [z]
              exact eb
            · exact hno j (by omega)⟩
        | some z =>
          rw [eb] at hv
          exact iteT' rfl ⟨_, rfl, k _ _ (s12.trans s3) (by rw [show breachA ds js lone gs = some z from first_hit hno hc eb]; exact hv)⟩
      · rintro σ H2 ⟨s2, ⟨x4, x5, rfl⟩, hno⟩
        exact k _ _ (s1.trans s2) (.inl ⟨firstS_none.mpr hno, rfl⟩)
    · exact ⟨_, rfl, _, rfl, _, rfl, p, q, x, ds, n, js, lone, rfl, hw, h12, hk, .inr ⟨i, hb, fun d H1 s1 hd => k d H1 s1 hd⟩⟩
/-! ### the constructor of Kinds, given what is right -/
def spRowF : Sp := fun vs H Q _ => ∃ (a : Addr) (n : Nat) (xs : List Nat), vs = [.ref a, natV n] ∧ SeqAt H a (xs.map natV) ∧ xs.Nodup ∧ (∀ x ∈ xs, x < n) ∧ xs.length ≤ 1000 ∧ ∀ H', Same H H' → Q .non H'
theorem sc_rowF : FnScope ["row", "many", "index", "item"] ["row", "many"] (defScope (top 29)) := ⟨rfl, rfl, rfl, by decide +kernel, rfl, by decide +kernel, by decide +kernel⟩
theorem ok_rowF (F : FnP K "row_fault_at" 29 f fd) (B : Fr mg) (FS : FnP K "is_sequence" 9 fS fdS) (mS : mg "is_sequence" = some (.ref fS)) (FW : FnDf K "is_whole" 10 [.non, .non] fW fdW) (mW : mg "is_whole" = some (.ref fW)) : FnOk P w K mg base CX0 2 f fd ["row", "many"] spRowF := by
  have GS : FnOk P w K mg base CX0 1 fS fdS ["thing"] spIsSeq := ok_isSeq FS B
  have GW : FnOk P w K mg base CX0 1 fW fdW ["thing", "low", "high"] spWhole := ok_whole FW B
  have bS : L2.Binds K fdS ["thing"] [] := FS.bindsN fun _ _ _ _ _ _ us hl => match us, hl with | [_], _ => rfl
  have bW := binds_whole3 FW
  refine F.ok sc_rowF (fun vs H Q E h => ?_) (fun cdv A outer s H vs Q E hr h => ?_)
  · obtain ⟨a, n, xs, rfl, _⟩ := h
    rfl
  · obtain ⟨a, n, xs, rfl, hA, nd, hn, h1000, k⟩ := h
    refine ⟨_, PSs.nox (pss_cons (ps_if (pt_not (pt_val (pe_call GS hr (by rfl) mS FS.kp bS .nil pass0 (pa_cons (pv 0) pa_nil)))) (pss_one (ps_ret pe_int)) pss_nil)
      (pss_cons (ps_for PassesOwn.never rfl (pi_or (pi_enum (by rfl) B.enumerate (pa_cons (pv 0) pa_nil)) (pi_enumT (by rfl) B.enumerate (pa_cons (pv 0) pa_nil))) (pg_tup (by rfl) (pgs_cons (pg_name (i := 2) sc_rowF.nd rfl (Or.inl rfl)) (pgs_cons (pg_name (i := 3) sc_rowF.nd rfl (Or.inl rfl)) pgs_nil)))
        (pss_one (ps_if (PW.pt (pw_or (pt_not (pt_val (pe_call GW hr (by rfl) mW FW.kp bW .nil pass0 (pa_cons (pv 3) (pa_cons pe_int (pa_cons (pe_op op_sub (pv 1) pe_int) pa_nil)))))) (pw_or1 (pt_cmpR (r := rIn K false) op_in_seq (pv 3) (pe_or (pe_slice sl_list (pv 0) po_none (po_some (pv 2))) (pe_slice sl_tup (pv 0) po_none (po_some (pv 2)))) (by rfl)))))
          (pss_one (ps_ret (pv 2))) pss_nil)))
      (pss_one (ps_ret pe_non)))), ?_⟩
    obtain ⟨ty, tyA, hseq⟩ := hA.ty
    refine ⟨_, rfl, _, ty, rfl, tyA, fun H1 s1 => ⟨_, rfl, ?_⟩⟩
    rw [hseq]
    refine iteF ?_
    refine for_enumS (K := K) (a := a) (xs := xs.map natV) rfl hA s1 (fun i σ H' => Same H H' ∧ ∃ x2 x3, σ = [some (.ref a), some (natV n), x2, x3]) ⟨s1, _, _, rfl⟩ (fun i σ H' h => h.1) ?_ ?_
    · rintro i e σ H' T hi ⟨sH, x2, x3, rfl⟩ hT
      rw [List.getElem?_map] at hi
      obtain ⟨o, ho, rfl⟩ := Option.map_eq_some_iff.mp hi
      have ol := hn o (List.mem_of_getElem? ho)
      have il := (List.getElem?_eq_some_iff.mp ho).1
      have sT := sH.trans (same_new (o := .tup [.int (i : Nat), natV o]) hT)
      refine ⟨T, _, rfl, SqT.of upd_same, rfl, _, _, rfl, _, _, rfl, rfl, ?_⟩
      refine ⟨_, rfl, _, rfl, _, _, rfl, rfl, natV o, _, _, "int", rfl, .int _, .inr ⟨_, rfl⟩, .inr ⟨_, rfl⟩, _, rfl, ?_⟩
      rw [whole_of ol]
      refine iteF' rfl ?_
      obtain ⟨c1, c2⟩ := cut_headT (xs.map natV) i (by rw [List.length_map]; exact il)
      have out : inV (natV o) ((xs.take i).map natV) = false := by
        have e : inV (natV o) ((xs.take i).map natV) = (xs.take i).contains o := inV_nat _ _
        rw [e, ← Bool.not_eq_true, List.contains_iff_mem]
        intro hm
        obtain ⟨j, hj⟩ := List.mem_iff_getElem?.mp hm
        rw [List.getElem?_take] at hj
        by_cases ji : j < i
        · rw [if_pos ji] at hj
          obtain ⟨h1, h2⟩ := List.getElem?_eq_some_iff.mp hj
          obtain ⟨h3, h4⟩ := List.getElem?_eq_some_iff.mp ho
          have := (List.pairwise_iff_getElem.mp nd) j i h1 h3 ji
          exact this (h2.trans h4.symm)
        · rw [if_neg ji] at hj
          cases hj
      have same2 : ∀ {S : Addr} {o' : HO}, upd H' T (.tup [.int (i : Nat), natV o]) S = none → Same H (upd (upd H' T (.tup [.int (i : Nat), natV o])) S o') := fun hS => sT.trans (same_new hS)
      rcases hA with hA | hA
      · refine ⟨_, rfl, .inl ⟨_, rfl, _, rfl, _, rfl, a, xs.map natV, rfl, SqL.of (sT _ _ hA), fun S hS => ?_⟩⟩
        rw [c2, ← List.map_take]
        refine ⟨S, _, rfl, .inl (SqL.of upd_same), rfl, flat_nats _, _, rfl, ?_⟩
        show (if inV (natV o) ((xs.take i).map natV) = true then _ else _)
        rw [out]
        exact iteF' rfl ⟨same2 hS, _, _, rfl⟩
      · refine ⟨_, rfl, .inr ⟨_, rfl, _, rfl, _, rfl, a, xs.map natV, rfl, SqT.of (sT _ _ hA), c1, fun S hS => ?_⟩⟩
        rw [c2, ← List.map_take]
        refine ⟨S, _, rfl, .inr (SqT.of upd_same), rfl, flat_nats _, _, rfl, ?_⟩
        show (if inV (natV o) ((xs.take i).map natV) = true then _ else _)
        rw [out]
        exact iteF' rfl ⟨same2 hS, _, _, rfl⟩
    · rintro σ H2 ⟨sH, x2, x3, rfl⟩
      exact k H2 sH
/-- couples as given: each a list or a tuple of two, either way round -/
def normP (q : Nat × Nat) : Nat × Nat := (min q.1 q.2, max q.1 q.2)
def CouplesAt (H : Hp) : List V → List (Nat × Nat) → Prop := Paired fun v q => ∃ t, v = .ref t ∧ SeqAt H t [natV q.1, natV q.2]
theorem CouplesAt.same {H H' : Hp} (s : Same H H') : ∀ {us : List V} {qs : List (Nat × Nat)}, CouplesAt H us qs → CouplesAt H' us qs
  | [], [], _ => .nil
  | _ :: _, _ :: _, .cons ⟨t, e, h⟩ r => .cons ⟨t, e, h.same s⟩ (CouplesAt.same s r)
theorem CouplesAt.len {H : Hp} {us : List V} {qs : List (Nat × Nat)} (h : CouplesAt H us qs) : us.length = qs.length := Paired.length h
theorem CouplesAt.at {H : Hp} {us : List V} {qs : List (Nat × Nat)} (h : CouplesAt H us qs) : ∀ {j : Nat} {v : V}, us[j]? = some v → ∃ q t, qs[j]? = some q ∧ v = .ref t ∧ SeqAt H t [natV q.1, natV q.2] := by
  induction h with
  | nil => intro j v hj; simp at hj
  | cons z _ ih =>
    intro j v hj
    obtain ⟨t, e, h⟩ := z
    cases j with
    | zero => exact ⟨_, t, rfl, by rw [← e]; exact (Option.some.inj hj).symm, h⟩
    | succ j => exact ih (j := j) hj
structure CoupOk (n : Nat) (qs : List (Nat × Nat)) : Prop where
  ne : ∀ q ∈ qs, q.1 ≠ q.2 ∧ q.1 < n ∧ q.2 < n
  nd : (qs.map normP).Nodup
  few : qs.length ≤ 25
def codeP (q : Nat × Nat) : List Int := [((normP q).1 : Int), ((normP q).2 : Int)]
theorem codeP_inj {q r : Nat × Nat} (h : codeP q = codeP r) : normP q = normP r := by
  unfold codeP at h
  have h1 := (List.cons.inj h).1
  have h2 := (List.cons.inj (List.cons.inj h).2).1
  exact Prod.ext (by omega) (by omega)
theorem norm_sorted {q : Nat × Nat} {ys : List Int} (ne : q.1 ≠ q.2) (p : ys.Perm [(q.1 : Int), (q.2 : Int)]) (so : ys.Pairwise (· ≤ ·)) : ys = codeP q := by
  match ys, p.length_eq with
  | [u, v], _ =>
    have le : u ≤ v := List.rel_of_pairwise_cons so List.mem_cons_self
    have m1 : (q.1 : Int) ∈ [u, v] := p.mem_iff.mpr List.mem_cons_self
    have m2 : (q.2 : Int) ∈ [u, v] := p.mem_iff.mpr (List.mem_cons_of_mem _ List.mem_cons_self)
    have n1 : u ∈ [(q.1 : Int), (q.2 : Int)] := p.mem_iff.mp List.mem_cons_self
    have n2 : v ∈ [(q.1 : Int), (q.2 : Int)] := p.mem_iff.mp (List.mem_cons_of_mem _ List.mem_cons_self)
    simp only [List.mem_cons, List.not_mem_nil, or_false] at m1 m2 n1 n2
    unfold codeP normP
    show [u, v] = [((min q.1 q.2 : Nat) : Int), ((max q.1 q.2 : Nat) : Int)]
    have e1 : u = ((min q.1 q.2 : Nat) : Int) := by omega
    have e2 : v = ((max q.1 q.2 : Nat) : Int) := by omega
    rw [e1, e2]
def spJoinF : Sp := fun vs H Q _ => ∃ (a : Addr) (n : Nat) (us : List V) (qs : List (Nat × Nat)), vs = [.ref a, natV n] ∧ SeqAt H a us ∧ CouplesAt H us qs ∧ CoupOk n qs ∧ ∀ H', Same H H' → Q .non H'
theorem sc_joinF : FnScope ["joins", "many", "seen", "index", "item", "pair"] ["joins", "many"] (defScope (top 28)) := ⟨rfl, rfl, rfl, by decide +kernel, rfl, by decide +kernel, by decide +kernel⟩
theorem ok_joinF {fU : Addr} {fdU : FuncData} (F : FnP K "join_fault" 28 f fd) (B : Fr mg) (FU : FnP K "is_unlike_row" 11 fU fdU) (mU : mg "is_unlike_row" = some (.ref fU)) (GU : FnOk P w K mg base CX0 2 fU fdU ["thing", "many"] spUnlike) : FnOk P w K mg base CX0 3 f fd ["joins", "many"] spJoinF := by
  have bU : L2.Binds K fdU ["thing", "many"] [] := FU.bindsN fun _ _ _ _ _ _ us hl => match us, hl with | [_, _], _ => rfl
  refine F.ok sc_joinF (fun vs H Q E h => ?_) (fun cdv A outer s H vs Q E hr h => ?_)
  · obtain ⟨a, n, us, qs, rfl, _⟩ := h
    rfl
  · obtain ⟨a, n, us, qs, rfl, hA, hC, okC, k⟩ := h
    have hu := room65 hr
    refine ⟨_, PSs.nox (pss_cons (ps_set (i := 2) sc_joinF.nd rfl (Or.inl rfl) (pe_callTy0 (T := "set") (r := rSet0T P w) cr_set0T (by rfl) B.set (by decide +kernel)))
      (pss_cons (ps_for PassesOwn.never rfl (pi_or (pi_enum (by rfl) B.enumerate (pa_cons (pv 0) pa_nil)) (pi_enumT (by rfl) B.enumerate (pa_cons (pv 0) pa_nil))) (pg_tup (by rfl) (pgs_cons (pg_name (i := 3) sc_joinF.nd rfl (Or.inl rfl)) (pgs_cons (pg_name (i := 4) sc_joinF.nd rfl (Or.inl rfl)) pgs_nil)))
        (pss_cons (ps_if (PW.pt (pw_or (pt_not (pt_val (pe_call GU hr (by rfl) mU FU.kp bU .nil pass0 (pa_cons (pv 4) (pa_cons (pv 1) pa_nil))))) (pw_or1 (pt_cmpR op_ne (pe_callB call_len_seq (by rfl) B.len PySem.boot_len (pa_cons (pv 4) pa_nil)) pe_int (nomark _))))) (pss_one (ps_ret (pv 3))) pss_nil)
        (pss_cons (ps_set (i := 5) sc_joinF.nd rfl (Or.inl rfl) (pe_callTy (T := "tuple") (r := rTupOf K) (call_tup (X := _)) (by rfl) B.tuple (by decide +kernel) (pa_cons (pe_callB (r := rSortSI K) (call_sortedSI (X := _)) (by rfl) B.sorted (by decide +kernel) (pa_cons (pv 4) pa_nil)) pa_nil)))
        (pss_cons (ps_if (pt_cmpR (r := rSInT P w K) (or_sinT (Nat.lt_of_succ_lt hu)) (pv 5) (pv 2) (by rfl)) (pss_one (ps_ret (pv 3))) pss_nil)
        (pss_one (ps_expr (pe_addT (Nat.lt_of_succ_lt hu) (pv 2) (pa_cons (pv 5) pa_nil))))))))
      (pss_one (ps_ret pe_non)))), ?_⟩
    refine ⟨rfl, fun S hS => ?_⟩
    have sS := same_new (o := SetTO P w S []) hS
    have usl : us.length = qs.length := hC.len
    refine for_enumS (K := K) (a := a) (xs := us) rfl hA sS (fun i σ H' => Same H H' ∧ ∃ x3 x4 x5 L, σ = [some (.ref a), some (natV n), some (.ref S), x3, x4, x5] ∧ TSet P w K H' S L ∧ (∀ k, k ∈ L.map (·.2) ↔ k ∈ (qs.take i).map codeP) ∧ L.length ≤ i) ⟨sS, none, none, none, [], rfl, ⟨upd_same, fun p hp => by cases hp⟩, fun k => by simp, Nat.le_refl _⟩ (fun i σ H' h => h.1) ?_ ?_
    · rintro i e σ H1 T hi ⟨s1, x3, x4, x5, L, rfl, hT1, mem, len⟩ hT
      obtain ⟨q, t, hq, rfl, ht⟩ := hC.at hi
      obtain ⟨ne, q1, q2⟩ := okC.ne q (List.mem_of_getElem? hq)
      have few := okC.few
      have iq : i < qs.length := (List.getElem?_eq_some_iff.mp hq).1
      have sT := same_new (o := .tup [.int (i : Nat), .ref t]) hT
      refine ⟨T, _, rfl, SqT.of upd_same, rfl, _, _, rfl, _, _, rfl, rfl, ?_⟩
      have z1 := s1.trans sT
      generalize upd H1 T (.tup [.int (i : Nat), .ref t]) = H2 at sT z1 ⊢
      refine ⟨_, rfl, _, rfl, .ref t, (n : Int), true, 2, rfl, .inr ⟨t, [natV q.1, natV q.2], rfl, ht.same z1, by show 2 ≤ 1000; decide, fun y hy => ?_, ?_, rfl⟩, fun H3 s3 => ⟨_, rfl, iteF' rfl ?_⟩⟩
      · rcases List.mem_cons.mp hy with rfl | hy
        · exact ⟨_, .int _⟩
        · rw [List.mem_singleton.mp hy]
          exact ⟨_, .int _⟩
      · exact (unlike_nats (l := [q.1, q.2]) (m := n) (List.nodup_cons.mpr ⟨by simpa using ne, List.nodup_cons.mpr ⟨List.not_mem_nil, .nil⟩⟩) (fun b hb => by
          rcases List.mem_cons.mp hb with rfl | hb
          · exact q1
          · rw [List.mem_singleton.mp hb]
            exact q2)).symm
      have z3 := z1.trans s3
      refine ⟨_, rfl, t, _, rfl, (ht.same z3).sq, rfl, _, rfl, iteF' (by rfl) ?_⟩
      refine ⟨_, rfl, t, [(q.1 : Int), (q.2 : Int)], rfl, (ht.same z3).sq, fun ys l perm so hl => ?_⟩
      obtain rfl := norm_sorted ne perm so
      have sl := same_new (o := .lst ((codeP q).map V.int)) hl
      refine tup_q (.inl upd_same) fun u H4 s4 hu4 => ?_
      have y4 := sT.trans (s3.trans (sl.trans s4))
      have hT4 : TSet P w K H4 S L := ⟨y4 _ _ hT1.at_, fun p hp => y4 _ _ (hT1.tup p hp)⟩
      have out : codeP q ∉ L.map (·.2) := fun hm => by
        obtain ⟨r, hr', er⟩ := List.mem_map.mp ((mem _).mp hm)
        obtain ⟨j, hj⟩ := List.mem_iff_getElem?.mp hr'
        rw [List.getElem?_take] at hj
        by_cases ji : j < i
        · rw [if_pos ji] at hj
          have h1 : (qs.map normP)[j]? = some (normP r) := by rw [List.getElem?_map, hj]; rfl
          have h2 : (qs.map normP)[i]? = some (normP q) := by rw [List.getElem?_map, hq]; rfl
          obtain ⟨h3, h4⟩ := List.getElem?_eq_some_iff.mp h1
          obtain ⟨h5, h6⟩ := List.getElem?_eq_some_iff.mp h2
          exact (List.pairwise_iff_getElem.mp okC.nd) j i h3 h5 ji (by rw [h4, h6]; exact codeP_inj er)
        · rw [if_neg ji] at hj
          cases hj
      refine ⟨_, rfl, _, rfl, u, S, codeP q, L, rfl, rfl, hu4, hT4, _, rfl, iteF' (decide_eq_false out) ?_⟩
      refine ⟨_, rfl, ⟨S, L, rfl, hT4.at_⟩, _, rfl, S, u, codeP q, L, rfl, rfl, hT4, hu4, by omega, fun L' _ c2 => ?_⟩
      have pm := c2 out
      have uS : ∀ {b : Addr} {xs : List V}, H4 b = some (.tup xs) → b ≠ S := fun hb z => by
        rw [z, hT4.at_] at hb
        cases hb
      refine ⟨same_upd (z1.trans (s3.trans (sl.trans s4))) hS, _, _, _, L', rfl, ⟨upd_same, fun p hp => ?_⟩, fun k => ?_, ?_⟩
      · rcases List.mem_cons.mp (pm.mem_iff.mp hp) with rfl | hp
        · exact upB (uS hu4) hu4
        · exact upB (uS (hT4.tup p hp)) (hT4.tup p hp)
      · have : (L'.map (·.2)).Perm (codeP q :: L.map (·.2)) := pm.map (·.2)
        rw [this.mem_iff, List.mem_cons, mem k, List.take_add_one, hq, Option.toList_some, List.map_append, List.mem_append]
        simp only [List.map_cons, List.map_nil, List.mem_singleton]
        exact Or.comm
      · rw [pm.length_eq]
        show L.length + 1 ≤ i + 1
        omega
    · rintro σ H1 ⟨s1, x3, x4, x5, L, rfl, _⟩
      exact k H1 s1
end
end K12

set_option maxRecDepth 100000
set_option maxHeartbeats 8000000
namespace K12
open PySem PySem.Spec PyProof.Rows L2 Kw
/-! ### sorted of couples -/
def keyP (H : Hp) : V → Int × Int
  | .ref t => match H t with
    | some (.tup [.int i, .int j]) => (i, j)
    | _ => (0, 0)
  | _ => (0, 0)
theorem keyP_at {H : Hp} {t : Addr} {i j : Nat} (h : H t = some (.tup [natV i, natV j])) : keyP H (.ref t) = ((i : Int), (j : Int)) := by
  show (match H t with | some (.tup [.int i, .int j]) => (i, j) | _ => (0, 0)) = _
  rw [h]
  rfl
theorem PairsAt.mem {H : Hp} : ∀ {us : List V} {ps : List (Nat × Nat)}, PairsAt H us ps → ∀ x ∈ us, ∃ t i j, x = .ref t ∧ H t = some (.tup [natV i, natV j])
  | [], [], _, x, hx => by cases hx
  | _ :: _, _ :: _, .cons ⟨t, e, h⟩ r, x, hx => by
    rcases List.mem_cons.mp hx with rfl | hx
    · exact ⟨t, _, _, e, h⟩
    · exact PairsAt.mem r x hx
def natP (H : Hp) (v : V) : Nat × Nat := ((keyP H v).1.toNat, (keyP H v).2.toNat)
theorem PairsAt.of_mem {H : Hp} : ∀ {us : List V}, (∀ x ∈ us, ∃ t i j, x = .ref t ∧ H t = some (.tup [natV i, natV j])) → PairsAt H us (us.map (natP H))
  | [], _ => .nil
  | u :: us, h => by
    obtain ⟨t, i, j, e, ht⟩ := h u List.mem_cons_self
    refine .cons ⟨t, e, ?_⟩ (PairsAt.of_mem fun x hx => h x (List.mem_cons_of_mem _ hx))
    rw [e]
    unfold natP
    rw [keyP_at ht]
    exact ht
theorem PairsAt.nats {H : Hp} : ∀ {us : List V} {ps : List (Nat × Nat)}, PairsAt H us ps → us.map (natP H) = ps
  | [], [], _ => rfl
  | _ :: _, (i, j) :: _, .cons ⟨t, e, h⟩ r => by
    rw [List.map_cons, PairsAt.nats r, e]
    unfold natP
    rw [keyP_at h]
    rfl
def rSortPs (K : PySem.W.Frag) : List V → Hp → VK → Prop := fun vs H Q => ∃ (a : Addr) (us : List V) (ps : List (Nat × Nat)), vs = [.ref a] ∧ SqL K H a us ∧ PairsAt H us ps ∧ ps.Nodup ∧
  ∀ (ys : List V) (qs : List (Nat × Nat)) (p : Addr), PairsAt H ys qs → qs.Perm ps → SortP qs → H p = none → Q (.ref p) (upd H p (.lst ys))
theorem call_sortPs {X : Cx} : CallR X (.builtin "sorted") (rSortPs X.K) := fun pins s σ H xs us0 Q I r q => by
  obtain ⟨a, us, ps, rfl, hS, hP, nd, k⟩ := q
  refine cr_sortedPO pins s σ H _ us0 Q I r ⟨a, us, keyP H, rfl, hS, fun x hx => ?_, fun ys p h1 h2 hp => ?_⟩
  · obtain ⟨t, i, j, rfl, ht⟩ := hP.mem x hx
    refine ⟨t, rfl, ?_⟩
    rw [keyP_at ht]
    exact ht
  · have pm : ys.Perm us := h2.perm
    have hm : ∀ x ∈ ys, ∃ t i j, x = .ref t ∧ H t = some (.tup [natV i, natV j]) := fun x hx => hP.mem x (pm.mem_iff.mp hx)
    have e : (ys.map (natP H)).Perm ps := by
      have := pm.map (natP H)
      rw [hP.nats] at this
      exact this
    refine k ys _ p (PairsAt.of_mem hm) e ?_ hp
    have nd2 : (ys.map (natP H)).Nodup := e.nodup_iff.mpr nd
    have c := (List.pairwise_map.mp nd2).and h1
    refine List.pairwise_map.mpr (List.Pairwise.imp_of_mem (fun {x y} hx hy z => ?_) c)
    obtain ⟨t, i, j, rfl, ht⟩ := hm x hx
    obtain ⟨t', i', j', rfl, ht'⟩ := hm y hy
    have z1 := z.1
    have z2 := SrtO.lexB_no.mp z.2
    unfold natP at z1 ⊢
    rw [keyP_at ht, keyP_at ht'] at z1 z2 ⊢
    have z1 : ¬ ((i : Nat), (j : Nat)) = ((i' : Nat), (j' : Nat)) := z1
    have z2 : ¬ ((i' : Int) < (i : Int) ∨ ((i' : Int) = (i : Int) ∧ (j' : Int) < (j : Int))) := z2
    show i < i' ∨ (i = i' ∧ j < j')
    have z3 : ¬ (i = i' ∧ j = j') := fun ⟨a, b⟩ => z1 (by rw [a, b])
    omega
end K12

set_option maxRecDepth 100000
set_option maxHeartbeats 8000000
namespace K12
open PySem PySem.Spec PyProof.Rows L2 Kw
def upK (n : Nat) (xs : List Nat) : List Nat := (List.range n).filter fun k => xs.contains k
theorem upK_up {n : Nat} {xs : List Nat} : (upK n xs).Pairwise (· < ·) := List.Pairwise.filter _ List.pairwise_lt_range
theorem upK_mem {n : Nat} {xs : List Nat} (h : ∀ x ∈ xs, x < n) {x : Nat} : x ∈ upK n xs ↔ x ∈ xs := by
  unfold upK
  rw [List.mem_filter, List.mem_range, List.contains_iff_mem]
  exact ⟨fun z => z.2, fun z => ⟨h x z, z⟩⟩
abbrev FnMd (K : PySem.W.Frag) (x qual : Str) (st : Stmt) (dvs : List V) (f : Addr) (fd : FuncData) : Prop := FunD K x qual (defArgs st) (defBody st) (defScope st) dvs [] f fd
theorem seq_oth {H H' : Hp} {a p C dx : Addr} {xs : List V} {fs : List (Str × V)} (h : SeqAt H a xs) (O : Oth p H H') (hp : H p = some (.ins C dx fs)) : SeqAt H' a xs := by
  rcases h with h | h
  · exact .inl (O _ _ (fun z => by rw [z, hp] at h; cases h) h)
  · exact .inr (O _ _ (fun z => by rw [z, hp] at h; cases h) h)
theorem PairsAt.tups {H H' : Hp} (k : ∀ b ws, H b = some (.tup ws) → H' b = some (.tup ws)) : ∀ {us : List V} {ps : List (Nat × Nat)}, PairsAt H us ps → PairsAt H' us ps
  | [], [], _ => .nil
  | _ :: _, _ :: _, .cons ⟨t, e, h⟩ r => .cons ⟨t, e, k _ _ h⟩ (PairsAt.tups k r)
theorem norm_ints (q : Nat × Nat) : (codeP q).map V.int = [natV (normP q).1, natV (normP q).2] := rfl
section
variable {P : Program} {w : World} {K : PySem.W.Frag} {mg : Str → Option Value} {base : Heap} {f fW fS fJ fR Ck z0 : Addr} {fd fdW fdS fdJ fdR : FuncData}
def spKindsI (Ck : Addr) : Sp := fun vs H Q _ => ∃ (p dx j b : Addr) (n : Nat) (us : List V) (qs : List (Nat × Nat)) (xs : List Nat), vs = [.ref p, natV n, .ref j, .ref b] ∧ H p = some (.ins Ck dx []) ∧ 1 ≤ n ∧ n ≤ 5 ∧ SeqAt H j us ∧ CouplesAt H us qs ∧ CoupOk n qs ∧ SeqAt H b (xs.map natV) ∧ xs.Nodup ∧ (∀ x ∈ xs, x < n) ∧ xs.length ≤ 1000 ∧
  ∀ H' js, Oth p H H' → js.Perm (qs.map normP) → SortP js → KindsAt H' p Ck n js (upK n xs) → Q .non H'
theorem sc_kindsI : FnScope ["self", "many", "joined", "bare", "index", "pair"] ["self", "many", "joined", "bare"] (defScope (inClass (top 26) 0)) := ⟨rfl, rfl, rfl, by decide +kernel, rfl, by decide +kernel, by decide +kernel⟩
theorem binds_kinds (F : FnMd K "__init__" "Kinds.__init__" (inClass (top 26) 0) [.ref z0] f fd) : L2.Binds K fd ["self", "many", "joined", "bare"] [] := by
  obtain ⟨ds, v, b⟩ := F.binds1 (ps := ["self", "many", "joined", "bare"]) 4 1 (by simp) rfl fun T kV doc pm an cdv ct us its hu hi => match us, hu, its, hi with | [_, _, _, _], _, [_], _ => ⟨_, rfl, rfl⟩
  cases v
  exact b
theorem ok_kindsI (F : FnMd K "__init__" "Kinds.__init__" (inClass (top 26) 0) [.ref z0] f fd) (B : Fr mg) (zk : ∃ t, mg "MOST_KINDS" = some (.int 5 t)) (TK : ClsF K Ck ["many", "joined", "bare"]) (FS : FnP K "is_sequence" 9 fS fdS) (mS : mg "is_sequence" = some (.ref fS)) (FW : FnDf K "is_whole" 10 [.non, .non] fW fdW) (mW : mg "is_whole" = some (.ref fW))
    (FJ : FnP K "join_fault" 28 fJ fdJ) (mJ : mg "join_fault" = some (.ref fJ)) (GJ : FnOk P w K mg base CX0 3 fJ fdJ ["joins", "many"] spJoinF) (FR : FnP K "row_fault_at" 29 fR fdR) (mR : mg "row_fault_at" = some (.ref fR)) (GR : FnOk P w K mg base CX0 2 fR fdR ["row", "many"] spRowF) :
    FnOk P w K mg base CX0 4 f fd ["self", "many", "joined", "bare"] (spKindsI Ck) := by
  have GS : FnOk P w K mg base CX0 1 fS fdS ["thing"] spIsSeq := ok_isSeq FS B
  have GW : FnOk P w K mg base CX0 1 fW fdW ["thing", "low", "high"] spWhole := ok_whole FW B
  have bS : L2.Binds K fdS ["thing"] [] := FS.bindsN fun _ _ _ _ _ _ us hl => match us, hl with | [_], _ => rfl
  have bW := binds_whole3 FW
  have bJ : L2.Binds K fdJ ["joins", "many"] [] := FJ.bindsN fun _ _ _ _ _ _ us hl => match us, hl with | [_, _], _ => rfl
  have bR : L2.Binds K fdR ["row", "many"] [] := FR.bindsN fun _ _ _ _ _ _ us hl => match us, hl with | [_, _], _ => rfl
  obtain ⟨t5, z5⟩ := zk
  refine F.ok sc_kindsI (fun vs H Q E h => ?_) (fun cdv A outer s H vs Q E hr h => ?_)
  · obtain ⟨p, dx, j, b, n, us, qs, xs, rfl, _⟩ := h
    rfl
  · obtain ⟨p, dx, j, b, n, us, qs, xs, rfl, hp, n1, n5, hj, hC, okC, hb, nd, xn, x1000, k⟩ := h
    refine ⟨_, PSs.nox (pss_cons (ps_if (pt_not (pt_val (pe_call GW (hr.mono (by decide)) (by rfl) mW FW.kp bW .nil pass0 (pa_cons (pv 1) (pa_cons pe_int (pa_cons (pe_glob (v := .int 5) (by rfl) z5 ⟨_, rfl⟩) pa_nil)))))) (pss_one ps_never) pss_nil)
      (pss_cons (ps_if (pt_not (pt_val (pe_call GS (hr.mono (by decide)) (by rfl) mS FS.kp bS .nil pass0 (pa_cons (pv 2) pa_nil)))) (pss_one ps_never) pss_nil)
      (pss_cons (ps_set (i := 4) sc_kindsI.nd rfl (Or.inl rfl) (pe_call GJ hr (by rfl) mJ FJ.kp bJ .nil pass0 (pa_cons (pv 2) (pa_cons (pv 1) pa_nil))))
      (pss_cons (ps_if (pt_cmpR op_notN (pv 4) pe_non (nomark _)) (pss_one ps_never) pss_nil)
      (pss_cons (ps_set (i := 4) sc_kindsI.nd rfl (Or.inl rfl) (pe_call GR (hr.mono (by decide)) (by rfl) mR FR.kp bR .nil pass0 (pa_cons (pv 3) (pa_cons (pv 1) pa_nil))))
      (pss_cons (ps_if (pt_cmpR op_notN (pv 4) pe_non (nomark _)) (pss_one ps_never) pss_nil)
      (pss_cons (ps_fld (pv 0) (pv 1) rfl)
      (pss_cons (ps_fld (pv 0) (pe_callTy (T := "tuple") (r := rTupOf K) (call_tup (X := _)) (by rfl) B.tuple (by decide +kernel) (pa_cons (pe_callB (r := rSortPs K) (call_sortPs (X := _)) (by rfl) B.sorted (by decide +kernel) (pa_cons
          (pe_lc (own := [("pair", 5)]) (g := gName 5) (tt := tYes) (te := tCB (rTupOf K) (tCons (tCB (rSortSI K) (tCons (tVar 5) tNil)) tNil)) rfl sc_kindsI.nd (pi_or (pi_list (pv 2)) (pi_tup (pv 2))) (blkOk_by (N := ["self", "many", "joined", "bare", "index", "pair"]) (sc := defScope (inClass (top 26) 0)) (by decide +kernel))
            (fun _ _ _ _ _ => pg_name (i := 5) sc_kindsI.nd rfl (Or.inl rfl)) (fun _ _ _ _ _ => pts_nil) (fun _ _ _ _ _ => ?te)) pa_nil)) pa_nil)) rfl)
      (pss_one (ps_fld (pv 0) (pe_callTy (T := "tuple") (r := rTupOf K) (call_tup (X := _)) (by rfl) B.tuple (by decide +kernel) (pa_cons (pe_callB (r := rSortSI K) (call_sortedSI (X := _)) (by rfl) B.sorted (by decide +kernel) (pa_cons (pv 3) pa_nil)) pa_nil)) rfl)))))))))), ?_⟩
    case te => exact pe_callTy (T := "tuple") (r := rTupOf K) (call_tup (X := _)) (by rfl) B.tuple (by decide +kernel) (pa_cons (pe_callB (r := rSortSI K) (call_sortedSI (X := _)) (by rfl) B.sorted (by decide +kernel) (pa_cons (pv 5) pa_nil)) pa_nil)
    refine ⟨_, rfl, natV n, _, _, "int", rfl, .int _, .inr ⟨_, rfl⟩, .inr ⟨_, rfl⟩, _, rfl, ?_⟩
    have en : wholeB (.int 1) (.int 5) (natV n) = true := by
      show (decide ((1 : Int) ≤ (n : Int)) && decide ((n : Int) ≤ 5)) = true
      rw [decide_eq_true (by omega), decide_eq_true (by omega)]
      rfl
    rw [en]
    refine iteF' rfl ?_
    obtain ⟨ty, tyA, hseq⟩ := hj.ty
    refine ⟨_, rfl, _, ty, rfl, tyA, fun H1 s1 => ⟨_, rfl, ?_⟩⟩
    rw [hseq]
    refine iteF' rfl ?_
    refine ⟨_, rfl, _, rfl, j, n, us, qs, rfl, hj.same s1, hC.same s1, okC, fun H2 s2 => ?_⟩
    refine ⟨_, rfl, rfl, _, rfl, iteF' rfl ?_⟩
    have z2 := s1.trans s2
    refine ⟨_, rfl, _, rfl, b, n, xs, rfl, hb.same z2, nd, xn, x1000, fun H3 s3 => ?_⟩
    refine ⟨_, rfl, rfl, _, rfl, iteF' rfl ?_⟩
    have z3 := z2.trans s3
    refine ⟨_, rfl, _, rfl, p, Ck, dx, [], rfl, z3 _ _ hp, TK.cl, TK.no _ (List.mem_of_getElem? (i := 0) rfl), by simp, ?_⟩
    -- the couples in order
    have zG0 : Oth p H (upd H3 p (.ins Ck dx (putF ("many" : Str) (natV n) []))) := (Oth.of z3).upd
    generalize hG : upd H3 p (.ins Ck dx (putF ("many" : Str) (natV n) [])) = G at zG0 ⊢
    have hpG : G p = some (.ins Ck dx [("many", natV n)]) := by rw [← hG]; exact upd_same
    have zG : Oth p H G := zG0
    have hjj := seq_oth hj zG hp
    rcases hjj with hjG | hjG
    · refine .inl ⟨_, rfl, j, rfl, ⟨us, SqL.of hjG⟩, fun D hD => lc_list (K := K) (a := j) (xs := us) (fun i H' => Same G H' ∧ ∃ ws, H' D = some (.lst ws) ∧ PairsAt H' ws ((qs.take i).map normP)) ⟨same_new hD, [], upd_same, .nil⟩ (fun i H' _ z => SqL.of (z.1 _ _ hjG)) ?_ ?_⟩
      · rintro i v H4 hi ⟨s4, ws, hD4, hP4⟩
        obtain ⟨q, t, hq, rfl, ht⟩ := hC.at hi
        obtain ⟨ne, q1, q2⟩ := okC.ne q (List.mem_of_getElem? hq)
        have few := okC.few
        have iq : i < qs.length := (List.getElem?_eq_some_iff.mp hq).1
        have ht4 : SeqAt H4 t [natV q.1, natV q.2] := (seq_oth ht zG hp).same s4
        refine ⟨rfl, _, rfl, t, [(q.1 : Int), (q.2 : Int)], rfl, ht4.sq, fun ys l perm so hl => ?_⟩
        obtain rfl := norm_sorted ne perm so
        have sl := same_new (o := .lst ((codeP q).map V.int)) hl
        refine tup_q (.inl upd_same) fun u H5 s5 hu5 => ?_
        have y5 := sl.trans s5
        have hD5 := y5 _ _ hD4
        have uD : u ≠ D := fun z => by
          rw [z, hD5] at hu5
          cases hu5
        have wl : ws.length ≤ 25 := by
          rw [hP4.len, List.length_map, List.length_take]
          omega
        refine ⟨ws, hD5, (by show _ < 2 ^ 24; omega), same_upd (s4.trans y5) hD, ws ++ [.ref u], upd_same, ?_⟩
        rw [List.take_add_one, hq, Option.toList_some, List.map_append]
        exact ((hP4.same y5).keep hD5 (Oth.upd (Oth.of (Same.refl _)))).app (.cons ⟨u, rfl, upB uD hu5⟩ .nil)
      · rintro H4 ⟨s4, ws, hD4, hP4⟩
        rw [hC.len, List.take_length] at hP4
        refine ⟨D, ws, qs.map normP, rfl, SqL.of hD4, hP4, okC.nd, fun ys js q hq perm so hqn => ?_⟩
        have sq := same_new (o := .lst ys) hqn
        refine tup_q (.inl upd_same) fun u H6 s6 hu6 => ?_
        have z6 := s4.trans (sq.trans s6)
        have hq6 := hq.same (sq.trans s6)
        refine ⟨_, rfl, p, Ck, dx, _, rfl, z6 _ _ hpG, TK.cl, TK.no _ (List.mem_of_getElem? (i := 1) rfl), (by show 1 < _; decide), ?_⟩
        have o6 : Oth p H (upd H6 p (.ins Ck dx [("many", natV n), ("joined", .ref u)])) := (zG.trans (Oth.of z6)).upd
        have hb6 := seq_oth hb o6 hp
        refine ⟨_, rfl, b, xs.map (fun (n : Nat) => (n : Int)), rfl, ?_, fun ys2 l2 perm2 so2 hl2 => ?_⟩
        · rw [List.map_map]
          exact hb6.sq
        have ey : ys2.map V.int = (upK n xs).map natV := sorted_one perm2 so2 nd (up_nodup upK_up) (fun x => (upK_mem xn).symm) upK_up
        have sl2 := same_new (o := .lst (ys2.map V.int)) hl2
        refine tup_q (.inl upd_same) fun v H7 s7 hv7 => ?_
        rw [ey] at hv7
        have z7 := sl2.trans s7
        refine ⟨_, rfl, p, Ck, dx, _, rfl, z7 _ _ upd_same, TK.cl, TK.no _ (List.mem_of_getElem? (i := 2) rfl), (by show 2 < _; decide), ?_⟩
        have nt : ∀ {b : Addr} {ws : List V}, H6 b = some (.tup ws) → b ≠ p := fun e z => by
          rw [z, z6 _ _ hpG] at e
          cases e
        have nt7 : ∀ {b : Addr} {ws : List V}, H6 b = some (.tup ws) → upd H7 p (.ins Ck dx [("many", natV n), ("joined", .ref u), ("bare", .ref v)]) b = some (.tup ws) := fun e => upB (nt e) (z7 _ _ (upB (nt e) e))
        have vp : v ≠ p := fun z => by
          rw [z, z7 _ _ upd_same] at hv7
          cases hv7
        refine k _ js (o6.trans (Oth.of z7)).upd perm so ⟨dx, u, v, ys, upd_same, nt7 hu6, ?_, upB vp hv7⟩
        exact PairsAt.tups (fun b ws e => nt7 e) hq6
    · refine .inr ⟨_, rfl, j, rfl, ⟨us, SqT.of hjG⟩, fun D hD => lc_tup (K := K) (a := j) (xs := us) (fun i H' => Same G H' ∧ ∃ ws, H' D = some (.lst ws) ∧ PairsAt H' ws ((qs.take i).map normP)) ⟨same_new hD, [], upd_same, .nil⟩ (fun i H' _ z => SqT.of (z.1 _ _ hjG)) ?_ ?_⟩
      · rintro i v H4 hi ⟨s4, ws, hD4, hP4⟩
        obtain ⟨q, t, hq, rfl, ht⟩ := hC.at hi
        obtain ⟨ne, q1, q2⟩ := okC.ne q (List.mem_of_getElem? hq)
        have few := okC.few
        have iq : i < qs.length := (List.getElem?_eq_some_iff.mp hq).1
        have ht4 : SeqAt H4 t [natV q.1, natV q.2] := (seq_oth ht zG hp).same s4
        refine ⟨rfl, _, rfl, t, [(q.1 : Int), (q.2 : Int)], rfl, ht4.sq, fun ys l perm so hl => ?_⟩
        obtain rfl := norm_sorted ne perm so
        have sl := same_new (o := .lst ((codeP q).map V.int)) hl
        refine tup_q (.inl upd_same) fun u H5 s5 hu5 => ?_
        have y5 := sl.trans s5
        have hD5 := y5 _ _ hD4
        have uD : u ≠ D := fun z => by
          rw [z, hD5] at hu5
          cases hu5
        have wl : ws.length ≤ 25 := by
          rw [hP4.len, List.length_map, List.length_take]
          omega
        refine ⟨ws, hD5, (by show _ < 2 ^ 24; omega), same_upd (s4.trans y5) hD, ws ++ [.ref u], upd_same, ?_⟩
        rw [List.take_add_one, hq, Option.toList_some, List.map_append]
        exact ((hP4.same y5).keep hD5 (Oth.upd (Oth.of (Same.refl _)))).app (.cons ⟨u, rfl, upB uD hu5⟩ .nil)
      · rintro H4 ⟨s4, ws, hD4, hP4⟩
        rw [hC.len, List.take_length] at hP4
        refine ⟨D, ws, qs.map normP, rfl, SqL.of hD4, hP4, okC.nd, fun ys js q hq perm so hqn => ?_⟩
        have sq := same_new (o := .lst ys) hqn
        refine tup_q (.inl upd_same) fun u H6 s6 hu6 => ?_
        have z6 := s4.trans (sq.trans s6)
        have hq6 := hq.same (sq.trans s6)
        refine ⟨_, rfl, p, Ck, dx, _, rfl, z6 _ _ hpG, TK.cl, TK.no _ (List.mem_of_getElem? (i := 1) rfl), (by show 1 < _; decide), ?_⟩
        have o6 : Oth p H (upd H6 p (.ins Ck dx [("many", natV n), ("joined", .ref u)])) := (zG.trans (Oth.of z6)).upd
        have hb6 := seq_oth hb o6 hp
        refine ⟨_, rfl, b, xs.map (fun (n : Nat) => (n : Int)), rfl, ?_, fun ys2 l2 perm2 so2 hl2 => ?_⟩
        · rw [List.map_map]
          exact hb6.sq
        have ey : ys2.map V.int = (upK n xs).map natV := sorted_one perm2 so2 nd (up_nodup upK_up) (fun x => (upK_mem xn).symm) upK_up
        have sl2 := same_new (o := .lst (ys2.map V.int)) hl2
        refine tup_q (.inl upd_same) fun v H7 s7 hv7 => ?_
        rw [ey] at hv7
        have z7 := sl2.trans s7
        refine ⟨_, rfl, p, Ck, dx, _, rfl, z7 _ _ upd_same, TK.cl, TK.no _ (List.mem_of_getElem? (i := 2) rfl), (by show 2 < _; decide), ?_⟩
        have nt : ∀ {b : Addr} {ws : List V}, H6 b = some (.tup ws) → b ≠ p := fun e z => by
          rw [z, z6 _ _ hpG] at e
          cases e
        have nt7 : ∀ {b : Addr} {ws : List V}, H6 b = some (.tup ws) → upd H7 p (.ins Ck dx [("many", natV n), ("joined", .ref u), ("bare", .ref v)]) b = some (.tup ws) := fun e => upB (nt e) (z7 _ _ (upB (nt e) e))
        have vp : v ≠ p := fun z => by
          rw [z, z7 _ _ upd_same] at hv7
          cases hv7
        refine k _ js (o6.trans (Oth.of z7)).upd perm so ⟨dx, u, v, ys, upd_same, nt7 hu6, ?_, upB vp hv7⟩
        exact PairsAt.tups (fun b ws e => nt7 e) hq6
end
end K12

set_option maxRecDepth 100000
set_option maxHeartbeats 8000000
namespace K12
open PySem PySem.Spec PyProof.Rows L2 Kw
/-! ### definers -/
def methsOf (ds : List Ent) (k : Nat) : List Nat := (ds.getD k ([], 0, [])).2.2
theorem WorldAt.meth {H : Hp} {p C : Addr} {ds : List Ent} (h : WorldAt H p C ds) (ok : DsOk ds) {x : Nat} (hx : x < ds.length) : ∃ (dx : Addr) (fs : List (Str × V)) (am : Addr) (ms : List V) (t : Addr), H p = some (.ins C dx fs) ∧ List.lookup ("methods" : Str) fs = some (V.ref am) ∧ H am = some (.tup ms) ∧ ms[x]? = some (.ref t) ∧ H t = some (.tup ((methsOf ds x).map natV)) := by
  obtain ⟨dx, ac, ab, ao, am, ae, ah, cs, bs, ms, es, hs, h1, h2, h3, h4, h5, h6, h7, h8, h9, h10, h11, h12⟩ := h
  obtain ⟨d, hd⟩ : ∃ d, ds[x]? = some d := ⟨_, List.getElem?_eq_getElem hx⟩
  obtain ⟨t, e1, e2⟩ := h8.get (i := x) (l := sortN d.2.2) (by rw [List.getElem?_map, hd]; rfl)
  obtain ⟨o1, o2, o3, o4, o5, o6, o7⟩ := ok x d hd
  refine ⟨dx, _, am, ms, t, h1, rfl, h7, e1, ?_⟩
  rw [sortN_nat o5 o6] at e2
  unfold methsOf
  rw [List.getD_eq_getElem?_getD, hd]
  exact e2
theorem meths_len {ds : List Ent} (ok : DsOk ds) (x : Nat) : (methsOf ds x).length ≤ 3 := by
  unfold methsOf
  rw [List.getD_eq_getElem?_getD]
  cases e : ds[x]? with
  | none => exact Nat.zero_le _
  | some d => exact (ok x d e).2.2.2.2.2.2
/-- the classes among one and its elders that define a name -/
def defL (ds : List Ent) (c m : Nat) : List Nat := ((kins (elsOf ds)).getD c []).filter fun k => (methsOf ds k).contains m
/-- those that no other one has as an elder -/
def topsL (els : List (List Nat)) (xs : List Nat) : List Nat := xs.filter fun k => !(xs.any fun h => (els.getD h []).contains k)
theorem take_filterN {p : Nat → Bool} {bs : List Nat} {j x : Nat} (h : bs[j]? = some x) : (bs.take (j + 1)).filter p = (bs.take j).filter p ++ (if p x = true then [x] else []) := by
  rw [List.take_add_one, h, Option.toList_some, List.filter_append]
  congr 1
  cases c : p x with
  | true => rw [List.filter_cons_of_pos (by exact c)]; rfl
  | false => rw [List.filter_cons_of_neg (by rw [c]; decide)]; rfl
theorem kins_mem_lt {ds : List Ent} (ok : DsOk ds) {c k : Nat} (hc : c < ds.length) (hk : k ∈ (kins (elsOf ds)).getD c []) : k < ds.length := by
  have := ok.kins.le c (by rw [kinsL]; exact hc) k hk
  omega
section
variable {P : Program} {w : World} {K : PySem.W.Frag} {mg : Str → Option Value} {base : Heap} {f fC fW fN fN2 fD fA fL C Cn Cx : Addr} {fd fdC fdW fdN fdN2 fdD fdA fdL : FuncData}
def spName : Sp := fun vs H Q _ => ∃ m : Nat, vs = [natV m] ∧ m < 6 ∧ Q (natV m) H
def spDefining (C : Addr) : Sp := fun vs H Q _ => ∃ (p : Addr) (ds : List Ent) (c m : Nat), vs = [.ref p, natV c, natV m] ∧ WorldAt H p C ds ∧ DsOk ds ∧ c < ds.length ∧ ds.length ≤ 12 ∧ m < 6 ∧
  ∀ t H', Same H H' → H' t = some (.tup ((defL ds c m).map natV)) → Q (.ref t) H'
end
end K12

set_option maxRecDepth 100000
set_option maxHeartbeats 8000000
namespace K12
open PySem PySem.Spec PyProof.Rows L2 Kw
def ansL (ds : List Ent) (c m : Nat) : List Nat := topsL (elsOf ds) (defL ds c m)
theorem defL_lt {ds : List Ent} (ok : DsOk ds) {c m : Nat} (hc : c < ds.length) : ∀ k ∈ defL ds c m, k < ds.length := fun k hk => kins_mem_lt ok hc (List.mem_filter.mp hk).1
theorem defL_len {ds : List Ent} (ok : DsOk ds) {c m : Nat} (hc : c < ds.length) (h12 : ds.length ≤ 12) : (defL ds c m).length ≤ 12 := Nat.le_trans (List.length_filter_le _ _) (kin_len ok hc h12)
theorem topsL_len {els : List (List Nat)} {xs : List Nat} : (topsL els xs).length ≤ xs.length := List.length_filter_le _ _
section
variable {P : Program} {w : World} {K : PySem.W.Frag} {mg : Str → Option Value} {base : Heap} {f fD fL fA fX fY C Cn Ct : Addr} {fd fdD fdL fdA fdX fdY : FuncData}
def spLast (C : Addr) : Sp := fun vs H Q _ => ∃ (p r : Addr) (ds : List Ent) (xs : List Nat), vs = [.ref p, .ref r] ∧ WorldAt H p C ds ∧ DsOk ds ∧ H r = some (.tup (xs.map natV)) ∧ (∀ x ∈ xs, x < ds.length) ∧ ds.length ≤ 12 ∧ xs.length ≤ 12 ∧
  ∀ t H', Same H H' → H' t = some (.tup ((topsL (elsOf ds) xs).map natV)) → Q (.ref t) H'
def spAnswers (C : Addr) : Sp := fun vs H Q _ => ∃ (p : Addr) (ds : List Ent) (c m : Nat), vs = [.ref p, natV c, natV m] ∧ WorldAt H p C ds ∧ DsOk ds ∧ c < ds.length ∧ ds.length ≤ 12 ∧ m < 6 ∧
  ∀ t H', Same H H' → H' t = some (.tup ((ansL ds c m).map natV)) → Q (.ref t) H'
end
end K12

set_option maxRecDepth 100000
set_option maxHeartbeats 8000000
namespace K12
open PySem PySem.Spec PyProof.Rows L2 Kw
def twoIn (ds : List Ent) (c j : Nat) : List (Nat × Nat) := ((List.range j).filter fun m => decide (1 < (ansL ds c m).length)).map fun m => (c, m)
def twoUp (ds : List Ent) (i : Nat) : List (Nat × Nat) := (List.range i).flatMap fun c => twoIn ds c 6
theorem filter_takeN (p : Nat → Bool) (i : Nat) : (List.range (i + 1)).filter p = (List.range i).filter p ++ (if p i = true then [i] else []) := by
  rw [List.range_succ, List.filter_append]
  congr 1
  cases c : p i with
  | true => rw [List.filter_cons_of_pos (by exact c)]; rfl
  | false => rw [List.filter_cons_of_neg (by rw [c]; decide)]; rfl
theorem twoIn_succ {ds : List Ent} {c j : Nat} : twoIn ds c (j + 1) = twoIn ds c j ++ (if decide (1 < (ansL ds c j).length) = true then [(c, j)] else []) := by
  unfold twoIn
  rw [filter_takeN (fun m => decide (1 < (ansL ds c m).length)) j, List.map_append]
  congr 1
  split <;> rfl
theorem twoUp_succ {ds : List Ent} {i : Nat} : twoUp ds (i + 1) = twoUp ds i ++ twoIn ds i 6 := by
  unfold twoUp
  rw [List.range_succ, List.flatMap_append, List.flatMap_cons, List.flatMap_nil, List.append_nil]
theorem twoIn_len {ds : List Ent} {c j : Nat} : (twoIn ds c j).length ≤ j := by
  unfold twoIn
  rw [List.length_map]
  refine Nat.le_trans (List.length_filter_le _ _) ?_
  rw [List.length_range]
  exact Nat.le_refl _
theorem twoUp_len {ds : List Ent} : ∀ {i : Nat}, (twoUp ds i).length ≤ 6 * i
  | 0 => Nat.le_refl _
  | i + 1 => by
    rw [twoUp_succ, List.length_append]
    have h1 := twoUp_len (ds := ds) (i := i)
    have h2 := twoIn_len (ds := ds) (c := i) (j := 6)
    omega
section
variable {P : Program} {w : World} {K : PySem.W.Frag} {mg : Str → Option Value} {base : Heap} {f fA fX fY C Cn Ct : Addr} {fd fdA fdX fdY : FuncData}
def spDefiner (C Cn Ct : Addr) : Sp := fun vs H Q E => ∃ (p : Addr) (ds : List Ent) (c m : Nat), vs = [.ref p, natV c, natV m] ∧ WorldAt H p C ds ∧ DsOk ds ∧ c < ds.length ∧ ds.length ≤ 12 ∧ m < 6 ∧
  (∀ a, ansL ds c m = [a] → ∀ H', Same H H' → Q (natV a) H') ∧
  (ansL ds c m = [] → ∀ d H', Same H H' → H' d = some (.xd (errF ["cls", "name"] [natV c, natV m])) → E (.ref Cn) (some d) H') ∧
  (∀ a b r, ansL ds c m = a :: b :: r → ∀ d H', Same H H' → H' d = some (.xd (errF ["cls", "name", "a", "b"] [natV c, natV m, natV a, natV b])) → E (.ref Ct) (some d) H')
def spTwo (C : Addr) : Sp := fun vs H Q _ => ∃ (p : Addr) (ds : List Ent), vs = [.ref p] ∧ WorldAt H p C ds ∧ DsOk ds ∧ ds.length ≤ 12 ∧
  ∀ t us H', Same H H' → H' t = some (.tup us) → PairsAt H' us (twoUp ds ds.length) → Q (.ref t) H'
end
end K12

set_option maxRecDepth 100000
set_option maxHeartbeats 8000000
namespace K12
open PySem PySem.Spec PyProof.Rows L2 Kw
/-- a comprehension over enumerate(xs) -/
theorem lc_enumTN {K : PySem.W.Frag} {a : Addr} {xs : List V} {g : TG} {tt : TT} {te : TE} {vs : List Nat} {σ : L2.St} {H1 : Hp} {D : Addr} {Qd : Hp → Prop} (Pv : Nat → Hp → Prop) (h0 : Pv 0 (upd H1 D (.lst []))) (hl : ∀ i H, i ≤ xs.length → Pv i H → SqT K H a xs)
    (hs : ∀ i x H T, xs[i]? = some x → Pv i H → H T = none → g (.ref T) (wipe σ vs) (upd H T (.tup [.int (i : Nat), x])) fun σ2 H2 => wipe σ2 vs = wipe σ vs ∧ tt σ2 H2 fun b H3 =>
      if b = true then te σ2 H3 fun y H4 => ∃ acc, H4 D = some (.lst acc) ∧ acc.length < sizeLine ∧ Pv (i + 1) (upd H4 D (.lst (acc ++ [y]))) else Pv (i + 1) H3) (hd : ∀ H, Pv xs.length H → Qd H) :
    ∃ W : Nat → Nat → Hp → Prop, (∃ m, W 0 m (upd H1 D (.lst []))) ∧ ∀ i m H, W i m H →
      ((Itet K a).stop i H ∧ Qd H) ∨ ((Itet K a).go i H ∧ ∃ Nx : Hp → Prop, (∀ H', Nx H' → ∃ m', m' < m ∧ W (i + 1) m' H') ∧ ∀ x H', (Itet K a).yld i H x H' → g x (wipe σ vs) H' fun σ2 H2 => wipe σ2 vs = wipe σ vs ∧ tt σ2 H2 fun b H3 =>
        if b = true then te σ2 H3 fun y H4 => ∃ acc, H4 D = some (.lst acc) ∧ acc.length < sizeLine ∧ Nx (upd H4 D (.lst (acc ++ [y]))) else Nx H3) := by
  refine ⟨fun i m H => m = xs.length - i ∧ i ≤ xs.length ∧ Pv i H, ⟨xs.length, by simp, Nat.zero_le _, h0⟩, ?_⟩
  rintro i m H ⟨rfl, hi, p⟩
  have q := hl i H hi p
  by_cases hlt : i < xs.length
  · refine .inr ⟨⟨xs, xs[i], q, by simp [hlt]⟩, Pv (i + 1), fun H' p' => ⟨xs.length - (i + 1), by omega, rfl, hlt, p'⟩, fun x H' y => ?_⟩
    obtain ⟨T, z, e1, e2, e3, e4⟩ := y
    subst e1 e3
    exact hs i z H T (e4 xs q) p e2
  · have e : i = xs.length := by omega
    subst e
    exact .inl ⟨⟨xs, q, rfl⟩, hd H p⟩

def rowL (ds : List Ent) (m : Nat) : List Nat := (List.range ds.length).filter fun c => (methsOf ds c).contains m
def condO (ds : List Ent) (a b : Nat) : Bool := decide (a < b) && !((kins (elsOf ds)).getD b []).contains a
theorem condO_iff {ds : List Ent} {a b : Nat} : condO ds a b = true ↔ a < b ∧ ((kins (elsOf ds)).getD b []).contains a = false := by
  unfold condO
  rw [Bool.and_eq_true, decide_eq_true_iff]
  cases ((kins (elsOf ds)).getD b []).contains a <;> simp
theorem rowL_up {ds : List Ent} {m : Nat} : (rowL ds m).Pairwise (· < ·) := List.Pairwise.filter _ List.pairwise_lt_range
theorem rowL_lt {ds : List Ent} {m : Nat} : ∀ x ∈ rowL ds m, x < ds.length := fun x hx => List.mem_range.mp (List.mem_filter.mp hx).1
theorem rowL_len {ds : List Ent} {m : Nat} : (rowL ds m).length ≤ ds.length := by
  unfold rowL
  refine Nat.le_trans (List.length_filter_le _ _) ?_
  rw [List.length_range]
  exact Nat.le_refl _
theorem meth_get {H : Hp} {ms : List V} {ds : List Ent} (h8 : TupsAt H ms (ds.map fun d => sortN d.2.2)) (ok : DsOk ds) {x : Nat} (hx : x < ds.length) : ∃ t, ms[x]? = some (.ref t) ∧ H t = some (.tup ((methsOf ds x).map natV)) := by
  obtain ⟨d, hd⟩ : ∃ d, ds[x]? = some d := ⟨_, List.getElem?_eq_getElem hx⟩
  obtain ⟨t, e1, e2⟩ := h8.get (i := x) (l := sortN d.2.2) (by rw [List.getElem?_map, hd]; rfl)
  obtain ⟨o1, o2, o3, o4, o5, o6, o7⟩ := ok x d hd
  refine ⟨t, e1, ?_⟩
  rw [sortN_nat o5 o6] at e2
  unfold methsOf
  rw [List.getD_eq_getElem?_getD, hd]
  exact e2
def OptP2 (H : Hp) (v : V) (o : Option (List Nat)) : Prop := (o = none ∧ v = .non) ∨ ∃ a b t, o = some [a, b] ∧ v = .ref t ∧ H t = some (.tup [natV a, natV b])
section
variable {P : Program} {w : World} {K : PySem.W.Frag} {mg : Str → Option Value} {base : Heap} {f fL fC fW fN fN2 C Cn : Addr} {fd fdL fdC fdW fdN fdN2 : FuncData}
def spOff (C : Addr) : Sp := fun vs H Q _ => ∃ (p : Addr) (ds : List Ent) (m : Nat), vs = [.ref p, natV m] ∧ WorldAt H p C ds ∧ DsOk ds ∧ ds.length ≤ 12 ∧ m < 6 ∧
  ∀ v H' o, Same H H' → Least (condO ds) (rowL ds m) o → OptP2 H' v o → Q v H'
end
end K12

set_option maxRecDepth 100000
set_option maxHeartbeats 8000000
namespace K12
open PySem PySem.Spec PyProof.Rows L2 Kw
/-- a thing of any kind as a test -/
def tTru (K : PySem.W.Frag) (ta : TE) : TT := fun σ H Q => ta σ H fun x H' => ∃ k, TruV K x H' k ∧ Q k H'
theorem pt_tru {X : Cx} {a : Expr} {ta : TE} (ha : PE X a ta) (he : ∀ whole, isTrue a X.env whole = (do let v ← whole; standAt a.pos; holding [v] (truthy v))) : PT X a (tTru X.K ta) := pt_truth ha he
theorem defL_up {ds : List Ent} (ok : DsOk ds) {c m : Nat} (hc : c < ds.length) : (defL ds c m).Pairwise (· < ·) := by
  unfold defL
  refine List.Pairwise.filter _ ?_
  have e : (kins (elsOf ds)).getD c [] = kinOf (elsOf ds) c := kins_getD (by unfold elsOf; rw [elders_len, List.length_map]; exact hc)
  rw [e]
  exact (kin_up (ds.map (·.1)) c (by rw [List.length_map]; exact hc)).1
section
variable {P : Program} {w : World} {K : PySem.W.Frag} {mg : Str → Option Value} {base : Heap} {f fD fL : Addr} {fd fdD fdL : FuncData}
def spTops : Sp := fun vs H Q _ => ∃ (a r : Addr) (us : List V) (els : List (List Nat)) (xs : List Nat), vs = [.ref a, .ref r] ∧ H a = some (.lst us) ∧ ListsAt H us els ∧ H r = some (.lst (xs.map natV)) ∧ xs.Pairwise (· < ·) ∧ (∀ x ∈ xs, x < els.length) ∧ xs.length ≤ 12 ∧
  ∀ D H', Same H H' → H' D = some (.lst ((topsL els xs).map natV)) → Q (.ref D) H'
def spLDef : Sp := fun vs H Q _ => ∃ (l a : Addr) (us es : List V) (ds : List Ent) (c m : Nat), vs = [.ref l, .ref a, natV c, natV m] ∧ H l = some (.lst us) ∧ RwN l H us ds ∧ DsOk ds ∧ ds.length ≤ 12 ∧ c < ds.length ∧ H a = some (.lst es) ∧ ListsAt H es (elsOf ds) ∧
  ∀ D H', Same H H' → H' D = some (.lst ((defL ds c m).map natV)) → Q (.ref D) H'
def spLAns : Sp := fun vs H Q _ => ∃ (l a : Addr) (us es : List V) (ds : List Ent) (c m : Nat), vs = [.ref l, .ref a, natV c, natV m] ∧ H l = some (.lst us) ∧ RwN l H us ds ∧ DsOk ds ∧ ds.length ≤ 12 ∧ c < ds.length ∧ H a = some (.lst es) ∧ ListsAt H es (elsOf ds) ∧
  ∀ D H', Same H H' → H' D = some (.lst ((ansL ds c m).map natV)) → Q (.ref D) H'
theorem ListsAt.sameN {H H' : Hp} (s : Same H H') : ∀ {vs : List V} {ls : List (List Nat)}, ListsAt H vs ls → ListsAt H' vs ls
  | [], [], _ => .nil
  | _ :: _, _ :: _, .cons ⟨t, e, h⟩ r => .cons ⟨t, e, s _ _ h⟩ (ListsAt.sameN s r)
end
end K12

set_option maxRecDepth 100000
set_option maxHeartbeats 8000000
namespace K12
open PySem PySem.Spec PyProof.Rows L2 Kw
section
variable {P : Program} {w : World} {K : PySem.W.Frag} {mg : Str → Option Value} {base : Heap} {f : Addr} {fd : FuncData}
def spLOff : Sp := fun vs H Q _ => ∃ (l a : Addr) (us es : List V) (ds : List Ent) (m : Nat), vs = [.ref l, .ref a, natV m] ∧ H l = some (.lst us) ∧ RwN l H us ds ∧ DsOk ds ∧ ds.length ≤ 12 ∧ H a = some (.lst es) ∧ ListsAt H es (elsOf ds) ∧
  ∀ v H' o, Same H H' → Least (condO ds) (rowL ds m) o → OptP2 H' v o → Q v H'
end
end K12

set_option maxRecDepth 100000
set_option maxHeartbeats 8000000
namespace K12
open PySem PySem.Spec PyProof.Rows L2 Kw
theorem DsOk.meths {ds : List Ent} (h : DsOk ds) {i : Nat} {d : Ent} (hd : ds[i]? = some d) {j : Nat} (hj : j = i) {ms : List Nat} (h1 : ms.Pairwise (· < ·)) (h2 : ∀ m ∈ ms, m < 6) (h3 : ms.length ≤ 3) : EOk j (d.1, d.2.1, ms) := by
  obtain ⟨o1, o2, o3, o4, o5, o6, o7⟩ := h i d hd
  rw [hj]
  exact ⟨o1, o2, o3, o4, h1, h2, h3⟩
theorem RwN.getN {R : Addr} {H : Hp} : ∀ {vs : List V} {ls : List Ent} {i : Nat} {d : Ent}, RwN R H vs ls → ls[i]? = some d → ∃ t b m, vs[i]? = some (.ref t) ∧ t ≠ R ∧ H t = some (.tup [.ref b, natV d.2.1, .ref m]) ∧ b ≠ R ∧ H b = some (.lst (d.1.map natV)) ∧ m ≠ R ∧ H m = some (.lst (d.2.2.map natV))
  | [], [], _, _, _, h => by simp at h
  | _ :: _, _ :: _, 0, _, .cons ⟨t, b, m, e1, n1, h1, n2, h2, n3, h3⟩ _, e => by
    obtain rfl := Option.some.inj e
    exact ⟨t, b, m, by rw [e1]; rfl, n1, h1, n2, h2, n3, h3⟩
  | _ :: _, _ :: _, i + 1, _, .cons _ r, e => RwN.getN (i := i) r e
theorem tFor_if {t : TT} {ta tb : TE} {g : TG} {body : TS} {D : Ends} {σ : L2.St} {H : Hp} (Q1 : V → Hp → Prop) (h1 : ∀ Q' : VK, (∀ v H, Q1 v H → Q' v H) → tIf t ta tb σ H Q') (k : ∀ v H', Q1 v H' → tFor (iRng1 (tCons (tC v) tNil)) g body D σ H') : tFor (iRng1 (tCons (tIf t ta tb) tNil)) g body D σ H := h1 _ fun v H' z => k v H' z
theorem gName_seq {i : Nat} {v : V} {σ : L2.St} {H : Hp} {t u : TS} {D : Ends} (h : t { D with nx := u D } (σ.set i (some v)) H) : gName i v σ H (tSeq t u D) := h
section
variable {P : Program} {w : World} {K : PySem.W.Frag} {mg : Str → Option Value} {base : Heap} {f fT fM : Addr} {fd fdT fdM : FuncData}
def spFew : Sp := fun vs H Q _ => ∃ (p q l : Addr) (us : List V) (ds : List Ent), vs = [.ref p, .ref l] ∧ HandAt H p q ∧ l ≠ p ∧ H l = some (.lst us) ∧ RwN l H us ds ∧ DsOk ds ∧ ds.length ≤ 12 ∧
  ∀ l' H' us' (ds' : List Ent), Oth p H H' → HandAt H' p q → l' ≠ p → H' l' = some (.lst us') → RwN l' H' us' ds' → ds'.length = ds.length → DsOk ds' → Q (.ref l') H'
end
end K12

set_option maxRecDepth 100000
set_option maxHeartbeats 8000000
namespace K12
open PySem PySem.Spec PyProof.Rows L2 Kw
section
variable {P : Program} {w : World} {K : PySem.W.Frag} {mg : Str → Option Value} {base : Heap} {f fC fT : Addr} {fd fdC fdT : FuncData}
def Coup (n : Nat) (ps : List (Nat × Nat)) : Prop := SortP ps ∧ (∀ p ∈ ps, p.1 < p.2 ∧ p.2 < n) ∧ ps.length ≤ 12 * n
def spCoup : Sp := fun vs H Q _ => ∃ n : Nat, vs = [natV n] ∧ n ≤ 12 ∧ ∀ D us H' ps, Same H H' → H D = none → H' D = some (.lst us) → PairsAt H' us ps → Coup n ps → (∀ a b, a < b → b < n → (a, b) ∈ ps) → Q (.ref D) H'
theorem sc_coup : FnScope ["_law_many", "_law_found", "_law_a", "_law_b"] ["_law_many"] (defScope (top 43)) := ⟨rfl, rfl, rfl, by decide +kernel, rfl, by decide +kernel, by decide +kernel⟩
theorem ok_coup (F : FnP K "_law_couples" 43 f fd) (B : Fr mg) : FnOk P w K mg base CX0 1 f fd ["_law_many"] spCoup := by
  refine F.ok sc_coup (fun vs H Q E h => ?_) (fun cdv A outer s H vs Q E hr h => ?_)
  · obtain ⟨n, rfl, _⟩ := h
    rfl
  · obtain ⟨n, rfl, n12, k⟩ := h
    refine ⟨_, PSs.nox (pss_cons (ps_set (i := 1) sc_coup.nd rfl (Or.inl rfl) (pe_lst pa_nil))
      (pss_cons (ps_for PassesOwn.never rfl (pi_range1 (by rfl) B.range (pa_cons (pv 0) pa_nil)) (pg_name (i := 2) sc_coup.nd rfl (Or.inl rfl))
        (pss_one (ps_for PassesOwn.never rfl (pi_range2 (by rfl) B.range (pa_cons (pe_op op_add (pv 2) pe_int) (pa_cons (pv 0) pa_nil))) (pg_name (i := 3) sc_coup.nd rfl (Or.inl rfl))
          (pss_one (ps_expr (pe_bm PySem.F.plainAttrs_list PySem.F.slot_list_append PySem.F.type_list_append mt_append (pv 1) (pa_cons (pe_tup (pa_cons (pv 2) (pa_cons (pv 3) pa_nil))) pa_nil)))))))
      (pss_one (ps_ret (pv 1))))), ?_⟩
    refine ⟨by decide, fun D hD => ?_⟩
    have sD := same_new (o := .lst []) hD
    refine ⟨_, rfl, _, rfl, by omega, by omega, ?_⟩
    refine for_range (n := ((n : Int)).toNat) (fun i σ H' => Same H H' ∧ ∃ x2 x3 us ps, σ = [some (natV n), some (.ref D), x2, x3] ∧ H' D = some (.lst us) ∧ PairsAt H' us ps ∧ SortP ps ∧ ps.length ≤ 12 * i ∧ ∀ a b, (a, b) ∈ ps ↔ a < b ∧ b < n ∧ a < i)
      ⟨sD, none, none, [], [], rfl, upd_same, .nil, .nil, Nat.le_refl _, fun a b => ⟨(fun h => by cases h), fun h => absurd h.2.2 (Nat.not_lt_zero _)⟩⟩ ?_ ?_
    · rintro i σ H1 hi ⟨s1, x2, x3, us, ps, rfl, hD1, hP, so, pl, mem⟩
      have hi : i < n := by omega
      have ei : (0 : Int) + (i : Int) = (i : Int) := by omega
      rw [ei]
      refine ⟨_, rfl, _, _, rfl, rfl, _, rfl, _, _, rfl, ⟨by omega, by omega, by omega, by omega⟩, ?_⟩
      refine for_range (lo := (i : Int) + 1) (n := ((n : Int) - ((i : Int) + 1)).toNat) (fun j σ H' => Same H H' ∧ ∃ x3 us ps, σ = [some (natV n), some (.ref D), some (natV i), x3] ∧ H' D = some (.lst us) ∧ PairsAt H' us ps ∧ SortP ps ∧ ps.length ≤ 12 * i + j ∧ ∀ a b, (a, b) ∈ ps ↔ a < b ∧ b < n ∧ (a < i ∨ (a = i ∧ b < i + 1 + j)))
        ⟨s1, x3, us, ps, rfl, hD1, hP, so, pl, fun a b => ?_⟩ ?_ ?_
      · rw [mem]
        exact ⟨fun h => ⟨h.1, h.2.1, .inl h.2.2⟩, fun h => ⟨h.1, h.2.1, by omega⟩⟩
      · rintro j σ H2 hj ⟨s2, x3, us, ps, rfl, hD2, hP, so, pl, mem⟩
        have ej : ((i : Int) + 1) + (j : Int) = ((i + 1 + j : Nat) : Int) := by omega
        rw [ej]
        have hb : i + 1 + j < n := by omega
        refine ⟨_, rfl, .inl ⟨rfl, _, SqL.of hD2⟩, _, rfl, _, rfl, (by show 2 ≤ sizeLine; decide), fun T hT => ?_⟩
        have sT := same_new (o := .tup [natV i, natV (i + 1 + j)]) hT
        have hDT := sT _ _ hD2
        have TD : T ≠ D := Ne.symm (ne_of_none hD2 hT)
        have ul := hP.len
        refine ⟨D, us, _, rfl, rfl, hDT, (by show _ < 2 ^ 24; omega), same_upd (s2.trans sT) hD, _, us ++ [.ref T], ps ++ [(i, i + 1 + j)], rfl, upd_same, ?_, ?_, ?_, fun a b => ?_⟩
        · exact ((hP.same sT).keep hDT (Oth.upd (Oth.of (Same.refl _)))).app (.cons ⟨T, rfl, upB TD upd_same⟩ .nil)
        · refine so.snoc fun p hp => ?_
          have := (mem p.1 p.2).mp hp
          omega
        · rw [List.length_append]
          show _ + 1 ≤ _
          omega
        · rw [List.mem_append, mem, List.mem_singleton, Prod.mk.injEq]
          omega
      · rintro σ H2 ⟨s2, x3, us, ps, rfl, hD2, hP, so, pl, mem⟩
        refine ⟨s2, _, _, us, ps, rfl, hD2, hP, so, by omega, fun a b => ?_⟩
        rw [mem]
        omega
    · rintro σ H1 ⟨s1, x2, x3, us, ps, rfl, hD1, hP, so, pl, mem⟩
      have en : ((n : Int)).toNat = n := by omega
      rw [en] at mem pl
      exact ⟨_, rfl, k D us H1 ps s1 hD hD1 hP ⟨so, fun p hp => by have := (mem p.1 p.2).mp hp; omega, by omega⟩ fun a b h1 h2 => (mem a b).mpr (by omega)⟩
/-! ### the law's kinds -/
theorem PairsAt.updL {H : Hp} {D : Addr} {xs ys : List V} (hD : H D = some (.lst xs)) : ∀ {us : List V} {ps : List (Nat × Nat)}, PairsAt H us ps → PairsAt (upd H D (.lst ys)) us ps
  | [], [], _ => .nil
  | _ :: _, _ :: _, .cons ⟨t, e, h⟩ r => .cons ⟨t, e, upB (fun z => by rw [z, hD] at h; cases h) h⟩ (PairsAt.updL hD r)
theorem PairsAt.erase {H : Hp} : ∀ (i : Nat) {us : List V} {ps : List (Nat × Nat)}, PairsAt H us ps → PairsAt H (us.eraseIdx i) (ps.eraseIdx i)
  | _, [], [], _ => .nil
  | 0, _ :: _, _ :: _, .cons _ r => r
  | i + 1, _ :: _, _ :: _, .cons z r => .cons z (PairsAt.erase i r)
theorem seq_at {k n : Nat} (h : k < n) : seqIndex? (k : Int) n = some k := by
  have := PySem.seqIndex_of (k := (k : Int)) (n := n) (by omega) (by omega)
  rw [Int.toNat_natCast] at this
  exact this
theorem sub_sort {ps qs : List (Nat × Nat)} (h : ps.Sublist qs) (s : SortP qs) : SortP ps := List.Pairwise.sublist h s
/-- a law's own kinds: a list of the number, the joins, the bare ones -/
def LKinds (H : Hp) (l n : Nat) (js : List (Nat × Nat)) (lone : List Nat) (p : Addr) : Prop := ∃ jl ll us, H l = some (.lst [natV n, .ref jl, .ref ll]) ∧ H jl = some (.lst us) ∧ PairsAt H us js ∧ H ll = some (.lst (lone.map natV)) ∧ l ≠ p ∧ jl ≠ p ∧ ll ≠ p
def spLKinds : Sp := fun vs H Q _ => ∃ p q : Addr, vs = [.ref p] ∧ HandAt H p q ∧ ∀ l H' n js lone, Oth p H H' → HandAt H' p q → LKinds H' l n js lone p → KOk n js lone → Q (.ref l) H'
theorem sc_lkinds : FnScope ["_law_hand_here", "_law_many", "_law_shape", "_law_joined_here", "_law_a", "_law_b", "_law_let", "_law_lone", "_law_one"] ["_law_hand_here"] (defScope (top 44)) := ⟨rfl, rfl, rfl, by decide +kernel, rfl, by decide +kernel, by decide +kernel⟩
theorem ok_lkinds {fM : Addr} {fdM : FuncData} (F : FnP K "_law_kinds" 44 f fd) (B : Fr mg) (FT : FnP K "_law_take" 38 fT fdT) (mT : mg "_law_take" = some (.ref fT)) (GT : FnOk P w K mg base CX0 2 fT fdT ["_law_hand_here", "_law_many"] spTake) (FC : FnP K "_law_couples" 43 fC fdC) (mC : mg "_law_couples" = some (.ref fC)) (GC : FnOk P w K mg base CX0 1 fC fdC ["_law_many"] spCoup) :
    FnOk P w K mg base CX0 3 f fd ["_law_hand_here"] spLKinds := by
  have bT : L2.Binds K fdT ["_law_hand_here", "_law_many"] [] := FT.bindsN fun _ _ _ _ _ _ us hl => match us, hl with | [_, _], _ => rfl
  have bC : L2.Binds K fdC ["_law_many"] [] := FC.bindsN fun _ _ _ _ _ _ us hl => match us, hl with | [_], _ => rfl
  refine F.ok sc_lkinds (fun vs H Q E h => ?_) (fun cdv A outer s H vs Q E hr h => ?_)
  · obtain ⟨p, q, rfl, _⟩ := h
    rfl
  · obtain ⟨p, q, rfl, hh, k⟩ := h
    refine ⟨_, PSs.nox (pss_cons (ps_set (i := 1) sc_lkinds.nd rfl (Or.inl rfl) (pe_ix (r := rIxT K) ix_tup (pe_tup (pa_cons pe_int (pa_cons pe_int (pa_cons pe_int (pa_cons pe_int (pa_cons pe_int (pa_cons pe_int (pa_cons pe_int (pa_cons pe_int pa_nil))))))))) (pe_call GT hr (by rfl) mT FT.kp bT .nil pass0 (pa_cons (pv 0) (pa_cons pe_int pa_nil))) (fun _ _ => rfl)))
      (pss_cons (ps_set (i := 2) sc_lkinds.nd rfl (Or.inl rfl) (pe_call GT hr (by rfl) mT FT.kp bT .nil pass0 (pa_cons (pv 0) (pa_cons pe_int pa_nil))))
      (pss_cons (ps_set (i := 3) sc_lkinds.nd rfl (Or.inl rfl) (pe_lst pa_nil))
      (pss_cons (ps_for PassesOwn.never rfl (pi_list (pe_call GC (hr.mono (by decide)) (by rfl) mC FC.kp bC .nil pass0 (pa_cons (pv 1) pa_nil))) (pg_tup (by rfl) (pgs_cons (pg_name (i := 4) sc_lkinds.nd rfl (Or.inl rfl)) (pgs_cons (pg_name (i := 5) sc_lkinds.nd rfl (Or.inl rfl)) pgs_nil)))
        (pss_cons (ps_if (pt_cmpR op_eq (pv 2) pe_int (nomark _)) (pss_one (ps_set (i := 6) sc_lkinds.nd rfl (Or.inl rfl) (pe_cmpR op_eq (pe_call GT hr (by rfl) mT FT.kp bT .nil pass0 (pa_cons (pv 0) (pa_cons pe_int pa_nil))) pe_int (nomark _))))
          (pss_one (ps_if (pt_cmpR op_eq (pv 2) pe_int (nomark _)) (pss_one (ps_set (i := 6) sc_lkinds.nd rfl (Or.inl rfl) (L2.pe_or (pe_cmpR op_eq (pv 5) (pe_op op_add (pv 4) pe_int) (nomark _)) (pe_one (pe_cmpR op_eq (pe_op op_add (pv 4) (pv 1)) (pe_op op_add (pv 5) pe_int) (nomark _))))))
          (pss_one (ps_if (pt_cmpR op_eq (pv 2) pe_int (nomark _)) (pss_one (ps_set (i := 6) sc_lkinds.nd rfl (Or.inl rfl) (pe_cmpR op_eq (pe_op op_mod (pe_callTy (T := "int") call_int1 (by rfl) B.int PyProof.Rows.boot_int (pa_cons (pe_op op_sub (pv 5) (pv 4)) pa_nil)) pe_int) pe_int (nomark _))))
          (pss_one (ps_if (pt_cmpR op_eq (pv 2) pe_int (nomark _)) (pss_one (ps_set (i := 6) sc_lkinds.nd rfl (Or.inl rfl) pe_bl))
          (pss_one (ps_set (i := 6) sc_lkinds.nd rfl (Or.inl rfl) (pe_cmpR op_gt (pe_call GT hr (by rfl) mT FT.kp bT .nil pass0 (pa_cons (pv 0) (pa_cons pe_int pa_nil))) pe_int (nomark _)))))))))))
        (pss_one (ps_if (pt_val (pv 6)) (pss_one (ps_expr (pe_bm PySem.F.plainAttrs_list PySem.F.slot_list_append PySem.F.type_list_append mt_append (pv 3) (pa_cons (pe_tup (pa_cons (pv 4) (pa_cons (pv 5) pa_nil))) pa_nil)))) pss_nil))))
      (pss_cons (ps_if (PW.pt (pw_and (pt_tru (pv 3) (by intro _; rfl)) (pw_and1 (pt_cmpR op_eq (pe_call GT hr (by rfl) mT FT.kp bT .nil pass0 (pa_cons (pv 0) (pa_cons pe_int pa_nil))) pe_int (nomark _)))))
        (pss_one (ps_expr (pe_bm PySem.F.plainAttrs_list PySem.F.slot_list_pop PySem.F.type_list_pop mt_popAt (pv 3) (pa_cons (pe_call GT hr (by rfl) mT FT.kp bT .nil pass0 (pa_cons (pv 0) (pa_cons (pe_callB call_len_seq (by rfl) B.len PySem.boot_len (pa_cons (pv 3) pa_nil)) pa_nil))) pa_nil)))) pss_nil)
      (pss_cons (ps_set (i := 7) sc_lkinds.nd rfl (Or.inl rfl) (pe_lst pa_nil))
      (pss_cons (ps_if (pt_cmpR op_eq (pe_call GT hr (by rfl) mT FT.kp bT .nil pass0 (pa_cons (pv 0) (pa_cons pe_int pa_nil))) pe_int (nomark _))
        (pss_one (ps_for PassesOwn.never rfl (pi_range1 (by rfl) B.range (pa_cons (pv 1) pa_nil)) (pg_name (i := 8) sc_lkinds.nd rfl (Or.inl rfl))
          (pss_one (ps_if (pt_cmpR op_eq (pe_call GT hr (by rfl) mT FT.kp bT .nil pass0 (pa_cons (pv 0) (pa_cons pe_int pa_nil))) pe_int (nomark _)) (pss_one (ps_expr (pe_bm PySem.F.plainAttrs_list PySem.F.slot_list_append PySem.F.type_list_append mt_append (pv 7) (pa_cons (pv 8) pa_nil)))) pss_nil)))) pss_nil)
      (pss_one (ps_ret (pe_lst (pa_cons (pv 1) (pa_cons (pv 3) (pa_cons (pv 7) pa_nil))))))))))))), ?_⟩
    -- how many
    refine ⟨by (show 8 ≤ sizeLine); decide, fun t ht => ?_⟩
    obtain ⟨tp, tq⟩ := hh.ne ht
    refine ⟨_, rfl, p, q, 8, rfl, by decide, by decide, hh.upd tp tq, fun r H1 r0 r1 h1 e1 => ?_⟩
    obtain ⟨v, hv, hm⟩ := tab_at (tab := [2, 3, 3, 4, 4, 5, 5, 1]) r0 r1
    have hv5 : 1 ≤ v ∧ v ≤ 5 := (by decide : ∀ v ∈ ([2, 3, 3, 4, 4, 5, 5, 1] : List Int), 1 ≤ v ∧ v ≤ 5) v hm
    obtain ⟨n, rfl⟩ : ∃ n : Nat, v = (n : Int) := ⟨v.toNat, by omega⟩
    have T1 : H1 t = some (.tup (([2, 3, 3, 4, 4, 5, 5, 1] : List Int).map V.int)) := by
      rw [e1 t tp]
      exact upd_same
    have O1 : Oth p H H1 := (Oth.of (same_new ht)).trans (Oth.take e1)
    refine ⟨t, _, r, _, rfl, rfl, SqT.of T1, hv, ?_⟩
    -- the shape
    refine ⟨_, rfl, p, q, 5, rfl, by decide, by decide, h1, fun sh H2 s0 s1 h2 e2 => ?_⟩
    have O2 := O1.trans (Oth.take e2)
    refine ⟨by decide, fun J hJ => ?_⟩
    obtain ⟨Jp, Jq⟩ := h2.ne hJ
    have HJ : H J = none := oth_free O2 Jp hJ
    have sJ := same_new (o := .lst []) hJ
    have h3 : HandAt (upd H2 J (.lst [])) p q := h2.upd Jp Jq
    -- the couples
    refine ⟨_, rfl, n, rfl, by omega, fun D us H4 ps s4 hD hD4 hP cp all => ?_⟩
    obtain ⟨Dp, Dq⟩ := h3.ne hD
    have O4 : Oth p H H4 := (O2.trans (Oth.of sJ)).trans (Oth.of s4)
    have J4 : H4 J = some (.lst []) := s4 _ _ upd_same
    have DJ : D ≠ J := fun z => by
      rw [z, upd_same] at hD
      cases hD
    have h4 := h3.same s4
    refine ⟨D, rfl, ⟨_, SqL.of hD4⟩, for_list (K := K) (a := D) (xs := us) (fun i σ H' => Oth p H H' ∧ HandAt H' p q ∧ H' D = some (.lst us) ∧ PairsAt H' us ps ∧ ∃ x4 x5 x6 ws js, σ = [some (.ref p), some (natV n), some (.int sh), some (.ref J), x4, x5, x6, none, none] ∧ H' J = some (.lst ws) ∧ PairsAt H' ws js ∧ js.Sublist (ps.take i))
      ⟨O4, h4, hD4, hP, none, none, none, [], [], rfl, J4, .nil, List.nil_sublist _⟩ (fun i σ H' _ h => SqL.of h.2.2.1) ?_ ?_⟩
    · rintro i y σ H5 hi ⟨O5, h5, hD5, hP5, x4, x5, x6, ws, js, rfl, J5, hW5, sub⟩
      obtain ⟨pr, t2, hpr, rfl, ht2⟩ := hP5.at hi
      refine ⟨t2, _, rfl, SqT.of ht2, rfl, _, _, rfl, _, _, rfl, rfl, ?_⟩
      have wl : ws.length ≤ 60 := by
        have h1 := hW5.len
        have h2 := sub.length_le
        rw [List.length_take] at h2
        have h3 := cp.2.2
        omega
      refine set_if (fun σ' H' => ∃ b : Bool, σ' = [some (.ref p), some (natV n), some (.int sh), some (.ref J), some (natV pr.1), some (natV pr.2), some (.bl b), none, none] ∧ Oth p H5 H' ∧ HandAt H' p q) ?_ (fun N hN => ?_)
      · rintro σ' H6 ⟨b, rfl, O6, h6⟩
        have ki := KI.oth O6 h5
        have hD6 := O6 _ _ Dp hD5
        have J6 := O6 _ _ Jp J5
        refine ⟨_, rfl, _, rfl, ?_⟩
        cases b with
        | true =>
          refine iteT' rfl ⟨_, rfl, .inl ⟨rfl, _, SqL.of J6⟩, _, rfl, _, rfl, (by show 2 ≤ sizeLine; decide), fun T hT => ?_⟩
          have sT := same_new (o := .tup [natV pr.1, natV pr.2]) hT
          obtain ⟨Tp, Tq⟩ := h6.ne hT
          have JT := sT _ _ J6
          have TJ : T ≠ J := Ne.symm (ne_of_none J6 hT)
          refine ⟨J, ws, _, rfl, rfl, JT, (by show _ < 2 ^ 24; omega), (((O5.trans O6).trans (Oth.of sT)).updN HJ), ?_, upB DJ (sT _ _ hD6), ?_, _, _, _, ws ++ [.ref T], js ++ [pr], rfl, upd_same, ?_, ?_⟩
          · exact (h6.same sT).upd Jp Jq
          · exact PairsAt.updL JT ((hP5.ki ki).same sT)
          · exact (PairsAt.updL JT ((hW5.ki ki).same sT)).app (.cons ⟨T, rfl, upB TJ upd_same⟩ .nil)
          · rw [List.take_add_one, hpr, Option.toList_some]
            exact sub.append (List.Sublist.refl _)
        | false =>
          refine iteF' rfl ⟨O5.trans O6, h6, hD6, hP5.ki ki, _, _, _, ws, js, rfl, J6, hW5.ki ki, ?_⟩
          rw [List.take_add_one, hpr, Option.toList_some]
          exact sub.trans (List.sublist_append_left _ _)
      · have go : ∀ b H6, Oth p H5 H6 → HandAt H6 p q → N [some (.ref p), some (natV n), some (.int sh), some (.ref J), some (natV pr.1), some (natV pr.2), some (.bl b), none, none] H6 := fun b H6 O6 h6 => hN _ _ ⟨b, rfl, O6, h6⟩
        refine ⟨_, rfl, rfl, _, rfl, ite2 (fun _ => ?_) (fun _ => ?_)⟩
        · exact ⟨_, rfl, p, q, 2, rfl, by decide, by decide, h5, fun r H6 r0 r1 h6 e6 => ⟨rfl, go _ _ (Oth.take e6) h6⟩⟩
        refine ⟨_, rfl, rfl, _, rfl, ite2 (fun _ => ?_) (fun _ => ?_)⟩
        · refine ⟨_, rfl, _, rfl, _, _, rfl, rfl, rfl, _, rfl, ite2 (fun _ => go _ _ (Oth.of (Same.refl _)) h5) (fun _ => ?_)⟩
          exact ⟨_, rfl, _, rfl, _, _, rfl, rfl, _, rfl, _, _, rfl, rfl, rfl, go _ _ (Oth.of (Same.refl _)) h5⟩
        refine ⟨_, rfl, rfl, _, rfl, ite2 (fun _ => ?_) (fun _ => ?_)⟩
        · exact ⟨_, rfl, _, rfl, _, _, rfl, rfl, .inl ⟨_, rfl, _, _, rfl, rfl, (by show (0 : Int) < 2; decide), rfl, go _ _ (Oth.of (Same.refl _)) h5⟩⟩
        refine ⟨_, rfl, rfl, _, rfl, ite2 (fun _ => ?_) (fun _ => ?_)⟩
        · exact go _ _ (Oth.of (Same.refl _)) h5
        · exact ⟨_, rfl, p, q, 4, rfl, by decide, by decide, h5, fun r H6 r0 r1 h6 e6 => ⟨_, _, rfl, rfl, go _ _ (Oth.take e6) h6⟩⟩
    · rintro σ H5 ⟨O5, h5, hD5, hP5, x4, x5, x6, ws, js, rfl, J5, hW5, sub⟩
      have pl := cp.2.2
      have wl : ∀ {ws : List V} {js : List (Nat × Nat)} {H' : Hp}, PairsAt H' ws js → js.Sublist ps → ws.length ≤ 60 := fun h1 h2 => by
        have := h1.len
        have := h2.length_le
        omega
      have sub : js.Sublist ps := sub.trans (List.take_sublist _ _)
      -- one away
      dsimp only
      refine set_if (fun σ' H' => ∃ (ws : List V) (js : List (Nat × Nat)), σ' = [some (.ref p), some (natV n), some (.int sh), some (.ref J), x4, x5, x6, none, none] ∧ Oth p H H' ∧ HandAt H' p q ∧ H' J = some (.lst ws) ∧ PairsAt H' ws js ∧ js.Sublist ps) ?_ (fun N hN => ?_)
      · rintro σ' H6 ⟨ws, js, rfl, O6, h6, J6, hW6, sub⟩
        refine ⟨by decide, fun L hL => ?_⟩
        obtain ⟨Lp, Lq⟩ := h6.ne hL
        have HL : H L = none := oth_free O6 Lp hL
        have sL := same_new (o := .lst []) hL
        have LJ : L ≠ J := fun z => by
          rw [z, J6] at hL
          cases hL
        have h7 : HandAt (upd H6 L (.lst [])) p q := h6.upd Lp Lq
        have J7 : upd H6 L (.lst []) J = some (.lst ws) := sL _ _ J6
        have W7 := hW6.same sL
        have O7 : Oth p H (upd H6 L (.lst [])) := O6.trans (Oth.of sL)
        have L7 : upd H6 L (.lst []) L = some (.lst (([] : List Nat).map natV)) := upd_same
        generalize upd H6 L (.lst []) = H7 at h7 J7 W7 O7 L7 ⊢
        dsimp only [gName]
        refine set_if (fun σ' H' => ∃ (x8 : Option V) (lone : List Nat), σ' = [some (.ref p), some (natV n), some (.int sh), some (.ref J), x4, x5, x6, some (.ref L), x8] ∧ Oth p H H' ∧ HandAt H' p q ∧ H' J = some (.lst ws) ∧ PairsAt H' ws js ∧ H' L = some (.lst (lone.map natV)) ∧ lone.Pairwise (· < ·) ∧ ∀ x ∈ lone, x < n) ?_ (fun N2 hN2 => ?_)
        · rintro σ' H8 ⟨x8, lone, rfl, O8, h8, J8, W8, L8, up, bl⟩
          refine ⟨_, rfl, _, rfl, _, rfl, (by show 3 ≤ sizeLine; decide), fun R hR => ?_⟩
          obtain ⟨Rp, Rq⟩ := h8.ne hR
          have sR := same_new (o := .lst [natV n, .ref J, .ref L]) hR
          refine k R _ n js lone (O8.trans (Oth.of sR)) (h8.same sR) ⟨J, L, ws, upd_same, sR _ _ J8, W8.same sR, sR _ _ L8, Rp, Jp, Lp⟩ ⟨by omega, by omega, sub_sort sub cp.1, fun x hx => cp.2.1 x (sub.subset hx), up, bl⟩
        · refine ⟨_, rfl, p, q, 3, rfl, by decide, by decide, h7, fun r H8 r0 r1 h8 e8 => ⟨rfl, _, rfl, ?_⟩⟩
          have ki8 := KI.oth (Oth.take e8) h7
          have J8 := (Oth.take e8) _ _ Jp J7
          have L8 := (Oth.take e8) _ _ Lp L7
          refine ite2 (fun _ => ?_) (fun _ => hN2 _ _ ⟨_, [], rfl, O7.trans (Oth.take e8), h8, J8, W7.ki ki8, L8, .nil, fun x hx => by cases hx⟩)
          refine ⟨_, rfl, _, rfl, by omega, by omega, ?_⟩
          refine for_range (n := ((n : Int)).toNat) (fun i σ H' => ∃ (x8 : Option V) (lone : List Nat), σ = [some (.ref p), some (natV n), some (.int sh), some (.ref J), x4, x5, x6, some (.ref L), x8] ∧ Oth p H H' ∧ HandAt H' p q ∧ H' J = some (.lst ws) ∧ PairsAt H' ws js ∧ H' L = some (.lst (lone.map natV)) ∧ lone.Pairwise (· < ·) ∧ (∀ x ∈ lone, x < i) ∧ lone.length ≤ i)
            ⟨_, [], rfl, O7.trans (Oth.take e8), h8, J8, W7.ki ki8, L8, .nil, (fun x hx => by cases hx), Nat.le_refl _⟩ ?_ ?_
          · rintro i σ H9 hi ⟨x8, lone, rfl, O9, h9, J9, W9, L9, up, bl, ll⟩
            have ei : (0 : Int) + (i : Int) = (i : Int) := by omega
            rw [ei]
            have hi : i < n := by omega
            refine ⟨_, rfl, p, q, 3, rfl, by decide, by decide, h9, fun r H10 r0 r1 h10 e10 => ⟨rfl, _, rfl, ?_⟩⟩
            have ki10 := KI.oth (Oth.take e10) h9
            have J10 := (Oth.take e10) _ _ Jp J9
            have L10 := (Oth.take e10) _ _ Lp L9
            refine ite2 (fun _ => ?_) (fun _ => ⟨_, lone, rfl, O9.trans (Oth.take e10), h10, J10, W9.ki ki10, L10, up, fun x hx => by have := bl x hx; omega, by omega⟩)
            refine ⟨_, rfl, .inl ⟨rfl, _, SqL.of L10⟩, _, rfl, L, _, _, rfl, rfl, L10, (by rw [List.length_map]; show _ < 2 ^ 24; omega), _, lone ++ [i], rfl, (O9.trans (Oth.take e10)).updN HL, h10.upd Lp Lq, upB LJ.symm J10, PairsAt.updL L10 (W9.ki ki10), by rw [upd_same, List.map_append]; rfl, ?_, fun x hx => ?_, by rw [List.length_append]; show _ + 1 ≤ _; omega⟩
            · exact List.pairwise_append.mpr ⟨up, List.pairwise_singleton _ _, fun x hx y hy => by rw [List.mem_singleton.mp hy]; exact bl x hx⟩
            · rcases List.mem_append.mp hx with hx | hx
              · have := bl x hx
                omega
              · rw [List.mem_singleton.mp hx]
                omega
          · rintro σ H9 ⟨x8, lone, rfl, O9, h9, J9, W9, L9, up, bl, ll⟩
            exact hN2 _ _ ⟨_, lone, rfl, O9, h9, J9, W9, L9, up, fun x hx => by have := bl x hx; omega⟩
      · have stay : ∀ {H' : Hp}, Oth p H5 H' → HandAt H' p q → N [some (.ref p), some (natV n), some (.int sh), some (.ref J), x4, x5, x6, none, none] H' := fun O h => hN _ _ ⟨ws, js, rfl, O5.trans O, h, O _ _ Jp J5, hW5.ki (KI.oth O h5), sub⟩
        refine ⟨_, rfl, _, .inl ⟨_, SqL.of J5, rfl⟩, ?_⟩
        cases ew : (!ws.isEmpty) with
        | false => exact iteF' rfl (stay (Oth.of (Same.refl _)) h5)
        | true =>
          refine iteT' rfl ⟨_, rfl, p, q, 4, rfl, by decide, by decide, h5, fun r H6 r0 r1 h6 e6 => ⟨rfl, _, rfl, ?_⟩⟩
          refine ite2 (fun _ => ?_) (fun _ => stay (Oth.take e6) h6)
          have ki6 := KI.oth (Oth.take e6) h5
          have J6 := (Oth.take e6) _ _ Jp J5
          have W6 := hW5.ki ki6
          have w0 : 0 < ws.length := by
            cases ws with
            | nil => cases ew
            | cons a t => exact Nat.succ_pos _
          have w60 := wl hW5 sub
          refine ⟨_, rfl, .inl ⟨rfl, _, SqL.of J6⟩, _, rfl, _, rfl, J, ws, rfl, .inl (SqL.of J6), p, q, (ws.length : Int), rfl, by omega, by omega, h6, fun r2 H7 r20 r21 h7 e7 => ?_⟩
          obtain ⟨c, rfl⟩ : ∃ c : Nat, r2 = (c : Int) := ⟨r2.toNat, by omega⟩
          have cl : c < ws.length := by omega
          have ki7 := KI.oth (Oth.take e7) h6
          have J7 := (Oth.take e7) _ _ Jp J6
          refine ⟨J, ws, (c : Int), c, ws[c], rfl, rfl, J7, by omega, by omega, seq_at cl, List.getElem?_eq_getElem cl, hN _ _ ⟨ws.eraseIdx c, js.eraseIdx c, rfl, ((O5.trans (Oth.take e6)).trans (Oth.take e7)).updN HJ, h7.upd Jp Jq, upd_same, ?_, (List.eraseIdx_sublist _ _).trans sub⟩⟩
          exact PairsAt.updL J7 (PairsAt.erase c (W6.ki ki7))
end
end K12

set_option maxRecDepth 100000
set_option maxHeartbeats 8000000
namespace K12
open PySem PySem.Spec PyProof.Rows L2 Kw
section
variable {P : Program} {w : World} {K : PySem.W.Frag} {mg : Str → Option Value} {base : Heap} {f fJ fP fB fE : Addr} {fd fdJ fdP fdB fdE : FuncData}
def spLJoined : Sp := fun vs H Q _ => ∃ (l p0 : Addr) (n x y : Nat) (js : List (Nat × Nat)) (lone : List Nat), vs = [.ref l, natV x, natV y] ∧ LKinds H l n js lone p0 ∧ ∀ H', Same H H' → Q (.bl (joinedB js x y)) H'
theorem sc_ljoined : FnScope ["_law_kinds_here", "_law_a", "_law_b"] ["_law_kinds_here", "_law_a", "_law_b"] (defScope (top 45)) := ⟨rfl, rfl, rfl, by decide +kernel, rfl, by decide +kernel, by decide +kernel⟩
theorem ok_ljoined (F : FnP K "_law_joined" 45 f fd) (gMin : mg "min" = none) (gMax : mg "max" = none) : FnOk P w K mg base CX0 1 f fd ["_law_kinds_here", "_law_a", "_law_b"] spLJoined := by
  refine F.ok sc_ljoined (fun vs H Q E h => ?_) (fun cdv A outer s H vs Q E hr h => ?_)
  · obtain ⟨l, p0, n, x, y, js, lone, rfl, _⟩ := h
    rfl
  · obtain ⟨l, p0, n, x, y, js, lone, rfl, ⟨jl, ll, us, h1, h2, h3, h4, _⟩, k⟩ := h
    refine ⟨_, PSs.nox (pss_one (ps_ret (pe_cmpR (r := rInD K) (op_inD (room65 hr)) (pe_tup (pa_cons (pe_callB (call_min2 rfl) (by rfl) gMin (by decide +kernel) (pa_cons (pv 1) (pa_cons (pv 2) pa_nil))) (pa_cons (pe_callB (call_max2 rfl) (by rfl) gMax (by decide +kernel) (pa_cons (pv 1) (pa_cons (pv 2) pa_nil))) pa_nil))) (pe_ix (r := rIxL K) ix_list (pv 0) pe_int (fun _ _ => rfl)) (by rfl)))), ?_⟩
    refine ⟨_, rfl, _, rfl, _, _, rfl, ?_⟩
    refine ⟨_, rfl, _, rfl, _, _, rfl, (by show 2 ≤ sizeLine; decide), fun T hT => ?_⟩
    simp only [GT.gt, min_nat, max_nat]
    have sT := same_new (o := .tup [.int ((min x y : Nat) : Int), .int ((max x y : Nat) : Int)]) hT
    refine ⟨_, rfl, l, _, 1, _, rfl, rfl, SqL.of (sT _ _ h1), rfl, ?_⟩
    refine ⟨dPair (min x y, max x y), js.map dPair, .tup (SqT.of upd_same) (.cons (.int _) (.cons (.int _) .nil)), .lst (SqL.of (sT _ _ h2)) (dp_pairs (h3.same sT)), (lay_pair _).shaped (by decide), (lay_pairs _).shaped (by decide), ?_⟩
    rw [any_pair]
    exact k _ sT
def spLPair : Sp := fun vs H Q _ => ∃ (el l g p0 : Addr) (es : List V) (els : List (List Nat)) (n : Nat) (js : List (Nat × Nat)) (lone gs : List Nat) (a b : Nat), vs = [.ref el, .ref l, .ref g, natV a, natV b] ∧ H el = some (.lst es) ∧ ListsAt H es els ∧ LKinds H l n js lone p0 ∧ H g = some (.lst (gs.map natV)) ∧ gs.length = els.length ∧ a < els.length ∧ b < els.length ∧
  ∀ H', Same H H' → Q (optS (pairW els js gs a b)) H'
theorem sc_lpair : FnScope ["_law_elders_here", "_law_kinds_here", "_law_given", "_law_a", "_law_b"] ["_law_elders_here", "_law_kinds_here", "_law_given", "_law_a", "_law_b"] (defScope (top 47)) := ⟨rfl, rfl, rfl, by decide +kernel, rfl, by decide +kernel, by decide +kernel⟩
theorem ok_lpair (F : FnP K "_law_pair_word" 47 f fd) (FJ : FnP K "_law_joined" 45 fJ fdJ) (mJ : mg "_law_joined" = some (.ref fJ)) (GJ : FnOk P w K mg base CX0 1 fJ fdJ ["_law_kinds_here", "_law_a", "_law_b"] spLJoined) : FnOk P w K mg base CX0 2 f fd ["_law_elders_here", "_law_kinds_here", "_law_given", "_law_a", "_law_b"] spLPair := by
  have bJ : L2.Binds K fdJ ["_law_kinds_here", "_law_a", "_law_b"] [] := FJ.bindsN fun _ _ _ _ _ _ us hl => match us, hl with | [_, _, _], _ => rfl
  refine F.ok sc_lpair (fun vs H Q E h => ?_) (fun cdv A outer s H vs Q E hr h => ?_)
  · obtain ⟨el, l, g, p0, es, els, n, js, lone, gs, a, b, rfl, _⟩ := h
    rfl
  · obtain ⟨el, l, g, p0, es, els, n, js, lone, gs, a, b, rfl, hel, hL, hk, hg, gl, ha, hb, k⟩ := h
    refine ⟨_, PSs.nox (pss_cons (ps_if (pt_cmpR op_eq (pe_ix (r := rIxL K) ix_list (pv 2) (pv 3) (fun _ _ => rfl)) (pe_ix (r := rIxL K) ix_list (pv 2) (pv 4) (fun _ _ => rfl)) (nomark _))
        (pss_one (ps_ret (pe_ifExp (PW.pt (pw_or (pt_cmpR op_eq (pv 3) (pv 4) (nomark _)) (pw_or (pt_cmpR (r := rIn K false) op_in_seq (pv 3) (pe_ix (r := rIxL K) ix_list (pv 0) (pv 4) (fun _ _ => rfl)) (by rfl)) (pw_or1 (pt_cmpR (r := rIn K false) op_in_seq (pv 4) (pe_ix (r := rIxL K) ix_list (pv 0) (pv 3) (fun _ _ => rfl)) (by rfl)))))) pe_non pe_str))) pss_nil)
      (pss_one (ps_ret (pe_ifExp (pt_val (pe_call GJ hr (by rfl) mJ FJ.kp bJ .nil pass0 (pa_cons (pv 1) (pa_cons (pe_ix (r := rIxL K) ix_list (pv 2) (pv 3) (fun _ _ => rfl)) (pa_cons (pe_ix (r := rIxL K) ix_list (pv 2) (pv 4) (fun _ _ => rfl)) pa_nil))))) pe_non pe_str)))), ?_⟩
    have ea := gAt_get (gs := gs) (c := a) (by omega)
    have eb := gAt_get (gs := gs) (c := b) (by omega)
    obtain ⟨ra, hra⟩ : ∃ ra, els[a]? = some ra := ⟨_, List.getElem?_eq_getElem ha⟩
    obtain ⟨rb, hrb⟩ : ∃ rb, els[b]? = some rb := ⟨_, List.getElem?_eq_getElem hb⟩
    obtain ⟨ta, eta, hta⟩ := hL.get hra
    obtain ⟨tb, etb, htb⟩ := hL.get hrb
    refine ⟨_, rfl, _, rfl, g, _, (a : Int), _, rfl, rfl, SqL.of hg, atI_nat ea, _, rfl, _, rfl, g, _, (b : Int), _, rfl, rfl, SqL.of hg, atI_nat eb, rfl, _, rfl, ?_⟩
    rw [nat_eq]
    by_cases c1 : gAt gs a = gAt gs b
    · have ew : pairW els js gs a b = if onLine els a b = true then none else some ("line" : Str) := by
        unfold pairW
        rw [if_pos c1]
      have eo : onLine els a b = (decide (a = b) || (rb.contains a || ra.contains b)) := by
        unfold onLine
        rw [List.getD_eq_getElem?_getD, List.getD_eq_getElem?_getD, hra, hrb]
        rfl
      rw [ew, eo] at k
      refine iteT' (decide_eq_true c1) ⟨_, rfl, _, rfl, rfl, _, rfl, ?_⟩
      rw [nat_eq]
      by_cases z : a = b
      · rw [decide_eq_true z] at k ⊢
        exact iteT' rfl (k H (Same.refl _))
      rw [decide_eq_false z] at k ⊢
      refine iteF' rfl ⟨_, rfl, _, rfl, _, rfl, el, es, (b : Int), _, rfl, rfl, SqL.of hel, atI_nat etb, tb, _, rfl, .inl (SqL.of htb), rfl, flat_nats _, _, rfl, ?_⟩
      have i1 : inV (natV a) (rb.map natV) = rb.contains a := inV_nat _ _
      show (if inV (natV a) (rb.map natV) = true then _ else _)
      rw [i1]
      cases z1 : rb.contains a with
      | true =>
        rw [z1] at k
        exact iteT' rfl (k H (Same.refl _))
      | false =>
      rw [z1] at k
      refine iteF' rfl ⟨_, rfl, _, rfl, _, rfl, el, es, (a : Int), _, rfl, rfl, SqL.of hel, atI_nat eta, ta, _, rfl, .inl (SqL.of hta), rfl, flat_nats _, _, rfl, ?_⟩
      have i2 : inV (natV b) (ra.map natV) = ra.contains b := inV_nat _ _
      show (if inV (natV b) (ra.map natV) = true then _ else _)
      rw [i2]
      cases z2 : ra.contains b with
      | true =>
        rw [z2] at k
        exact iteT' rfl (k H (Same.refl _))
      | false =>
        rw [z2] at k
        exact iteF' rfl (k H (Same.refl _))
    · have ew : pairW els js gs a b = if joinedB js (gAt gs a) (gAt gs b) = true then none else some ("kind" : Str) := by
        unfold pairW
        rw [if_neg c1]
      rw [ew] at k
      refine iteF' (decide_eq_false c1) ?_
      refine ⟨_, rfl, _, rfl, _, rfl, g, _, (a : Int), _, rfl, rfl, SqL.of hg, atI_nat ea, _, rfl, _, rfl, g, _, (b : Int), _, rfl, rfl, SqL.of hg, atI_nat eb, ?_⟩
      refine ⟨l, p0, n, gAt gs a, gAt gs b, js, lone, rfl, hk, fun H3 s3 => ⟨_, rfl, ?_⟩⟩
      cases c2 : joinedB js (gAt gs a) (gAt gs b) with
      | true =>
        rw [c2] at k
        exact iteT' rfl (k H3 s3)
      | false =>
        rw [c2] at k
        exact iteF' rfl (k H3 s3)
/-- what the law finds, as a tuple -/
def OptT (H : Hp) (v : V) (o : Option (Nat × Nat × Nat × Str)) : Prop := (o = none ∧ v = .non) ∨ ∃ z t, o = some z ∧ v = .ref t ∧ H t = some (.tup [natV z.1, natV z.2.1, natV z.2.2.1, .str z.2.2.2])
theorem OptT.non {H : Hp} {v : V} {o : Option (Nat × Nat × Nat × Str)} (h : OptT H v o) : (!decide (v = V.non)) = o.isSome := by
  rcases h with ⟨rfl, rfl⟩ | ⟨z, p, rfl, rfl, _⟩
  · rfl
  · rw [decide_eq_false fun e => by cases e]
    rfl
def spLBr : Sp := fun vs H Q _ => ∃ (r el l g p0 R : Addr) (us es : List V) (ds : List Ent) (n : Nat) (js : List (Nat × Nat)) (lone gs : List Nat) (c : Nat), vs = [.ref r, .ref el, .ref l, .ref g, natV c] ∧ H r = some (.lst us) ∧ RwN R H us ds ∧ DsOk ds ∧ ds.length ≤ 12 ∧ H el = some (.lst es) ∧ ListsAt H es (elsOf ds) ∧ LKinds H l n js lone p0 ∧ H g = some (.lst (gs.map natV)) ∧ gs.length = ds.length ∧ c < ds.length ∧
  ∀ v H', Same H H' → OptT H' v (breachD ds js lone gs c) → Q v H'
theorem sc_lbr : FnScope ["_law_rows", "_law_elders_here", "_law_kinds_here", "_law_given", "_law_c", "_law_lot", "_law_at", "_law_b", "_law_word"] ["_law_rows", "_law_elders_here", "_law_kinds_here", "_law_given", "_law_c"] (defScope (top 48)) := ⟨rfl, rfl, rfl, by decide +kernel, rfl, by decide +kernel, by decide +kernel⟩
theorem LKinds.same {H H' : Hp} {l n : Nat} {js : List (Nat × Nat)} {lone : List Nat} {p : Addr} (h : LKinds H l n js lone p) (s : Same H H') : LKinds H' l n js lone p := by
  obtain ⟨jl, ll, us, h1, h2, h3, h4, h5⟩ := h
  exact ⟨jl, ll, us, s _ _ h1, s _ _ h2, h3.same s, s _ _ h4, h5⟩
theorem ok_lbr (F : FnP K "_law_class_breach" 48 f fd) (B : Fr mg) (FP : FnP K "_law_pair_word" 47 fP fdP) (mP : mg "_law_pair_word" = some (.ref fP)) (GP : FnOk P w K mg base CX0 2 fP fdP ["_law_elders_here", "_law_kinds_here", "_law_given", "_law_a", "_law_b"] spLPair) : FnOk P w K mg base CX0 3 f fd ["_law_rows", "_law_elders_here", "_law_kinds_here", "_law_given", "_law_c"] spLBr := by
  have bP : L2.Binds K fdP ["_law_elders_here", "_law_kinds_here", "_law_given", "_law_a", "_law_b"] [] := FP.bindsN fun _ _ _ _ _ _ us hl => match us, hl with | [_, _, _, _, _], _ => rfl
  refine F.ok sc_lbr (fun vs H Q E h => ?_) (fun cdv A outer s H vs Q E hr h => ?_)
  · obtain ⟨r, el, l, g, p0, R, us, es, ds, n, js, lone, gs, c, rfl, _⟩ := h
    rfl
  · obtain ⟨r, el, l, g, p0, R, us, es, ds, n, js, lone, gs, c, rfl, hr0, hR, ok, h12, hel, hL, hk, hg, gl, hc, k⟩ := h
    refine ⟨_, PSs.nox (pss_cons (ps_if (PW.pt (pw_and (pt_cmpR (r := rIn K false) op_in_seq (pe_ix (r := rIxL K) ix_list (pv 3) (pv 4) (fun _ _ => rfl)) (pe_ix (r := rIxL K) ix_list (pv 2) pe_int (fun _ _ => rfl)) (by rfl)) (pw_and1 (pt_cmpR op_gt (pe_ix (r := rIxT K) ix_tup (pe_ix (r := rIxL K) ix_list (pv 0) (pv 4) (fun _ _ => rfl)) pe_int (fun _ _ => rfl)) pe_int (nomark _)))))
        (pss_one (ps_ret (pe_tup (pa_cons (pv 4) (pa_cons (pv 4) (pa_cons (pv 4) (pa_cons pe_str pa_nil))))))) pss_nil)
      (pss_cons (ps_set (i := 5) sc_lbr.nd rfl (Or.inl rfl) (pe_op op_cat (pe_ix (r := rIxL K) ix_list (pv 1) (pv 4) (fun _ _ => rfl)) (pe_lst (pa_cons (pv 4) pa_nil))))
      (pss_cons (ps_for PassesOwn.never rfl (pi_range1 (by rfl) B.range (pa_cons (pe_callB call_len_seq (by rfl) B.len PySem.boot_len (pa_cons (pv 5) pa_nil)) pa_nil)) (pg_name (i := 6) sc_lbr.nd rfl (Or.inl rfl))
        (pss_one (ps_for PassesOwn.never rfl (pi_list (pe_slice sl_list (pv 5) (po_some (pe_op op_add (pv 6) pe_int)) po_none)) (pg_name (i := 7) sc_lbr.nd rfl (Or.inl rfl))
          (pss_cons (ps_set (i := 8) sc_lbr.nd rfl (Or.inl rfl) (pe_call GP hr (by rfl) mP FP.kp bP .nil pass0 (pa_cons (pv 1) (pa_cons (pv 2) (pa_cons (pv 3) (pa_cons (pe_ix (r := rIxL K) ix_list (pv 5) (pv 6) (fun _ _ => rfl)) (pa_cons (pv 7) pa_nil)))))))
          (pss_one (ps_if (pt_cmpR op_notN (pv 8) pe_non (nomark _)) (pss_one (ps_ret (pe_tup (pa_cons (pv 4) (pa_cons (pe_ix (r := rIxL K) ix_list (pv 5) (pv 6) (fun _ _ => rfl)) (pa_cons (pv 7) (pa_cons (pv 8) pa_nil))))))) pss_nil))))))
      (pss_one (ps_ret pe_non))))), ?_⟩
    have hk0 := hk
    obtain ⟨jl, ll, ju, k1, k2, k3, k4, _⟩ := hk
    obtain ⟨d, hd⟩ : ∃ d, ds[c]? = some d := ⟨_, List.getElem?_eq_getElem hc⟩
    obtain ⟨t, b0, m0, et, ht, hb0, hm0⟩ := hR.get hd
    have ef : fldsOf ds c = d.2.1 := by
      unfold fldsOf
      rw [List.getD_eq_getElem?_getD, hd]
      rfl
    have eg := gAt_get (gs := gs) (c := c) (by omega)
    refine set_if (fun σ' H' => σ' = [some (.ref r), some (.ref el), some (.ref l), some (.ref g), some (natV c), none, none, none, none] ∧ H' = H ∧ (decide (0 < fldsOf ds c) && lone.contains (gAt gs c)) = false) ?_ (fun N hN => ?_)
    · rintro σ' H' ⟨rfl, rfl, cf⟩
      have eb : breachD ds js lone gs c = (lotW (elsOf ds) js gs (kinL (elsOf ds) c)).map fun z => (c, z) := by
        unfold breachD breachC
        rw [if_neg (by rw [cf]; decide)]
      rw [eb] at k
      have elen : (elsOf ds).length = ds.length := elsOf_len ds
      obtain ⟨row, hrow⟩ : ∃ row, (elsOf ds)[c]? = some row := ⟨_, List.getElem?_eq_getElem (by omega)⟩
      obtain ⟨rt, ert, hrt⟩ := hL.get hrow
      have egd : (elsOf ds).getD c [] = row := by
        rw [List.getD_eq_getElem?_getD, hrow]
        rfl
      have ll' := kinL_len ok hc h12
      have lx : ∀ x ∈ kinL (elsOf ds) c, x < ds.length := fun x hx => kinL_lt ok hc hx
      have ekl : kinL (elsOf ds) c = row ++ [c] := by
        unfold kinL
        rw [egd]
      have rl : row.length + 1 ≤ 12 := by
        rw [ekl, List.length_append] at ll'
        exact ll'
      refine ⟨_, rfl, _, rfl, el, es, (c : Int), _, rfl, rfl, SqL.of hel, atI_nat ert, _, rfl, (by show 1 ≤ sizeLine; decide), fun L1 hL1 => ?_⟩
      have sL1 := same_new (o := .lst [natV c]) hL1
      refine ⟨rt, L1, _, _, rfl, rfl, sL1 _ _ hrt, upd_same, (by rw [List.length_map]; show _ + 1 ≤ 2 ^ 24; omega), fun M hM' => ?_⟩
      have sM := same_new (o := .lst (row.map natV ++ [natV c])) hM'
      have hM : upd (upd H' L1 (.lst [natV c])) M (.lst (row.map natV ++ [natV c])) M = some (.lst ((kinL (elsOf ds) c).map natV)) := by
        rw [upd_same, ekl, List.map_append]
        rfl
      have s02 := sL1.trans sM
      generalize upd (upd H' L1 (.lst [natV c])) M (.lst (row.map natV ++ [natV c])) = H2 at hM s02 ⊢
      generalize hlot : kinL (elsOf ds) c = xs at hM ll' lx k
      clear sL1 sM hL1 hM'
      refine ⟨_, rfl, M, _, rfl, .inl (SqL.of hM), _, rfl, by rw [List.length_map]; omega, by rw [List.length_map]; omega, ?_⟩
      rw [List.length_map]
      refine for_range (n := xs.length) (fun i σ H' => Same H2 H' ∧ (∃ x6 x7 x8, σ = [some (.ref r), some (.ref el), some (.ref l), some (.ref g), some (natV c), some (.ref M), x6, x7, x8]) ∧ ∀ j, j < i → rowW (elsOf ds) js gs (xs.getD j 0) (xs.drop (j + 1)) = none)
        ⟨Same.refl _, ⟨_, _, _, rfl⟩, fun j z => absurd z (Nat.not_lt_zero _)⟩ ?_ ?_
      · rintro i σ H3 hi ⟨s3, ⟨x6, x7, x8, rfl⟩, hno⟩
        have ei : (0 : Int) + (i : Int) = (i : Int) := by omega
        rw [ei]
        obtain ⟨a, ha⟩ : ∃ a, xs[i]? = some a := ⟨_, List.getElem?_eq_getElem hi⟩
        have ea : (xs.map natV)[i]? = some (natV a) := by rw [List.getElem?_map, ha]; rfl
        have ad := lx a (List.mem_of_getElem? ha)
        obtain ⟨c1, c2⟩ := cut_tail (xs.map natV) i (by rw [List.length_map]; exact hi)
        refine ⟨_, rfl, _, rfl, _, _, rfl, rfl, _, rfl, M, xs.map natV, rfl, SqL.of (s3 _ _ hM), fun S hS => ?_⟩
        rw [c2, ← List.map_drop]
        have sS := s3.trans (same_new (o := .lst ((xs.drop (i + 1)).map natV)) hS)
        have hSS : upd H3 S (.lst ((xs.drop (i + 1)).map natV)) S = some (.lst ((xs.drop (i + 1)).map natV)) := upd_same
        generalize hG2 : upd H3 S (.lst ((xs.drop (i + 1)).map natV)) = G2 at sS hSS ⊢
        refine ⟨S, rfl, ⟨_, SqL.of hSS⟩, for_list (K := K) (a := S) (xs := (xs.drop (i + 1)).map natV) (fun j σ H' => Same G2 H' ∧ (∃ x7 x8, σ = [some (.ref r), some (.ref el), some (.ref l), some (.ref g), some (natV c), some (.ref M), some (natV i), x7, x8]) ∧ rowW (elsOf ds) js gs a ((xs.drop (i + 1)).take j) = none)
          ⟨Same.refl _, ⟨_, _, rfl⟩, rfl⟩ (fun j σ H' _ h => SqL.of (h.1 _ _ hSS)) ?_ ?_⟩
        · rintro j y σ H4 hj ⟨s4, ⟨x7, x8, rfl⟩, hno2⟩
          rw [List.getElem?_map] at hj
          obtain ⟨b, hb, rfl⟩ := Option.map_eq_some_iff.mp hj
          have bd := lx b (List.mem_of_mem_drop (List.mem_of_getElem? hb))
          have y4 := sS.trans s4
          have z4 := s02.trans y4
          refine ⟨_, rfl, _, rfl, _, rfl, _, rfl, _, rfl, M, _, (i : Int), _, rfl, rfl, SqL.of (y4 _ _ hM), atI_nat ea, _, rfl, el, l, g, p0, es, elsOf ds, n, js, lone, gs, a, b, rfl, z4 _ _ hel, ListsAt.sameAll z4 hL, hk0.same z4, z4 _ _ hg, by omega, by omega, by omega, fun H5 s5 => ?_⟩
          refine ⟨_, rfl, rfl, _, rfl, ?_⟩
          rw [optS_non]
          cases ew : pairW (elsOf ds) js gs a b with
          | none => exact iteF' rfl ⟨s4.trans s5, ⟨_, _, rfl⟩, fs_none hno2 hb (by rw [ew]; rfl)⟩
          | some wd =>
            refine iteT' rfl ⟨_, rfl, _, rfl, _, rfl, M, _, (i : Int), _, rfl, rfl, SqL.of ((y4.trans s5) _ _ hM), atI_nat ea, _, rfl, _, rfl, (by show 4 ≤ sizeLine; decide), fun T hT => ?_⟩
            have sT := same_new (o := .tup [natV c, natV a, natV b, .str wd]) hT
            have eR : rowW (elsOf ds) js gs a (xs.drop (i + 1)) = some (a, b, wd) := fs_hit hno2 hb (by rw [ew]; rfl)
            have eL : lotW (elsOf ds) js gs xs = some (a, b, wd) := first_hit hno hi (by rw [getD_get ha]; exact eR)
            exact k _ _ ((z4.trans s5).trans sT) (.inr ⟨(c, a, b, wd), T, by rw [eL]; rfl, rfl, upd_same⟩)
        · rintro σ H4 ⟨s4, ⟨x7, x8, rfl⟩, hno2⟩
          rw [List.length_map, List.take_length] at hno2
          refine ⟨sS.trans s4, ⟨_, _, _, rfl⟩, fun j hj => ?_⟩
          by_cases z : j = i
          · rw [z, getD_get ha]
            exact hno2
          · exact hno j (by omega)
      · rintro σ H3 ⟨s3, ⟨x6, x7, x8, rfl⟩, hno⟩
        have eL : lotW (elsOf ds) js gs xs = none := firstS_none.mpr hno
        exact k _ _ (s02.trans s3) (.inl ⟨by rw [eL]; rfl, rfl⟩)
    · refine ⟨_, rfl, _, rfl, g, _, (c : Int), _, rfl, rfl, SqL.of hg, atI_nat eg, _, rfl, l, _, 2, _, rfl, rfl, SqL.of k1, rfl, ll, _, rfl, .inl (SqL.of k4), rfl, flat_nats _, _, rfl, ?_⟩
      have i1 : inV (natV (gAt gs c)) (lone.map natV) = lone.contains (gAt gs c) := inV_nat _ _
      show (if inV (natV (gAt gs c)) (lone.map natV) = true then _ else _)
      rw [i1]
      cases cl : lone.contains (gAt gs c) with
      | false => exact iteF' rfl (hN _ _ ⟨rfl, rfl, by rw [cl, Bool.and_false]⟩)
      | true =>
        refine iteT' rfl ⟨_, rfl, _, rfl, r, us, (c : Int), _, rfl, rfl, SqL.of hr0, atI_nat et, t, _, 1, _, rfl, rfl, SqT.of ht, rfl, _, _, rfl, rfl, _, rfl, ?_⟩
        by_cases z : 0 < fldsOf ds c
        · refine iteT' (decide_eq_true (by rw [ef] at z; omega)) ⟨_, rfl, _, rfl, _, rfl, (by show 4 ≤ sizeLine; decide), fun T hT => ?_⟩
          refine k _ _ (same_new hT) (.inr ⟨(c, c, c, "bare"), T, ?_, rfl, upd_same⟩)
          unfold breachD breachC
          rw [if_pos (by rw [cl, decide_eq_true z]; rfl)]
        · exact iteF' (decide_eq_false (by rw [ef] at z; omega)) (hN _ _ ⟨rfl, rfl, by rw [decide_eq_false z, Bool.false_and]⟩)
def spLBreach : Sp := fun vs H Q _ => ∃ (r l g p0 R : Addr) (us : List V) (ds : List Ent) (n : Nat) (js : List (Nat × Nat)) (lone gs : List Nat), vs = [.ref r, .ref l, .ref g] ∧ H r = some (.lst us) ∧ RwN R H us ds ∧ DsOk ds ∧ ds.length ≤ 12 ∧ LKinds H l n js lone p0 ∧ H g = some (.lst (gs.map natV)) ∧ gs.length = ds.length ∧
  ∀ v H', Same H H' → OptT H' v (breachA ds js lone gs) → Q v H'
theorem sc_lbreach : FnScope ["_law_rows", "_law_kinds_here", "_law_given", "_law_elders_here", "_law_c", "_law_breach_here"] ["_law_rows", "_law_kinds_here", "_law_given"] (defScope (top 49)) := ⟨rfl, rfl, rfl, by decide +kernel, rfl, by decide +kernel, by decide +kernel⟩
theorem ok_lbreach (F : FnP K "_law_breach" 49 f fd) (B : Fr mg) (FE : FnP K "_law_elders" 40 fE fdE) (mE : mg "_law_elders" = some (.ref fE)) (GE : FnOk P w K mg base CX0 1 fE fdE ["_law_rows"] spLElders) (FB : FnP K "_law_class_breach" 48 fB fdB) (mB : mg "_law_class_breach" = some (.ref fB)) (GB : FnOk P w K mg base CX0 3 fB fdB ["_law_rows", "_law_elders_here", "_law_kinds_here", "_law_given", "_law_c"] spLBr) : FnOk P w K mg base CX0 4 f fd ["_law_rows", "_law_kinds_here", "_law_given"] spLBreach := by
  have bE : L2.Binds K fdE ["_law_rows"] [] := FE.bindsN fun _ _ _ _ _ _ us hl => match us, hl with | [_], _ => rfl
  have bB : L2.Binds K fdB ["_law_rows", "_law_elders_here", "_law_kinds_here", "_law_given", "_law_c"] [] := FB.bindsN fun _ _ _ _ _ _ us hl => match us, hl with | [_, _, _, _, _], _ => rfl
  refine F.ok sc_lbreach (fun vs H Q E h => ?_) (fun cdv A outer s H vs Q E hr h => ?_)
  · obtain ⟨r, l, g, p0, R, us, ds, n, js, lone, gs, rfl, _⟩ := h
    rfl
  · obtain ⟨r, l, g, p0, R, us, ds, n, js, lone, gs, rfl, hr0, hR, ok, h12, hk, hg, gl, k⟩ := h
    refine ⟨_, PSs.nox (pss_cons (ps_set (i := 3) sc_lbreach.nd rfl (Or.inl rfl) (pe_call GE (hr.mono (by decide)) (by rfl) mE FE.kp bE .nil pass0 (pa_cons (pv 0) pa_nil)))
      (pss_cons (ps_for PassesOwn.never rfl (pi_range1 (by rfl) B.range (pa_cons (pe_callB call_len_seq (by rfl) B.len PySem.boot_len (pa_cons (pv 0) pa_nil)) pa_nil)) (pg_name (i := 4) sc_lbreach.nd rfl (Or.inl rfl))
        (pss_cons (ps_set (i := 5) sc_lbreach.nd rfl (Or.inl rfl) (pe_call GB hr (by rfl) mB FB.kp bB .nil pass0 (pa_cons (pv 0) (pa_cons (pv 3) (pa_cons (pv 1) (pa_cons (pv 2) (pa_cons (pv 4) pa_nil)))))))
        (pss_one (ps_if (pt_cmpR op_notN (pv 5) pe_non (nomark _)) (pss_one (ps_ret (pv 5))) pss_nil))))
      (pss_one (ps_ret pe_non)))), ?_⟩
    have usl : us.length = ds.length := hR.len
    refine ⟨_, rfl, r, us, ds.map (·.1), rfl, hr0, hR.rows, ok.valid, by rw [List.length_map]; omega, fun row hrw => by have := ok.short row hrw; rw [List.length_map]; have h4 : row.length * ds.length ≤ 5 * 12 := Nat.mul_le_mul this h12; omega, fun H1 el es s1 hel hel1 hne hL => ?_⟩
    have hL : ListsAt H1 es (elsOf ds) := hL
    have hr1 := s1 _ _ hr0
    refine ⟨_, rfl, r, us, rfl, .inl (SqL.of hr1), us.length, rfl, by omega, by omega, ?_⟩
    refine for_range (n := us.length) (fun i σ H' => Same H1 H' ∧ (∃ x4 x5, σ = [some (.ref r), some (.ref l), some (.ref g), some (.ref el), x4, x5]) ∧ ∀ j, j < i → breachD ds js lone gs j = none) ⟨Same.refl _, ⟨_, _, rfl⟩, fun j z => absurd z (Nat.not_lt_zero _)⟩ ?_ ?_
    · rintro c σ H2 hc ⟨s2, ⟨x4, x5, rfl⟩, hno⟩
      have ec : (0 : Int) + (c : Int) = (c : Int) := by omega
      rw [ec]
      have s12 := s1.trans s2
      refine ⟨_, rfl, _, rfl, _, rfl, _, rfl, _, rfl, r, el, l, g, p0, R, us, es, ds, n, js, lone, gs, c, rfl, s2 _ _ hr1, hR.keep (KeepX.of s12), ok, h12, s2 _ _ hel1, ListsAt.sameAll s2 hL, hk.same s12, s12 _ _ hg, gl, by omega, fun v H3 s3 hv => ?_⟩
      refine ⟨_, rfl, rfl, _, rfl, ?_⟩
      rw [hv.non]
      cases eb : breachD ds js lone gs c with
      | none => exact iteF' rfl ⟨s2.trans s3, ⟨_, _, rfl⟩, fun j hj => by
          by_cases z : j = c
          · rw [z]
            exact eb
          · exact hno j (by omega)⟩
      | some z =>
        rw [eb] at hv
        exact iteT' rfl ⟨_, rfl, k _ _ (s12.trans s3) (by rw [show breachA ds js lone gs = some z from first_hit hno (by omega) eb]; exact hv)⟩
    · rintro σ H2 ⟨s2, ⟨x4, x5, rfl⟩, hno⟩
      rw [usl] at hno
      exact k _ _ (s1.trans s2) (.inl ⟨firstS_none.mpr hno, rfl⟩)
end
end K12

set_option maxRecDepth 100000
set_option maxHeartbeats 8000000
namespace K12
open PySem PySem.Spec PyProof.Rows L2 Kw
theorem SortP.nodupA {ps : List (Nat × Nat)} (h : SortP ps) : ps.Nodup := List.Pairwise.imp (fun {x y} z e => by subst e; omega) h
theorem pairs_lenA {ps : List (Nat × Nat)} (nd : ps.Nodup) {n k : Nat} (h : ∀ p ∈ ps, p.1 < n ∧ p.2 < k) : ps.length ≤ n * k := by
  have := nodup_sub_len'' (ns := (List.range n).flatMap fun c => (List.range k).map fun m => (c, m)) nd fun p hp => by
    obtain ⟨h1, h2⟩ := h p hp
    exact List.mem_flatMap.mpr ⟨p.1, List.mem_range.mpr h1, List.mem_map.mpr ⟨p.2, List.mem_range.mpr h2, rfl⟩⟩
  have e : ((List.range n).flatMap fun c => (List.range k).map fun m => (c, m)).length = n * k := by
    rw [List.length_flatMap]
    clear this h nd
    induction n with
    | zero => simp
    | succ n ih =>
      rw [List.range_succ, List.map_append, List.sum_append, ih, Nat.succ_mul]
      simp
  omega
theorem CouplesAt.ki {H H' : Hp} (k : KI H H') : ∀ {us : List V} {qs : List (Nat × Nat)}, CouplesAt H us qs → CouplesAt H' us qs
  | [], [], _ => .nil
  | _ :: _, (a, b) :: _, .cons ⟨t, e, h⟩ r => .cons ⟨t, e, h.imp (fun h => k _ _ h (nh_nats (l := [a, b]))) fun h => k _ _ h nh_tup⟩ (CouplesAt.ki k r)
theorem CouplesAt.refs {H : Hp} : ∀ {us : List V} {qs : List (Nat × Nat)}, CouplesAt H us qs → ∀ v ∈ us, ∃ a, v = .ref a
  | _ :: _, _ :: _, .cons ⟨t, e, _⟩ r, v, hv => by
    rcases List.mem_cons.mp hv with rfl | hv
    · exact ⟨t, e⟩
    · exact CouplesAt.refs r v hv
theorem CouplesAt.updL {H : Hp} {D : Addr} {xs ys : List V} (hD : H D = some (.lst xs)) (hx : ∀ v ∈ xs, ∃ a, v = .ref a) : ∀ {us : List V} {qs : List (Nat × Nat)}, CouplesAt H us qs → CouplesAt (upd H D (.lst ys)) us qs
  | [], [], _ => .nil
  | _ :: _, (a, b) :: _, .cons ⟨t, e, h⟩ r => .cons ⟨t, e, by
      have ne : t ≠ D := fun z => by
        rcases h with h | h
        · rw [z, hD] at h
          have e2 := HO.lst.inj (Option.some.inj h)
          obtain ⟨c, hc⟩ := hx (natV a) (by rw [e2]; exact List.mem_cons_self)
          cases hc
        · rw [z, hD] at h
          cases h
      exact h.imp (upB ne) (upB ne)⟩ (CouplesAt.updL hD hx r)
theorem CouplesAt.app {H : Hp} : ∀ {vs us : List V} {ls ms : List (Nat × Nat)}, CouplesAt H vs ls → CouplesAt H us ms → CouplesAt H (vs ++ us) (ls ++ ms)
  | [], _, [], _, _, h => h
  | _ :: _, _, _ :: _, _, .cons h r, s => .cons h (CouplesAt.app r s)
theorem PairsAt.refs {H : Hp} {us : List V} {ps : List (Nat × Nat)} (h : PairsAt H us ps) : ∀ v ∈ us, ∃ a, v = .ref a := fun v hv => by
  obtain ⟨t, i, j, e, _⟩ := h.mem v hv
  exact ⟨t, e⟩
theorem norm_of {q : Nat × Nat} (h : q.1 < q.2) : normP q = q ∧ normP (q.2, q.1) = q := by
  obtain ⟨a, b⟩ := q
  have h : a < b := h
  unfold normP
  exact ⟨Prod.ext (by show min a b = a; omega) (by show max a b = b; omega), Prod.ext (by show min b a = a; omega) (by show max b a = b; omega)⟩
theorem up_one {a b : List Nat} (ha : a.Pairwise (· < ·)) (hb : b.Pairwise (· < ·)) (h : ∀ x, x ∈ a ↔ x ∈ b) : a = b := by
  have p : a.Perm b := (List.perm_ext_iff_of_nodup (up_nodup ha) (up_nodup hb)).mpr h
  exact p.eq_of_pairwise (fun x y _ _ h1 h2 => by omega) ha hb
theorem perm_erase {ps : List (Nat × Nat)} {c : Nat} {x : Nat × Nat} (h : ps[c]? = some x) : ps.Perm (x :: ps.eraseIdx c) := by
  induction ps generalizing c with
  | nil => simp at h
  | cons y r ih =>
    cases c with
    | zero =>
      obtain rfl := Option.some.inj h
      exact List.Perm.refl _
    | succ c => exact ((ih (c := c) h).cons y).trans (List.Perm.swap x y _)
theorem LKinds.ki {H H' : Hp} {l n : Nat} {js : List (Nat × Nat)} {lone : List Nat} {p : Addr} (h : LKinds H l n js lone p) (k : KI H H') : LKinds H' l n js lone p := by
  obtain ⟨jl, ll, us, h1, h2, h3, h4, h5⟩ := h
  refine ⟨jl, ll, us, k _ _ h1 (fun z => ?_), k _ _ h2 (nh_refs h3.refs), h3.ki k, k _ _ h4 nh_nats, h5⟩
  obtain ⟨_, _, _, _, e⟩ := z
  cases e
section
variable {P : Program} {w : World} {K : PySem.W.Frag} {mg : Str → Option Value} {base : Heap} {f fT fR fI Ck : Addr} {fd fdT fdR fdI : FuncData}
def spBuilt (Ck : Addr) : Sp := fun vs H Q _ => ∃ (p q l n : Addr) (js : List (Nat × Nat)) (lone : List Nat), vs = [.ref p, .ref l] ∧ HandAt H p q ∧ LKinds H l n js lone p ∧ KOk n js lone ∧ ∀ r H', Oth p H H' → HandAt H' p q → KindsAt H' r Ck n js lone → Q (.ref r) H'
theorem sc_built : FnScope ["_law_hand_here", "_law_kinds_here", "_law_rest", "_law_joined_here", "_law_step", "_law_pair", "_law_lone"] ["_law_hand_here", "_law_kinds_here"] (defScope (top 46)) := ⟨rfl, rfl, rfl, by decide +kernel, rfl, by decide +kernel, by decide +kernel⟩
theorem ok_built (F : FnP K "_law_built" 46 f fd) (B : Fr mg) (FT : FnP K "_law_take" 38 fT fdT) (mT : mg "_law_take" = some (.ref fT)) (GT : FnOk P w K mg base CX0 2 fT fdT ["_law_hand_here", "_law_many"] spTake) (FR : FnP K "_law_row" 41 fR fdR) (mR : mg "_law_row" = some (.ref fR)) (GR : FnOk P w K mg base CX0 3 fR fdR ["_law_hand_here", "_law_items"] spRow)
    (MI : Mk K Ck fI) (mI : mg "Kinds" = some (.ref Ck)) (GI : FnOk P w K mg base CX0 4 fI fdI ["self", "many", "joined", "bare"] (spKindsI Ck)) (bI : L2.Binds K fdI ["self", "many", "joined", "bare"] []) : FnOk P w K mg base CX0 6 f fd ["_law_hand_here", "_law_kinds_here"] (spBuilt Ck) := by
  have bT : L2.Binds K fdT ["_law_hand_here", "_law_many"] [] := FT.bindsN fun _ _ _ _ _ _ us hl => match us, hl with | [_, _], _ => rfl
  have bR : L2.Binds K fdR ["_law_hand_here", "_law_items"] [] := FR.bindsN fun _ _ _ _ _ _ us hl => match us, hl with | [_, _], _ => rfl
  refine F.ok sc_built (fun vs H Q E h => ?_) (fun cdv A outer s H vs Q E hr h => ?_)
  · obtain ⟨p, q, l, n, js, lone, rfl, _⟩ := h
    rfl
  · obtain ⟨p, q, l, n, js, lone, rfl, hh, hk, ok, k⟩ := h
    refine ⟨_, PSs.nox (pss_cons (ps_set (i := 2) sc_built.nd rfl (Or.inl rfl) (pe_callTy (T := "list") (r := rListOf K) (call_lst (X := _)) (by rfl) B.list (by decide +kernel) (pa_cons (pe_ix (r := rIxL K) ix_list (pv 1) pe_int (fun _ _ => rfl)) pa_nil)))
      (pss_cons (ps_set (i := 3) sc_built.nd rfl (Or.inl rfl) (pe_lst pa_nil))
      (pss_cons (ps_for PassesOwn.never rfl (pi_range1 (by rfl) B.range (pa_cons (pe_callB call_len_seq (by rfl) B.len PySem.boot_len (pa_cons (pe_ix (r := rIxL K) ix_list (pv 1) pe_int (fun _ _ => rfl)) pa_nil)) pa_nil)) (pg_name (i := 4) sc_built.nd rfl (Or.inl rfl))
        (pss_cons (ps_set (i := 5) sc_built.nd rfl (Or.inl rfl) (pe_bm PySem.F.plainAttrs_list PySem.F.slot_list_pop PySem.F.type_list_pop mt_popAt (pv 2) (pa_cons (pe_call GT (hr.mono (by decide)) (by rfl) mT FT.kp bT .nil pass0 (pa_cons (pv 0) (pa_cons (pe_callB call_len_seq (by rfl) B.len PySem.boot_len (pa_cons (pv 2) pa_nil)) pa_nil))) pa_nil)))
        (pss_cons (ps_if (pt_cmpR op_eq (pe_call GT (hr.mono (by decide)) (by rfl) mT FT.kp bT .nil pass0 (pa_cons (pv 0) (pa_cons pe_int pa_nil))) pe_int (nomark _)) (pss_one (ps_set (i := 5) sc_built.nd rfl (Or.inl rfl) (pe_tup (pa_cons (pe_ix (r := rIxT K) ix_tup (pv 5) pe_int (fun _ _ => rfl)) (pa_cons (pe_ix (r := rIxT K) ix_tup (pv 5) pe_int (fun _ _ => rfl)) pa_nil))))) pss_nil)
        (pss_one (ps_expr (pe_bm PySem.F.plainAttrs_list PySem.F.slot_list_append PySem.F.type_list_append mt_append (pv 3) (pa_cons (pe_call GR (hr.mono (by decide)) (by rfl) mR FR.kp bR .nil pass0 (pa_cons (pv 0) (pa_cons (pv 5) pa_nil))) pa_nil)))))))
      (pss_cons (ps_set (i := 6) sc_built.nd rfl (Or.inl rfl) (pe_callTy (T := "list") (r := rListOf K) (call_lst (X := _)) (by rfl) B.list (by decide +kernel) (pa_cons (pe_ix (r := rIxL K) ix_list (pv 1) pe_int (fun _ _ => rfl)) pa_nil)))
      (pss_cons (ps_if (pt_cmpR op_eq (pe_call GT (hr.mono (by decide)) (by rfl) mT FT.kp bT .nil pass0 (pa_cons (pv 0) (pa_cons pe_int pa_nil))) pe_int (nomark _)) (pss_one (ps_set (i := 6) sc_built.nd rfl (Or.inl rfl) (pe_revL (pv 6)))) pss_nil)
      (pss_one (ps_ret (pe_make MI GI hr (by rfl) mI bI .nil pass0 (pa_cons (pe_ix (r := rIxL K) ix_list (pv 1) pe_int (fun _ _ => rfl)) (pa_cons (pe_call GR (hr.mono (by decide)) (by rfl) mR FR.kp bR .nil pass0 (pa_cons (pv 0) (pa_cons (pv 3) pa_nil))) (pa_cons (pe_call GR (hr.mono (by decide)) (by rfl) mR FR.kp bR .nil pass0 (pa_cons (pv 0) (pa_cons (pv 6) pa_nil))) pa_nil))))))))))), ?_⟩
    obtain ⟨jl, ll, us, k1, k2, k3, k4, lp, jp, lnp⟩ := hk
    have usl := k3.len
    have jl20 : js.length ≤ 25 := by
      have := pairs_lenA ok.so.nodupA (n := 5) (k := 5) fun x hx => by
        have := ok.lt x hx
        have := ok.hi
        omega
      omega
    refine ⟨_, rfl, l, _, 1, _, rfl, rfl, SqL.of k1, rfl, jl, us, rfl, .inl (SqL.of k2), fun R hR => ?_⟩
    have sR := same_new (o := .lst us) hR
    obtain ⟨Rp, Rq⟩ := hh.ne hR
    refine ⟨by decide, fun J hJ => ?_⟩
    have sJ := same_new (o := .lst []) hJ
    have h1 := hh.same sR
    obtain ⟨Jp, Jq⟩ := h1.ne hJ
    have HJ : H J = none := by
      cases e : H J with
      | none => rfl
      | some o =>
        rw [sR _ _ e] at hJ
        cases hJ
    have RJ : R ≠ J := fun z => by
      rw [← z, upd_same] at hJ
      cases hJ
    have s2 := sR.trans sJ
    have h2 := h1.same sJ
    have R2 : upd (upd H R (.lst us)) J (.lst []) R = some (.lst us) := upB RJ upd_same
    have J2 : upd (upd H R (.lst us)) J (.lst []) J = some (.lst []) := upd_same
    generalize upd (upd H R (.lst us)) J (.lst []) = H2 at s2 h2 R2 J2 ⊢
    refine ⟨_, rfl, l, _, 1, _, rfl, rfl, SqL.of (s2 _ _ k1), rfl, jl, us, rfl, .inl (SqL.of (s2 _ _ k2)), us.length, rfl, by omega, by omega, ?_⟩
    refine for_range (n := us.length) (fun i σ H' => Oth p H H' ∧ HandAt H' p q ∧ ∃ (x4 x5 : Option V) (rs ws : List V) (rest qs : List (Nat × Nat)), σ = [some (.ref p), some (.ref l), some (.ref R), some (.ref J), x4, x5, none] ∧ H' R = some (.lst rs) ∧ PairsAt H' rs rest ∧ H' J = some (.lst ws) ∧ CouplesAt H' ws qs ∧ (rest ++ qs.map normP).Perm js ∧ qs.length = i ∧ ∀ x ∈ qs, x.1 ≠ x.2)
      ⟨Oth.of s2, h2, none, none, us, [], js, [], rfl, R2, k3.same s2, J2, .nil, by simp, rfl, fun x hx => by cases hx⟩ ?_ ?_
    · rintro i σ H3 hi ⟨O3, h3, x4, x5, rs, ws, rest, qs, rfl, R3, P3, J3, C3, pm, ql, qne⟩
      have ei : (0 : Int) + (i : Int) = (i : Int) := by omega
      rw [ei]
      have rl : rest.length + i = us.length := by
        have := pm.length_eq
        rw [List.length_append, List.length_map] at this
        omega
      have rsl := P3.len
      refine ⟨_, rfl, .inl ⟨rfl, _, SqL.of R3⟩, _, rfl, _, rfl, R, rs, rfl, .inl (SqL.of R3), p, q, (rs.length : Int), rfl, by omega, by omega, h3, fun r H4 r0 r1 h4 e4 => ?_⟩
      obtain ⟨c, rfl⟩ : ∃ c : Nat, r = (c : Int) := ⟨r.toNat, by omega⟩
      have cl : c < rs.length := by omega
      have ki4 := KI.oth (Oth.take e4) h3
      have R4 := (Oth.take e4) _ _ Rp R3
      have J4 := (Oth.take e4) _ _ Jp J3
      have P4 := P3.ki ki4
      have C4 := C3.ki ki4
      obtain ⟨v, hv⟩ : ∃ v, rs[c]? = some v := ⟨_, List.getElem?_eq_getElem cl⟩
      obtain ⟨x, t, hx, rfl, ht⟩ := P4.at hv
      have xj : x ∈ js := pm.mem_iff.mp (List.mem_append_left _ (List.mem_of_getElem? hx))
      have xlt := (ok.lt x xj).1
      have rx : ∀ v ∈ rs, ∃ a, v = .ref a := P4.refs
      refine ⟨R, rs, (c : Int), c, .ref t, rfl, rfl, R4, by omega, by omega, seq_at cl, hv, ?_⟩
      have h5 : HandAt (upd H4 R (.lst (rs.eraseIdx c))) p q := h4.upd Rp Rq
      have R5 : upd H4 R (.lst (rs.eraseIdx c)) R = some (.lst (rs.eraseIdx c)) := upd_same
      have J5 : upd H4 R (.lst (rs.eraseIdx c)) J = some (.lst ws) := upB RJ.symm J4
      have P5 : PairsAt (upd H4 R (.lst (rs.eraseIdx c))) (rs.eraseIdx c) (rest.eraseIdx c) := PairsAt.updL R4 (PairsAt.erase c P4)
      have C5 := CouplesAt.updL (ys := rs.eraseIdx c) R4 rx C4
      have t5 : upd H4 R (.lst (rs.eraseIdx c)) t = some (.tup [natV x.1, natV x.2]) := upB (fun z => by rw [z, R4] at ht; cases ht) ht
      have HR0 : H R = none := hR
      have O5 : Oth p H (upd H4 R (.lst (rs.eraseIdx c))) := (O3.trans (Oth.take e4)).updN HR0
      generalize upd H4 R (.lst (rs.eraseIdx c)) = H5 at h5 R5 J5 P5 C5 t5 O5 ⊢
      have pm2 : (rest.eraseIdx c ++ (qs.map normP ++ [x])).Perm js := by
        refine List.Perm.trans ?_ pm
        refine List.Perm.trans ?_ ((perm_erase hx).symm.append_right _)
        rw [← List.append_assoc]
        exact (List.perm_append_comm (l₁ := rest.eraseIdx c ++ qs.map normP) (l₂ := [x]))
      dsimp only [gName]
      refine set_if (fun σ' H' => ∃ (t' : Addr) (y : Nat × Nat), σ' = [some (.ref p), some (.ref l), some (.ref R), some (.ref J), some (natV i), some (.ref t'), none] ∧ Oth p H5 H' ∧ HandAt H' p q ∧ H' t' = some (.tup [natV y.1, natV y.2]) ∧ normP y = x ∧ y.1 ≠ y.2) ?_ (fun N hN => ?_)
      · rintro σ' H6 ⟨t', y, rfl, O6, h6, ht6, ny, yne⟩
        have ki6 := KI.oth O6 h5
        have R6 := O6 _ _ Rp R5
        have J6 := O6 _ _ Jp J5
        refine ⟨_, rfl, .inl ⟨rfl, _, SqL.of J6⟩, _, rfl, _, rfl, p, q, t', [natV y.1, natV y.2], rfl, h6, h6.ne_of ht6 nh_tup, .inr ht6, fun u H7 O7 h7 hu => ?_⟩
        have ki7 := KI.oth O7 h6
        have J7 := O7 _ _ Jp J6
        have R7 := O7 _ _ Rp R6
        have hu7 : SeqAt H7 u [natV y.1, natV y.2] := hu.imp (fun z => z.2) id
        have C7 := (C5.ki ki6).ki ki7
        have P7 := (P5.ki ki6).ki ki7
        have wl : ws.length ≤ 25 := by
          have := C7.len
          omega
        refine ⟨J, ws, _, rfl, rfl, J7, (by show _ < 2 ^ 24; omega), ((O5.trans O6).trans O7).updN HJ, h7.upd Jp Jq, _, _, _, ws ++ [.ref u], _, qs ++ [y], rfl, upB RJ R7, PairsAt.updL J7 P7, upd_same, ?_, ?_, ?_, ?_⟩
        · exact CouplesAt.updL J7 C7.refs (C7.app (.cons ⟨u, rfl, hu7⟩ .nil))
        · rw [List.map_append, List.map_cons, List.map_nil, ny]
          exact pm2
        · rw [List.length_append, ql]
          rfl
        · intro z hz
          rcases List.mem_append.mp hz with hz | hz
          · exact qne z hz
          · rw [List.mem_singleton.mp hz]
            exact yne
      · refine ⟨_, rfl, p, q, 2, rfl, by decide, by decide, h5, fun r H6 r0 r1 h6 e6 => ⟨rfl, _, rfl, ?_⟩⟩
        have t6 := (Oth.take e6) _ _ (h5.ne_of t5 nh_tup) t5
        refine ite2 (fun _ => ?_) (fun _ => hN _ _ ⟨t, x, rfl, Oth.take e6, h6, t6, (norm_of xlt).1, by omega⟩)
        refine ⟨_, rfl, t, _, 1, _, rfl, rfl, SqT.of t6, rfl, _, rfl, t, _, 0, _, rfl, rfl, SqT.of t6, rfl, (by show 2 ≤ sizeLine; decide), fun T hT => ?_⟩
        have sT := same_new (o := .tup [natV x.2, natV x.1]) hT
        exact hN _ _ ⟨T, (x.2, x.1), rfl, (Oth.take e6).trans (Oth.of sT), h6.same sT, upd_same, (norm_of xlt).2, by show x.2 ≠ x.1; omega⟩
    · rintro σ H3 ⟨O3, h3, x4, x5, rs, ws, rest, qs, rfl, R3, P3, J3, C3, pm, ql, qne⟩
      have re : rest = [] := by
        have := pm.length_eq
        rw [List.length_append, List.length_map] at this
        exact List.length_eq_zero_iff.mp (by omega)
      rw [re, List.nil_append] at pm
      have l3 := O3 _ _ lp k1
      have ll3 := O3 _ _ lnp k4
      refine ⟨_, rfl, l, _, 2, _, rfl, rfl, SqL.of l3, rfl, ll, lone.map natV, rfl, .inl (SqL.of ll3), fun L hL => ?_⟩
      have sL := same_new (o := .lst (lone.map natV)) hL
      obtain ⟨Lp, Lq⟩ := h3.ne hL
      have h4 := h3.same sL
      have L4 : upd H3 L (.lst (lone.map natV)) L = some (.lst (lone.map natV)) := upd_same
      have J4 := sL _ _ J3
      have C4 := C3.same sL
      have O4 := O3.trans (Oth.of sL)
      have l4 := sL _ _ l3
      generalize upd H3 L (.lst (lone.map natV)) = H4 at h4 L4 J4 C4 O4 l4 ⊢
      dsimp only [gName]
      refine set_if (fun σ' H' => ∃ (L' : Addr) (xs : List Nat), σ' = [some (.ref p), some (.ref l), some (.ref R), some (.ref J), x4, x5, some (.ref L')] ∧ Oth p H4 H' ∧ HandAt H' p q ∧ H' L' = some (.lst (xs.map natV)) ∧ L' ≠ p ∧ xs.Perm lone) ?_ (fun N hN => ?_)
      · rintro σ' H5 ⟨L', xs, rfl, O5, h5, hL5, Lp', xp⟩
        have ki5 := KI.oth O5 h4
        have J5 := O5 _ _ Jp J4
        have C5 := C4.ki ki5
        refine ⟨_, rfl, l, _, 0, _, rfl, rfl, SqL.of (O5 _ _ lp l4), rfl, _, rfl, _, rfl, p, q, J, ws, rfl, h5, Jp, .inl J5, fun a1 H6 O6 h6 ha1 => ?_⟩
        have a16 : SeqAt H6 a1 ws := ha1.imp (fun z => z.2) id
        have ki6 := KI.oth O6 h5
        have L6 := O6 _ _ Lp' hL5
        refine ⟨_, rfl, _, rfl, p, q, L', xs.map natV, rfl, h6, Lp', .inl L6, fun a2 H7 O7 h7 ha2 => ?_⟩
        have a27 : SeqAt H7 a2 (xs.map natV) := ha2.imp (fun z => z.2) id
        have ki7 := KI.oth O7 h6
        have C7 := (C5.ki ki6).ki ki7
        have a17 : SeqAt H7 a1 ws := a16.imp (fun z => ki7 _ _ z (nh_refs C7.refs)) (fun z => ki7 _ _ z nh_tup)
        refine fun r dr hr' hdr ne => ?_
        have s8 := (same_new (o := .own r) hdr).trans (same_new (o := .ins Ck dr []) (by rw [upd_ne (Ne.symm ne)]; exact hr'))
        refine ⟨r, dr, a1, a2, n, ws, qs, xs, rfl, upd_same, ok.lo, ok.hi, a17.same s8, C7.same s8, ⟨fun x hx => ?_, ?_, by omega⟩, a27.same s8, (xp.nodup_iff).mpr (up_nodup ok.up), fun x hx => ok.bl x (xp.mem_iff.mp hx), ?_, fun H8 js2 O8 pm2 so2 hk8 => ?_⟩
        · have : normP x ∈ js := pm.mem_iff.mp (List.mem_map_of_mem hx)
          have := ok.lt _ this
          have := qne x hx
          unfold normP at *
          omega
        · exact (pm.nodup_iff).mpr ok.so.nodupA
        · have := xp.length_eq
          have := nodup_sub_len' (ns := List.range n) (up_nodup ok.up) fun x hx => List.mem_range.mpr (ok.bl x hx)
          rw [List.length_range] at this
          have := ok.hi
          omega
        · have ej : js2 = js := sortP_one so2 ok.so fun x => (pm2.trans pm).mem_iff
          have el : upK n xs = lone := up_one upK_up ok.up fun x => by rw [upK_mem (fun y hy => ok.bl y (xp.mem_iff.mp hy))]; exact xp.mem_iff
          rw [ej, el] at hk8
          have s78 : Same H7 H8 := fun b o e => O8 b o (ne_of_none e hr') (s8 _ _ e)
          exact ⟨rfl, k r H8 ((((O4.trans O5).trans O6).trans O7).trans (Oth.of s78)) (h7.same s78) hk8⟩
      · refine ⟨_, rfl, p, q, 2, rfl, by decide, by decide, h4, fun r H5 r0 r1 h5 e5 => ⟨rfl, _, rfl, ?_⟩⟩
        have L5 := (Oth.take e5) _ _ Lp L4
        refine ite2 (fun _ => ?_) (fun _ => hN _ _ ⟨L, lone, rfl, Oth.take e5, h5, L5, Lp, List.Perm.refl _⟩)
        refine ⟨_, rfl, L, _, rfl, SqL.of L5, fun M hM => ?_⟩
        have sM := same_new (o := .lst (lone.map natV).reverse) hM
        obtain ⟨Mp, Mq⟩ := h5.ne hM
        exact hN _ _ ⟨M, lone.reverse, rfl, (Oth.take e5).trans (Oth.of sM), h5.same sM, by rw [upd_same, List.map_reverse], Mp, List.reverse_perm _⟩
end
end K12

set_option maxRecDepth 100000
set_option maxHeartbeats 8000000
namespace K12
open PySem PySem.Spec PyProof.Rows L2 Kw
/-- a plain thing: None, a number, a text -/
def FlatN : V → Prop
  | .non => True
  | .int _ => True
  | .str _ => True
  | _ => False
/-- the thing is just what is due: plain, or tuples of such, n deep -/
def ExactN (H : Hp) : Nat → V → V → Prop
  | 0, x, d => x = d ∧ FlatN d
  | n + 1, x, d => (x = d ∧ FlatN d) ∨ ∃ a b xs ys, x = .ref a ∧ d = .ref b ∧ H a = some (.tup xs) ∧ H b = some (.tup ys) ∧ xs.length = ys.length ∧ ys.length ≤ 1000 ∧ ∀ (i : Nat) (u v : V), xs[i]? = some u → ys[i]? = some v → ExactN H n u v
theorem ExactN.same {H H' : Hp} (s : Same H H') : ∀ {n : Nat} {x d : V}, ExactN H n x d → ExactN H' n x d
  | 0, _, _, h => h
  | n + 1, _, _, .inl h => .inl h
  | n + 1, _, _, .inr ⟨a, b, xs, ys, e1, e2, h1, h2, h3, h5, h4⟩ => .inr ⟨a, b, xs, ys, e1, e2, s _ _ h1, s _ _ h2, h3, h5, fun i u v hu hv => (h4 i u v hu hv).same s⟩
def spExactN (n : Nat) : Sp := fun vs H Q _ => ∃ x d, vs = [x, d] ∧ ExactN H n x d ∧ ∀ H', Same H H' → Q (.bl true) H'
section
variable {P : Program} {w : World} {K : PySem.W.Frag} {mg : Str → Option Value} {base : Heap} {f fW C Cb : Addr} {fd fdW : FuncData}
theorem ok_exact (F : FnP K "_law_exact" 42 f fd) (B : Fr mg) (zs : mg "str" = none) (mF : mg "_law_exact" = some (.ref f)) : ∀ n : Nat, FnOk P w K mg base CX0 (n + 2) f fd ["_law_told", "_law_due"] (spExactN n) := by
  have bF : L2.Binds K fd ["_law_told", "_law_due"] [] := F.bindsN fun _ _ _ _ _ _ us hl => match us, hl with | [_, _], _ => rfl
  intro n
  induction n with
  | zero =>
    refine F.ok sc_exact (fun vs H Q E h => ?_) (fun cdv A outer s H vs Q E hr h => ?_)
    · obtain ⟨x, d, rfl, _⟩ := h
      rfl
    · obtain ⟨x, d, rfl, ⟨rfl, hf⟩, k⟩ := h
      refine ⟨_, PSs.nox (pss_cons (ps_if (pt_val (pe_callB call_isi (by rfl) B.isinstance PyProof.Rows.boot_isinstance (pa_cons (pv 1) (pa_cons (pe_bltn (v := .ty "tuple") (by rfl) B.tuple PyProof.Rows.boot_tuple rfl) pa_nil)))) (pss_cons ps_never (pss_one ps_never)) pss_nil)
        (pss_cons (ps_if (pt_cmpR op_isN (pv 1) pe_non (nomark _)) (pss_one (ps_ret (pe_cmpR op_isN (pv 0) pe_non (nomark _)))) pss_nil)
        (pss_cons (ps_if (pt_cmpR op_isBx (pv 1) pe_bl (nomark _)) (pss_one ps_never) pss_nil)
        (pss_cons (ps_if (pt_cmpR op_isBx (pv 1) pe_bl (nomark _)) (pss_one ps_never) pss_nil)
        (pss_cons (ps_if (pt_val (pe_callB call_isi (by rfl) B.isinstance PyProof.Rows.boot_isinstance (pa_cons (pv 1) (pa_cons (pe_bltn (v := .ty "str") (by rfl) zs PyProof.Rows.boot_str rfl) pa_nil))))
          (pss_one (ps_ret (pe_and (pe_callB call_isi (by rfl) B.isinstance PyProof.Rows.boot_isinstance (pa_cons (pv 0) (pa_cons (pe_bltn (v := .ty "str") (by rfl) zs PyProof.Rows.boot_str rfl) pa_nil))) (pe_one (pe_cmpR op_eq (pv 0) (pv 1) (nomark _)))))) pss_nil)
        (pss_one (ps_ret (pe_and (pe_callB call_isi (by rfl) B.isinstance PyProof.Rows.boot_isinstance (pa_cons (pv 0) (pa_cons (pe_bltn (v := .ty "int") (by rfl) B.int PyProof.Rows.boot_int rfl) pa_nil))) (pe_and (pe_not (pe_callB call_isi (by rfl) B.isinstance PyProof.Rows.boot_isinstance (pa_cons (pv 0) (pa_cons (pe_bltn (v := .ty "bool") (by rfl) B.bool PyProof.Rows.boot_bool rfl) pa_nil)))) (pe_one (pe_cmpR op_eq (pv 0) (pv 1) (nomark _)))))))))))), ?_⟩
      have kk : ∀ d' : V, Q (.bl (decide (d' = d'))) H := fun d' => by
        rw [decide_eq_true rfl]
        exact k H (Same.refl H)
      cases x with
      | non =>
        have ty : Ty0 H .non "NoneType" := .non
        exact ⟨_, rfl, _, _, _, _, _, rfl, .ty "tuple", ty.x, ty.isTup, _, rfl, iteF' rfl ⟨_, rfl, rfl, _, rfl, iteT' rfl ⟨_, rfl, rfl, kk .non⟩⟩⟩
      | int y =>
        have ty : Ty0 H (.int y) "int" := .int y
        exact ⟨_, rfl, _, _, _, _, _, rfl, .ty "tuple", ty.x, ty.isTup, _, rfl, iteF' rfl ⟨_, rfl, rfl, _, rfl, iteF' rfl ⟨_, rfl, true, rfl, _, rfl, iteF' rfl ⟨_, rfl, false, rfl, _, rfl, iteF' rfl ⟨_, rfl, _, _, _, _, _, rfl, .ty "str", ty.x, ty.isStr, _, rfl, iteF' rfl ⟨_, rfl, _, _, _, _, _, rfl, .ty "int", ty.x, ty.isInt, _, rfl, iteT' rfl ⟨_, rfl, _, _, _, _, _, rfl, .ty "bool", ty.x, ty.isBool, _, rfl, _, rfl, iteT' rfl ⟨_, rfl, _, rfl, rfl, kk _⟩⟩⟩⟩⟩⟩⟩⟩
      | str y =>
        have ty : Ty0 H (.str y) "str" := .str y
        exact ⟨_, rfl, _, _, _, _, _, rfl, .ty "tuple", ty.x, ty.isTup, _, rfl, iteF' rfl ⟨_, rfl, rfl, _, rfl, iteF' rfl ⟨_, rfl, true, rfl, _, rfl, iteF' rfl ⟨_, rfl, false, rfl, _, rfl, iteF' rfl ⟨_, rfl, _, _, _, _, _, rfl, .ty "str", ty.x, ty.isStr, _, rfl, iteT' rfl ⟨_, rfl, _, _, _, _, _, rfl, .ty "str", ty.x, ty.isStr, _, rfl, iteT' rfl ⟨_, rfl, _, rfl, rfl, kk _⟩⟩⟩⟩⟩⟩⟩
      | _ => exact False.elim hf
  | succ n ih =>
    refine F.ok sc_exact (fun vs H Q E h => ?_) (fun cdv A outer s H vs Q E hr h => ?_)
    · obtain ⟨x, d, rfl, _⟩ := h
      rfl
    · obtain ⟨x, d, rfl, he, k⟩ := h
      refine ⟨_, PSs.nox (pss_cons (ps_if (pt_val (pe_callB call_isi (by rfl) B.isinstance PyProof.Rows.boot_isinstance (pa_cons (pv 1) (pa_cons (pe_bltn (v := .ty "tuple") (by rfl) B.tuple PyProof.Rows.boot_tuple rfl) pa_nil)))) (pss_cons (ps_if (PW.pt (pw_or (pt_not (pt_val (pe_callB call_isi (by rfl) B.isinstance PyProof.Rows.boot_isinstance (pa_cons (pv 0) (pa_cons (pe_bltn (v := .ty "tuple") (by rfl) B.tuple PyProof.Rows.boot_tuple rfl) pa_nil))))) (pw_or1 (pt_cmpR op_ne (pe_callB call_len_seq (by rfl) B.len PySem.boot_len (pa_cons (pv 0) pa_nil)) (pe_callB call_len_seq (by rfl) B.len PySem.boot_len (pa_cons (pv 1) pa_nil)) (nomark _))))) (pss_one (ps_ret pe_bl)) pss_nil)
          (pss_one (ps_ret (pe_cmpR (r := rEqD K) (op_eqD hr.units) (pe_lc (own := [("_law_at", 2)]) (g := gName 2) (tt := tNot (tTru K (tCall (spExactN n) [] E0 (tCons (tOp (rIxT K) (tVar 0) (tVar 2)) (tCons (tOp (rIxT K) (tVar 1) (tVar 2)) tNil))))) (te := tVar 2) rfl sc_exact.nd (pi_range1 (by rfl) B.range (pa_cons (pe_callB call_len_seq (by rfl) B.len PySem.boot_len (pa_cons (pv 1) pa_nil)) pa_nil)) (blkOk_by (N := ["_law_told", "_law_due", "_law_at"]) (sc := defScope (top 42)) (by decide +kernel))
            (fun _ _ _ _ _ => pg_name (i := 2) sc_exact.nd rfl (Or.inl rfl)) (fun _ _ _ _ _ => ?tt1) (fun _ _ _ _ _ => pv 2)) (pe_lst pa_nil) (nomark _))))) pss_nil)
        (pss_cons (ps_if (pt_cmpR op_isN (pv 1) pe_non (nomark _)) (pss_one (ps_ret (pe_cmpR op_isN (pv 0) pe_non (nomark _)))) pss_nil)
        (pss_cons (ps_if (pt_cmpR op_isBx (pv 1) pe_bl (nomark _)) (pss_one ps_never) pss_nil)
        (pss_cons (ps_if (pt_cmpR op_isBx (pv 1) pe_bl (nomark _)) (pss_one ps_never) pss_nil)
        (pss_cons (ps_if (pt_val (pe_callB call_isi (by rfl) B.isinstance PyProof.Rows.boot_isinstance (pa_cons (pv 1) (pa_cons (pe_bltn (v := .ty "str") (by rfl) zs PyProof.Rows.boot_str rfl) pa_nil))))
          (pss_one (ps_ret (pe_and (pe_callB call_isi (by rfl) B.isinstance PyProof.Rows.boot_isinstance (pa_cons (pv 0) (pa_cons (pe_bltn (v := .ty "str") (by rfl) zs PyProof.Rows.boot_str rfl) pa_nil))) (pe_one (pe_cmpR op_eq (pv 0) (pv 1) (nomark _)))))) pss_nil)
        (pss_one (ps_ret (pe_and (pe_callB call_isi (by rfl) B.isinstance PyProof.Rows.boot_isinstance (pa_cons (pv 0) (pa_cons (pe_bltn (v := .ty "int") (by rfl) B.int PyProof.Rows.boot_int rfl) pa_nil))) (pe_and (pe_not (pe_callB call_isi (by rfl) B.isinstance PyProof.Rows.boot_isinstance (pa_cons (pv 0) (pa_cons (pe_bltn (v := .ty "bool") (by rfl) B.bool PyProof.Rows.boot_bool rfl) pa_nil)))) (pe_one (pe_cmpR op_eq (pv 0) (pv 1) (nomark _)))))))))))), ?_⟩
      case tt1 => exact pts_one (pt_not (pt_tru (pe_call ih hr (by rfl) mF F.kp bF .nil pass0 (pa_cons (pe_ix (r := rIxT K) ix_tup (pv 0) (pv 2) (fun _ _ => rfl)) (pa_cons (pe_ix (r := rIxT K) ix_tup (pv 1) (pv 2) (fun _ _ => rfl)) pa_nil))) (by intro _; rfl)))
      rcases he with ⟨rfl, hf⟩ | ⟨a, b, xs, ys, rfl, rfl, ha, hb, hl, hz, hi⟩
      · have kk : ∀ d' : V, Q (.bl (decide (d' = d'))) H := fun d' => by
          rw [decide_eq_true rfl]
          exact k H (Same.refl H)
        cases x with
        | non =>
          have ty : Ty0 H .non "NoneType" := .non
          exact ⟨_, rfl, _, _, _, _, _, rfl, .ty "tuple", ty.x, ty.isTup, _, rfl, iteF' rfl ⟨_, rfl, rfl, _, rfl, iteT' rfl ⟨_, rfl, rfl, kk .non⟩⟩⟩
        | int y =>
          have ty : Ty0 H (.int y) "int" := .int y
          exact ⟨_, rfl, _, _, _, _, _, rfl, .ty "tuple", ty.x, ty.isTup, _, rfl, iteF' rfl ⟨_, rfl, rfl, _, rfl, iteF' rfl ⟨_, rfl, true, rfl, _, rfl, iteF' rfl ⟨_, rfl, false, rfl, _, rfl, iteF' rfl ⟨_, rfl, _, _, _, _, _, rfl, .ty "str", ty.x, ty.isStr, _, rfl, iteF' rfl ⟨_, rfl, _, _, _, _, _, rfl, .ty "int", ty.x, ty.isInt, _, rfl, iteT' rfl ⟨_, rfl, _, _, _, _, _, rfl, .ty "bool", ty.x, ty.isBool, _, rfl, _, rfl, iteT' rfl ⟨_, rfl, _, rfl, rfl, kk _⟩⟩⟩⟩⟩⟩⟩⟩
        | str y =>
          have ty : Ty0 H (.str y) "str" := .str y
          exact ⟨_, rfl, _, _, _, _, _, rfl, .ty "tuple", ty.x, ty.isTup, _, rfl, iteF' rfl ⟨_, rfl, rfl, _, rfl, iteF' rfl ⟨_, rfl, true, rfl, _, rfl, iteF' rfl ⟨_, rfl, false, rfl, _, rfl, iteF' rfl ⟨_, rfl, _, _, _, _, _, rfl, .ty "str", ty.x, ty.isStr, _, rfl, iteT' rfl ⟨_, rfl, _, _, _, _, _, rfl, .ty "str", ty.x, ty.isStr, _, rfl, iteT' rfl ⟨_, rfl, _, rfl, rfl, kk _⟩⟩⟩⟩⟩⟩⟩
        | _ => exact False.elim hf
      · have ta : Ty0 H (.ref a) "tuple" := .tup ha
        have tb : Ty0 H (.ref b) "tuple" := .tup hb
        refine ⟨_, rfl, _, _, _, _, _, rfl, .ty "tuple", tb.x, tb.isTup, _, rfl, iteT' rfl ?_⟩
        refine ⟨_, rfl, _, _, _, _, _, rfl, .ty "tuple", ta.x, ta.isTup, _, rfl, iteF' rfl ?_⟩
        refine ⟨_, rfl, a, xs, rfl, .inr (SqT.of ha), _, rfl, b, ys, rfl, .inr (SqT.of hb), rfl, _, rfl, ?_⟩
        rw [hl]
        refine iteF' (by simp) ?_
        refine ⟨_, rfl, b, ys, rfl, .inr (SqT.of hb), _, rfl, by omega, by omega, fun D hD => ?_⟩
        refine lc_range (n := ys.length) (fun i H' => Same H H' ∧ H' D = some (.lst [])) ⟨same_new hD, upd_same⟩ ?_ ?_
        · rintro i H' hil ⟨sH, hD1⟩
          have ei : (0 : Int) + (i : Int) = (i : Int) := by omega
          rw [ei]
          obtain ⟨u, hu⟩ : ∃ u, xs[i]? = some u := ⟨_, List.getElem?_eq_getElem (by omega)⟩
          obtain ⟨v, hv⟩ : ∃ v, ys[i]? = some v := ⟨_, List.getElem?_eq_getElem hil⟩
          refine ⟨rfl, _, rfl, _, rfl, a, xs, _, _, rfl, rfl, SqT.of (sH _ _ ha), atI_nat hu, _, rfl, _, rfl, b, ys, _, _, rfl, rfl, SqT.of (sH _ _ hb), atI_nat hv, u, v, rfl, (hi i u v hu hv).same sH, fun H2 s2 => ?_⟩
          exact ⟨true, rfl, iteF' rfl ⟨sH.trans s2, s2 _ _ hD1⟩⟩
        · rintro H' ⟨sH, hD1⟩
          refine ⟨by decide, fun L hL => ?_⟩
          have sL := same_new (o := .lst []) hL
          refine ⟨.list [], .list [], .lst (SqL.of (xs := []) (sL _ _ hD1)) .nil, .lst (SqL.of (xs := []) upd_same) .nil, (LayD.lst (n := 0) fun d hd => by cases hd).shaped (by decide), (LayD.lst (n := 0) fun d hd => by cases hd).shaped (by decide), ?_⟩
          exact k _ (sH.trans sL)
/-! ### the world out of the law's rows -/
def EntX (R : Addr) (H : Hp) (e : V) (d : Ent) : Prop := ∃ t b m, e = .ref t ∧ H t = some (.tup [.ref b, natV d.2.1, .ref m]) ∧ b ≠ R ∧ H b = some (.lst (d.1.map natV)) ∧ H m = some (.tup (d.2.2.map natV))
theorem entx_same {R : Addr} {H H' : Hp} (s : Same H H') : ∀ {vs : List V} {ds : List Ent}, Paired (EntX R H) vs ds → Paired (EntX R H') vs ds
  | [], [], _ => .nil
  | _ :: _, _ :: _, .cons ⟨t, b, m, e, h1, n2, h2, h3⟩ r => .cons ⟨t, b, m, e, s _ _ h1, n2, s _ _ h2, s _ _ h3⟩ (entx_same s r)
theorem entx_app {R : Addr} {H : Hp} : ∀ {vs us : List V} {ls ms : List Ent}, Paired (EntX R H) vs ls → Paired (EntX R H) us ms → Paired (EntX R H) (vs ++ us) (ls ++ ms)
  | [], _, [], _, _, h => h
  | _ :: _, _, _ :: _, _, .cons h r, s => .cons h (entx_app r s)
theorem entx_upd {H : Hp} {D : Addr} {xs ys : List V} (hD : H D = some (.lst xs)) : ∀ {vs : List V} {ds : List Ent}, Paired (EntX D H) vs ds → Paired (EntX D (upd H D (.lst ys))) vs ds
  | [], [], _ => .nil
  | _ :: _, _ :: _, .cons ⟨t, b, m, e, h1, n2, h2, h3⟩ r => .cons ⟨t, b, m, e, upB (fun z => by rw [z, hD] at h1; cases h1) h1, n2, upB n2 h2, upB (fun z => by rw [z, hD] at h3; cases h3) h3⟩ (entx_upd hD r)
theorem entx_get {R : Addr} {H : Hp} : ∀ {vs : List V} {ds : List Ent} {i : Nat} {d : Ent}, Paired (EntX R H) vs ds → ds[i]? = some d → ∃ v, vs[i]? = some v ∧ EntX R H v d
  | [], [], _, _, _, h => by simp at h
  | _ :: _, _ :: _, 0, _, .cons z _, e => by
    obtain rfl := Option.some.inj e
    exact ⟨_, rfl, z⟩
  | _ :: _, _ :: _, i + 1, _, .cons _ r, e => entx_get (i := i) r e
theorem entx_ok {R : Addr} {H : Hp} {ds : List Ent} {vs : List V} (h : Paired (EntX R H) vs ds) (ok : DsOk ds) (i : Nat) (d : Ent) (hd : ds[i]? = some d) : ∃ e, vs[i]? = some e ∧ EntryOk H e i d := by
  obtain ⟨v, hv, t, b, m, e, h1, n2, h2, h3⟩ := entx_get h hd
  obtain ⟨o1, o2, o3, o4, o5, o6, o7⟩ := ok i d hd
  exact ⟨_, hv, t, b, m, e, .inr h1, .inl h2, .inr h3, ⟨o1, by omega, o2⟩, o4, up_nodup o5, o7, o6⟩
def spLWorld (C : Addr) : Sp := fun vs H Q _ => ∃ (l R : Addr) (us : List V) (ds : List Ent), vs = [.ref l] ∧ H l = some (.lst us) ∧ RwN R H us ds ∧ DsOk ds ∧ 1 ≤ ds.length ∧ ds.length ≤ 12 ∧ ∀ wp H', Same H H' → WorldAt H' wp C ds → Q (.ref wp) H'
theorem sc_lworld : FnScope ["_law_rows", "_law_row_here"] ["_law_rows"] (defScope (top 52)) := ⟨rfl, rfl, rfl, by decide +kernel, rfl, by decide +kernel, by decide +kernel⟩
theorem ok_lworld (F : FnP K "_law_world" 52 f fd) (B : Fr mg) (MW : Mk K C fW) (mW : mg "World" = some (.ref C)) (GW : FnOk P w K mg base (L2.CX P w) 4 fW fdW ["self", "classes"] (spWorld C Cb)) (bW : L2.Binds K fdW ["self", "classes"] []) : FnOk P w K mg base CX0 6 f fd ["_law_rows"] (spLWorld C) := by
  refine F.ok sc_lworld (fun vs H Q E h => ?_) (fun cdv A outer s H vs Q E hr h => ?_)
  · obtain ⟨l, R, us, ds, rfl, _⟩ := h
    rfl
  · obtain ⟨l, R, us, ds, rfl, hl, hR, ok, h1, h12, k⟩ := h
    refine ⟨_, PSs.nox (pss_one (ps_ret (pe_make MW GW (hr.mono (by decide)) (by rfl) mW bW .nil (passOut (E := fun _ _ _ => False)) (pa_cons
      (pe_lc (own := [("_law_row_here", 1)]) (g := gName 1) (tt := tYes) (te := tTup (tCons (tCB (rListOf K) (tCons (tOp (rIxT K) (tVar 1) (tC (.int 0))) tNil)) (tCons (tOp (rIxT K) (tVar 1) (tC (.int 1))) (tCons (tCB (rTupOf K) (tCons (tOp (rIxT K) (tVar 1) (tC (.int 2))) tNil)) tNil)))) rfl sc_lworld.nd (pi_list (pv 0)) (blkOk_by (N := ["_law_rows", "_law_row_here"]) (sc := defScope (top 52)) (by decide +kernel))
        (fun _ _ _ _ _ => pg_name (i := 1) sc_lworld.nd rfl (Or.inl rfl)) (fun _ _ _ _ _ => pts_nil) (fun _ _ _ _ _ => pe_tup (pa_cons (pe_callTy (T := "list") (r := rListOf K) (call_lst (X := _)) (by rfl) B.list (by decide +kernel) (pa_cons (pe_ix (r := rIxT K) ix_tup (pv 1) pe_int (fun _ _ => rfl)) pa_nil)) (pa_cons (pe_ix (r := rIxT K) ix_tup (pv 1) pe_int (fun _ _ => rfl)) (pa_cons (pe_callTy (T := "tuple") (r := rTupOf K) (call_tup (X := _)) (by rfl) B.tuple (by decide +kernel) (pa_cons (pe_ix (r := rIxT K) ix_tup (pv 1) pe_int (fun _ _ => rfl)) pa_nil)) pa_nil))))) pa_nil)))), ?_⟩
    have usl := hR.len
    refine ⟨_, rfl, l, rfl, ⟨_, SqL.of hl⟩, fun D hD => lc_list (K := K) (a := l) (xs := us) (fun i H' => Same H H' ∧ ∃ vs, H' D = some (.lst vs) ∧ Paired (EntX D H') vs (ds.take i)) ⟨same_new hD, [], upd_same, .nil⟩ (fun i H' _ z => SqL.of (z.1 _ _ hl)) ?_ ?_⟩
    · rintro i y H1 hi ⟨s1, vs, hD1, hP⟩
      have il := (List.getElem?_eq_some_iff.mp hi).1
      obtain ⟨d, hd⟩ : ∃ d, ds[i]? = some d := ⟨_, List.getElem?_eq_getElem (by omega)⟩
      obtain ⟨t, b, m, e, z1, z2, z3⟩ := hR.get hd
      rw [hi] at e
      obtain rfl := Option.some.inj e
      have z1' := s1 _ _ z1
      refine ⟨rfl, _, rfl, t, _, ((0 : Nat) : Int), _, rfl, rfl, SqT.of z1', atI_nat rfl, b, d.1.map natV, rfl, .inl (SqL.of (s1 _ _ z2)), fun L hL => ?_⟩
      have sL := same_new (o := .lst (d.1.map natV)) hL
      refine ⟨_, rfl, t, _, ((1 : Nat) : Int), _, rfl, rfl, SqT.of (sL _ _ z1'), atI_nat rfl, _, rfl, t, _, ((2 : Nat) : Int), _, rfl, rfl, SqT.of (sL _ _ z1'), atI_nat rfl, ?_⟩
      refine ⟨m, d.2.2.map natV, rfl, .inl ⟨SqL.of (sL _ _ (s1 _ _ z3)), fun M hM => ⟨(by show 3 ≤ sizeLine; decide), fun T hT => ?_⟩⟩⟩
      have sM := same_new (o := .tup (d.2.2.map natV)) hM
      have M3 : upd (upd H1 L (.lst (d.1.map natV))) M (.tup (d.2.2.map natV)) M = some (.tup (d.2.2.map natV)) := upd_same
      have L3 := sM _ _ (show upd H1 L (.lst (d.1.map natV)) L = _ from upd_same)
      have s3 := s1.trans (sL.trans sM)
      have hD3 := (sL.trans sM) _ _ hD1
      have hP3 := entx_same (sL.trans sM) hP
      generalize upd (upd H1 L (.lst (d.1.map natV))) M (.tup (d.2.2.map natV)) = H3 at M3 L3 s3 hD3 hP3 hT ⊢
      have sT := same_new (o := .tup [.ref L, natV d.2.1, .ref M]) hT
      have DT : D ≠ T := ne_of_none hD3 hT
      have lv := Paired.length hP
      rw [List.length_take] at lv
      have hD4 := sT _ _ hD3
      refine ⟨vs, hD4, (by show _ < 2 ^ 24; omega), same_upd (s3.trans sT) hD, vs ++ [.ref T], upd_same, ?_⟩
      rw [List.take_add_one, hd, Option.toList_some]
      have LD : L ≠ D := Ne.symm (ne_of_none hD1 hL)
      have hx : Paired (EntX D (upd H3 T (.tup [.ref L, natV d.2.1, .ref M]))) (vs ++ [.ref T]) (ds.take i ++ [d]) := entx_app (entx_same sT hP3) (.cons ⟨T, L, M, rfl, upd_same, LD, sT _ _ L3, sT _ _ M3⟩ .nil)
      exact entx_upd hD4 hx
    · rintro H1 ⟨s1, vs, hD1, hP⟩
      rw [usl, List.take_of_length_le (Nat.le_refl _)] at hP
      refine fun wp wdx hwp hwdx ne => ?_
      have s2 := (same_new (o := .own wp) hwdx).trans (same_new (o := .ins C wdx []) (by rw [upd_ne (Ne.symm ne)]; exact hwp))
      have W2 : upd (upd H1 wdx (.own wp)) wp (.ins C wdx []) wp = some (.ins C wdx []) := upd_same
      generalize upd (upd H1 wdx (.own wp)) wp (.ins C wdx []) = H2 at s2 W2 ⊢
      have lv := Paired.length hP
      exact ⟨wp, wdx, .ref D, rfl, W2, .inr ⟨D, vs, ds, rfl, .inl (s2 _ _ hD1), by omega, by omega, by omega, entx_ok (entx_same s2 hP) ok, .inr ⟨lv.symm, fun H8 O8 hW => ⟨rfl, k wp H8 (s1.trans fun b u e => O8 b u (ne_of_none e hwp) (s2 _ _ e)) hW⟩⟩⟩⟩
end
end K12

set_option maxRecDepth 100000
set_option maxHeartbeats 8000000
/-! several clauses `except X as n`: the suite of a clause has the exception under its name, which goes behind it -/
namespace L2
open PySem PySem.Spec PyProof.Rows
/-- what a suite under the name of slot i promises at its ends: the slot is unset -/
def endsAs (i : Nat) (D : Ends) : Ends := { nx := fun σ' H' => D.nx (σ'.set i none) H', rt := D.rt, bk := fun σ' H' => D.bk (σ'.set i none) H', ct := fun σ' H' => D.ct (σ'.set i none) H' }
def wManyAs (K : PySem.W.Frag) (i : Nat) (Wout : WX) (D : Ends) : List (Value × (Addr → Value → Option Addr → TS)) → WX
  | [] => Wout
  | (c, ts) :: r => fun cls d σ H => ∃ b, PySem.W.exmOne K cls c = some b ∧ (b = true → ∀ a, H a = none → ts a cls d (endsAs i D) (σ.set i (some (.ref a))) H) ∧ (b = false → wManyAs K i Wout D r cls d σ H)
inductive HdsAs (X : Cx) (n : Str) : List ExceptHandler → List (Value × (Addr → Value → Option Addr → TS)) → Prop
  | nil : HdsAs X n [] []
  | cons {x : Str} {c : Value} {ts : Addr → Value → Option Addr → TS} {b₀ : Stmt} {suite : List Stmt} {np pos' : Pos} {hds : List ExceptHandler} {l : List (Value × (Addr → Value → Option Addr → TS))} (hc : Names X x c)
      (hsu : ∀ (a : Addr) (oe : Obj) (cls : Value) (d : Option Addr) (pn : List (Addr × Obj)), Zc cls d oe → (∃ vs, oe.data = .fields vs) → PSs (X.suite a ((a, oe) :: pn)) (b₀ :: suite) (ts a cls d)) (r : HdsAs X n hds l) :
      HdsAs X n (.ExceptHandler (some (.Name x np)) (some n) (b₀ :: suite) pos' :: hds) ((c, ts) :: l)
section
variable {X : Cx} {n : Str} {i : Nat} {body : List Stmt} {h₀ : ExceptHandler} {hds : List ExceptHandler} {l : List (Value × (Addr → Value → Option Addr → TS))} {pos : Pos} {tb : WX → TS} {Wout : WX}
theorem ps_try_manyAs (hs : X.stack = X.env :: X.outer) (hf : X.env.frame = some X.env.locals) (hN : X.N.Nodup) (hi : X.N[i]? = some n) (hln : X.env.kindOf n = some .local) (tk : Takes X Wout)
    (hb : ∀ (W : WX) (pn : List (Addr × Obj)) (xe : Value → Shared → Prop), Takes (X.tr pn xe) W → PassesOwn (model X.prog X.w) X.A X.env xe → PSs (X.tr pn xe) body (tb W))
    (hh : HdsAs X n (h₀ :: hds) l) : PS X (.Try body (h₀ :: hds) [] [] pos) (fun D σ H => tb (wManyAs X.K i Wout D l) D σ H) := by
  refine ⟨fun pins s σ H D I h => ?_⟩
  have ok := I.ok
  have hfr : X.A.frames = some (X.env :: X.outer) := by rw [ok.frames, hs]
  have hloc : Loc X.env.scope n := .inl hln
  refine wpAny_Try_except ?_
  refine wpAny_mono ((hb (wManyAs X.K i Wout D l) (X.pn ++ pins) (fun e s₁ => wpAny (model X.prog X.w) X.A (noteFrame e X.env) (fun _ s₂ => wpAny (model X.prog X.w) X.A (setFlight e none) (fun _ s₃ =>
    wpAny (model X.prog X.w) X.A (handleBy e X.env (h₀ :: hds)) (SP X pins D) X.xe s₃) X.xe s₂) X.xe s₁) (fun u s' xx => ?_) PassesOwn.looking).run [] s σ H D (I.toTry _) h) (fun f s1 hsp => ?_) (fun e s1 he => he)
  · obtain ⟨a, B, sI, pins', σ', H', cls, d, rfl, J', nb, up, sky, na, os, ag, w⟩ := xx
    have J : Inv X pins σ' H' sI := J'.ofTry ok
    have sky' : Sky B (X.env :: X.outer) a (Zc cls d) X.env.locals s'.heap := by rw [← hs]; exact sky
    show wpAny (model X.prog X.w) X.A (noteFrame (.ref a) X.env) _ _ _
    refine Sky.land Zc.steady hfr hf sky' fun h3 fl3 up3 => ?_
    have J3 : Inv X pins σ' H' { s' with heap := h3 } := J.landed nb fl3.1 (up.trans up3) os ag
    obtain ⟨oe3, vs3, he3, hz3, hd3⟩ := fl3.there
    have notFr : ∀ {h : Heap} {o : Obj} {vs : Array Value}, h.FunFrames B (X.env :: X.outer) → h.get? a = some o → o.data = .fields vs → a ∉ frs (X.env :: X.outer) := fun {h o vs} ff e dd hm => by
      obtain ⟨_, o', e', hnf⟩ := ff.mem hm
      rw [e] at e'; cases e'
      exact hnf _ dd
    have nfr := notFr fl3.2.2.1 he3 hd3
    have nL : a ≠ X.env.locals := fun z => nfr (List.mem_filterMap.mpr ⟨X.env, List.mem_cons_self, by rw [hf, z]⟩)
    have nF : a ∉ X.fs := fun hm => by
      obtain ⟨e, he, q⟩ := List.mem_filterMap.mp hm
      exact nfr (List.mem_filterMap.mpr ⟨e, List.mem_cons_of_mem _ he, q⟩)
    have S3 := J3.suite he3 hd3 na nL nF
    have go : ∀ {hds' : List ExceptHandler} {l' : List (Value × (Addr → Value → Option Addr → TS))}, HdsAs X n hds' l' → wManyAs X.K i Wout D l' cls d σ' H' →
        wpAny (model X.prog X.w) X.A (handleBy (.ref a) X.env hds') (SP X pins D) X.xe { s' with heap := h3 } := by
      intro hds' l' hk
      induction hk with
      | nil =>
        intro w
        refine wpAny_handleBy_nil ?_
        obtain ⟨k1, k2, k3, oe, vs, T, oT, ts', he, hz, hd, h1, hr⟩ := id fl3
        unfold PySem.passOn
        refine wpAny_bind (wpAny_field he hd h1 ?_)
        rw [if_neg (show ¬ ((Value.ref T == Value.none) = true) from by simp)]
        have fin : wpAny (model X.prog X.w) X.A (setFlight (.ref a) X.env.frame) (fun _ s4 => wpAny (model X.prog X.w) X.A (throw (.ref a) : Sem Flow) (SP X pins D) X.xe s4) X.xe { s' with heap := h3 } := by
          rw [hf]
          refine HandSPX.setFlight_upZ fl3 fun h4 hh4 up4 => wpAny_throw (tk _ _ ?_)
          exact ⟨a, B, sI, pins, σ', H', cls, d, rfl, J, nb, (up.trans up3).trans up4, .inr (.inr (by rw [hs]; exact hh4)), na, os, ag, w⟩
        first
          | exact wpAny_bind (wpAny_pure (wpAny_bind fin))
          | exact wpAny_bind fin
      | @cons x c ts b₀ suite np pos' hds2 l2 hc hsu r ih =>
        intro w
        obtain ⟨b, hb1, hyes, hno⟩ := w
        refine wpAny_handleBy_cons (codeAny_handlers_test ?_) (by intro q; cases q)
        have LT : PySem.W.Looks (model X.prog X.w) h3 (typeOf (.ref a)) cls := fun A Q E s k q => wpAny_typeOf_ref (k _ _ he3) (by rw [hz3.1]; exact q)
        have LM := PySem.W.exm_one (M := model X.prog X.w) (J3.kIn) LT hb1
        have test : ∀ {Q : Value → Shared → Prop} {E : Value → Shared → Prop}, Q c { s' with heap := h3 } → wpAny (model X.prog X.w) (X.A.mark (some (.ref a))) (eval (.Name x np) X.env) Q E { s' with heap := h3 } := fun {Q E} q => by
          obtain ⟨hg, hdbg, hm | ⟨hm, hv, hnn⟩⟩ := hc
          · exact ld_glob (X := X.suite a ((a, oe3) :: (X.pn ++ pins))) S3 hg hm q hdbg
          · exact ld_blt (X := X.suite a ((a, oe3) :: (X.pn ++ pins))) S3 hg hm hv q hnn hdbg
        refine test (LM.here ?_)
        cases b with
        | true =>
          refine codeAny_handlers_suite_as ?_
          refine HandSPX.lands_againZ fl3 fun h4 fl4 up4 => ?_
          have J4 : Inv X pins σ' H' { s' with heap := h4 } := J.landed nb fl4.1 ((up.trans up3).trans up4) os ag
          obtain ⟨oe4, vs4, he4, hz4, hd4⟩ := fl4.there
          have S4 := J4.suite he4 hd4 na nL nF
          refine store_ok (X := X.suite a ((a, oe4) :: (X.pn ++ pins))) (v := .ref a) S4 hN hi hloc rfl (fun s5 S5 => ?_) (.inr hln)
          refine wpAny_mono ((hsu a oe4 cls d (X.pn ++ pins) hz4 ⟨_, hd4⟩).run [] s5 _ H' _ S5 (hyes rfl a na)) (fun f s6 hsp => ?_) (fun _ _ z => False.elim z)
          have end_ : ∀ {σ6 : St} {H6 : Hp} {Q : Shared → Prop}, Inv (X.suite a ((a, oe4) :: (X.pn ++ pins))) [] σ6 H6 s6 → (∀ s7, Inv X pins (σ6.set i none) H6 s7 → Q s7) →
              wpAny (model X.prog X.w) X.A (do bindName X.env n .none; unbindBehindTheSuite X.env n pos') (fun _ s7 => Q s7) X.xe s6 := fun {σ6 H6 Q} S6 hq => gone_ok (S6.unsuite ok) hN hi hln hq
          cases f with
          | next =>
            obtain ⟨σ6, H6, S6, q6⟩ := hsp
            exact end_ S6 fun s7 J7 => ⟨_, _, J7, q6⟩
          | brk =>
            obtain ⟨σ6, H6, S6, q6⟩ := hsp
            exact end_ S6 fun s7 J7 => ⟨_, _, J7, q6⟩
          | cont =>
            obtain ⟨σ6, H6, S6, q6⟩ := hsp
            exact end_ S6 fun s7 J7 => ⟨_, _, J7, q6⟩
          | ret u =>
            obtain ⟨v6, σ6, H6, S6, r6, q6⟩ := hsp
            exact end_ S6 fun s7 J7 => ⟨_, _, _, J7, r6, q6⟩
        | false =>
          show wpAny _ X.A (handleBy (.ref a) X.env hds2) _ _ _
          exact ih (hno rfl)
    exact go hh w
  · cases f with
    | next =>
      obtain ⟨σ', H', J', q⟩ := hsp
      exact wpAny_execs_nil ⟨σ', H', J'.ofTry ok, q⟩
    | brk =>
      obtain ⟨σ', H', J', q⟩ := hsp
      exact ⟨σ', H', J'.ofTry ok, q⟩
    | cont =>
      obtain ⟨σ', H', J', q⟩ := hsp
      exact ⟨σ', H', J'.ofTry ok, q⟩
    | ret u =>
      obtain ⟨v, σ', H', J', r, q⟩ := hsp
      exact ⟨v, σ', H', J'.ofTry ok, r, q⟩
end
end L2

set_option maxRecDepth 100000
set_option maxHeartbeats 8000000
namespace K12
open PySem PySem.Spec PyProof.Rows L2 Kw
/-- the answer or the refusal due -/
def AnsV (H : Hp) (v : V) (lot : List Nat) (c m : Nat) : Prop :=
  (lot = [] ∧ ∃ t, v = .ref t ∧ H t = some (.tup [.str "none", natV c, natV m])) ∨ (∃ a, lot = [a] ∧ v = natV a) ∨
  (∃ a b r t, lot = a :: b :: r ∧ v = .ref t ∧ H t = some (.tup [.str "two", natV c, natV m, natV a, natV b]))
section
variable {P : Program} {w : World} {K : PySem.W.Frag} {mg : Str → Option Value} {base : Heap} {f fD fX fY C Cn Ct : Addr} {fd fdD fdX fdY : FuncData}
def spLDue : Sp := fun vs H Q _ => ∃ (l : Addr) (lot : List Nat) (c m : Nat), vs = [.ref l, natV c, natV m] ∧ H l = some (.lst (lot.map natV)) ∧ lot.length ≤ 12 ∧ ∀ v H', Same H H' → AnsV H' v lot c m → Q v H'
def spLDefr (C : Addr) : Sp := fun vs H Q _ => ∃ (p : Addr) (ds : List Ent) (c m : Nat), vs = [.ref p, natV c, natV m] ∧ WorldAt H p C ds ∧ DsOk ds ∧ c < ds.length ∧ ds.length ≤ 12 ∧ m < 6 ∧ ∀ v H', Same H H' → AnsV H' v (ansL ds c m) c m → Q v H'
end
end K12

set_option maxRecDepth 100000
set_option maxHeartbeats 8000000
namespace K12
open PySem PySem.Spec PyProof.Rows L2 Kw
section
variable {P : Program} {w : World} {K : PySem.W.Frag} {mg : Str → Option Value} {base : Heap} {f fK fX C Cb Cg Ck : Addr} {fd fdK : FuncData}
def spAsked (C Ck : Addr) : Sp := fun vs H Q _ => ∃ (p q : Addr) (x : V) (ds : List Ent) (n : Nat) (js : List (Nat × Nat)) (lone : List Nat), vs = [.ref p, .ref q, x] ∧ WorldAt H p C ds ∧ DsOk ds ∧ ds.length ≤ 12 ∧ KindsAt H q Ck n js lone ∧
  ((∃ gs, GoodAt H ds.length n x gs ∧ ∀ v H', Same H H' → OptT H' v (breachA ds js lone gs) → Q v H') ∨
   (∃ i : Nat, BadAt H ds.length n x i ∧ ∀ t H', Same H H' → H' t = some (.tup [.str "bad", natV i]) → Q (.ref t) H'))
theorem sc_asked : FnScope ["_law_world_here", "_law_made", "_law_given", "_law_told", "e"] ["_law_world_here", "_law_made", "_law_given"] (defScope (top 53)) := ⟨rfl, rfl, rfl, by decide +kernel, rfl, by decide +kernel, by decide +kernel⟩
theorem ok_asked (F : FnP K "_law_asked" 53 f fd) (B : Fr mg) (FK : FnP K "kept_fault" 32 fK fdK) (mK : mg "kept_fault" = some (.ref fK)) (GK : FnOk P w K mg base (L2.CX P w) 7 fK fdK ["world", "kinds", "given"] (spKept C Cb Ck Cg))
    (TX : ErrX K mg "BadGiven" ["index"] Cg fX) (XX : XfC K Cg) (e1 : PySem.W.exmOne K (.ref Cg) (.ref Cg) = some true) (mB : mg "Breach" = some (.ref Cb)) (TB : ClsF K Cb ["cls", "first", "second", "what"]) (TI : IsiC K Cb) : FnOk P w K mg base CX0 8 f fd ["_law_world_here", "_law_made", "_law_given"] (spAsked C Ck) := by
  have bK : L2.Binds K fdK ["world", "kinds", "given"] [] := FK.bindsN fun _ _ _ _ _ _ us hl => match us, hl with | [_, _, _], _ => rfl
  refine F.ok sc_asked (fun vs H Q E h => ?_) (fun cdv A outer s H vs Q E hr h => ?_)
  · obtain ⟨p, q, x, ds, n, js, lone, rfl, _⟩ := h
    rfl
  · obtain ⟨p, q, x, ds, n, js, lone, rfl, hw, ok, h12, hk, h⟩ := h
    refine ⟨_, PSs.nox (pss_cons (ps_try_as (i := 4) rfl rfl sc_asked.nd rfl rfl ⟨rfl, by decide, .inl TX.mg⟩ takes0
          (fun W pn xe tk _ => pss_one (ps_set (i := 3) sc_asked.nd rfl (Or.inl rfl) (pe_callS GK hr (by rfl) mK FK.kp bK (fun σ => passAt tk σ) (pa_cons (pv 0) (pa_cons (pv 1) (pa_cons (pv 2) pa_nil))))))
          (fun a oe cls d pn hz hf => pss_one (ps_ret (pe_tup (pa_cons pe_str (pa_cons (pe_xf XX (TX.no _ (List.mem_of_getElem? (i := 0) rfl)) hz hf (pv 4)) pa_nil))))))
      (pss_cons (ps_if (pt_cmpR op_isN (pv 3) pe_non (nomark _)) (pss_one (ps_ret pe_non)) pss_nil)
      (pss_cons (ps_if (pt_not (pt_val (pe_callB call_isi (by rfl) B.isinstance PyProof.Rows.boot_isinstance (pa_cons (pv 3) (pa_cons (pe_glob (v := .ref Cb) (by rfl) mB rfl) pa_nil))))) (pss_one ps_never) pss_nil)
      (pss_one (ps_ret (pe_tup (pa_cons (pe_fld (pv 3) rfl) (pa_cons (pe_fld (pv 3) rfl) (pa_cons (pe_fld (pv 3) rfl) (pa_cons (pe_fld (pv 3) rfl) pa_nil)))))))))), ?_⟩
    refine ⟨_, rfl, _, rfl, _, rfl, p, q, x, ds, n, js, lone, rfl, hw, ok, h12, hk, ?_⟩
    rcases h with ⟨gs, hg, k⟩ | ⟨i, hb, k⟩
    · refine .inl ⟨gs, hg, fun v H1 s1 hv => ?_⟩
      rcases hv with ⟨e, rfl⟩ | ⟨z, r, e, rfl, dx, hz⟩
      · exact ⟨_, rfl, rfl, _, rfl, iteT' rfl (k _ _ s1 (.inl ⟨e, rfl⟩))⟩
      · refine ⟨_, rfl, rfl, _, rfl, iteF' rfl ⟨_, rfl, .ref r, .ref Cb, .ref Cb, .ref Cb, true, rfl, .own Cb, .base (.ins hz TB.cl TI.cla TI.get TI.takes TI.obj), kit_self, _, rfl, iteF' rfl ?_⟩⟩
        refine ⟨_, rfl, r, Cb, dx, _, _, rfl, hz, TB.cl, TB.no _ (List.mem_of_getElem? (i := 0) rfl), rfl, _, rfl, r, Cb, dx, _, _, rfl, hz, TB.cl, TB.no _ (List.mem_of_getElem? (i := 1) rfl), rfl, _, rfl, r, Cb, dx, _, _, rfl, hz, TB.cl, TB.no _ (List.mem_of_getElem? (i := 2) rfl), rfl, _, rfl, r, Cb, dx, _, _, rfl, hz, TB.cl, TB.no _ (List.mem_of_getElem? (i := 3) rfl), rfl, (by show 4 ≤ sizeLine; decide), fun T hT => ?_⟩
        exact k _ _ (s1.trans (same_new hT)) (.inr ⟨z, T, e, rfl, upd_same⟩)
    · refine .inr ⟨i, hb, fun d H1 s1 he => ⟨true, e1, fun _ xa hxa => ?_, fun q => nomatch q⟩⟩
      refine ⟨_, rfl, rfl, rfl, d, _, _, rfl, he, rfl, (by show 2 ≤ sizeLine; decide), fun T hT => ?_⟩
      exact k _ _ (s1.trans (same_new hT)) upd_same
end
end K12

set_option maxRecDepth 100000
set_option maxHeartbeats 8000000
namespace K12
open PySem PySem.Spec PyProof.Rows L2 Kw
/-! ### a class more: what keeps -/
theorem onLine_app {ds : List Ent} {d : Ent} {x y : Nat} (hx : x < ds.length) (hy : y < ds.length) : onLine (elsOf (ds ++ [d])) x y = onLine (elsOf ds) x y := by
  unfold onLine
  rw [els_app hx, els_app hy]
theorem gAt_app {gs : List Nat} {o c : Nat} (h : c < gs.length) : gAt (gs ++ [o]) c = gAt gs c := by
  unfold gAt
  rw [List.getD_eq_getElem?_getD, List.getElem?_append_left h, List.getD_eq_getElem?_getD]
theorem gAt_last {gs : List Nat} {o : Nat} : gAt (gs ++ [o]) gs.length = o := by
  unfold gAt
  rw [List.getD_eq_getElem?_getD, List.getElem?_append_right (Nat.le_refl _)]
  simp
theorem pairW_app {ds : List Ent} {d : Ent} {js : List (Nat × Nat)} {gs : List Nat} {o a b : Nat} (gl : gs.length = ds.length) (ha : a < ds.length) (hb : b < ds.length) : pairW (elsOf (ds ++ [d])) js (gs ++ [o]) a b = pairW (elsOf ds) js gs a b := by
  unfold pairW
  rw [gAt_app (by omega), gAt_app (by omega), onLine_app ha hb]
theorem firstS_congr {α : Type} {f g : Nat → Option α} : ∀ {k : Nat}, (∀ i, i < k → f i = g i) → firstS k f = firstS k g
  | 0, _ => rfl
  | k + 1, h => by rw [firstS_succ, firstS_succ, firstS_congr (k := k) fun i hi => h i (by omega), h k (by omega)]
theorem findS_congr {α β : Type} {f g : α → Option β} : ∀ {xs : List α}, (∀ x ∈ xs, f x = g x) → xs.findSome? f = xs.findSome? g
  | [], _ => rfl
  | x :: r, h => by rw [List.findSome?_cons, List.findSome?_cons, h x List.mem_cons_self, findS_congr (xs := r) fun y hy => h y (List.mem_cons_of_mem _ hy)]
theorem lotW_congr {els els' : List (List Nat)} {js : List (Nat × Nat)} {gs gs' lot : List Nat} (h : ∀ a ∈ lot, ∀ b ∈ lot, pairW els js gs a b = pairW els' js gs' a b) : lotW els js gs lot = lotW els' js gs' lot := by
  unfold lotW
  refine firstS_congr fun i hi => ?_
  unfold rowW
  refine findS_congr fun b hb => ?_
  have ha : lot.getD i 0 ∈ lot := by
    rw [List.getD_eq_getElem?_getD, List.getElem?_eq_getElem hi]
    exact List.getElem_mem hi
  rw [h _ ha b (List.mem_of_mem_drop hb)]
theorem kinL_app {ds : List Ent} {d : Ent} {c : Nat} (h : c < ds.length) : kinL (elsOf (ds ++ [d])) c = kinL (elsOf ds) c := by
  unfold kinL
  rw [els_app h]
theorem kinL_le {ds : List Ent} {c x : Nat} (h : x ∈ kinL (elsOf ds) c) : x ≤ c := by
  rcases List.mem_append.mp h with h | h
  · exact Nat.le_of_lt (elders_below h)
  · rw [List.mem_singleton.mp h]
    exact Nat.le_refl _
theorem kinL_up {ds : List Ent} {c : Nat} : (kinL (elsOf ds) c).Pairwise (· < ·) := by
  refine List.pairwise_append.mpr ⟨?_, List.pairwise_singleton _ _, fun x hx y hy => ?_⟩
  · rw [List.getD_eq_getElem?_getD]
    cases e : (elsOf ds)[c]? with
    | none => exact .nil
    | some l => exact elders_row_up _ c l e
  · rw [List.mem_singleton.mp hy]
    exact elders_below hx
theorem flds_app {ds : List Ent} {d : Ent} {c : Nat} (h : c < ds.length) : fldsOf (ds ++ [d]) c = fldsOf ds c := by
  unfold fldsOf
  rw [List.getD_eq_getElem?_getD, List.getElem?_append_left h, List.getD_eq_getElem?_getD]
theorem breach_old {ds : List Ent} {d : Ent} {js : List (Nat × Nat)} {lone gs : List Nat} {o c : Nat} (gl : gs.length = ds.length) (hc : c < ds.length) : breachD (ds ++ [d]) js lone (gs ++ [o]) c = breachD ds js lone gs c := by
  unfold breachD breachC
  rw [flds_app hc, gAt_app (by omega), kinL_app hc, lotW_congr fun a ha b hb => pairW_app gl (Nat.lt_of_le_of_lt (kinL_le ha) hc) (Nat.lt_of_le_of_lt (kinL_le hb) hc)]
theorem lotW_none {els : List (List Nat)} {js : List (Nat × Nat)} {gs lot : List Nat} (up : lot.Pairwise (· < ·)) : lotW els js gs lot = none ↔ ∀ a ∈ lot, ∀ b ∈ lot, a < b → pairW els js gs a b = none := by
  unfold lotW
  rw [firstS_none]
  constructor
  · intro h a ha b hb ab
    obtain ⟨i, hi⟩ := List.mem_iff_getElem?.mp ha
    obtain ⟨j, hj⟩ := List.mem_iff_getElem?.mp hb
    obtain ⟨il, ei⟩ := List.getElem?_eq_some_iff.mp hi
    obtain ⟨jl, ej⟩ := List.getElem?_eq_some_iff.mp hj
    have ij : i < j := by
      rcases Nat.lt_trichotomy i j with z | z | z
      · exact z
      · subst z
        omega
      · have := List.pairwise_iff_getElem.mp up j i jl il z
        omega
    have h1 := h i il
    unfold rowW at h1
    rw [List.findSome?_eq_none_iff] at h1
    have hd : b ∈ lot.drop (i + 1) := List.mem_iff_getElem?.mpr ⟨j - (i + 1), by rw [List.getElem?_drop, show i + 1 + (j - (i + 1)) = j by omega]; exact hj⟩
    have h2 := h1 b hd
    rw [Option.map_eq_none_iff, List.getD_eq_getElem?_getD, hi] at h2
    exact h2
  · intro h i il
    unfold rowW
    rw [List.findSome?_eq_none_iff]
    intro b hb
    obtain ⟨j, hj⟩ := List.mem_iff_getElem?.mp hb
    rw [List.getElem?_drop] at hj
    obtain ⟨jl, ej⟩ := List.getElem?_eq_some_iff.mp hj
    rw [Option.map_eq_none_iff]
    have ha : lot.getD i 0 = lot[i] := by rw [List.getD_eq_getElem?_getD, List.getElem?_eq_getElem il]; rfl
    rw [ha]
    refine h _ (List.getElem_mem il) b (List.mem_of_mem_drop hb) ?_
    have := List.pairwise_iff_getElem.mp up i (i + 1 + j) il jl (by omega)
    omega
theorem els_new {ds : List Ent} {d : Ent} (ok : DsOk (ds ++ [d])) (x : Nat) : x ∈ (elsOf (ds ++ [d])).getD ds.length [] ↔ ∃ b ∈ d.1, x = b ∨ x ∈ (elsOf ds).getD b [] := by
  have e : ((ds ++ [d]).map (·.1))[ds.length]? = some d.1 := by
    rw [List.getElem?_map, List.getElem?_append_right (Nat.le_refl _), Nat.sub_self]
    rfl
  have hb : ∀ b ∈ d.1, b < ds.length := fun b hb => ok.valid ds.length d.1 e b hb
  have h := elders_mem ok.valid e x
  constructor
  · intro hx
    obtain ⟨b, b1, b2⟩ := h.mp hx
    refine ⟨b, b1, b2.imp id fun z => ?_⟩
    rw [← els_app (d := d) (hb b b1)]
    exact z
  · rintro ⟨b, b1, b2⟩
    refine h.mpr ⟨b, b1, b2.imp id fun z => ?_⟩
    rw [← els_app (d := d) (hb b b1)] at z
    exact z
theorem bare_no {m o : Nat} {lone : List Nat} (h : o ∈ lone → m = 0) : (decide (0 < m) && lone.contains o) = false := by
  cases e : lone.contains o with
  | false => rw [Bool.and_false]
  | true =>
    rw [h (List.contains_iff_mem.mp e)]
    rfl
theorem flds_last {ds : List Ent} {d : Ent} : fldsOf (ds ++ [d]) ds.length = d.2.1 := by
  unfold fldsOf
  rw [List.getD_eq_getElem?_getD, List.getElem?_append_right (Nat.le_refl _), Nat.sub_self]
  rfl
theorem breach_new {ds : List Ent} {d : Ent} {js : List (Nat × Nat)} {lone gs : List Nat} {o : Nat} (gl : gs.length = ds.length) (h : o ∈ lone → d.2.1 = 0) (hp : ∀ a ∈ kinL (elsOf (ds ++ [d])) ds.length, ∀ b ∈ kinL (elsOf (ds ++ [d])) ds.length, a < b → pairW (elsOf (ds ++ [d])) js (gs ++ [o]) a b = none) : breachD (ds ++ [d]) js lone (gs ++ [o]) ds.length = none := by
  unfold breachD breachC
  have eg : gAt (gs ++ [o]) ds.length = o := by
    rw [← gl]
    exact gAt_last
  rw [flds_last, eg, bare_no h, (lotW_none kinL_up).mpr hp]
  rfl
/-- no bases: kept whatever its kind -/
theorem breach_bare {ds : List Ent} {m : Nat} {js : List (Nat × Nat)} {lone gs : List Nat} {o : Nat} (ok : DsOk (ds ++ [([], m, [])])) (gl : gs.length = ds.length) (h : o ∈ lone → m = 0) : breachD (ds ++ [([], m, [])]) js lone (gs ++ [o]) ds.length = none := by
  refine breach_new gl h fun a ha b hb ab => ?_
  have key : ∀ x ∈ kinL (elsOf (ds ++ [(([], m, []) : Ent)])) ds.length, x = ds.length := fun x hx => by
    rcases List.mem_append.mp hx with hx | hx
    · obtain ⟨b, b1, _⟩ := (els_new ok x).mp hx
      cases b1
    · exact List.mem_singleton.mp hx
  have := key a ha
  have := key b hb
  omega
/-- one base, its kind: kept, as the base is -/
theorem breach_base {ds : List Ent} {m b0 : Nat} {js : List (Nat × Nat)} {lone gs : List Nat} (ok : DsOk (ds ++ [([b0], m, [])])) (gl : gs.length = ds.length) (hb0 : b0 < ds.length) (h : gAt gs b0 ∈ lone → m = 0) (hn : breachD ds js lone gs b0 = none) : breachD (ds ++ [([b0], m, [])]) js lone (gs ++ [gAt gs b0]) ds.length = none := by
  refine breach_new gl h fun a ha b hb ab => ?_
  have mem : ∀ x, x ∈ (elsOf (ds ++ [(([b0], m, []) : Ent)])).getD ds.length [] ↔ x ∈ kinL (elsOf ds) b0 := fun x => by
    rw [els_new ok]
    unfold kinL
    rw [List.mem_append, List.mem_singleton]
    constructor
    · rintro ⟨b, b1, b2⟩
      obtain rfl := List.mem_singleton.mp b1
      exact b2.symm
    · exact fun z => ⟨b0, List.mem_singleton.mpr rfl, z.symm⟩
  have hl : lotW (elsOf ds) js gs (kinL (elsOf ds) b0) = none := by
    unfold breachD breachC at hn
    by_cases z : (decide (0 < fldsOf ds b0) && lone.contains (gAt gs b0)) = true
    · rw [if_pos z] at hn
      cases hn
    · rw [if_neg z] at hn
      exact Option.map_eq_none_iff.mp hn
  rw [lotW_none kinL_up] at hl
  have ha' : a ∈ kinL (elsOf ds) b0 := by
    rcases List.mem_append.mp ha with z | z
    · exact (mem a).mp z
    · have := List.mem_singleton.mp z
      have := kinL_le hb
      omega
  have al := kinL_le ha'
  rcases List.mem_append.mp hb with z | z
  · have hb' := (mem b).mp z
    have bl := kinL_le hb'
    rw [pairW_app gl (by omega) (by omega)]
    exact hl a ha' b hb' ab
  · obtain rfl := List.mem_singleton.mp z
    unfold pairW
    have eg : gAt (gs ++ [gAt gs b0]) ds.length = gAt gs b0 := by
      rw [← gl]
      exact gAt_last
    rw [gAt_app (by omega), eg]
    by_cases e : gAt gs a = gAt gs b0
    · rw [if_pos e, if_pos]
      unfold onLine
      have := (mem a).mpr ha'
      rw [show ((elsOf (ds ++ [(([b0], m, []) : Ent)])).getD ds.length []).contains a = true from List.contains_iff_mem.mpr this]
      simp
    · rw [if_neg e]
      have ab0 : a ≠ b0 := fun z => e (by rw [z])
      have := hl a ha' b0 (List.mem_append_right _ (List.mem_singleton.mpr rfl)) (by omega)
      unfold pairW at this
      rw [if_neg e] at this
      exact this
end K12

set_option maxRecDepth 100000
set_option maxHeartbeats 8000000
namespace K12
open PySem PySem.Spec PyProof.Rows L2 Kw
theorem if_num {c : Bool} {σ : L2.St} {H : Hp} {i a b : Nat} {K : VK} (hb : σ[i]? = some (some (natV b))) (k : ∀ m : Nat, (c = true → m = a) → (c = false → m = b) → K (natV m) H) : if c = true then tC (natV a) σ H K else tVar i σ H K := by
  cases c with
  | true => exact iteT' rfl (k a (fun _ => rfl) (fun z => by cases z))
  | false => exact iteF' rfl ⟨_, hb, k b (fun z => by cases z) (fun _ => rfl)⟩
section
variable {P : Program} {w : World} {K : PySem.W.Frag} {mg : Str → Option Value} {base : Heap} {f fT fB fE fC : Addr} {fd fdT fdB fdE fdC : FuncData}
def spNext : Sp := fun vs H Q _ => ∃ (p q r l g R : Addr) (us : List V) (ds : List Ent) (n most : Nat) (js : List (Nat × Nat)) (lone gs : List Nat), vs = [.ref p, .ref r, .ref l, .ref g, natV most] ∧ HandAt H p q ∧ H r = some (.lst us) ∧ RwN R H us ds ∧ DsOk ds ∧ ds.length ≤ 11 ∧ LKinds H l n js lone p ∧ KOk n js lone ∧ H g = some (.lst (gs.map natV)) ∧ gs.length = ds.length ∧ (∀ x ∈ gs, x < n) ∧ breachA ds js lone gs = none ∧ most ≤ 1000 ∧
  ∀ t b H' (bs : List Nat) (m o : Nat), Oth p H H' → HandAt H' p q → H' t = some (.tup [.ref b, natV m, natV o]) → H b = none → H' b = some (.lst (bs.map natV)) → EOk ds.length (bs, m, []) → bs.length ≤ 3 → m ≤ most → o < n → breachD (ds ++ [(bs, m, [])]) js lone (gs ++ [o]) ds.length = none → Q (.ref t) H'
theorem sc_next : FnScope ["_law_hand_here", "_law_rows", "_law_kinds_here", "_law_given", "_law_most", "_law_bases_here", "_law_fields", "_law_wish", "_law_turn", "_law_one", "_law_many", "_law_grown"] ["_law_hand_here", "_law_rows", "_law_kinds_here", "_law_given", "_law_most"] (defScope (top 50)) := ⟨rfl, rfl, rfl, by decide +kernel, rfl, by decide +kernel, by decide +kernel⟩
theorem ok_next (F : FnP K "_law_next" 50 f fd) (B : Fr mg) (gMin : mg "min" = none) (FT : FnP K "_law_take" 38 fT fdT) (mT : mg "_law_take" = some (.ref fT)) (GT : FnOk P w K mg base CX0 2 fT fdT ["_law_hand_here", "_law_many"] spTake) (FB : FnP K "_law_bases" 39 fB fdB) (mB : mg "_law_bases" = some (.ref fB)) (GB : FnOk P w K mg base CX0 3 fB fdB ["_law_hand_here", "_law_c"] spBases)
    (FE : FnP K "_law_elders" 40 fE fdE) (mE : mg "_law_elders" = some (.ref fE)) (GE : FnOk P w K mg base CX0 1 fE fdE ["_law_rows"] spLElders) (FC : FnP K "_law_class_breach" 48 fC fdC) (mC : mg "_law_class_breach" = some (.ref fC)) (GC : FnOk P w K mg base CX0 3 fC fdC ["_law_rows", "_law_elders_here", "_law_kinds_here", "_law_given", "_law_c"] spLBr) : FnOk P w K mg base CX0 4 f fd ["_law_hand_here", "_law_rows", "_law_kinds_here", "_law_given", "_law_most"] spNext := by
  have bT : L2.Binds K fdT ["_law_hand_here", "_law_many"] [] := FT.bindsN fun _ _ _ _ _ _ us hl => match us, hl with | [_, _], _ => rfl
  have bB : L2.Binds K fdB ["_law_hand_here", "_law_c"] [] := FB.bindsN fun _ _ _ _ _ _ us hl => match us, hl with | [_, _], _ => rfl
  have bE : L2.Binds K fdE ["_law_rows"] [] := FE.bindsN fun _ _ _ _ _ _ us hl => match us, hl with | [_], _ => rfl
  have bC : L2.Binds K fdC ["_law_rows", "_law_elders_here", "_law_kinds_here", "_law_given", "_law_c"] [] := FC.bindsN fun _ _ _ _ _ _ us hl => match us, hl with | [_, _, _, _, _], _ => rfl
  refine F.ok sc_next (fun vs H Q E h => ?_) (fun cdv A outer s H vs Q E hr h => ?_)
  · obtain ⟨p, q, r, l, g, R, us, ds, n, most, js, lone, gs, rfl, _⟩ := h
    rfl
  · obtain ⟨p, q, r, l, g, R, us, ds, n, most, js, lone, gs, rfl, hh, hr0, hR, ok, h11, hk, kok, hg, gl, gn, hno, mo, k⟩ := h
    refine ⟨_, PSs.nox (pss_cons (ps_set (i := 5) sc_next.nd rfl (Or.inl rfl) (pe_call GB hr (by rfl) mB FB.kp bB .nil pass0 (pa_cons (pv 0) (pa_cons (pe_callB call_len_seq (by rfl) B.len PySem.boot_len (pa_cons (pv 1) pa_nil)) pa_nil))))
      (pss_cons (ps_set (i := 6) sc_next.nd rfl (Or.inl rfl) (pe_callB (call_min2 rfl) (by rfl) gMin (by decide +kernel) (pa_cons (pv 4)
          (pa_cons (pe_ix ix_tup (pe_tup (pa_cons pe_int (pa_cons pe_int (pa_cons pe_int (pa_cons pe_int (pa_cons pe_int (pa_cons pe_int (pa_cons pe_int (pa_cons pe_int pa_nil))))))))) (pe_call GT (hr.mono (by decide)) (by rfl) mT FT.kp bT .nil pass0 (pa_cons (pv 0) (pa_cons pe_int pa_nil))) (fun _ _ => rfl)) pa_nil))))
      (pss_cons (ps_set (i := 7) sc_next.nd rfl (Or.inl rfl) (pe_call GT (hr.mono (by decide)) (by rfl) mT FT.kp bT .nil pass0 (pa_cons (pv 0) (pa_cons (pe_ix (r := rIxL K) ix_list (pv 2) pe_int (fun _ _ => rfl)) pa_nil))))
      (pss_cons (ps_for PassesOwn.never rfl (pi_range1 (by rfl) B.range (pa_cons (pe_ix (r := rIxL K) ix_list (pv 2) pe_int (fun _ _ => rfl)) pa_nil)) (pg_name (i := 8) sc_next.nd rfl (Or.inl rfl))
        (pss_cons (ps_set (i := 9) sc_next.nd rfl (Or.inl rfl) (pe_op op_mod (pe_callTy (T := "int") call_int1 (by rfl) B.int PyProof.Rows.boot_int (pa_cons (pe_op op_add (pv 7) (pv 8)) pa_nil)) (pe_ix (r := rIxL K) ix_list (pv 2) pe_int (fun _ _ => rfl))))
        (pss_cons (ps_set (i := 10) sc_next.nd rfl (Or.inl rfl) (pe_ifExp (pt_cmpR (r := rIn K false) op_in_seq (pv 9) (pe_ix (r := rIxL K) ix_list (pv 2) pe_int (fun _ _ => rfl)) (by rfl)) pe_int (pv 6)))
        (pss_cons (ps_set (i := 11) sc_next.nd rfl (Or.inl rfl) (pe_op op_cat (pv 1) (pe_lst (pa_cons (pe_tup (pa_cons (pv 5) (pa_cons (pv 10) (pa_cons (pe_lst pa_nil) pa_nil)))) pa_nil))))
        (pss_one (ps_if (pt_cmpR op_isN (pe_call GC hr (by rfl) mC FC.kp bC .nil pass0 (pa_cons (pv 11) (pa_cons (pe_call GE (hr.mono (by decide)) (by rfl) mE FE.kp bE .nil pass0 (pa_cons (pv 11) pa_nil)) (pa_cons (pv 2) (pa_cons (pe_op op_cat (pv 3) (pe_lst (pa_cons (pv 9) pa_nil))) (pa_cons (pe_callB call_len_seq (by rfl) B.len PySem.boot_len (pa_cons (pv 1) pa_nil)) pa_nil)))))) pe_non (nomark _)) (pss_one (ps_ret (pe_tup (pa_cons (pv 5) (pa_cons (pv 10) (pa_cons (pv 9) pa_nil)))))) pss_nil))))))
      (pss_cons (ps_set (i := 9) sc_next.nd rfl (Or.inl rfl) (pe_ix (r := rIxL K) ix_list (pv 3) (pe_ix (r := rIxL K) ix_list (pv 5) pe_int (fun _ _ => rfl)) (fun _ _ => rfl)))
      (pss_one (ps_ret (pe_tup (pa_cons (pe_slice sl_list (pv 5) po_none (po_some pe_int)) (pa_cons (pe_ifExp (pt_cmpR (r := rIn K false) op_in_seq (pv 9) (pe_ix (r := rIxL K) ix_list (pv 2) pe_int (fun _ _ => rfl)) (by rfl)) pe_int (pv 6)) (pa_cons (pv 9) pa_nil))))))))))), ?_⟩
    have usl : us.length = ds.length := hR.len
    obtain ⟨jl, ll, js0, k1, k2, k3, k4, lp, jp, lnp⟩ := id hk
    -- the bases
    refine ⟨_, rfl, _, rfl, r, us, rfl, .inl (SqL.of hr0), p, q, us.length, rfl, by omega, hh, fun bl H1 bs O1 h1 hbl hbl1 bnd blt b3 => ?_⟩
    rw [usl] at blt
    have blp : bl ≠ p := (hh.ne hbl).1
    -- the fields
    refine ⟨_, rfl, (by show 8 ≤ sizeLine; decide), fun t8 ht8 => ?_⟩
    have s8 := same_new (o := .tup [V.int 1, V.int 1, V.int 0, V.int 2, V.int 1, V.int 3, V.int 1, V.int 0]) ht8
    have T8 : upd H1 t8 (.tup [V.int 1, V.int 1, V.int 0, V.int 2, V.int 1, V.int 3, V.int 1, V.int 0]) t8 = some (.tup (([1, 1, 0, 2, 1, 3, 1, 0] : List Int).map V.int)) := upd_same
    generalize upd H1 t8 (.tup [V.int 1, V.int 1, V.int 0, V.int 2, V.int 1, V.int 3, V.int 1, V.int 0]) = H2 at s8 T8 ⊢
    have h2 := h1.same s8
    refine ⟨_, rfl, p, q, 8, rfl, by decide, by decide, h2, fun c H3 c0 c1 h3 e3 => ?_⟩
    have O3 := Oth.take e3
    obtain ⟨v, hv, hm⟩ := tab_at (tab := [1, 1, 0, 2, 1, 3, 1, 0]) c0 c1
    have hv3 : 0 ≤ v ∧ v ≤ 3 := (by decide : ∀ v ∈ ([1, 1, 0, 2, 1, 3, 1, 0] : List Int), 0 ≤ v ∧ v ≤ 3) v hm
    have T3 := O3 _ _ (h2.ne_of T8 nh_tup) T8
    refine ⟨t8, _, c, _, rfl, rfl, SqT.of T3, hv, _, _, rfl, ?_⟩
    obtain ⟨fl, eg, f3, fm⟩ : ∃ fl : Nat, (if v < (most : Int) then v else (most : Int)) = (fl : Int) ∧ fl ≤ 3 ∧ fl ≤ most := by
      refine ⟨(if v < (most : Int) then v else (most : Int)).toNat, ?_, ?_, ?_⟩ <;> split <;> omega
    have eg' : V.int (if v < (most : Int) then v else (most : Int)) = natV fl := by rw [eg]; rfl
    show gName 6 (V.int (if v < (most : Int) then v else (most : Int))) _ _ _
    rw [eg']
    have O13 := (O1.trans (Oth.of s8)).trans O3
    have k03 := KI.oth O13 hh
    have hk3 := hk.ki k03
    obtain ⟨_, _, _, l3, _⟩ := id hk3
    -- the wish
    refine ⟨_, rfl, _, rfl, l, _, ((0 : Nat) : Int), _, rfl, rfl, SqL.of l3, rfl, p, q, (n : Int), rfl, by have := kok.lo; omega, by have := kok.hi; omega, h3, fun wi H4 w0 w1 h4 e4 => ?_⟩
    have O14 := O13.trans (Oth.take e4)
    have k04 := KI.oth O14 hh
    have hk4 := hk.ki k04
    have hr4 := k04 _ _ hr0 (nh_refs hR.refs)
    have hR4 : RwN R H4 us ds := hR.ki k04
    have hg4 := k04 _ _ hg nh_nats
    have hbl4 := (KI.oth (((Oth.of s8).trans O3).trans (Oth.take e4)) h1) _ _ hbl1 nh_nats
    clear T8 T3 hk3 l3
    obtain ⟨_, ll4, _, l4, _, _, ll4', _⟩ := id hk4
    refine ⟨_, rfl, l, _, ((0 : Nat) : Int), _, rfl, rfl, SqL.of l4, rfl, n, rfl, by have := kok.hi; omega, by have := kok.hi; omega, ?_⟩
    refine for_range (n := n) (fun i σ H' => Same H4 H' ∧ (∃ x8 x9 x10 x11, σ = [some (.ref p), some (.ref r), some (.ref l), some (.ref g), some (natV most), some (.ref bl), some (natV fl), some (.int wi), x8, x9, x10, x11]) ∧ (0 < i → bs ≠ [])) ⟨Same.refl _, ⟨_, _, _, _, rfl⟩, fun z => absurd z (Nat.lt_irrefl _)⟩ ?_ ?_
    · rintro i σ H5 hi ⟨s5, ⟨x8, x9, x10, x11, rfl⟩, hne⟩
      have ei : (0 : Int) + (i : Int) = (i : Int) := by omega
      rw [ei]
      have hk5 := hk4.same s5
      obtain ⟨_, ll5, _, l5, _, _, ll5', _⟩ := id hk5
      have n0 : (0 : Int) < (n : Int) := by have := kok.lo; omega
      refine ⟨_, rfl, _, rfl, _, _, rfl, rfl, .inl ⟨_, rfl, _, rfl, l, _, ((0 : Nat) : Int), _, rfl, rfl, SqL.of l5, rfl, _, _, rfl, rfl, n0, ?_⟩⟩
      obtain ⟨o, eo, on⟩ : ∃ o : Nat, (wi + (i : Int)) % (n : Int) = (o : Int) ∧ o < n := by
        have z1 := Int.emod_nonneg (wi + (i : Int)) (Int.ne_of_gt n0)
        have z2 := Int.emod_lt_of_pos (wi + (i : Int)) n0
        exact ⟨((wi + (i : Int)) % (n : Int)).toNat, by omega, by omega⟩
      have eo' : V.int ((wi + (i : Int)) % (n : Int)) = natV o := by rw [eo]; rfl
      show gName 9 (V.int ((wi + (i : Int)) % (n : Int))) _ _ _
      rw [eo']
      refine ⟨_, rfl, _, rfl, l, _, ((2 : Nat) : Int), _, rfl, rfl, SqL.of l5, rfl, ll5, _, rfl, .inl (SqL.of ll5'), rfl, flat_nats _, _, rfl, ?_⟩
      have ein : inV (natV o) (lone.map natV) = lone.contains o := inV_nat _ _
      rw [ein]
      refine if_num (a := 0) (b := fl) rfl fun m m0 m1 => ?_
      have mb : o ∈ lone → m = 0 := fun z => m0 (List.contains_iff_mem.mpr z)
      have mf : m ≤ fl := by
        cases e : lone.contains o with
        | true => rw [m0 e]; exact Nat.zero_le _
        | false => rw [m1 e]; exact Nat.le_refl _
      -- the longer rows
      have hr5 := s5 _ _ hr4
      have hR5 : RwN R H5 us ds := hR4.ki (KI.of s5)
      have hbl5 := s5 _ _ hbl4
      have hg5 := s5 _ _ hg4
      refine ⟨_, rfl, _, rfl, _, rfl, (by show 0 ≤ sizeLine; decide), fun M hM => ⟨(by show 3 ≤ sizeLine; decide), fun T hT => ⟨(by show 1 ≤ sizeLine; decide), fun L1 hL1 => ?_⟩⟩⟩
      have sM := same_new (o := .lst []) hM
      have sT := same_new (o := .tup [.ref bl, natV m, .ref M]) hT
      have sL1 := same_new (o := .lst [.ref T]) hL1
      refine ⟨r, L1, us, [.ref T], rfl, rfl, sL1 _ _ (sT _ _ (sM _ _ hr5)), upd_same, (by rw [usl]; show _ + 1 ≤ 2 ^ 24; omega), fun N hN => ?_⟩
      have sm := same_new (o := .lst (us ++ [.ref T])) hN
      have s56 := ((sM.trans sT).trans sL1).trans sm
      have N6 := upd_same (H := upd (upd (upd H5 M (.lst [])) T (.tup [.ref bl, natV m, .ref M])) L1 (.lst [.ref T])) (a := N) (o := .lst (us ++ [.ref T]))
      have MT := (sL1 _ _ (sT _ _ (upd_same (H := H5) (a := M) (o := .lst []))))
      have TT := sL1 _ _ (upd_same (H := upd H5 M (.lst [])) (a := T) (o := .tup [.ref bl, natV m, .ref M]))
      have hRm : RwN N (upd (upd (upd (upd H5 M (.lst [])) T (.tup [.ref bl, natV m, .ref M])) L1 (.lst [.ref T])) N (.lst (us ++ [.ref T]))) (us ++ [.ref T]) (ds ++ [((bs, m, []) : Ent)]) := by
        refine (((hR5.ki (KI.of ((sM.trans sT).trans sL1))).new hN).ki (KI.of sm)).app (.cons ⟨T, bl, M, rfl, ne_of_none TT hN, sm _ _ TT, ne_of_none (((sM.trans sT).trans sL1) _ _ hbl5) hN, s56 _ _ hbl5, ne_of_none MT hN, sm _ _ MT⟩ .nil)
      generalize upd (upd (upd (upd H5 M (.lst [])) T (.tup [.ref bl, natV m, .ref M])) L1 (.lst [.ref T])) N (.lst (us ++ [.ref T])) = H6 at s56 N6 hRm ⊢
      clear MT TT sm sL1 sT sM hM hT hL1 hN
      have eok : EOk ds.length (bs, m, []) := ⟨bnd, blt, by show bs.length ≤ 5; omega, by show m ≤ 3; omega, .nil, (fun m hm => by cases hm), Nat.zero_le _⟩
      have okD : DsOk (ds ++ [((bs, m, []) : Ent)]) := ok.app eok
      have dl : (ds ++ [((bs, m, []) : Ent)]).length = ds.length + 1 := by rw [List.length_append, List.length_singleton]
      -- elders
      refine ⟨_, rfl, _, rfl, N, us ++ [.ref T], (ds ++ [((bs, m, []) : Ent)]).map (·.1), rfl, N6, hRm.rows, okD.valid, by rw [List.length_map]; omega, fun row hrw => by have := okD.short row hrw; rw [List.length_map]; have h4 : row.length * (ds ++ [((bs, m, []) : Ent)]).length ≤ 5 * 12 := Nat.mul_le_mul this (by omega); omega, fun H7 el es s7 hel hel1 helne hL => ?_⟩
      have hL : ListsAt H7 es (elsOf (ds ++ [((bs, m, []) : Ent)])) := hL
      have s57 := s56.trans s7
      -- given
      refine ⟨_, rfl, _, rfl, _, rfl, (by show 1 ≤ sizeLine; decide), fun G1 hG1 => ?_⟩
      have sG1 := same_new (o := .lst [natV o]) hG1
      refine ⟨g, G1, gs.map natV, [natV o], rfl, rfl, sG1 _ _ (s57 _ _ hg5), upd_same, (by rw [List.length_map]; show _ + 1 ≤ 2 ^ 24; omega), fun G hG => ?_⟩
      have sG := sG1.trans (same_new (o := .lst (gs.map natV ++ [natV o])) hG)
      have G8 : upd (upd H7 G1 (.lst [natV o])) G (.lst (gs.map natV ++ [natV o])) G = some (.lst ((gs ++ [o]).map natV)) := by rw [upd_same, List.map_append]; rfl
      generalize upd (upd H7 G1 (.lst [natV o])) G (.lst (gs.map natV ++ [natV o])) = H8 at sG G8 ⊢
      clear sG1 hG1 hG
      have s58 := s57.trans sG
      have s68 := s7.trans sG
      refine ⟨_, rfl, r, us, rfl, .inl (SqL.of (s58 _ _ hr5)), ?_⟩
      refine ⟨N, el, l, G, p, N, us ++ [.ref T], es, ds ++ [((bs, m, []) : Ent)], n, js, lone, gs ++ [o], us.length, rfl, s68 _ _ N6, hRm.keep (KeepX.of s68), okD, by omega, sG _ _ hel1, ListsAt.sameAll sG hL, hk5.same s58, G8, by rw [List.length_append, List.length_singleton]; omega, by omega, fun v H9 s9 hv => ?_⟩
      rw [usl] at hv
      have s49 := (s5.trans s58).trans s9
      refine ⟨rfl, _, rfl, ?_⟩
      rcases hv with ⟨eb, rfl⟩ | ⟨z, t, eb, rfl, _⟩
      · refine iteT' rfl ⟨_, rfl, _, rfl, _, rfl, (by show 3 ≤ sizeLine; decide), fun t ht => ?_⟩
        have st := same_new (o := .tup [.ref bl, natV m, natV o]) ht
        have s4t := s49.trans st
        exact k t bl _ bs m o (O14.trans (Oth.of s4t)) (h4.same s4t) upd_same hbl (s4t _ _ hbl4) eok b3 (by omega) on eb
      · refine iteF' rfl ⟨s49, ⟨_, _, _, _, rfl⟩, fun _ zz => ?_⟩
        rw [zz] at eb okD
        rw [breach_bare okD gl mb] at eb
        cases eb
    · rintro σ H5 ⟨s5, ⟨x8, x9, x10, x11, rfl⟩, hne⟩
      have bne := hne kok.lo
      obtain ⟨b0, br, rfl⟩ : ∃ b0 br, bs = b0 :: br := List.exists_cons_of_ne_nil bne
      have b0l : b0 < ds.length := blt b0 List.mem_cons_self
      have hbl5 := s5 _ _ hbl4
      have hg5 := s5 _ _ hg4
      have hk5 := hk4.same s5
      obtain ⟨_, ll5, _, l5, _, _, ll5', _⟩ := id hk5
      have ego : gs[b0]? = some (gAt gs b0) := by
        unfold gAt
        rw [List.getD_eq_getElem?_getD, List.getElem?_eq_getElem (by omega)]
        rfl
      refine ⟨_, rfl, _, rfl, bl, _, ((0 : Nat) : Int), _, rfl, rfl, SqL.of hbl5, atI_nat rfl, g, _, (b0 : Int), _, rfl, rfl, SqL.of hg5, atI_nat (by rw [List.getElem?_map, ego]; rfl), ?_⟩
      refine ⟨_, rfl, 1, rfl, bl, _, rfl, SqL.of hbl5, fun S hS => ?_⟩
      have ec : cutV (List.map natV (b0 :: br)) none (some 1) = ([b0].map natV) := by
        unfold cutV
        rw [show (1 : Int) = ((1 : Nat) : Int) from rfl, HT.sIx_nat, HT.sIx_none]
        rw [List.length_map, List.length_cons, Nat.min_eq_left (by omega)]
        rfl
      rw [ec]
      have sS := same_new (o := .lst ([b0].map natV)) hS
      have S6 : upd H5 S (.lst ([b0].map natV)) S = some (.lst ([b0].map natV)) := upd_same
      generalize upd H5 S (.lst ([b0].map natV)) = H6 at sS S6 ⊢
      refine ⟨_, rfl, _, rfl, l, _, ((2 : Nat) : Int), _, rfl, rfl, SqL.of (sS _ _ l5), rfl, ll5, _, rfl, .inl (SqL.of (sS _ _ ll5')), rfl, flat_nats _, _, rfl, ?_⟩
      have ein : inV (natV (gAt gs b0)) (lone.map natV) = lone.contains (gAt gs b0) := inV_nat _ _
      rw [ein]
      refine if_num (a := 0) (b := fl) rfl fun m m0 m1 => ?_
      have mb : gAt gs b0 ∈ lone → m = 0 := fun z => m0 (List.contains_iff_mem.mpr z)
      have mf : m ≤ fl := by
        cases e : lone.contains (gAt gs b0) with
        | true => rw [m0 e]; exact Nat.zero_le _
        | false => rw [m1 e]; exact Nat.le_refl _
      refine ⟨_, rfl, (by show 3 ≤ sizeLine; decide), fun t ht => ?_⟩
      have st := same_new (o := .tup [.ref S, natV m, natV (gAt gs b0)]) ht
      have s4t := (s5.trans sS).trans st
      have eok : EOk ds.length ([b0], m, []) := ⟨List.nodup_cons.mpr ⟨(fun z => by cases z), .nil⟩, (fun b hb => by rw [List.mem_singleton.mp hb]; exact b0l), by show 1 ≤ 5; omega, by show m ≤ 3; omega, .nil, (fun m hm => by cases hm), Nat.zero_le _⟩
      have HS : H S = none := by
        cases e : H S with
        | none => rfl
        | some u =>
          by_cases z : S = p
          · obtain ⟨cs, i, rr, tt, z1, _⟩ := h4
            rw [← z] at z1
            rw [s5 _ _ z1] at hS
            cases hS
          · rw [s5 _ _ (O14 _ _ z e)] at hS
            cases hS
      exact k t S _ [b0] m (gAt gs b0) (O14.trans (Oth.of s4t)) (h4.same s4t) upd_same HS (st _ _ S6) eok (by show 1 ≤ 3; omega) (by omega) (gn _ (List.mem_of_getElem? ego)) (breach_base (ok.app eok) gl b0l mb (firstS_none.mp hno b0 b0l))
end
end K12

set_option maxRecDepth 100000
set_option maxHeartbeats 8000000
namespace K12
open PySem PySem.Spec PyProof.Rows L2 Kw
theorem breachA_app {ds : List Ent} {d : Ent} {js : List (Nat × Nat)} {lone gs : List Nat} {o : Nat} (gl : gs.length = ds.length) (h : breachA ds js lone gs = none) (hn : breachD (ds ++ [d]) js lone (gs ++ [o]) ds.length = none) : breachA (ds ++ [d]) js lone (gs ++ [o]) = none := by
  unfold breachA at *
  refine firstS_none.mpr fun c hc => ?_
  rw [List.length_append, List.length_singleton] at hc
  by_cases z : c < ds.length
  · rw [breach_old gl z]
    exact firstS_none.mp h c z
  · rw [show c = ds.length by omega]
    exact hn
/-- a list that is no row's part set anew -/
theorem RwN.updR {R S : Addr} {H : Hp} {xs : List V} : ∀ {vs : List V} {ls : List Ent}, RwN R H vs ls → RwN S H vs ls → RwN S (upd H R (.lst xs)) vs ls
  | [], [], _, _ => .nil
  | _ :: _, _ :: _, .cons ⟨t, b, m, e, n1, h1, n2, h2, n3, h3⟩ r, .cons ⟨t', b', m', e', n1', h1', n2', h2', n3', h3'⟩ r' => by
    obtain rfl : t = t' := V.ref.inj (e.symm.trans e')
    rw [h1] at h1'
    have z := HO.tup.inj (Option.some.inj h1')
    injection z with z1 z2
    injection z2 with z3 z4
    injection z4 with z5 z6
    obtain rfl := V.ref.inj z1
    obtain rfl := V.ref.inj z5
    exact .cons ⟨t, b, m, e, n1', upB n1 h1, n2', upB n2 h2, n3', upB n3 h3⟩ (RwN.updR r r')
/-- a law's own history -/
def HistAt (k : Nat) (H : Hp) (r g : Addr) (n : Nat) (us : List V) (ds : List Ent) (gs : List Nat) : Prop := H r = some (.lst us) ∧ RwN r H us ds ∧ RwN g H us ds ∧ DsOk ds ∧ H g = some (.lst (gs.map natV)) ∧ gs.length = ds.length ∧ (∀ x ∈ gs, x < n) ∧ ∀ d ∈ ds, d.1.length ≤ k
section
variable {P : Program} {w : World} {K : PySem.W.Frag} {mg : Str → Option Value} {base : Heap} {f fN : Addr} {fd fdN : FuncData}
def spHist : Sp := fun vs H Q _ => ∃ (p q l n many most : Nat) (js : List (Nat × Nat)) (lone : List Nat), vs = [.ref p, .ref l, natV many, natV most] ∧ HandAt H p q ∧ LKinds H l n js lone p ∧ KOk n js lone ∧ many ≤ 11 ∧ most ≤ 1000 ∧
  ∀ t r g H' us ds gs, Oth p H H' → HandAt H' p q → H' t = some (.tup [.ref r, .ref g]) → H r = none → H g = none → HistAt 3 H' r g n us ds gs → ds.length = many → breachA ds js lone gs = none → Q (.ref t) H'
theorem sc_hist : FnScope ["_law_hand_here", "_law_kinds_here", "_law_many", "_law_most", "_law_rows", "_law_given", "_law_rest", "_law_step", "_law_bases_here", "_law_fields", "_law_one"] ["_law_hand_here", "_law_kinds_here", "_law_many", "_law_most"] (defScope (top 51)) := ⟨rfl, rfl, rfl, by decide +kernel, rfl, by decide +kernel, by decide +kernel⟩
theorem ok_hist (F : FnP K "_law_history" 51 f fd) (B : Fr mg) (FN : FnP K "_law_next" 50 fN fdN) (mN : mg "_law_next" = some (.ref fN)) (GN : FnOk P w K mg base CX0 4 fN fdN ["_law_hand_here", "_law_rows", "_law_kinds_here", "_law_given", "_law_most"] spNext) : FnOk P w K mg base CX0 5 f fd ["_law_hand_here", "_law_kinds_here", "_law_many", "_law_most"] spHist := by
  have bN : L2.Binds K fdN ["_law_hand_here", "_law_rows", "_law_kinds_here", "_law_given", "_law_most"] [] := FN.bindsN fun _ _ _ _ _ _ us hl => match us, hl with | [_, _, _, _, _], _ => rfl
  refine F.ok sc_hist (fun vs H Q E h => ?_) (fun cdv A outer s H vs Q E hr h => ?_)
  · obtain ⟨p, q, l, n, many, most, js, lone, rfl, _⟩ := h
    rfl
  · obtain ⟨p, q, l, n, many, most, js, lone, rfl, hh, hk, kok, m11, mo, k⟩ := h
    refine ⟨_, PSs.nox (pss_cons (ps_set (i := 4) sc_hist.nd rfl (Or.inl rfl) (pe_lst pa_nil))
      (pss_cons (ps_set (i := 5) sc_hist.nd rfl (Or.inl rfl) (pe_lst pa_nil))
      (pss_cons (ps_set (i := 6) sc_hist.nd rfl (Or.inl rfl) (pv 3))
      (pss_cons (ps_for PassesOwn.never rfl (pi_range1 (by rfl) B.range (pa_cons (pv 2) pa_nil)) (pg_name (i := 7) sc_hist.nd rfl (Or.inl rfl))
        (pss_cons (ps_asg (pe_call GN hr (by rfl) mN FN.kp bN .nil pass0 (pa_cons (pv 0) (pa_cons (pv 4) (pa_cons (pv 1) (pa_cons (pv 5) (pa_cons (pv 6) pa_nil)))))) (pg_tup (by rfl) (pgs_cons (pg_name (i := 8) sc_hist.nd rfl (Or.inl rfl)) (pgs_cons (pg_name (i := 9) sc_hist.nd rfl (Or.inl rfl)) (pgs_cons (pg_name (i := 10) sc_hist.nd rfl (Or.inl rfl)) pgs_nil)))))
        (pss_cons (ps_set (i := 6) sc_hist.nd rfl (Or.inl rfl) (pe_op op_sub (pv 6) (pv 9)))
        (pss_cons (ps_expr (pe_bm PySem.F.plainAttrs_list PySem.F.slot_list_append PySem.F.type_list_append mt_append (pv 4) (pa_cons (pe_tup (pa_cons (pv 8) (pa_cons (pv 9) (pa_cons (pe_lst pa_nil) pa_nil)))) pa_nil)))
        (pss_one (ps_expr (pe_bm PySem.F.plainAttrs_list PySem.F.slot_list_append PySem.F.type_list_append mt_append (pv 5) (pa_cons (pv 10) pa_nil))))))))
      (pss_one (ps_ret (pe_tup (pa_cons (pv 4) (pa_cons (pv 5) pa_nil))))))))), ?_⟩
    refine ⟨by decide, fun R hRn => ⟨by decide, fun G hGn => ?_⟩⟩
    have sR := same_new (o := .lst []) hRn
    have sG := same_new (o := .lst []) hGn
    have RG : R ≠ G := fun z => by
      rw [← z, upd_same] at hGn
      cases hGn
    have HG : H G = none := by
      cases e : H G with
      | none => rfl
      | some o =>
        rw [sR _ _ e] at hGn
        cases hGn
    have s2 := sR.trans sG
    have R2 := sG _ _ (upd_same (H := H) (a := R) (o := .lst []))
    have G2 := upd_same (H := upd H R (.lst [])) (a := G) (o := .lst [])
    generalize upd (upd H R (.lst [])) G (.lst []) = H2 at s2 R2 G2 ⊢
    clear sR sG hGn
    obtain ⟨Rp, Rq⟩ := hh.ne hRn
    obtain ⟨Gp, Gq⟩ := hh.ne HG
    refine ⟨_, rfl, _, rfl, many, rfl, by omega, by omega, ?_⟩
    refine for_range (n := many) (fun i σ H' => Oth p H H' ∧ HandAt H' p q ∧ ∃ (x7 x8 x9 x10 : Option V) (rest : Nat) (us : List V) (ds : List Ent) (gs : List Nat), σ = [some (.ref p), some (.ref l), some (natV many), some (natV most), some (.ref R), some (.ref G), some (natV rest), x7, x8, x9, x10] ∧ rest ≤ most ∧ HistAt 3 H' R G n us ds gs ∧ ds.length = i ∧ breachA ds js lone gs = none)
      ⟨Oth.of s2, hh.same s2, none, none, none, none, most, [], [], [], rfl, Nat.le_refl _, ⟨R2, .nil, .nil, fun i d e => by simp at e, G2, rfl, (fun x hx => by cases hx), fun x hx => by cases hx⟩, rfl, rfl⟩ ?_ ?_
    · rintro i σ H3 hi ⟨O3, h3, x7, x8, x9, x10, rest, us, ds, gs, rfl, rl, ⟨r3, hR3, hG3, ok, g3, gl, gn, d3⟩, dl, hb⟩
      have hk3 := hk.ki (KI.oth O3 hh)
      refine ⟨_, rfl, _, rfl, _, rfl, _, rfl, _, rfl, p, q, R, l, G, R, us, ds, n, rest, js, lone, gs, rfl, h3, r3, hR3, ok, by omega, hk3, kok, g3, gl, gn, hb, by omega, fun t b H4 bs m o O4 h4 ht hbn hb4 eok b3 mr on ebn => ?_⟩
      have k34 := KI.oth O4 h3
      have r4 := k34 _ _ r3 (nh_refs hR3.refs)
      have hR4 : RwN R H4 us ds := hR3.ki k34
      have hG4 : RwN G H4 us ds := hG3.ki k34
      have g4 := k34 _ _ g3 nh_nats
      refine ⟨t, _, rfl, SqT.of ht, rfl, _, _, rfl, _, _, rfl, _, _, rfl, rfl, ?_⟩
      refine ⟨_, rfl, _, rfl, _, _, rfl, rfl, ?_⟩
      have er : V.int ((rest : Int) - (m : Int)) = natV (rest - m) := by show _ = V.int _; congr 1; omega
      show gName 6 (V.int ((rest : Int) - (m : Int))) _ _ _
      rw [er]
      have usl := hR3.len
      refine ⟨_, rfl, .inl ⟨rfl, _, SqL.of r4⟩, _, rfl, _, rfl, (by show 0 ≤ sizeLine; decide), fun M hM => ⟨(by show 3 ≤ sizeLine; decide), fun T hT => ?_⟩⟩
      have sM := same_new (o := .lst []) hM
      have sT := same_new (o := .tup [.ref b, natV m, .ref M]) hT
      have MM := sT _ _ (upd_same (H := H4) (a := M) (o := .lst []))
      have TT := upd_same (H := upd H4 M (.lst [])) (a := T) (o := .tup [.ref b, natV m, .ref M])
      have MR : M ≠ R := Ne.symm (ne_of_none r4 hM)
      have MG : M ≠ G := Ne.symm (ne_of_none g4 hM)
      have s4 := sM.trans sT
      generalize upd (upd H4 M (.lst [])) T (.tup [.ref b, natV m, .ref M]) = H5 at s4 MM TT ⊢
      clear sM sT hT hM
      have r5 := s4 _ _ r4
      have g5 := s4 _ _ g4
      have h5 := h4.same s4
      have bR : b ≠ R := Ne.symm (ne_of_none r3 hbn)
      have TR : T ≠ R := fun z => by rw [z, r5] at TT; cases TT
      refine ⟨R, us, _, rfl, rfl, r5, (by show _ < 2 ^ 24; omega), ?_⟩
      have R6 : upd H5 R (.lst (us ++ [.ref T])) R = some (.lst (us ++ [.ref T])) := upd_same
      have hR6 : RwN R (upd H5 R (.lst (us ++ [.ref T]))) (us ++ [.ref T]) (ds ++ [((bs, m, []) : Ent)]) := by
        refine RwN.app ?_ (.cons ⟨T, b, M, rfl, TR, upB TR TT, bR, upB bR (s4 _ _ hb4), MR, upB MR MM⟩ .nil)
        exact (hR4.ki (KI.of s4)).keep fun c u nc e _ => upB nc e
      have TG : T ≠ G := fun z => by rw [z, g5] at TT; cases TT
      have bG : b ≠ G := Ne.symm (ne_of_none g3 hbn)
      have hG6 : RwN G (upd H5 R (.lst (us ++ [.ref T]))) (us ++ [.ref T]) (ds ++ [((bs, m, []) : Ent)]) := by
        refine RwN.app ?_ (.cons ⟨T, b, M, rfl, TG, upB TR TT, bG, upB bR (s4 _ _ hb4), MG, upB MR MM⟩ .nil)
        exact RwN.updR (hR4.ki (KI.of s4)) (hG4.ki (KI.of s4))
      have g6 : upd H5 R (.lst (us ++ [.ref T])) G = some (.lst (gs.map natV)) := upB (Ne.symm RG) g5
      have h6 := h5.upd Rp Rq (o := .lst (us ++ [.ref T]))
      have O6 : Oth p H (upd H5 R (.lst (us ++ [.ref T]))) := ((O3.trans O4).trans (Oth.of s4)).updN hRn
      generalize upd H5 R (.lst (us ++ [.ref T])) = H6 at R6 hR6 hG6 g6 h6 O6 ⊢
      refine ⟨_, rfl, .inl ⟨rfl, _, SqL.of g6⟩, _, rfl, G, gs.map natV, _, rfl, rfl, g6, (by rw [List.length_map]; show _ < 2 ^ 24; omega), ?_⟩
      refine ⟨O6.updN HG, h6.upd Gp Gq, _, _, _, _, rest - m, us ++ [.ref T], ds ++ [((bs, m, []) : Ent)], gs ++ [o], rfl, by omega, ⟨upB RG R6, RwN.updR hG6 hR6, hG6.keep fun c u nc e _ => upB nc e, ok.app eok, by rw [upd_same, List.map_append]; rfl, by rw [List.length_append, List.length_append, gl]; rfl, ?_, ?_⟩, by rw [List.length_append, dl]; rfl, breachA_app gl hb ebn⟩
      · intro x hx
        rcases List.mem_append.mp hx with hx | hx
        · exact gn x hx
        · rw [List.mem_singleton.mp hx]
          exact on
      · intro x hx
        rcases List.mem_append.mp hx with hx | hx
        · exact d3 x hx
        · rw [List.mem_singleton.mp hx]
          exact b3
    · rintro σ H3 ⟨O3, h3, x7, x8, x9, x10, rest, us, ds, gs, rfl, rl, hist, dl, hb⟩
      refine ⟨_, rfl, _, rfl, (by show 2 ≤ sizeLine; decide), fun t ht => ?_⟩
      have st := same_new (o := .tup [.ref R, .ref G]) ht
      obtain ⟨r3, hR3, hG3, ok, g3, gl, gn, d3⟩ := hist
      exact k t R G _ us ds gs (O3.trans (Oth.of st)) (h3.same st) upd_same hRn HG ⟨st _ _ r3, hR3.keep (KeepX.of st), hG3.keep (KeepX.of st), ok, st _ _ g3, gl, gn, d3⟩ dl hb
end
end K12

set_option maxRecDepth 100000
set_option maxHeartbeats 8000000
namespace K12
open PySem PySem.Spec PyProof.Rows L2 Kw
theorem RwN.get2 {R S : Addr} {H : Hp} : ∀ {vs : List V} {ls : List Ent} {i : Nat} {d : Ent}, RwN R H vs ls → RwN S H vs ls → ls[i]? = some d → ∃ t b m, vs[i]? = some (.ref t) ∧ H t = some (.tup [.ref b, natV d.2.1, .ref m]) ∧ b ≠ R ∧ b ≠ S ∧ H b = some (.lst (d.1.map natV)) ∧ m ≠ R ∧ m ≠ S ∧ H m = some (.lst (d.2.2.map natV))
  | [], [], _, _, _, _, h => by simp at h
  | _ :: _, _ :: _, 0, _, .cons ⟨t, b, m, e, n1, h1, n2, h2, n3, h3⟩ r, .cons ⟨t', b', m', e', n1', h1', n2', h2', n3', h3'⟩ r', hd => by
    obtain rfl := Option.some.inj hd
    obtain rfl : t = t' := V.ref.inj (e.symm.trans e')
    rw [h1] at h1'
    have z := HO.tup.inj (Option.some.inj h1')
    injection z with z1 z2
    injection z2 with z3 z4
    injection z4 with z5 z6
    obtain rfl := V.ref.inj z1
    obtain rfl := V.ref.inj z5
    exact ⟨t, b, m, by rw [e]; rfl, h1, n2, n2', h2, n3, n3', h3⟩
  | _ :: _, _ :: _, i + 1, _, .cons _ r, .cons _ r', hd => RwN.get2 (i := i) r r' hd
theorem DsOk.set {ds : List Ent} {d : Ent} {i : Nat} (h : DsOk ds) (e : EOk i d) : DsOk (ds.set i d) := fun j r hr => by
  rw [List.getElem?_set] at hr
  by_cases z : i = j
  · subst z
    rw [if_pos rfl] at hr
    by_cases y : i < ds.length
    · rw [if_pos y] at hr
      obtain rfl := Option.some.inj hr
      exact e
    · rw [if_neg y] at hr
      cases hr
  · rw [if_neg z] at hr
    exact h j r hr
theorem set_len {α : Type} {ds : List α} {d : α} {i : Nat} {P : α → Prop} (h : ∀ x ∈ ds, P x) (e : P d) : ∀ x ∈ ds.set i d, P x := fun x hx => by
  rcases List.mem_or_eq_of_mem_set hx with hx | rfl
  · exact h x hx
  · exact e
section
variable {P : Program} {w : World} {K : PySem.W.Frag} {mg : Str → Option Value} {base : Heap} {f fT : Addr} {fd fdT : FuncData}
def spChg : Sp := fun vs H Q _ => ∃ (p q r l g n : Nat) (js : List (Nat × Nat)) (lone : List Nat) (us : List V) (ds : List Ent) (gs : List Nat), vs = [.ref p, .ref r, .ref l, .ref g] ∧ HandAt H p q ∧ LKinds H l n js lone p ∧ KOk n js lone ∧ HistAt 3 H r g n us ds gs ∧ 1 ≤ ds.length ∧ ds.length ≤ 11 ∧
  ∀ t r g H' us' ds' gs', Oth p H H' → HandAt H' p q → H' t = some (.tup [.ref r, .ref g]) → H r = none → H g = none → HistAt 5 H' r g n us' ds' gs' → ds'.length = ds.length → Q (.ref t) H'
theorem sc_chg : FnScope ["_law_hand_here", "_law_rows", "_law_kinds_here", "_law_given", "_law_step", "_law_at", "_law_turn", "_law_bases_here", "_law_fields", "_law_methods", "_law_base"] ["_law_hand_here", "_law_rows", "_law_kinds_here", "_law_given"] (defScope (top 54)) := ⟨rfl, rfl, rfl, by decide +kernel, rfl, by decide +kernel, by decide +kernel⟩
theorem ok_chg (F : FnP K "_law_changed" 54 f fd) (B : Fr mg) (gMin : mg "min" = none) (FT : FnP K "_law_take" 38 fT fdT) (mT : mg "_law_take" = some (.ref fT)) (GT : FnOk P w K mg base CX0 2 fT fdT ["_law_hand_here", "_law_many"] spTake) : FnOk P w K mg base CX0 3 f fd ["_law_hand_here", "_law_rows", "_law_kinds_here", "_law_given"] spChg := by
  have bT : L2.Binds K fdT ["_law_hand_here", "_law_many"] [] := FT.bindsN fun _ _ _ _ _ _ us hl => match us, hl with | [_, _], _ => rfl
  refine F.ok sc_chg (fun vs H Q E h => ?_) (fun cdv A outer s H vs Q E hr h => ?_)
  · obtain ⟨p, q, r, l, g, n, js, lone, us, ds, gs, rfl, _⟩ := h
    rfl
  · obtain ⟨p, q, r, l, g, n, js, lone, us0, ds0, gs0, rfl, hh, hk, kok, ⟨hr0, hRr, hRg, ok0, hg0, gl0, gn0, d30⟩, lo1, hi11, k⟩ := h
    refine ⟨_, PSs.nox (pss_cons (ps_set (i := 1) sc_chg.nd rfl (Or.inl rfl) (pe_callTy (T := "list") (r := rListOf K) (call_lst (X := _)) (by rfl) B.list (by decide +kernel) (pa_cons (pv 1) pa_nil)))
      (pss_cons (ps_set (i := 3) sc_chg.nd rfl (Or.inl rfl) (pe_callTy (T := "list") (r := rListOf K) (call_lst (X := _)) (by rfl) B.list (by decide +kernel) (pa_cons (pv 3) pa_nil)))
      (pss_cons (ps_for PassesOwn.never rfl (pi_range1 (by rfl) B.range (pa_cons (pe_call GT hr (by rfl) mT FT.kp bT .nil pass0 (pa_cons (pv 0) (pa_cons pe_int pa_nil))) pa_nil)) (pg_name (i := 4) sc_chg.nd rfl (Or.inl rfl))
        (pss_cons (ps_set (i := 5) sc_chg.nd rfl (Or.inl rfl) (pe_call GT hr (by rfl) mT FT.kp bT .nil pass0 (pa_cons (pv 0) (pa_cons (pe_callB call_len_seq (by rfl) B.len PySem.boot_len (pa_cons (pv 1) pa_nil)) pa_nil))))
        (pss_cons (ps_set (i := 6) sc_chg.nd rfl (Or.inl rfl) (pe_call GT hr (by rfl) mT FT.kp bT .nil pass0 (pa_cons (pv 0) (pa_cons pe_int pa_nil))))
        (pss_cons (ps_asg (pe_ix (r := rIxL K) ix_list (pv 1) (pv 5) (fun _ _ => rfl)) (pg_tup (by rfl) (pgs_cons (pg_name (i := 7) sc_chg.nd rfl (Or.inl rfl)) (pgs_cons (pg_name (i := 8) sc_chg.nd rfl (Or.inl rfl)) (pgs_cons (pg_name (i := 9) sc_chg.nd rfl (Or.inl rfl)) pgs_nil)))))
        (pss_one (ps_if (pt_cmpR op_lt (pv 6) pe_int (nomark _))
          (pss_one (ps_asg (pe_call GT hr (by rfl) mT FT.kp bT .nil pass0 (pa_cons (pv 0) (pa_cons (pe_ix (r := rIxL K) ix_list (pv 2) pe_int (fun _ _ => rfl)) pa_nil))) (pg_sub (pv 3) (pv 5) set_list (fun _ => rfl))))
          (pss_one (ps_if (pt_cmpR op_eq (pv 6) pe_int (nomark _))
            (pss_one (ps_asg (pe_tup (pa_cons (pv 7) (pa_cons (pe_callB (call_min2 rfl) (by rfl) gMin (by decide +kernel) (pa_cons pe_int (pa_cons (pe_op op_add (pv 8) pe_int) pa_nil))) (pa_cons (pv 9) pa_nil)))) (pg_sub (pv 1) (pv 5) set_list (fun _ => rfl))))
            (pss_one (ps_if (pt_cmpR op_gt (pv 5) pe_int (nomark _))
              (pss_cons (ps_set (i := 10) sc_chg.nd rfl (Or.inl rfl) (pe_call GT hr (by rfl) mT FT.kp bT .nil pass0 (pa_cons (pv 0) (pa_cons (pv 5) pa_nil))))
              (pss_one (ps_if (pt_cmpR (r := rIn K true) op_notIn_seq (pv 10) (pv 7) (by rfl))
                (pss_one (ps_asg (pe_tup (pa_cons (pe_op op_cat (pv 7) (pe_lst (pa_cons (pv 10) pa_nil))) (pa_cons (pv 8) (pa_cons (pv 9) pa_nil)))) (pg_sub (pv 1) (pv 5) set_list (fun _ => rfl)))) pss_nil))) pss_nil))))))))))
      (pss_one (ps_ret (pe_tup (pa_cons (pv 1) (pa_cons (pv 3) pa_nil)))))))), ?_⟩
    have usl0 : us0.length = ds0.length := hRr.len
    refine ⟨_, rfl, r, us0, rfl, .inl (SqL.of hr0), fun R hRn => ?_⟩
    have sR := same_new (o := .lst us0) hRn
    refine ⟨_, rfl, g, _, rfl, .inl (SqL.of (sR _ _ hg0)), fun G hGn => ?_⟩
    have sG := same_new (o := .lst (gs0.map natV)) hGn
    have RG : R ≠ G := fun z => by
      rw [← z, upd_same] at hGn
      cases hGn
    have HG : H G = none := by
      cases e : H G with
      | none => rfl
      | some o =>
        rw [sR _ _ e] at hGn
        cases hGn
    have s2 := sR.trans sG
    have R2 := sG _ _ (upd_same (H := H) (a := R) (o := .lst us0))
    have G2 := upd_same (H := upd H R (.lst us0)) (a := G) (o := .lst (gs0.map natV))
    have hR2 : RwN R (upd (upd H R (.lst us0)) G (.lst (gs0.map natV))) us0 ds0 := (hRr.new hRn).ki (KI.of s2)
    have hG2 : RwN G (upd (upd H R (.lst us0)) G (.lst (gs0.map natV))) us0 ds0 := (hRr.new HG).ki (KI.of s2)
    generalize upd (upd H R (.lst us0)) G (.lst (gs0.map natV)) = H2 at s2 R2 G2 hR2 hG2 ⊢
    clear sR sG hGn
    obtain ⟨Rp, Rq⟩ := hh.ne hRn
    obtain ⟨Gp, Gq⟩ := hh.ne HG
    refine ⟨_, rfl, p, q, 3, rfl, by decide, by decide, hh.same s2, fun c H3 c0 c1 h3 e3 => ⟨_, rfl, by omega, by omega, ?_⟩⟩
    have O3 := (Oth.of s2).trans (Oth.take e3)
    have k23 := KI.oth (Oth.take e3) (hh.same s2)
    refine for_range (n := c.toNat) (fun i σ H' => Oth p H H' ∧ HandAt H' p q ∧ ∃ (x4 x5 x6 x7 x8 x9 x10 : Option V) (us : List V) (ds : List Ent) (gs : List Nat), σ = [some (.ref p), some (.ref R), some (.ref l), some (.ref G), x4, x5, x6, x7, x8, x9, x10] ∧ HistAt (3 + i) H' R G n us ds gs ∧ ds.length = ds0.length)
      ⟨O3, h3, none, none, none, none, none, none, none, us0, ds0, gs0, rfl, ⟨Oth.take e3 _ _ Rp R2, hR2.ki k23, hG2.ki k23, ok0, Oth.take e3 _ _ Gp G2, gl0, gn0, d30⟩, rfl⟩ ?_ ?_
    · rintro i σ H4 hi ⟨O4, h4, x4, x5, x6, x7, x8, x9, x10, us, ds, gs, rfl, ⟨r4, hR4, hG4, ok, g4, gl, gn, d3⟩, dl⟩
      have usl : us.length = ds.length := hR4.len
      refine ⟨_, rfl, _, rfl, R, us, rfl, .inl (SqL.of r4), p, q, (us.length : Int), rfl, by omega, by omega, h4, fun a H5 a0 a1 h5 e5 => ?_⟩
      obtain ⟨x, rfl⟩ : ∃ x : Nat, a = (x : Int) := ⟨a.toNat, by omega⟩
      have xl : x < us.length := by omega
      refine ⟨_, rfl, p, q, 4, rfl, by decide, by decide, h5, fun tu H6 t0 t1 h6 e6 => ?_⟩
      have O46 := (Oth.take e5).trans (Oth.take e6)
      have k46 := KI.oth O46 h4
      have O6 := O4.trans O46
      have r6 := O46 _ _ Rp r4
      have g6 := O46 _ _ Gp g4
      have hR6 : RwN R H6 us ds := hR4.ki k46
      have hG6 : RwN G H6 us ds := hG4.ki k46
      have hk6 := hk.ki (KI.oth O6 hh)
      obtain ⟨_, _, _, l6, _⟩ := id hk6
      obtain ⟨d, hd⟩ : ∃ d, ds[x]? = some d := ⟨_, List.getElem?_eq_getElem (by omega)⟩
      obtain ⟨t, b, m, hx, ht, bR, bG, hb, mR, mG, hm⟩ := hR6.get2 hG6 hd
      obtain ⟨o1, o2, o3, o4, o5, o6, o7⟩ := ok x d hd
      have db := d3 d (List.mem_of_getElem? hd)
      refine ⟨_, rfl, _, rfl, R, us, (x : Int), _, rfl, rfl, SqL.of r6, atI_nat hx, t, _, rfl, SqT.of ht, rfl, _, _, rfl, _, _, rfl, _, _, rfl, rfl, ?_⟩
      have fin : ∀ (T b' : Addr) (d' : Ent) (H7 : Hp), Oth p H6 H7 → HandAt H7 p q → H7 T = some (.tup [.ref b', natV d'.2.1, .ref m]) → H7 b' = some (.lst (d'.1.map natV)) → b' ≠ R → b' ≠ G → d'.2.2 = d.2.2 → EOk x d' → d'.1.length ≤ 3 + (i + 1) →
          Oth p H (upd H7 R (.lst (us.set x (.ref T)))) ∧ HandAt (upd H7 R (.lst (us.set x (.ref T)))) p q ∧ HistAt (3 + (i + 1)) (upd H7 R (.lst (us.set x (.ref T)))) R G n (us.set x (.ref T)) (ds.set x d') gs ∧ (ds.set x d').length = ds0.length := by
        intro T b' d' H7 O7 h7 hT hb' n1 n2 em eok d4
        have k67 := KI.oth O7 h6
        have r7 := O7 _ _ Rp r6
        have g7 := O7 _ _ Gp g6
        have TR : T ≠ R := fun z => by rw [z, r7] at hT; cases hT
        have TG : T ≠ G := fun z => by rw [z, g7] at hT; cases hT
        have hm7 := k67 _ _ hm nh_nats
        rw [← em] at hm7
        have hR7 : RwN R H7 (us.set x (.ref T)) (ds.set x d') := RwN.set TR hT n1 hb' mR hm7 x (hR6.ki k67)
        have hG7 : RwN G H7 (us.set x (.ref T)) (ds.set x d') := RwN.set TG hT n2 hb' mG hm7 x (hG6.ki k67)
        exact ⟨(O6.trans O7).updN hRn, h7.upd Rp Rq, ⟨upd_same, hR7.keep fun c u nc e _ => upB nc e, hR7.updR hG7, ok.set eok, upB (Ne.symm RG) g7, by rw [List.length_set]; exact gl, gn, set_len (fun z hz => by have := d3 z hz; omega) d4⟩, by rw [List.length_set]; exact dl⟩
      refine ⟨_, rfl, _, _, rfl, rfl, _, rfl, ite2 (fun _ => ?_) (fun _ => ?_)⟩
      · refine ⟨_, rfl, _, rfl, l, _, ((0 : Nat) : Int), _, rfl, rfl, SqL.of l6, rfl, p, q, (n : Int), rfl, by have := kok.lo; omega, by have := kok.hi; omega, h6, fun v H7 v0 v1 h7 e7 => ?_⟩
        obtain ⟨y, rfl⟩ : ∃ y : Nat, v = (y : Int) := ⟨v.toNat, by omega⟩
        have g7 := Oth.take e7 _ _ Gp g6
        have r7 := Oth.take e7 _ _ Rp r6
        have k67 := KI.oth (Oth.take e7) h6
        have hR7 : RwN R H7 us ds := hR6.ki k67
        have hG7 : RwN G H7 us ds := hG6.ki k67
        refine ⟨_, rfl, _, rfl, G, gs.map natV, (x : Int), x, rfl, rfl, g7, ixN_at (by rw [List.length_map]; omega), ?_⟩
        have es : (gs.map natV).set x (V.int (y : Int)) = (gs.set x y).map natV := by rw [List.map_set]; rfl
        refine ⟨(O6.trans (Oth.take e7)).updN HG, h7.upd Gp Gq, _, _, _, _, _, _, _, us, ds, gs.set x y, rfl, ⟨upB RG r7, hG7.updR hR7, hG7.keep fun c u nc e _ => upB nc e, ok, by rw [upd_same, es], by rw [List.length_set]; exact gl, set_len gn (by omega), fun z hz => by have := d3 z hz; omega⟩, dl⟩
      · refine ⟨_, rfl, rfl, _, rfl, ite2 (fun _ => ?_) (fun _ => ?_)⟩
        · refine ⟨_, rfl, _, rfl, _, _, rfl, rfl, _, _, rfl, _, rfl, (by show 3 ≤ sizeLine; decide), fun T hT => ?_⟩
          obtain ⟨f', ef, ff⟩ : ∃ f' : Nat, (if (d.2.1 : Int) + 1 < 3 then (d.2.1 : Int) + 1 else 3) = (f' : Int) ∧ f' ≤ 3 := by
            refine ⟨(if (d.2.1 : Int) + 1 < 3 then (d.2.1 : Int) + 1 else 3).toNat, ?_, ?_⟩ <;> split <;> omega
          have ef' : V.int (if (d.2.1 : Int) + 1 < 3 then (d.2.1 : Int) + 1 else 3) = natV f' := by rw [ef]; rfl
          rw [ef']
          have sT := same_new (o := .tup [.ref b, natV f', .ref m]) hT
          obtain ⟨i1, i2, i3, i4⟩ := fin T b (d.1, f', d.2.2) _ (Oth.of sT) (h6.same sT) upd_same (sT _ _ hb) bR bG rfl ⟨o1, o2, o3, ff, o5, o6, o7⟩ (by show d.1.length ≤ _; omega)
          exact ⟨_, rfl, _, rfl, R, us, (x : Int), x, rfl, rfl, sT _ _ r6, ixN_at xl, i1, i2, _, _, _, _, _, _, _, _, _, gs, rfl, i3, i4⟩
        · refine ⟨_, rfl, _, _, rfl, rfl, _, rfl, ite2 (fun xz => ?_) (fun _ => ?_)⟩
          · have x0 : 0 < x := by
              have := of_decide_eq_true xz
              omega
            refine ⟨_, rfl, _, rfl, p, q, (x : Int), rfl, by omega, by omega, h6, fun v H7 v0 v1 h7 e7 => ?_⟩
            obtain ⟨y, rfl⟩ : ∃ y : Nat, v = (y : Int) := ⟨v.toNat, by omega⟩
            have k67 := KI.oth (Oth.take e7) h6
            have hb7 := k67 _ _ hb nh_nats
            refine ⟨_, rfl, _, rfl, b, _, rfl, .inl (SqL.of hb7), rfl, flat_nats _, _, rfl, ?_⟩
            have ein : inV (natV y) (d.1.map natV) = d.1.contains y := inV_nat _ _
            show (if (!inV (natV y) (d.1.map natV)) = true then _ else _)
            rw [ein]
            have r7 := Oth.take e7 _ _ Rp r6
            have g7 := Oth.take e7 _ _ Gp g6
            cases hc : d.1.contains y with
            | true => exact iteF' rfl ⟨O6.trans (Oth.take e7), h7, _, _, _, _, _, _, _, us, ds, gs, rfl, ⟨r7, hR6.ki k67, hG6.ki k67, ok, g7, gl, gn, fun z hz => by have := d3 z hz; omega⟩, dl⟩
            | false =>
              refine iteT' rfl ⟨_, rfl, _, rfl, (by show 1 ≤ sizeLine; decide), fun L hL => ?_⟩
              have sL := same_new (o := .lst [natV y]) hL
              refine ⟨b, L, d.1.map natV, [natV y], rfl, rfl, sL _ _ hb7, upd_same, (by rw [List.length_map]; show _ + 1 ≤ 2 ^ 24; omega), fun N hN => ⟨_, rfl, _, rfl, (by show 3 ≤ sizeLine; decide), fun T hT => ?_⟩⟩
              have sN := same_new (o := .lst (d.1.map natV ++ [natV y])) hN
              have sT := same_new (o := .tup [.ref N, natV d.2.1, .ref m]) hT
              have N8 := sT _ _ (upd_same (H := upd H7 L (.lst [natV y])) (a := N) (o := .lst (d.1.map natV ++ [natV y])))
              have T8 := upd_same (H := upd (upd H7 L (.lst [natV y])) N (.lst (d.1.map natV ++ [natV y]))) (a := T) (o := .tup [.ref N, natV d.2.1, .ref m])
              have NR : N ≠ R := Ne.symm (ne_of_none (sL _ _ r7) hN)
              have NG : N ≠ G := Ne.symm (ne_of_none (sL _ _ g7) hN)
              have s78 := (sL.trans sN).trans sT
              have yn : y ∉ d.1 := fun z => by rw [List.contains_iff_mem.mpr z] at hc; cases hc
              obtain ⟨i1, i2, i3, i4⟩ := fin T N (d.1 ++ [y], d.2.1, d.2.2) _ ((Oth.take e7).trans (Oth.of s78)) (h7.same s78) T8 (N8.trans (by rw [List.map_append]; rfl)) NR NG rfl ⟨List.nodup_append.mpr ⟨o1, List.nodup_cons.mpr ⟨(fun z => by cases z), .nil⟩, fun u hu v hv => by
                  rw [List.mem_singleton.mp hv]
                  exact fun z => yn (z ▸ hu)⟩, fun u hu => by
                  rcases List.mem_append.mp hu with hu | hu
                  · exact o2 u hu
                  · rw [List.mem_singleton.mp hu]
                    omega, by show (d.1 ++ [y]).length ≤ 5; rw [List.length_append, List.length_singleton]; omega, o4, o5, o6, o7⟩ (by show (d.1 ++ [y]).length ≤ _; rw [List.length_append, List.length_singleton]; omega)
              exact ⟨_, rfl, _, rfl, R, us, (x : Int), x, rfl, rfl, s78 _ _ r7, ixN_at xl, i1, i2, _, _, _, _, _, _, _, _, _, gs, rfl, i3, i4⟩
          · exact ⟨O6, h6, _, _, _, _, _, _, _, us, ds, gs, rfl, ⟨r6, hR6, hG6, ok, g6, gl, gn, fun z hz => by have := d3 z hz; omega⟩, dl⟩
    · rintro σ H4 ⟨O4, h4, x4, x5, x6, x7, x8, x9, x10, us, ds, gs, rfl, ⟨r4, hR4, hG4, ok, g4, gl, gn, d3⟩, dl⟩
      refine ⟨_, rfl, _, rfl, (by show 2 ≤ sizeLine; decide), fun t ht => ?_⟩
      have st := same_new (o := .tup [.ref R, .ref G]) ht
      exact k t R G _ us ds gs (O4.trans (Oth.of st)) (h4.same st) upd_same hRn HG ⟨st _ _ r4, hR4.keep (KeepX.of st), hG4.keep (KeepX.of st), ok, st _ _ g4, gl, gn, fun d hd => by have := d3 d hd; omega⟩ dl
end
end K12

set_option maxRecDepth 100000
set_option maxHeartbeats 16000000
namespace K12
open PySem PySem.Spec PyProof.Rows L2 Kw
theorem exN_tup {H : Hp} {t1 t2 : Addr} {xs : List V} (h1 : H t1 = some (.tup xs)) (h2 : H t2 = some (.tup xs)) (hf : ∀ v ∈ xs, FlatN v) (hl : xs.length ≤ 1000) : ExactN H 1 (.ref t1) (.ref t2) :=
  .inr ⟨t1, t2, xs, xs, rfl, rfl, h1, h2, rfl, hl, fun i u v hu hv => by
    rw [hu] at hv
    exact ⟨Option.some.inj hv, by
      obtain rfl := Option.some.inj hv
      exact hf _ (List.mem_of_getElem? hu)⟩⟩
theorem exN_opt {H : Hp} {v d : V} {o : Option (Nat × Nat × Nat × Str)} (hv : OptT H v o) (hd : OptT H d o) : ExactN H 1 v d := by
  rcases hv with ⟨e, rfl⟩ | ⟨z, t, e, rfl, h1⟩
  · rcases hd with ⟨_, rfl⟩ | ⟨z', t', e', _, _⟩
    · exact .inl ⟨rfl, True.intro⟩
    · rw [e] at e'
      cases e'
  · rcases hd with ⟨e', rfl⟩ | ⟨z', t', e', rfl, h2⟩
    · rw [e] at e'
      cases e'
    · rw [e] at e'
      obtain rfl := Option.some.inj e'
      refine exN_tup h1 h2 (fun v hv => ?_) (by show 4 ≤ 1000; decide)
      rcases List.mem_cons.mp hv with rfl | hv
      · exact True.intro
      rcases List.mem_cons.mp hv with rfl | hv
      · exact True.intro
      rcases List.mem_cons.mp hv with rfl | hv
      · exact True.intro
      · rw [List.mem_singleton.mp hv]
        exact True.intro
theorem exN_bad {H : Hp} {t1 t2 : Addr} {i : Nat} (h1 : H t1 = some (.tup [.str "bad", natV i])) (h2 : H t2 = some (.tup [.str "bad", natV i])) : ExactN H 1 (.ref t1) (.ref t2) := by
  refine exN_tup h1 h2 (fun v hv => ?_) (by show 2 ≤ 1000; decide)
  rcases List.mem_cons.mp hv with rfl | hv
  · exact True.intro
  · rw [List.mem_singleton.mp hv]
    exact True.intro
theorem OptT.same {H H' : Hp} {v : V} {o : Option (Nat × Nat × Nat × Str)} (h : OptT H v o) (s : Same H H') : OptT H' v o := h.imp id fun ⟨z, t, e, e2, h⟩ => ⟨z, t, e, e2, s _ _ h⟩
theorem HistAt.ki {k : Nat} {H H' : Hp} {r g : Addr} {n : Nat} {us : List V} {ds : List Ent} {gs : List Nat} (h : HistAt k H r g n us ds gs) (x : KI H H') : HistAt k H' r g n us ds gs := by
  obtain ⟨h1, h2, h3, h4, h5, h6⟩ := h
  exact ⟨x _ _ h1 (nh_refs h2.refs), h2.ki x, h3.ki x, h4, x _ _ h5 nh_nats, h6⟩
theorem HistAt.same {k : Nat} {H H' : Hp} {r g : Addr} {n : Nat} {us : List V} {ds : List Ent} {gs : List Nat} (h : HistAt k H r g n us ds gs) (x : Same H H') : HistAt k H' r g n us ds gs := h.ki (KI.of x)
theorem OptT.none {H : Hp} {v : V} (h : OptT H v none) : v = .non := by
  rcases h with ⟨_, e⟩ | ⟨_, _, e, _⟩
  · exact e
  · cases e
theorem bad4 {n : Nat} {c : Int} (h0 : 0 ≤ c) (h1 : c < 4) : ∃ y t, atI [natV n, .non, .int (-1), .bl true] c = some y ∧ (∀ H, Ty0 H y t) ∧ wholeB (.int 0) (.int ((n : Int) - 1)) y = false := by
  rcases (by omega : c = 0 ∨ c = 1 ∨ c = 2 ∨ c = 3) with rfl | rfl | rfl | rfl
  · refine ⟨natV n, "int", rfl, fun H => .int _, ?_⟩
    show wholeB (.int 0) (.int ((n : Int) - 1)) (.int (n : Int)) = false
    show (decide ((0 : Int) ≤ (n : Int)) && decide ((n : Int) ≤ (n : Int) - 1)) = false
    rw [decide_eq_false (show ¬ ((n : Int) ≤ (n : Int) - 1) by omega), Bool.and_false]
  · exact ⟨.non, "NoneType", rfl, fun H => .non, rfl⟩
  · exact ⟨.int (-1), "int", rfl, fun H => .int _, rfl⟩
  · exact ⟨.bl true, "bool", rfl, fun H => .bl _, rfl⟩
theorem bad_list {gs : List Nat} {x : Nat} {y : V} (h : x < gs.length) : (((gs.map natV).take x ++ [y]) ++ (gs.map natV).drop (x + 1)).length = gs.length ∧ (((gs.map natV).take x ++ [y]) ++ (gs.map natV).drop (x + 1))[x]? = some y ∧ ∀ j, j < x → (((gs.map natV).take x ++ [y]) ++ (gs.map natV).drop (x + 1))[j]? = (gs.map natV)[j]? := by
  have tl : ((gs.map natV).take x).length = x := by rw [List.length_take, List.length_map]; omega
  refine ⟨?_, ?_, fun j hj => ?_⟩
  · rw [List.length_append, List.length_append, tl, List.length_drop, List.length_map, List.length_singleton]
    omega
  · rw [List.getElem?_append_left (by rw [List.length_append, tl, List.length_singleton]; omega), List.getElem?_append_right (by omega), tl, Nat.sub_self]
    rfl
  · rw [List.getElem?_append_left (by rw [List.length_append, tl, List.length_singleton]; omega), List.getElem?_append_left (by omega), List.getElem?_take_of_lt hj]
section
variable {P : Program} {w : World} {K : PySem.W.Frag} {mg : Str → Option Value} {base : Heap} {f fHa fT fBa fRo fE fKi fBu fHi fBr fWo fAs fCh C Ck : Addr} {fd fdHa fdT fdBa fdRo fdE fdKi fdBu fdHi fdBr fdWo fdAs fdCh : FuncData}
def spLaw (K : PySem.W.Frag) : Sp := fun vs H Q _ => ∃ (a : Addr) (ns : List Int), vs = [.ref a] ∧ SqL K H a (ns.map V.int) ∧ ns.length ≤ 63 ∧ ∀ H', Q (.bl true) H'
theorem sc_law : FnScope ["_law_script", "_law_hand_here", "_law_kinds_here", "_law_made", "_law_turn", "_law_rows", "_law_given", "_law_due", "_law_world_here", "_law_handed", "_law_at", "_law_wrong", "_law_free", "_law_c", "_law_loose", "_law_row_here"] ["_law_script"] (defScope (top 55)) := ⟨rfl, rfl, rfl, by decide +kernel, rfl, by decide +kernel, by decide +kernel⟩
theorem ok_law (F : FnP K "law" 55 f fd) (B : Fr mg)
    (FHa : FnP K "_law_hand" 36 fHa fdHa) (mHa : mg "_law_hand" = some (.ref fHa)) (GHa : FnOk P w K mg base CX0 1 fHa fdHa ["_law_script"] (spHand K))
    (FT : FnP K "_law_take" 38 fT fdT) (mT : mg "_law_take" = some (.ref fT)) (GT : FnOk P w K mg base CX0 2 fT fdT ["_law_hand_here", "_law_many"] spTake)
    (FBa : FnP K "_law_bases" 39 fBa fdBa) (mBa : mg "_law_bases" = some (.ref fBa)) (GBa : FnOk P w K mg base CX0 3 fBa fdBa ["_law_hand_here", "_law_c"] spBases)
    (FRo : FnP K "_law_row" 41 fRo fdRo) (mRo : mg "_law_row" = some (.ref fRo)) (GRo : FnOk P w K mg base CX0 3 fRo fdRo ["_law_hand_here", "_law_items"] spRow)
    (FE : FnP K "_law_exact" 42 fE fdE) (mE : mg "_law_exact" = some (.ref fE)) (GE : FnOk P w K mg base CX0 3 fE fdE ["_law_told", "_law_due"] (spExactN 1))
    (FKi : FnP K "_law_kinds" 44 fKi fdKi) (mKi : mg "_law_kinds" = some (.ref fKi)) (GKi : FnOk P w K mg base CX0 3 fKi fdKi ["_law_hand_here"] spLKinds)
    (FBu : FnP K "_law_built" 46 fBu fdBu) (mBu : mg "_law_built" = some (.ref fBu)) (GBu : FnOk P w K mg base CX0 6 fBu fdBu ["_law_hand_here", "_law_kinds_here"] (spBuilt Ck))
    (FHi : FnP K "_law_history" 51 fHi fdHi) (mHi : mg "_law_history" = some (.ref fHi)) (GHi : FnOk P w K mg base CX0 5 fHi fdHi ["_law_hand_here", "_law_kinds_here", "_law_many", "_law_most"] spHist)
    (FBr : FnP K "_law_breach" 49 fBr fdBr) (mBr : mg "_law_breach" = some (.ref fBr)) (GBr : FnOk P w K mg base CX0 4 fBr fdBr ["_law_rows", "_law_kinds_here", "_law_given"] spLBreach)
    (FWo : FnP K "_law_world" 52 fWo fdWo) (mWo : mg "_law_world" = some (.ref fWo)) (GWo : FnOk P w K mg base CX0 6 fWo fdWo ["_law_rows"] (spLWorld C))
    (FAs : FnP K "_law_asked" 53 fAs fdAs) (mAs : mg "_law_asked" = some (.ref fAs)) (GAs : FnOk P w K mg base CX0 8 fAs fdAs ["_law_world_here", "_law_made", "_law_given"] (spAsked C Ck))
    (FCh : FnP K "_law_changed" 54 fCh fdCh) (mCh : mg "_law_changed" = some (.ref fCh)) (GCh : FnOk P w K mg base CX0 3 fCh fdCh ["_law_hand_here", "_law_rows", "_law_kinds_here", "_law_given"] spChg) :
    FnOk P w K mg base CX0 12 f fd ["_law_script"] (spLaw K) := by
  have bHa : L2.Binds K fdHa ["_law_script"] [] := FHa.bindsN fun _ _ _ _ _ _ us hl => match us, hl with | [_], _ => rfl
  have bT : L2.Binds K fdT ["_law_hand_here", "_law_many"] [] := FT.bindsN fun _ _ _ _ _ _ us hl => match us, hl with | [_, _], _ => rfl
  have bBa : L2.Binds K fdBa ["_law_hand_here", "_law_c"] [] := FBa.bindsN fun _ _ _ _ _ _ us hl => match us, hl with | [_, _], _ => rfl
  have bRo : L2.Binds K fdRo ["_law_hand_here", "_law_items"] [] := FRo.bindsN fun _ _ _ _ _ _ us hl => match us, hl with | [_, _], _ => rfl
  have bE : L2.Binds K fdE ["_law_told", "_law_due"] [] := FE.bindsN fun _ _ _ _ _ _ us hl => match us, hl with | [_, _], _ => rfl
  have bKi : L2.Binds K fdKi ["_law_hand_here"] [] := FKi.bindsN fun _ _ _ _ _ _ us hl => match us, hl with | [_], _ => rfl
  have bBu : L2.Binds K fdBu ["_law_hand_here", "_law_kinds_here"] [] := FBu.bindsN fun _ _ _ _ _ _ us hl => match us, hl with | [_, _], _ => rfl
  have bHi : L2.Binds K fdHi ["_law_hand_here", "_law_kinds_here", "_law_many", "_law_most"] [] := FHi.bindsN fun _ _ _ _ _ _ us hl => match us, hl with | [_, _, _, _], _ => rfl
  have bBr : L2.Binds K fdBr ["_law_rows", "_law_kinds_here", "_law_given"] [] := FBr.bindsN fun _ _ _ _ _ _ us hl => match us, hl with | [_, _, _], _ => rfl
  have bWo : L2.Binds K fdWo ["_law_rows"] [] := FWo.bindsN fun _ _ _ _ _ _ us hl => match us, hl with | [_], _ => rfl
  have bAs : L2.Binds K fdAs ["_law_world_here", "_law_made", "_law_given"] [] := FAs.bindsN fun _ _ _ _ _ _ us hl => match us, hl with | [_, _, _], _ => rfl
  have bCh : L2.Binds K fdCh ["_law_hand_here", "_law_rows", "_law_kinds_here", "_law_given"] [] := FCh.bindsN fun _ _ _ _ _ _ us hl => match us, hl with | [_, _, _, _], _ => rfl
  refine F.ok sc_law (fun vs H Q E h => ?_) (fun cdv A outer s H vs Q E hr h => ?_)
  · obtain ⟨a, ns, rfl, _⟩ := h
    rfl
  · obtain ⟨a, ns, rfl, hA, hns, k⟩ := h
    refine ⟨_, PSs.nox (pss_cons (ps_set (i := 1) sc_law.nd rfl (Or.inr rfl) (pe_call GHa (hr.mono (by decide)) (by rfl) mHa FHa.kp bHa .nil pass0 (pa_cons (pv 0) pa_nil)))
      (pss_cons (ps_set (i := 2) sc_law.nd rfl (Or.inr rfl) (pe_call GKi (hr.mono (by decide)) (by rfl) mKi FKi.kp bKi .nil pass0 (pa_cons (pv 1) pa_nil)))
      (pss_cons (ps_set (i := 3) sc_law.nd rfl (Or.inl rfl) (pe_call GBu (hr.mono (by decide)) (by rfl) mBu FBu.kp bBu .nil pass0 (pa_cons (pv 1) (pa_cons (pv 2) pa_nil))))
      (pss_cons (ps_for PassesOwn.never rfl (pi_range1 (by rfl) B.range (pa_cons pe_int pa_nil)) (pg_name (i := 4) sc_law.nd rfl (Or.inl rfl))
        (pss_cons (ps_asg (pe_call GHi (hr.mono (by decide)) (by rfl) mHi FHi.kp bHi .nil pass0 (pa_cons (pv 1) (pa_cons (pv 2) (pa_cons (pe_op op_add pe_int (pe_call GT (hr.mono (by decide)) (by rfl) mT FT.kp bT .nil pass0 (pa_cons (pv 1) (pa_cons pe_int pa_nil)))) (pa_cons pe_int pa_nil))))) (pg_tup (by rfl) (pgs_cons (pg_name (i := 5) sc_law.nd rfl (Or.inl rfl)) (pgs_cons (pg_name (i := 6) sc_law.nd rfl (Or.inl rfl)) pgs_nil))))
        (pss_cons (ps_set (i := 7) sc_law.nd rfl (Or.inl rfl) (pe_call GBr (hr.mono (by decide)) (by rfl) mBr FBr.kp bBr .nil pass0 (pa_cons (pv 5) (pa_cons (pv 2) (pa_cons (pv 6) pa_nil)))))
        (pss_cons (ps_if (PW.pt (pw_or (pt_cmpR op_notN (pv 7) pe_non (nomark _)) (pw_or1 (pt_cmpR op_notN (pe_call GAs (hr.mono (by decide)) (by rfl) mAs FAs.kp bAs .nil pass0 (pa_cons (pe_call GWo (hr.mono (by decide)) (by rfl) mWo FWo.kp bWo .nil pass0 (pa_cons (pv 5) pa_nil)) (pa_cons (pv 3) (pa_cons (pe_call GRo (hr.mono (by decide)) (by rfl) mRo FRo.kp bRo .nil pass0 (pa_cons (pv 1) (pa_cons (pv 6) pa_nil))) pa_nil)))) pe_non (nomark _))))) (pss_one (ps_ret pe_bl)) pss_nil)
        (pss_cons (ps_asg (pe_call GCh (hr.mono (by decide)) (by rfl) mCh FCh.kp bCh .nil pass0 (pa_cons (pv 1) (pa_cons (pv 5) (pa_cons (pv 2) (pa_cons (pv 6) pa_nil))))) (pg_tup (by rfl) (pgs_cons (pg_name (i := 5) sc_law.nd rfl (Or.inl rfl)) (pgs_cons (pg_name (i := 6) sc_law.nd rfl (Or.inl rfl)) pgs_nil))))
        (pss_cons (ps_set (i := 8) sc_law.nd rfl (Or.inl rfl) (pe_call GWo (hr.mono (by decide)) (by rfl) mWo FWo.kp bWo .nil pass0 (pa_cons (pv 5) pa_nil)))
        (pss_cons (ps_set (i := 9) sc_law.nd rfl (Or.inl rfl) (pe_callTy (T := "list") (r := rListOf K) (call_lst (X := _)) (by rfl) B.list (by decide +kernel) (pa_cons (pv 6) pa_nil)))
        (pss_cons (ps_set (i := 7) sc_law.nd rfl (Or.inl rfl) (pe_call GBr (hr.mono (by decide)) (by rfl) mBr FBr.kp bBr .nil pass0 (pa_cons (pv 5) (pa_cons (pv 2) (pa_cons (pv 6) pa_nil)))))
        (pss_cons (ps_if (PW.pt (pw_or (pt_not (pt_val (pe_call GE (hr.mono (by decide)) (by rfl) mE FE.kp bE .nil pass0 (pa_cons (pe_call GAs (hr.mono (by decide)) (by rfl) mAs FAs.kp bAs .nil pass0 (pa_cons (pv 8) (pa_cons (pv 3) (pa_cons (pv 9) pa_nil)))) (pa_cons (pv 7) pa_nil))))) (pw_or1 (pt_cmpR (r := rNeD K) (op_neD hr.units) (pv 9) (pv 6) (nomark _))))) (pss_one (ps_ret pe_bl)) pss_nil)
        (pss_cons (ps_if (pt_not (pt_val (pe_call GE (hr.mono (by decide)) (by rfl) mE FE.kp bE .nil pass0 (pa_cons (pe_call GAs (hr.mono (by decide)) (by rfl) mAs FAs.kp bAs .nil pass0 (pa_cons (pv 8) (pa_cons (pv 3) (pa_cons (pe_callTy (T := "tuple") (r := rTupOf K) (call_tup (X := _)) (by rfl) B.tuple (by decide +kernel) (pa_cons (pv 6) pa_nil)) pa_nil)))) (pa_cons (pv 7) pa_nil))))) (pss_one (ps_ret pe_bl)) pss_nil)
        (pss_cons (ps_set (i := 10) sc_law.nd rfl (Or.inl rfl) (pe_call GT (hr.mono (by decide)) (by rfl) mT FT.kp bT .nil pass0 (pa_cons (pv 1) (pa_cons (pe_callB call_len_seq (by rfl) B.len PySem.boot_len (pa_cons (pv 6) pa_nil)) pa_nil))))
        (pss_cons (ps_set (i := 11) sc_law.nd rfl (Or.inl rfl) (pe_op op_cat (pe_op op_cat (pe_slice sl_list (pv 6) po_none (po_some (pv 10))) (pe_lst (pa_cons (pe_ix (r := rIxT K) ix_tup (pe_tup (pa_cons (pe_ix (r := rIxL K) ix_list (pv 2) pe_int (fun _ _ => rfl)) (pa_cons pe_non (pa_cons (pe_un un_neg pe_int) (pa_cons pe_bl pa_nil))))) (pe_call GT (hr.mono (by decide)) (by rfl) mT FT.kp bT .nil pass0 (pa_cons (pv 1) (pa_cons pe_int pa_nil))) (fun _ _ => rfl)) pa_nil))) (pe_slice sl_list (pv 6) (po_some (pe_op op_add (pv 10) pe_int)) po_none)))
        (pss_cons (ps_if (pt_not (pt_val (pe_call GE (hr.mono (by decide)) (by rfl) mE FE.kp bE .nil pass0 (pa_cons (pe_call GAs (hr.mono (by decide)) (by rfl) mAs FAs.kp bAs .nil pass0 (pa_cons (pv 8) (pa_cons (pv 3) (pa_cons (pv 11) pa_nil)))) (pa_cons (pe_tup (pa_cons pe_str (pa_cons (pv 10) pa_nil))) pa_nil))))) (pss_one (ps_ret pe_bl)) pss_nil)
        (pss_one (ps_if (pt_not (pt_val (pe_call GE (hr.mono (by decide)) (by rfl) mE FE.kp bE .nil pass0 (pa_cons (pe_call GAs (hr.mono (by decide)) (by rfl) mAs FAs.kp bAs .nil pass0 (pa_cons (pv 8) (pa_cons (pv 3) (pa_cons (pe_op op_cat (pv 6) (pv 6)) pa_nil)))) (pa_cons (pe_tup (pa_cons pe_str (pa_cons pe_int pa_nil))) pa_nil))))) (pss_one (ps_ret pe_bl)) pss_nil)))))))))))))))
      (pss_cons (ps_setLc (i := 12) (own := [("_law_c", 13)]) (g := gName 13) (tt := tYes) (te := tTup (tCons (tCall spBases [] E0 (tCons (tVar 1) (tCons (tVar 13) tNil))) (tCons (tCall spTake [] E0 (tCons (tVar 1) (tCons (tC (.int 3)) tNil))) (tCons (tLst tNil) tNil)))) rfl sc_law.nd rfl rfl (sw_true rfl rfl rfl (by decide +kernel)) (pi_range1 (by rfl) B.range (pa_cons (pe_op op_add pe_int (pe_call GT (hr.mono (by decide)) (by rfl) mT FT.kp bT .nil pass0 (pa_cons (pv 1) (pa_cons pe_int pa_nil)))) pa_nil)) (blkOk_by (N := ["_law_script", "_law_hand_here", "_law_kinds_here", "_law_made", "_law_turn", "_law_rows", "_law_given", "_law_due", "_law_world_here", "_law_handed", "_law_at", "_law_wrong", "_law_free", "_law_c", "_law_loose", "_law_row_here"]) (sc := defScope (top 55)) (by decide +kernel)) (fun _ _ _ _ _ => pg_name (i := 13) sc_law.nd rfl (Or.inl rfl)) (fun _ _ _ _ _ => pts_nil) (fun _ _ _ _ _ => ?te1))
      (pss_cons (ps_setLc (i := 14) (own := [("_law_row_here", 15)]) (g := gName 15) (tt := tYes) (te := tCall spTake [] E0 (tCons (tVar 1) (tCons (tOp (rIxL K) (tVar 2) (tC (.int 0))) tNil))) rfl sc_law.nd rfl rfl (sw_true rfl rfl rfl (by decide +kernel)) (pi_list (pv 12)) (blkOk_by (N := ["_law_script", "_law_hand_here", "_law_kinds_here", "_law_made", "_law_turn", "_law_rows", "_law_given", "_law_due", "_law_world_here", "_law_handed", "_law_at", "_law_wrong", "_law_free", "_law_c", "_law_loose", "_law_row_here"]) (sc := defScope (top 55)) (by decide +kernel)) (fun _ _ _ _ _ => pg_name (i := 15) sc_law.nd rfl (Or.inl rfl)) (fun _ _ _ _ _ => pts_nil) (fun _ _ _ _ _ => ?te2))
      (pss_one (ps_ret (pe_call GE (hr.mono (by decide)) (by rfl) mE FE.kp bE .nil pass0 (pa_cons (pe_call GAs (hr.mono (by decide)) (by rfl) mAs FAs.kp bAs .nil pass0 (pa_cons (pe_call GWo (hr.mono (by decide)) (by rfl) mWo FWo.kp bWo .nil pass0 (pa_cons (pv 12) pa_nil)) (pa_cons (pv 3) (pa_cons (pv 14) pa_nil)))) (pa_cons (pe_call GBr (hr.mono (by decide)) (by rfl) mBr FBr.kp bBr .nil pass0 (pa_cons (pv 12) (pa_cons (pv 2) (pa_cons (pv 14) pa_nil)))) pa_nil))))))))))), ?_⟩
    case te1 => exact pe_tup (pa_cons (pe_call GBa (hr.mono (by decide)) (by rfl) mBa FBa.kp bBa .nil pass0 (pa_cons (pv 1) (pa_cons (pv 13) pa_nil))) (pa_cons (pe_call GT (hr.mono (by decide)) (by rfl) mT FT.kp bT .nil pass0 (pa_cons (pv 1) (pa_cons pe_int pa_nil))) (pa_cons (pe_lst pa_nil) pa_nil)))
    case te2 => exact pe_call GT (hr.mono (by decide)) (by rfl) mT FT.kp bT .nil pass0 (pa_cons (pv 1) (pa_cons (pe_ix (r := rIxL K) ix_list (pv 2) pe_int (fun _ _ => rfl)) pa_nil))
    -- the hand, the kinds
    refine ⟨_, rfl, a, ns, rfl, hA, hns, fun p q H1 s1 hp hq hh => ?_⟩
    refine ⟨_, rfl, p, q, rfl, hh, fun l H2 n js lone O2 h2 hk kok => ?_⟩
    refine ⟨_, rfl, _, rfl, p, q, l, n, js, lone, rfl, h2, hk, kok, fun kp H3 O3 h3 hK => ?_⟩
    have k23 := KI.oth O3 h2
    have hk3 := hk.ki k23
    -- three turns
    refine ⟨3, rfl, by decide, by decide, ?_⟩
    refine for_range (n := 3) (fun i σ H' => ∃ (x4 x5 x6 x7 x8 x9 x10 x11 : Option V), σ = [some (.ref a), some (.ref p), some (.ref l), some (.ref kp), x4, x5, x6, x7, x8, x9, x10, x11, none, none, none, none] ∧ HandAt H' p q ∧ KI H3 H') ⟨_, _, _, _, _, _, _, _, rfl, h3, fun b o e _ => e⟩ ?_ ?_
    · rintro i σ H4 hi ⟨x4, x5, x6, x7, x8, x9, x10, x11, rfl, h4, k34⟩
      refine ⟨_, rfl, _, rfl, _, rfl, p, q, 8, rfl, by decide, by decide, h4, fun c H5 c0 c1 h5 e5 => ?_⟩
      obtain ⟨cn, rfl⟩ : ∃ cn : Nat, c = (cn : Int) := ⟨c.toNat, by omega⟩
      have e1 : V.int (1 + (cn : Int)) = natV (1 + cn) := by show V.int _ = V.int _; congr 1
      have k35 := k34.trans (KI.oth (Oth.take e5) h4)
      refine ⟨_, _, rfl, rfl, p, q, l, n, 1 + cn, 12, js, lone, by show [V.ref p, V.ref l, V.int (1 + (cn : Int)), V.int 12] = _; rw [e1]; rfl, h5, hk3.ki k35, kok, by omega, by decide, fun t r g H6 us ds gs O6 h6 ht hrn hgn hist dl hb => ?_⟩
      have k36 := k35.trans (KI.oth O6 h5)
      have gp : g ≠ p := (h5.ne hgn).1
      have lo : 1 ≤ ds.length := by omega
      have hi8 : ds.length ≤ 8 := by omega
      refine ⟨t, _, rfl, SqT.of ht, rfl, _, _, rfl, _, _, rfl, rfl, ?_⟩
      -- due: none
      obtain ⟨z1, z2, z3, ok, z5, gl, gn, d3⟩ := id hist
      refine ⟨_, rfl, _, rfl, _, rfl, r, l, g, p, r, us, ds, n, js, lone, gs, rfl, z1, z2, ok, by omega, hk3.ki k36, z5, gl, fun v H7 s7 hv => ?_⟩
      rw [hb] at hv
      obtain rfl := hv.none
      refine ⟨_, rfl, rfl, _, rfl, iteF' rfl ?_⟩
      -- the world keeps
      refine ⟨_, rfl, r, r, us, ds, rfl, s7 _ _ z1, z2.ki (KI.of s7), ok, lo, by omega, fun wp H8 s8 hW => ?_⟩
      have s68 := s7.trans s8
      have h8 := h6.same s68
      refine ⟨_, rfl, _, rfl, _, rfl, p, q, g, _, rfl, h8, gp, .inl (s68 _ _ z5), fun u H9 O9 h9 hu => ?_⟩
      have k69 := (KI.of s68).trans (KI.oth O9 h8)
      have k39 := k36.trans k69
      have hu9 : SeqAt H9 u (gs.map natV) := hu.imp (fun z => z.2) id
      refine ⟨wp, kp, .ref u, ds, n, js, lone, rfl, hW.ki (KI.oth O9 h8), ok, by omega, hK.ki k39, .inl ⟨gs, ⟨u, rfl, hu9, gl, gn⟩, fun v H10 s10 hv => ?_⟩⟩
      rw [hb] at hv
      obtain rfl := hv.none
      refine ⟨rfl, _, rfl, iteF' rfl ?_⟩
      have k610 := k69.trans (KI.of s10)
      have k310 := k36.trans k610
      have h10 := h9.same s10
      clear k69 k39 hu9 hu
      -- changed
      refine ⟨_, rfl, _, rfl, _, rfl, _, rfl, p, q, r, l, g, n, js, lone, us, ds, gs, rfl, h10, hk3.ki k310, kok, hist.ki k610, lo, by omega, fun t2 r2 g2 H11 us2 ds2 gs2 O11 h11 ht2 hr2 hg2 hist2 dl2 => ?_⟩
      have k311 := k310.trans (KI.oth O11 h10)
      have g2p : g2 ≠ p := (h10.ne hg2).1
      clear hist z1 z2 z3 ok z5 gl gn d3 gp
      refine ⟨t2, _, rfl, SqT.of ht2, rfl, _, _, rfl, _, _, rfl, rfl, ?_⟩
      obtain ⟨z1, z2, z3, ok, z5, gl, gn, d5⟩ := id hist2
      refine ⟨_, rfl, r2, r2, us2, ds2, rfl, z1, z2, ok, by omega, by omega, fun wp2 H12 s12 hW2 => ?_⟩
      refine ⟨_, rfl, g2, _, rfl, .inl (SqL.of (s12 _ _ z5)), fun hd hhd => ?_⟩
      have s13 := same_new (o := .lst (gs2.map natV)) hhd
      have hd13 := upd_same (H := H12) (a := hd) (o := .lst (gs2.map natV))
      generalize upd H12 hd (.lst (gs2.map natV)) = H13 at s13 hd13 ⊢
      have s1113 := s12.trans s13
      -- due
      refine ⟨_, rfl, _, rfl, _, rfl, r2, l, g2, p, r2, us2, ds2, n, js, lone, gs2, rfl, s1113 _ _ z1, z2.ki (KI.of s1113), ok, by omega, (hk3.ki k311).same s1113, s1113 _ _ z5, gl, fun dv H14 s14 hdv => ?_⟩
      have s1114 := s1113.trans s14
      have hW14 := (hW2.mono s13).mono s14
      have hK14 := (hK.ki k311).mono s1114
      have hd14 := s14 _ _ hd13
      have g14 := s1114 _ _ z5
      -- handed
      refine ⟨_, rfl, _, rfl, _, rfl, wp2, kp, .ref hd, ds2, n, js, lone, rfl, hW14, ok, by omega, hK14, .inl ⟨gs2, ⟨hd, rfl, .inl hd14, gl, gn⟩, fun v H15 s15 hv => ?_⟩⟩
      refine ⟨_, rfl, v, dv, rfl, exN_opt hv (hdv.same s15), fun H16 s16 => ⟨_, rfl, iteF' rfl ?_⟩⟩
      have s1416 := s15.trans s16
      have ly : LayD 1 (.list (gs2.map dN)) := LayD.lst (n := 0) fun d hd => by obtain ⟨x, _, rfl⟩ := List.mem_map.mp hd; exact .int _
      refine ⟨_, rfl, _, rfl, .list (gs2.map dN), .list (gs2.map dN), .lst (SqL.of (s1416 _ _ hd14)) (dp_nats _), .lst (SqL.of (s1416 _ _ g14)) (dp_nats _), ly.shaped (by decide), ly.shaped (by decide), ?_⟩
      rw [ly.refl]
      refine ⟨_, rfl, iteF' rfl ?_⟩
      -- a tuple of kinds
      refine ⟨_, rfl, _, rfl, _, rfl, g2, gs2.map natV, rfl, .inl ⟨SqL.of (s1416 _ _ g14), fun tp htp => ?_⟩⟩
      have s17 := same_new (o := .tup (gs2.map natV)) htp
      have tp17 := upd_same (H := H16) (a := tp) (o := .tup (gs2.map natV))
      generalize upd H16 tp (.tup (gs2.map natV)) = H17 at s17 tp17 ⊢
      have s1417 := s1416.trans s17
      refine ⟨wp2, kp, .ref tp, ds2, n, js, lone, rfl, hW14.mono s1417, ok, by omega, hK14.mono s1417, .inl ⟨gs2, ⟨tp, rfl, .inr tp17, gl, gn⟩, fun v H18 s18 hv => ?_⟩⟩
      have s1418 := s1417.trans s18
      refine ⟨_, rfl, v, dv, rfl, exN_opt hv (hdv.same s1418), fun H19 s19 => ⟨_, rfl, iteF' rfl ?_⟩⟩
      have s1419 := s1418.trans s19
      have h19 := h11.same (s1114.trans s1419)
      have g19 := s1419 _ _ g14
      have hW19 := hW14.mono s1419
      have k319 := k311.trans (KI.of (s1114.trans s1419))
      -- a place
      refine ⟨_, rfl, _, rfl, g2, _, rfl, .inl (SqL.of g19), p, q, ((gs2.map natV).length : Int), rfl, by rw [List.length_map]; omega, by rw [List.length_map]; omega, h19, fun x0 H20 a0 a1 h20 e20 => ?_⟩
      rw [List.length_map] at a1
      obtain ⟨x, rfl⟩ : ∃ x : Nat, x0 = (x : Int) := ⟨x0.toNat, by omega⟩
      have xl : x < gs2.length := by omega
      have k1920 := KI.oth (Oth.take e20) h19
      have g20 := Oth.take e20 _ _ g2p g19
      have hW20 := hW19.ki k1920
      have k320 := k319.trans k1920
      have hk20 := hk3.ki k320
      obtain ⟨_, _, _, l20, _⟩ := id hk20
      refine ⟨_, rfl, _, rfl, (x : Int), rfl, g2, _, rfl, SqL.of g20, fun S1 hS1 => ?_⟩
      have sS1 := same_new (o := .lst (cutV (gs2.map natV) none (some (x : Int)))) hS1
      refine ⟨_, rfl, l, _, ((0 : Nat) : Int), _, rfl, rfl, SqL.of (sS1 _ _ l20), rfl, ?_⟩
      refine ⟨_, rfl, (by show 4 ≤ sizeLine; decide), fun T4 hT4 => ?_⟩
      have sT4 := same_new (o := .tup [natV n, .non, .int (-1), .bl true]) hT4
      have T21 := upd_same (H := upd H20 S1 (.lst (cutV (gs2.map natV) none (some (x : Int))))) (a := T4) (o := .tup [natV n, .non, .int (-1), .bl true])
      have S21 := sT4 _ _ (upd_same (H := H20) (a := S1) (o := .lst (cutV (gs2.map natV) none (some (x : Int)))))
      have s2021 := sS1.trans sT4
      have h21 := h20.same s2021
      refine ⟨_, rfl, p, q, 4, rfl, by decide, by decide, h21, fun c2 H22 b0 b1 h22 e22 => ?_⟩
      have O22 := Oth.take e22
      have T22 := O22 _ _ (h21.ne_of T21 nh_tup) T21
      have S22 := O22 _ _ (h20.ne hS1).1 S21
      have g22 := O22 _ _ g2p (s2021 _ _ g20)
      have k2022 := (KI.of s2021).trans (KI.oth O22 h21)
      have hW22 := hW20.ki k2022
      have k322 := k320.trans k2022
      clear T21 S21 sS1 sT4 hS1 hT4 s2021 e22 l20
      obtain ⟨y, ty, hy, hty, hbad⟩ := bad4 (n := n) b0 b1
      refine ⟨T4, _, c2, y, rfl, rfl, SqT.of T22, hy, (by show 1 ≤ sizeLine; decide), fun L hL => ?_⟩
      have sL := same_new (o := .lst [y]) hL
      have c1e : cutV (gs2.map natV) none (some (x : Int)) = (gs2.map natV).take x := (cut_headT (gs2.map natV) x (by rw [List.length_map]; exact xl)).2
      rw [c1e] at S22
      have gl12 : gs2.length ≤ 12 := by omega
      refine ⟨S1, L, (gs2.map natV).take x, [y], rfl, rfl, sL _ _ S22, upd_same, (by rw [List.length_take, List.length_map]; show _ + 1 ≤ 2 ^ 24; omega), fun C1 hC1 => ?_⟩
      have s23 := sL.trans (same_new (o := .lst ((gs2.map natV).take x ++ [y])) hC1)
      have C23 := upd_same (H := upd H22 L (.lst [y])) (a := C1) (o := .lst ((gs2.map natV).take x ++ [y]))
      generalize upd (upd H22 L (.lst [y])) C1 (.lst ((gs2.map natV).take x ++ [y])) = H23 at s23 C23 ⊢
      clear hL hC1 sL
      refine ⟨_, rfl, _, rfl, _, _, rfl, rfl, (x : Int) + 1, rfl, g2, _, rfl, SqL.of (s23 _ _ g22), fun S2 hS2 => ?_⟩
      have c2e : cutV (gs2.map natV) (some ((x : Int) + 1)) none = (gs2.map natV).drop (x + 1) := (cut_tail (gs2.map natV) x (by rw [List.length_map]; exact xl)).2
      rw [c2e]
      have sS2 := same_new (o := .lst ((gs2.map natV).drop (x + 1))) hS2
      refine ⟨C1, S2, (gs2.map natV).take x ++ [y], (gs2.map natV).drop (x + 1), rfl, rfl, sS2 _ _ C23, upd_same, (by rw [List.length_append, List.length_take, List.length_drop, List.length_map, List.length_singleton]; show _ ≤ 2 ^ 24; omega), fun Wr hWr => ?_⟩
      have s2224 := (s23.trans sS2).trans (same_new (o := .lst (((gs2.map natV).take x ++ [y]) ++ (gs2.map natV).drop (x + 1))) hWr)
      have W24 := upd_same (H := upd H23 S2 (.lst ((gs2.map natV).drop (x + 1)))) (a := Wr) (o := .lst (((gs2.map natV).take x ++ [y]) ++ (gs2.map natV).drop (x + 1)))
      generalize upd (upd H23 S2 (.lst ((gs2.map natV).drop (x + 1)))) Wr (.lst (((gs2.map natV).take x ++ [y]) ++ (gs2.map natV).drop (x + 1))) = H24 at s2224 W24 ⊢
      clear hS2 hWr sS2 s23 C23
      obtain ⟨bl, by1, bp⟩ := bad_list (y := y) xl
      have hW24 := hW22.mono s2224
      have hK24 := (hK.ki k322).mono s2224
      -- a wrong kind
      refine ⟨_, rfl, _, rfl, _, rfl, wp2, kp, .ref Wr, ds2, n, js, lone, rfl, hW24, ok, by omega, hK24, .inr ⟨x, GivenIs.bad rfl (.inl W24) (by rw [bl]; exact gl) (fun j z hj hz => ?_) by1 (hty _) hbad, fun t3 H25 s25 ht3 => ?_⟩⟩
      · rw [bp j hj, List.getElem?_map] at hz
        obtain ⟨kk, e, rfl⟩ := Option.map_eq_some_iff.mp hz
        exact ⟨kk, rfl, gn kk (List.mem_of_getElem? e)⟩
      refine ⟨_, rfl, (by show 2 ≤ sizeLine; decide), fun t4 ht4 => ?_⟩
      have s26 := same_new (o := .tup [.str "bad", natV x]) ht4
      refine ⟨_, _, rfl, exN_bad (s26 _ _ ht3) upd_same, fun H27 s27 => ⟨_, rfl, iteF' rfl ?_⟩⟩
      have s2427 := (s25.trans s26).trans s27
      have g27 := (s2224.trans s2427) _ _ g22
      clear s26 ht3 ht4 s25 s27
      -- too many
      refine ⟨_, rfl, _, rfl, _, rfl, _, rfl, g2, g2, gs2.map natV, gs2.map natV, rfl, rfl, g27, g27, (by rw [List.length_map]; show _ ≤ 2 ^ 24; omega), fun Dd hDd => ?_⟩
      have s28 := same_new (o := .lst (gs2.map natV ++ gs2.map natV)) hDd
      refine ⟨wp2, kp, .ref Dd, ds2, n, js, lone, rfl, (hW24.mono s2427).mono s28, ok, by omega, (hK24.mono s2427).mono s28, .inr ⟨0, GivenIs.len rfl (.inl upd_same) (by rw [List.length_append, List.length_map]; omega) (by rw [List.length_append, List.length_map]; omega), fun t5 H29 s29 ht5 => ?_⟩⟩
      refine ⟨(by show 2 ≤ sizeLine; decide), fun t6 ht6 => ?_⟩
      have s30 := same_new (o := .tup [.str "bad", .int 0]) ht6
      refine ⟨_, _, rfl, exN_bad (i := 0) (s30 _ _ ht5) upd_same, fun H31 s31 => ⟨_, rfl, iteF' rfl ?_⟩⟩
      have s2431 := ((s2427.trans s28).trans (s29.trans s30)).trans s31
      exact ⟨_, _, _, _, _, _, _, _, rfl, h22.same (s2224.trans s2431), k322.trans (KI.of (s2224.trans s2431))⟩
    · rintro σ H4 ⟨x4, x5, x6, x7, x8, x9, x10, x11, rfl, h4, k34⟩
      refine ⟨_, rfl, p, q, 5, rfl, by decide, by decide, h4, fun c H5 c0 c1 h5 e5 => ⟨_, _, rfl, rfl, _, rfl, by omega, by omega, fun D hD => ?_⟩⟩
      have k35 := k34.trans (KI.oth (Oth.take e5) h4)
      obtain ⟨Dp, Dq⟩ := h5.ne hD
      refine lc_range (n := (2 + c).toNat) (fun i H' => Oth p H5 H' ∧ HandAt H' p q ∧ ∃ vs ds, H' D = some (.lst vs) ∧ RwN D H' vs ds ∧ DsOk ds ∧ ds.length = i) ⟨Oth.of (same_new hD), h5.same (same_new hD), [], [], upd_same, .nil, (fun i d e => by simp at e), rfl⟩ ?_ ?_
      · rintro i H6 hi ⟨O6, h6, vs, ds, hD6, hR6, ok, dl⟩
        have ei : (0 : Int) + (i : Int) = (i : Int) := by omega
        rw [ei]
        refine ⟨rfl, _, rfl, _, rfl, p, q, i, rfl, by omega, h6, fun b H7 bs O7 h7 hb hb7 bnd blt b3 => ?_⟩
        refine ⟨_, rfl, p, q, 3, rfl, by decide, by decide, h7, fun c2 H8 b0 b1 h8 e8 => ?_⟩
        obtain ⟨f0, rfl⟩ : ∃ f0 : Nat, c2 = (f0 : Int) := ⟨c2.toNat, by omega⟩
        refine ⟨(by show 0 ≤ sizeLine; decide), fun M hM => ⟨(by show 3 ≤ sizeLine; decide), fun T hT => ?_⟩⟩
        have k67 := KI.oth O7 h6
        have k78 := KI.oth (Oth.take e8) h7
        have hD8 := Oth.take e8 _ _ Dp (O7 _ _ Dp hD6)
        have hR8 : RwN D H8 vs ds := (hR6.ki k67).ki k78
        have hb8 := k78 _ _ hb7 nh_nats
        have bD : b ≠ D := Ne.symm (ne_of_none hD6 hb)
        have sM := same_new (o := .lst []) hM
        have sT := same_new (o := .tup [.ref b, V.int (f0 : Int), .ref M]) hT
        have s89 := sM.trans sT
        have M9 := sT _ _ (upd_same (H := H8) (a := M) (o := .lst []))
        have T9 := upd_same (H := upd H8 M (.lst [])) (a := T) (o := .tup [.ref b, V.int (f0 : Int), .ref M])
        have MD : M ≠ D := Ne.symm (ne_of_none hD8 hM)
        have hD9 := s89 _ _ hD8
        have TD : T ≠ D := Ne.symm (ne_of_none (sM _ _ hD8) hT)
        have vl := hR6.len
        refine ⟨vs, hD9, (by show _ < 2 ^ 24; omega), (((O6.trans O7).trans (Oth.take e8)).trans (Oth.of s89)).updN hD, (h8.same s89).upd Dp Dq, vs ++ [.ref T], ds ++ [((bs, f0, []) : Ent)], upd_same, ?_, ok.app ⟨bnd, (fun u hu => by rw [dl]; exact blt u hu), by show bs.length ≤ 5; omega, by show f0 ≤ 3; omega, .nil, (fun m hm => by cases hm), Nat.zero_le _⟩, by rw [List.length_append, dl]; rfl⟩
        refine RwN.app ?_ (.cons ⟨T, b, M, rfl, TD, upB TD T9, bD, upB bD (s89 _ _ hb8), MD, upB MD M9⟩ .nil)
        exact (hR8.ki (KI.of s89)).keep fun c u nc e _ => upB nc e
      · rintro H6 ⟨O6, h6, vs, ds, hD6, hR6, ok, dl⟩
        have k56 := KI.oth O6 h5
        have k36 := k35.trans k56
        have vl := hR6.len
        have lo : 1 ≤ ds.length := by omega
        have hi : ds.length ≤ 12 := by omega
        refine ⟨_, rfl, D, rfl, ⟨vs, SqL.of hD6⟩, fun D2 hD2 => ?_⟩
        obtain ⟨D2p, D2q⟩ := h6.ne hD2
        refine lc_list (K := K) (a := D) (xs := vs) (fun i H' => Oth p H6 H' ∧ HandAt H' p q ∧ ∃ gs : List Nat, H' D2 = some (.lst (gs.map natV)) ∧ gs.length = i ∧ ∀ x ∈ gs, x < n) ⟨Oth.of (same_new hD2), h6.same (same_new hD2), [], upd_same, rfl, (fun x hx => by cases hx)⟩ (fun i H' _ z => SqL.of (z.1 _ _ Dp hD6)) ?_ ?_
        · rintro i y H7 hi ⟨O7, h7, gs, hD7, gl, gn⟩
          have il := (List.getElem?_eq_some_iff.mp hi).1
          have hk7 := hk3.ki (k36.trans (KI.oth O7 h6))
          obtain ⟨_, _, _, l7, _⟩ := id hk7
          refine ⟨rfl, _, rfl, _, rfl, l, _, ((0 : Nat) : Int), _, rfl, rfl, SqL.of l7, rfl, p, q, (n : Int), rfl, by have := kok.lo; omega, by have := kok.hi; omega, h7, fun v H8 v0 v1 h8 e8 => ?_⟩
          obtain ⟨x, rfl⟩ : ∃ x : Nat, v = (x : Int) := ⟨v.toNat, by omega⟩
          refine ⟨_, Oth.take e8 _ _ D2p hD7, (by rw [List.length_map]; show _ < 2 ^ 24; omega), (O7.trans (Oth.take e8)).updN hD2, h8.upd D2p D2q, gs ++ [x], by rw [upd_same, List.map_append]; rfl, by rw [List.length_append, gl]; rfl, fun z hz => ?_⟩
          rcases List.mem_append.mp hz with hz | hz
          · exact gn z hz
          · rw [List.mem_singleton.mp hz]
            omega
        · rintro H7 ⟨O7, h7, gs, hD7, gl, gn⟩
          have k67 := KI.oth O7 h6
          have k37 := k36.trans k67
          have hDl := k67 _ _ hD6 (nh_refs hR6.refs)
          have hR7 : RwN D H7 vs ds := hR6.ki k67
          refine ⟨_, rfl, D, D, vs, ds, rfl, hDl, hR7, ok, lo, hi, fun wp H8 s8 hW => ?_⟩
          refine ⟨_, rfl, _, rfl, wp, kp, .ref D2, ds, n, js, lone, rfl, hW, ok, hi, (hK.ki k37).mono s8, .inl ⟨gs, ⟨D2, rfl, .inl (s8 _ _ hD7), by omega, gn⟩, fun v H9 s9 hv => ?_⟩⟩
          have s79 := s8.trans s9
          refine ⟨_, rfl, _, rfl, _, rfl, D, l, D2, p, D, vs, ds, n, js, lone, gs, rfl, s79 _ _ hDl, hR7.ki (KI.of s79), ok, hi, (hk3.ki k37).same s79, s79 _ _ hD7, by omega, fun d H10 s10 hd => ?_⟩
          exact ⟨v, d, rfl, exN_opt (hv.same s10) hd, fun H11 _ => k H11⟩
end
end K12

set_option maxRecDepth 100000
set_option maxHeartbeats 4000000
namespace Kx
open PySem PySem.Spec PyProof.Rows L2

/-- a held exception's class, as far as reading its fields and asking its class goes -/
structure HeldC (K : PySem.W.Frag) (C : Addr) : Prop where
  fld : XfC K C
  icl : (PySem.W.clsIn K C).isSome = true
  cla : PySem.W.findIn K (.ref C) "__class__" = some (some (.builtin "object.__class__"))
  obj : PySem.W.mroIn K C (.type "object") = some true

/-- an exception stands at a, with the fields fs (none: it has no dict as yet) -/
def Held (H : Hp) (a C : Addr) (fs : List (Str × V)) : Prop :=
  (H a = some (exo a C none) ∧ fs = []) ∨ ∃ dx, H a = some (exo a C (some dx)) ∧ H dx = some (exd dx fs)

section
variable {X : Cx} {pins : List (Addr × Obj)} {σ : L2.St} {H : Hp} {s : Shared} {a C dx : Addr} {f : Str} {fs : List (Str × V)}

theorem held_at (I : Inv X pins σ H s) (h : Held H a C fs) : ∃ ox od, PySem.W.InstAt s.heap a ox C od := by
  rcases h with ⟨ha, _⟩ | ⟨dx, ha, hd⟩
  · obtain ⟨t, ho⟩ := exo_at I.hok ha
    exact ⟨_, none, ⟨ho, rfl, rfl, trivial⟩⟩
  · obtain ⟨t, ho⟩ := exo_at I.hok ha
    obtain ⟨mA, hn, _⟩ := exd_at I.hok hd
    obtain ⟨od, e, _⟩ := lookIn_ns hn
    exact ⟨_, some od, ⟨ho, rfl, rfl, e⟩⟩

/-- e.f of a held exception -/
def tHf (K : PySem.W.Frag) (f : Str) (te : TE) : TE := fun σ H Q => te σ H fun x H1 => ∃ (a C dx : Addr) (fs : List (Str × V)) (v : V),
  x = .ref a ∧ XfC K C ∧ PySem.W.findIn K (.ref C) f = some none ∧ H1 a = some (exo a C (some dx)) ∧ H1 dx = some (exd dx fs) ∧ fs.lookup f = some v ∧ Q v H1
theorem pe_hf {e : Expr} {te : TE} {pos : Pos} (he : PE X e te) (hb : attributeBase e f X.env (eval e X.env) = eval e X.env := by rfl) : PE X (.Attribute e f pos) (tHf X.K f te) := by
  refine ⟨fun pins s σ H Q I h => attr_of hb (thn (he.run pins s σ H _ I h) fun u s1 hh => ?_)⟩
  obtain ⟨x, H1, I1, rx, a, C, dx, fs, v, ex, T, hno, ha, hd, hl, q⟩ := hh
  subst ex
  obtain rfl : u = Value.ref a := rx
  obtain ⟨t, ho⟩ := exo_at I1.hok ha
  obtain ⟨mA, hn, rel⟩ := exd_at I1.hok hd
  obtain ⟨od, eo, look⟩ := lookIn_ns hn
  have rv : RelO (some v) (mA f) := hl ▸ rel f
  obtain ⟨z, ez, rz⟩ := RelO.some_of rv
  have J : PySem.W.InstAt s1.heap a _ C (some od) := ⟨ho, rfl, rfl, eo⟩
  have fo := PySem.W.findObj_own (od := od) (v := z) T.hdC hno rfl (by rw [look, ez])
  exact HandSPX.exc_get I1.kIn J T.ga T.gg T.exC fo (handed_of rz) ⟨v, H1, I1.tok _, rz, q⟩

/-- isinstance(e, D), e a held exception -/
def rHis (K : PySem.W.Frag) : List V → Hp → VK → Prop := fun xs H Q => ∃ (a C : Addr) (fs : List (Str × V)) (c : V) (t : Value) (b : Bool),
  xs = [.ref a, c] ∧ Held H a C fs ∧ HeldC K C ∧ PySem.W.specialIn K (.builtin "object.__class__") "__get__" = some (some (.builtin "getset_descriptor.__get__")) ∧ PySem.W.takesIn K (.builtin "object.__class__") = some true ∧ (∀ u, RelV c u → u = t) ∧ PySem.W.kitOne K (.ref C) t = some b ∧ Q (.bl b) H
theorem call_his : CallR X (.builtin "isinstance") (rHis X.K) := by
  intro pins s σ H xs us Q I r h
  obtain ⟨a, C, fs, c, t, b, ex, hh, T, sp, tk, ct, e, q⟩ := h
  subst ex
  obtain ⟨u1, u2, eu, r1, r2⟩ := vals2 r
  subst eu
  obtain rfl : u1 = Value.ref a := r1
  rw [ct u2 r2]
  obtain ⟨ox, od, J⟩ := held_at I hh
  exact PySem.W.kia_one (PySem.W.kitx_exc T.icl T.fld.ga T.fld.gg T.fld.exC T.cla sp tk T.obj) I.kIn J e (fun z => nomatch z) fun k => ⟨.bl b, H, I.tok k, rfl, q⟩
end

section
variable {X : Cx} {C fI : Addr} {k : Nat} {fd : FuncData} {ps : List Str} {sp : Sp} {x : Str} {e : Expr} {es : List Expr} {ta : TA} {p pos : Pos} {CX : CXT}
/-- the class at C called with values: a new exception, kept, its own __init__ run -/
theorem hold_call {pins : List (Addr × Obj)} {σ : L2.St} {H : Hp} {s : Shared} {Q : VK} {us : List Value} {vs : List V} (T : OexC X.K C) (iC : PySem.W.findIn X.K (.ref C) "__init__" = some (some (.ref fI))) (tI : PySem.W.typeIn X.K (.ref fI) = some (.type "function"))
    (F1 : FnOk X.prog X.w X.K X.mg X.base CX k fI fd ps sp) (hr : Room (k + 1) X.A) (hb : Binds X.K fd ps []) (hx : Passes CX X E0) (I : Inv X pins σ H s) (r : Vals vs us) (hz : vs.length ≤ 1000)
    (q : ∀ a, H a = none → sp (.ref a :: vs) (upd H a (exo a C none)) (fun v H2 => v = .non ∧ Q (.ref a) H2) E0) :
    wpAny (model X.prog X.w) X.A (call (.ref C) us) (EP X pins σ Q) X.xe s := by
  obtain ⟨nm, qn, N, bs, bm, sn, sub, ab, col, dd, k0, k1, k2, k3, k5, hC, hbm⟩ := T.cls
  obtain ⟨hp, g, dr, tk, os⟩ := s
  generalize ea : hp.objs.size + 1 = a
  have hsz : hp.objs.size ≤ a := by omega
  have hn : H a = none := I.hok.fresh hsz
  have hq := q a hn
  have kk : ∀ b o, hp.get? b = some o → ((hp.push (PySem.W.kdv_tup us)).push (PySem.HandSPX.excO C hp.objs.size)).get? b = some o :=
    fun b o z => Heap.get?_push_of_some _ (Heap.get?_push_of_some _ z)
  have hget : ((hp.push (PySem.W.kdv_tup us)).push (PySem.HandSPX.excO C hp.objs.size)).get? a = some (PySem.HandSPX.excO C hp.objs.size) := by
    rw [← ea]
    heap_get
  have I2 : Inv X pins σ (upd H a (exo a C none)) ⟨(hp.push (PySem.W.kdv_tup us)).push (PySem.HandSPX.excO C hp.objs.size), g, dr, tk, os⟩ :=
    I.laid (t' := tk) kk hsz (exo_ok hget)
  have r2 : Vals (V.ref a :: vs) (Value.ref a :: us) := .cons rfl r
  have hl : (Value.ref a :: us).length = ps.length := r2.length.symm.trans (F1.len _ _ _ _ hq)
  have hus : us.length ≤ sizeLine := by
    rw [← Paired.length r, sizeLine_eq]
    omega
  have bd : BindsTo ⟨(hp.push (PySem.W.kdv_tup us)).push (PySem.HandSPX.excO C hp.objs.size), g, dr, tk, os⟩ fd ⟨Value.ref a :: us, []⟩ (ps.zip (Value.ref a :: us)) := by
    have z := hb ⟨(hp.push (PySem.W.kdv_tup us)).push (PySem.HandSPX.excO C hp.objs.size), g, dr, tk, os⟩ (Value.ref a :: us) I2.kIn (by rw [List.append_nil]; exact hl)
    rw [List.append_nil] at z
    exact z
  have go := F1.run _ X.stack _ _ ⟨Value.ref a :: us, []⟩ (Value.ref a :: us) _ _ E0 (hr.make C us []) (I2.env0.make C us []) bd r2 hq
  refine wpAny_call (PySem.HandSPX.call_own F.excBase_ValueError (fun Y => PySem.HandSPX.refsVE_contains Y bm hbm) (I.kIn _ _ hC) (PySem.W.looks_findIn I.kIn iC) (fun self => PySem.W.bind_fn I.kIn self tI) hus ?_)
  rw [ea]
  refine codeAny_mono go fun r s' hq' => ?_
  cases r with
  | error er => exact hx pins σ _ _ er s' I2 hq'
  | ok fl =>
    cases fl with
    | ret u =>
      obtain ⟨v, H2, J, rv, ev, q2⟩ := I2.after (show CE _ _ _ _ _ _ u s' from hq')
      subst ev
      exact ⟨rv, .ref a, H2, J, rfl, q2⟩
    | next => exact False.elim hq'
    | brk => exact False.elim hq'
    | cont => exact False.elim hq'

/-- C(e, ..) kept as a value -/
def tHold (C : Addr) (sp : Sp) (ta : TA) : TE := fun σ H Q => ta σ H fun vs H1 => vs.length ≤ 1000 ∧ ∀ a, H1 a = none → sp (.ref a :: vs) (upd H1 a (exo a C none)) (fun v H2 => v = .non ∧ Q (.ref a) H2) E0
theorem pe_hold (T : OexC X.K C) (iC : PySem.W.findIn X.K (.ref C) "__init__" = some (some (.ref fI))) (tI : PySem.W.typeIn X.K (.ref fI) = some (.type "function"))
    (F1 : FnOk X.prog X.w X.K X.mg X.base CX k fI fd ps sp) (hr : Room (k + 1) X.A) (hb : Binds X.K fd ps []) (hx : Passes CX X E0) (hg : Gl X x) (hm : X.mg x = some (.ref C)) (ha : PA X (e :: es) ta)
    (hdb : (x == ("__debug__" : Str)) = false := by decide) (he : starEach (e :: es) X.env = (false, eval e X.env) :: starEach es X.env := by rfl) (hpl : (backTo pos (starEach es X.env)).any (·.1) = false := by rfl) :
    PE X (.Call (.Name x p) (e :: es) [] pos) (tHold C sp ta) := by
  refine ⟨fun pins s σ H Q I h => wpAny_Call_Name_kw (ld_glob I hg hm ?_ hdb)⟩
  refine PySem.W.callWith_K (h₀ := X.base) I.ok.mod.kin T.kC (thn (ha.run pos pins s σ H _ I h) fun us s1 ⟨vs, H1, I1, r1, hz, q1⟩ => ?_) he hpl
  exact ⟨I1.kIn, hold_call T iC tI F1 hr hb hx I1 r1 hz q1⟩
/-- C() -/
theorem pe_hold0 (T : OexC X.K C) (iC : PySem.W.findIn X.K (.ref C) "__init__" = some (some (.ref fI))) (tI : PySem.W.typeIn X.K (.ref fI) = some (.type "function"))
    (F1 : FnOk X.prog X.w X.K X.mg X.base CX k fI fd ps sp) (hr : Room (k + 1) X.A) (hb : Binds X.K fd ps []) (hx : Passes CX X E0) (hg : Gl X x) (hm : X.mg x = some (.ref C))
    (hdb : (x == ("__debug__" : Str)) = false := by decide) :
    PE X (.Call (.Name x p) [] [] pos) (tHold C sp tNil) := by
  refine ⟨fun pins s σ H Q I h => wpAny_Call_Name_kw (ld_glob I hg hm ?_ hdb)⟩
  obtain ⟨hz, q1⟩ := h
  exact PySem.W.callWith_K0 I.kIn T.kC (hold_call T iC tI F1 hr hb hx I (us := []) .nil hz q1)
end
end Kx

set_option maxRecDepth 100000
set_option maxHeartbeats 4000000
namespace Kx
open PySem PySem.Spec PyProof.Rows L2 He

/-- the class at C, by its object alone: over ValueError, its own chain, a dict for its instances -/
def shapeB (K : PySem.W.Frag) (C Kin : Addr) : Bool :=
  match K.lookup C with
  | some ⟨c, _, .cls cd, sl⟩ =>
    (match cd.mro, sl.toList with
      | a :: bm, [_, _, _, _, some (.builtin n), _] => (c == .type "type") && ((a == .ref C) && ((n == "ValueError.__new__") && (cd.hasDict && ((!cd.hasDel) && (bm == .ref Kin :: veBase)))))
      | _, _ => false)
  | _ => false

theorem shapeB_ok {K : PySem.W.Frag} {C Kin : Addr} (h : shapeB K C Kin = true) :
    ∃ nm q N bs sn sub ab col dd k0 k1 k2 k3 k5, K.lookup C = some (excClassObj nm q C N bs (.ref Kin :: veBase) true sn sub ab col dd k0 k1 k2 k3 k5 "ValueError.__new__") := by
  unfold shapeB at h
  split at h
  · rename_i c dd cd sl ho
    split at h
    · rename_i a bm k0 k1 k2 k3 n k5 hm hs
      simp only [Bool.and_eq_true, beq_iff_eq, Bool.not_eq_true'] at h
      obtain ⟨rfl, rfl, rfl, hd, hdel, rfl⟩ := h
      obtain ⟨nm, bs, mro, ns, qn, hdct, sn, sub, ab, col, del⟩ := cd
      dsimp only at hm hdel hd
      subst hm hdel hd
      obtain ⟨l⟩ := sl
      have e : l = [k0, k1, k2, k3, some (.builtin "ValueError.__new__"), k5] := hs
      subst e
      exact ⟨_, _, _, _, _, _, _, _, _, _, _, _, _, _, ho⟩
    · cases h
  · cases h

/-- one error class of the text: its name, the parameters of its own __init__ -/
structure ErrD where
  name : Str
  ps : List Str

/-- all that is asked of such a class -/
def ErrD.ok (K : PySem.W.Frag) (Kin : Addr) (d : ErrD) : Bool :=
  shapeB K (ga K d.name) Kin && (xfB K (ga K d.name)
    && (eqO (PySem.W.findIn K (.ref (ga K d.name)) "__setattr__") (some (some (.builtin "object.__setattr__")))
    && (decide (PySem.W.typeIn K (.ref (ga K d.name)) = some (.type "type"))
    && (PySem.W.keepIn K (.ref (ga K d.name))
    && (eqO (PySem.W.findIn K (.ref (ga K d.name)) "__class__") (some (some (.builtin "object.__class__")))
    && (eqO (PySem.W.findIn K (.ref (ga K d.name)) "__init__") (some (some (.ref (ma K (ga K d.name) "__init__"))))
    && (decide (PySem.W.typeIn K (.ref (ma K (ga K d.name) "__init__")) = some (.type "function"))
    && d.ps.all fun p => eqO (PySem.W.findIn K (.ref (ga K d.name)) p) (some none))))))))

/-- the same, said -/
structure ErrOk (K : PySem.W.Frag) (Kin : Addr) (d : ErrD) : Prop where
  oex : OexC K (ga K d.name)
  held : HeldC K (ga K d.name)
  ini : PySem.W.findIn K (.ref (ga K d.name)) "__init__" = some (some (.ref (ma K (ga K d.name) "__init__")))
  inT : PySem.W.typeIn K (.ref (ma K (ga K d.name) "__init__")) = some (.type "function")
  no : ∀ p ∈ d.ps, PySem.W.findIn K (.ref (ga K d.name)) p = some none
  mro : ∃ cd, PySem.W.clsIn K (ga K d.name) = some cd ∧ cd.mro = .ref (ga K d.name) :: .ref Kin :: veBase

theorem refsVE_kin {Kin : Addr} : PySem.HandSPX.refsVE (.ref Kin :: veBase) = true := by
  show PySem.HandSPX.refsVE veBase = true
  decide +kernel
theorem ErrD.ok_ok {K : PySem.W.Frag} {Kin : Addr} {d : ErrD} (h : d.ok K Kin = true) : ErrOk K Kin d := by
  obtain ⟨h1, h⟩ := ba h
  obtain ⟨h2, h⟩ := ba h
  obtain ⟨h3, h⟩ := ba h
  obtain ⟨h4, h⟩ := ba h
  obtain ⟨h5, h⟩ := ba h
  obtain ⟨h6, h⟩ := ba h
  obtain ⟨h7, h⟩ := ba h
  obtain ⟨h8, h9⟩ := ba h
  obtain ⟨nm, q, N, bs, sn, sub, ab, col, dd, k0, k1, k2, k3, k5, hC⟩ := shapeB_ok h1
  have hcl : PySem.W.clsIn K (ga K d.name) = some { name := nm, bases := bs, mro := .ref (ga K d.name) :: .ref Kin :: veBase, ns := N, qualname := q, hasDict := true, slotNames := sn, subclasses := sub, abstract := ab, collection := col, hasDel := false } := by
    unfold PySem.W.clsIn
    rw [hC]
    all_goals rfl
  have X := xfB_ok h2
  refine ⟨⟨⟨nm, q, N, bs, _, sn, sub, ab, col, dd, k0, k1, k2, k3, k5, hC, refsVE_kin⟩, eqO_ok h3, X.exC, of_decide_eq_true h4, h5⟩, ⟨X, by rw [hcl]; rfl, eqO_ok h6, ?_⟩, eqO_ok h7, of_decide_eq_true h8, fun p hp => eqO_ok (List.all_eq_true.mp h9 p hp), ⟨_, hcl, rfl⟩⟩
  unfold PySem.W.mroIn
  rw [hcl]
  show (if ((Value.ref (ga K d.name) :: .ref Kin :: veBase).isEmpty) = true then none else some ((Value.ref (ga K d.name) :: .ref Kin :: veBase).contains (.type "object"))) = some true
  rw [if_neg (by exact Bool.false_ne_true)]
  have e : (Value.ref (ga K d.name) :: .ref Kin :: veBase).contains (.type "object") = veBase.contains (.type "object") := rfl
  rw [e]
  exact congrArg some (by decide +kernel)

/-- isinstance of one of them against another -/
theorem kit_err {K : PySem.W.Frag} {Kin C D : Addr} {cd cd' : ClassData} (hC : PySem.W.clsIn K C = some cd) (mC : cd.mro = .ref C :: .ref Kin :: veBase) (hD : PySem.W.clsIn K D = some cd') (tD : PySem.W.typeIn K (.ref D) = some (.type "type")) :
    PySem.W.kitOne K (.ref C) (.ref D) = some (decide (C = D) || decide (Kin = D)) := by
  unfold PySem.W.kitOne
  by_cases e : C = D
  · subst e
    have e1 : ((Value.ref C) == (Value.ref C)) = true := beq_iff_eq.mpr rfl
    rw [if_pos e1]
    simp
  · have e1 : ¬ ((Value.ref C) == (Value.ref D)) = true := fun z => e (Value.ref.inj (beq_iff_eq.mp z))
    rw [if_neg e1]
    show (if ((PySem.W.clsIn K D).isSome && PySem.W.typeIn K (.ref D) == some (.type "type")) = true then PySem.W.subIn K (.ref C) (.ref D) else none) = _
    have e2 : ((PySem.W.clsIn K D).isSome && PySem.W.typeIn K (.ref D) == some (.type "type")) = true := by
      rw [hD, tD] <;> rfl
    rw [if_pos e2]
    show PySem.W.mroIn K C (.ref D) = _
    unfold PySem.W.mroIn
    rw [hC]
    show (if cd.mro.isEmpty = true then none else some (cd.mro.contains (.ref D))) = _
    rw [mC]
    show (if (List.isEmpty (Value.ref C :: .ref Kin :: veBase)) = true then none else some ((Value.ref C :: .ref Kin :: veBase).contains (.ref D))) = _
    rw [if_neg (by exact Bool.false_ne_true)]
    have tail : veBase.contains (Value.ref D) = false := by
      show ([Value.type "ValueError", .type "Exception", .type "BaseException", .type "object"] : List Value).contains (Value.ref D) = false
      rfl
    have d1 : decide (C = D) = false := decide_eq_false e
    rw [d1, Bool.false_or, List.contains_cons, List.contains_cons, tail, Bool.or_false]
    have b1 : (Value.ref D == Value.ref C) = false := beq_eq_false_iff_ne.mpr fun z => e (Value.ref.inj z).symm
    rw [b1, Bool.false_or]
    congr 1
    by_cases k : Kin = D
    · subst k
      rw [decide_eq_true rfl]
      exact beq_iff_eq.mpr rfl
    · rw [decide_eq_false k]
      exact beq_eq_false_iff_ne.mpr fun z => k (Value.ref.inj z).symm
/-- and against ValueError -/
theorem kit_val {K : PySem.W.Frag} {Kin C : Addr} {cd : ClassData} (hC : PySem.W.clsIn K C = some cd) (mC : cd.mro = .ref C :: .ref Kin :: veBase) : PySem.W.kitOne K (.ref C) (.type "ValueError") = some true := by
  unfold PySem.W.kitOne
  have e1 : ¬ ((Value.ref C) == (Value.type "ValueError")) = true := fun z => by
    have q := beq_iff_eq.mp z
    cases q
  rw [if_neg e1]
  show (if PySem.W.kitMeta "ValueError" = true then PySem.W.subIn K (.ref C) (.type "ValueError") else none) = _
  rw [if_pos (by decide +kernel)]
  show PySem.W.mroIn K C (.type "ValueError") = _
  unfold PySem.W.mroIn
  rw [hC]
  show (if cd.mro.isEmpty = true then none else some (cd.mro.contains (.type "ValueError"))) = _
  rw [mC]
  show (if (List.isEmpty (Value.ref C :: .ref Kin :: veBase)) = true then none else some ((Value.ref C :: .ref Kin :: veBase).contains (.type "ValueError"))) = _
  rw [if_neg (by exact Bool.false_ne_true)]
  have e : (Value.ref C :: .ref Kin :: veBase).contains (.type "ValueError") = veBase.contains (.type "ValueError") := rfl
  rw [e]
  exact congrArg some (by decide +kernel)

/-! ### the head's look: facts, defs, and one Bool more -/
abbrev AlK : Type := AlD × Bool
def obsK (fa : List Fa) (fn : List DefD) (ex : PySem.W.Frag → Bool) (K : PySem.W.Frag) : AlK := (obsD fa fn K, ex K)
/-- what an object leads on to: a def's code, a class's own names, a dict's values -/
def refK (o : Obj) : List Addr :=
  match o.data with
  | .func fd => refV fd.code ++ refV fd.defaults
  | .cls cd => [cd.ns]
  | .dict es _ => es.toList.flatMap fun e => refV e.val
  | _ => []
def stepK (g : Addr → Option Obj) (as : List Addr) : List Addr := as.flatMap fun a =>
  match g a with
  | some o => refK o
  | none => []
/-- the module's names, what they stand for, the classes' names, the methods, their codes: level by level -/
def lvK (g : Addr → Option Obj) : Nat → List Addr → List Addr
  | 0, as => as
  | n + 1, as => as ++ lvK g n (stepK g as)
def frK (g : Addr → Option Obj) : PySem.W.Frag := frG g (lvK g 4 [mainGlobals])
def obsKG (fa : List Fa) (fn : List DefD) (ex : PySem.W.Frag → Bool) (g : Addr → Option Obj) : AlK := obsK fa fn ex (frK g)
structure SaysK (fa : List Fa) (fn : List DefD) (ex : PySem.W.Frag → Bool) (K : PySem.W.Frag) : Prop where
  d : SaysD fa fn K
  x : ex K = true
def hookK (fa : List Fa) (fn : List DefD) (ex : PySem.W.Frag → Bool) : PySem.W.Hook where
  α := AlK
  obs s := obsKG fa fn ex s.heap.get?
  val _ := (valD fn, true)
  says _ h := ∃ K : PySem.W.Frag, K.In h ∧ SaysK fa fn ex K
  of := fun _ _ e => ⟨_, frG_in, ⟨congrArg (fun z : AlK => z.1) e, congrArg (fun z : AlK => z.2) e⟩⟩
  keeps := fun _ _ _ ⟨K, hK, c⟩ k => ⟨K, hK.keeps k, c⟩
theorem obsKG_eq {fa : List Fa} {fn : List DefD} {ex : PySem.W.Frag → Bool} {g : Addr → Option Obj} {s : Shared} (h : ∀ a, g a = s.heap.get? a) : obsKG fa fn ex g = (hookK fa fn ex).obs s := by
  have e : g = s.heap.get? := funext h
  subst e
  rfl
end Kx

set_option maxRecDepth 100000
set_option maxHeartbeats 0
namespace K12
open PySem PySem.Spec PyProof.Rows L2 He Kx
def errs : List ErrD := [⟨"BadWorld", ["index", "what"]⟩, ⟨"NoClass", ["cls"]⟩, ⟨"BadKinds", ["index", "what"]⟩, ⟨"NoKind", ["kind"]⟩, ⟨"BadGiven", ["index"]⟩]
def dM (i j : Nat) (x m qn : Str) : DefD := ⟨(x, some m), m, qn, defArgs (inClass (top i) j), defBody (inClass (top i) j), defScope (inClass (top i) j), [], []⟩
def dMd (i j : Nat) (x m qn : Str) (dv : List Dv) : DefD := ⟨(x, some m), m, qn, defArgs (inClass (top i) j), defBody (inClass (top i) j), defScope (inClass (top i) j), dv, []⟩
def dF (i : Nat) (x : Str) (dv : List Dv) : DefD := ⟨(x, none), x, x, defArgs (top i), defBody (top i), defScope (top i), dv, []⟩
def fn : List DefD := [dF 9 "is_sequence" [],
  dF 10 "is_whole" [.non, .non],
  dF 11 "is_unlike_row" [],
  dF 13 "check_class" [],
  dF 14 "on_line" [],
  dF 21 "entry_fault" [],
  dF 22 "elder_rows" [],
  dF 23 "heir_rows" [],
  dF 28 "join_fault" [],
  dF 29 "row_fault_at" [],
  dF 30 "check_kind" [],
  dF 31 "check_given" [],
  dF 32 "kept_fault" [],
  dF 33 "class_breach" [],
  dF 34 "pair_fault" [],
  dF 36 "_law_hand" [],
  dF 37 "_law_mixed" [],
  dF 38 "_law_take" [],
  dF 39 "_law_bases" [],
  dF 40 "_law_elders" [],
  dF 41 "_law_row" [],
  dF 42 "_law_exact" [],
  dF 43 "_law_couples" [],
  dF 44 "_law_kinds" [],
  dF 45 "_law_joined" [],
  dF 46 "_law_built" [],
  dF 47 "_law_pair_word" [],
  dF 48 "_law_class_breach" [],
  dF 49 "_law_breach" [],
  dF 50 "_law_next" [],
  dF 51 "_law_history" [],
  dF 52 "_law_world" [],
  dF 53 "_law_asked" [],
  dF 54 "_law_changed" [],
  dF 55 "law" [],
  dM 3 0 "BadWorld" "__init__" "BadWorld.__init__",
  dM 4 0 "NoClass" "__init__" "NoClass.__init__",
  dM 5 0 "BadKinds" "__init__" "BadKinds.__init__",
  dM 6 0 "NoKind" "__init__" "NoKind.__init__",
  dM 7 0 "BadGiven" "__init__" "BadGiven.__init__",
  dM 20 0 "World" "__init__" "World.__init__",
  dM 20 6 "World" "__len__" "World.__len__",
  dM 20 7 "World" "__iter__" "World.__iter__",
  dM 20 8 "World" "__eq__" "World.__eq__",
  dMd 26 0 "Kinds" "__init__" "Kinds.__init__" [.adr (dflAt ("Kinds", some "__init__") 0)],
  dM 26 2 "Kinds" "are_joined" "Kinds.are_joined",
  dM 26 3 "Kinds" "is_bare" "Kinds.is_bare",
  dM 26 4 "Kinds" "__eq__" "Kinds.__eq__",
  dM 27 0 "Breach" "__init__" "Breach.__init__"]
def fa : List Fa := [.free "len",
  .free "int",
  .free "abs",
  .free "isinstance",
  .free "range",
  .free "set",
  .free "sorted",
  .free "enumerate",
  .free "tuple",
  .free "list",
  .free "bool",
  .free "str",
  .free "max",
  .free "min",
  .free "all",
  .free "any",
  .free "repr",
  .free "ValueError",
  .int "MOST_CLASSES" 12,
  .int "MOST_FIELDS" 3,
  .int "MOST_METHODS" 3,
  .int "METHOD_NAMES" 6,
  .int "MOST_KINDS" 5,
  .glo "is_sequence",
  .glo "is_whole",
  .glo "is_unlike_row",
  .glo "check_class",
  .glo "on_line",
  .glo "entry_fault",
  .glo "elder_rows",
  .glo "heir_rows",
  .glo "join_fault",
  .glo "row_fault_at",
  .glo "check_kind",
  .glo "check_given",
  .glo "kept_fault",
  .glo "class_breach",
  .glo "pair_fault",
  .glo "_law_hand",
  .glo "_law_mixed",
  .glo "_law_take",
  .glo "_law_bases",
  .glo "_law_elders",
  .glo "_law_row",
  .glo "_law_exact",
  .glo "_law_couples",
  .glo "_law_kinds",
  .glo "_law_joined",
  .glo "_law_built",
  .glo "_law_pair_word",
  .glo "_law_class_breach",
  .glo "_law_breach",
  .glo "_law_next",
  .glo "_law_history",
  .glo "_law_world",
  .glo "_law_asked",
  .glo "_law_changed",
  .glo "law",
  .glo "KinError",
  .glo "BadWorld",
  .exm "BadWorld" "BadWorld" true,
  .glo "NoClass",
  .exm "NoClass" "NoClass" true,
  .glo "BadKinds",
  .exm "BadKinds" "BadKinds" true,
  .glo "NoKind",
  .exm "NoKind" "NoKind" true,
  .glo "BadGiven",
  .exm "BadGiven" "BadGiven" true,
  .glo "World",
  .cls "World",
  .mkr "World",
  .noat "World" "classes",
  .noat "World" "bases",
  .noat "World" "owns",
  .noat "World" "methods",
  .noat "World" "elders",
  .noat "World" "heirs",
  .meth "World" "__len__",
  .meth "World" "__iter__",
  .meth "World" "__eq__",
  .glo "Kinds",
  .cls "Kinds",
  .mkr "Kinds",
  .noat "Kinds" "many",
  .noat "Kinds" "joined",
  .noat "Kinds" "bare",
  .meth "Kinds" "are_joined",
  .meth "Kinds" "is_bare",
  .meth "Kinds" "__eq__",
  .glo "Breach",
  .cls "Breach",
  .mkr "Breach",
  .noat "Breach" "cls",
  .noat "Breach" "first",
  .noat "Breach" "second",
  .noat "Breach" "what"]
def exA (K : PySem.W.Frag) : Bool := errs.all fun d => d.ok K (ga K "KinError")
def exC (K : PySem.W.Frag) : Bool := ((eqO (PySem.W.findIn K (.ref (ga K "Breach")) "__class__") (some (some (.builtin "object.__class__"))) && decide (PySem.W.mroIn K (ga K "Breach") (.type "object") = some true)) && ((eqO (PySem.W.findIn K (.ref (ga K "Kinds")) "__class__") (some (some (.builtin "object.__class__"))) && decide (PySem.W.mroIn K (ga K "Kinds") (.type "object") = some true)) && ((eqO (PySem.W.findIn K (.ref (ga K "World")) "__class__") (some (some (.builtin "object.__class__"))) && decide (PySem.W.mroIn K (ga K "World") (.type "object") = some true)) && (decide (PySem.W.specialIn K (.builtin "object.__class__") "__get__" = some (some (.builtin "getset_descriptor.__get__"))) && decide (PySem.W.takesIn K (.builtin "object.__class__") = some true)))))
def ex (K : PySem.W.Frag) : Bool := exA K && exC K
def loose0 : List PySem.Str := ["_wall", "KinError", "BadWorld", "NoClass", "BadKinds", "NoKind", "BadGiven", "is_sequence", "is_whole", "is_unlike_row", "check_class", "on_line", "MOST_CLASSES", "MOST_FIELDS", "MOST_METHODS", "METHOD_NAMES", "World", "entry_fault", "elder_rows", "heir_rows", "MOST_KINDS", "Kinds", "Breach", "join_fault"]
def loose1 : List PySem.Str := ["row_fault_at", "check_kind", "check_given", "kept_fault", "class_breach", "pair_fault", "_law_hand", "_law_mixed", "_law_take", "_law_bases", "_law_elders", "_law_row", "_law_exact", "_law_couples", "_law_kinds", "_law_joined", "_law_built", "_law_pair_word", "_law_class_breach", "_law_breach", "_law_next", "_law_history", "_law_world", "_law_asked"]
def loose2 : List PySem.Str := ["_law_changed"]
def loose : List PySem.Str := loose0 ++ loose1 ++ loose2
abbrev R : PySem.W.OpenRow := PySem.W.OpenLaw.row PySem.Challenge.rw_headamid_k12_whole_worlds_that_keep_kind
abbrev hk : PySem.W.Hook := hookK fa fn ex
def ob (s : PySem.W.SharedT) : AlK := obsKG fa fn ex (HandSHeadRun.getT s)
theorem ob_eq (s : PySem.W.SharedT) : ob s = hk.obs s.abs := obsKG_eq (HandSHeadRun.getT_eq s)
noncomputable def endO (w : World) (os : OsState) : Option PySem.W.SharedT := HandSHeadRun.endF (HandSHeadRun.stepQ (HandSHeadRun.denQ HandSHeadRun.tabQ) R.prog w) 40000 R.prog w os
def fr (s : PySem.W.SharedT) : PySem.W.Frag := frK (HandSHeadRun.getT s)
open PySem.W PySem.Calls in
theorem run1 (w : World) (os : OsState) : (endO w os).map (fun s => (HandSHeadRun.looksF R.prog (boot_heap w.params) s.abs, HandSHeadRun.seenQ (PySem.W.view R.prog [55]) loose (importedModules R.prog.main.body) (fun s => PySem.W.xlAt (PySem.W.view R.prog [55]) [] s && PySem.W.recOk R.toRowW.records s) s.abs)) = some (true, PySem.W.openGood (PySem.W.view R.prog [55]) loose) := by
  kernel_rfl
theorem run2 (w : World) (os : OsState) : (endO w os).map (fun s => obsD fa fn (fr s)) = some (valD fn) := by
  kernel_rfl
theorem run3 (w : World) (os : OsState) : (endO w os).map (fun s => ex (fr s)) = some true := by
  kernel_rfl
theorem run (w : World) : HandSHeadRun.RunEq R (PySem.W.view R.prog [55]) hk ob 40000 loose w := by
  intro os
  have h1 := run1 w os
  have h2 := run2 w os
  have h3 := run3 w os
  show (endO w os).map _ = _
  cases e : endO w os with
  | none =>
    rw [e] at h1
    cases h1
  | some s =>
    rw [e] at h1 h2 h3
    obtain ⟨a1, a2⟩ := Prod.mk.inj (Option.some.inj h1)
    have b2 : obsD fa fn (fr s) = valD fn := Option.some.inj h2
    have b3 : (ex (fr s)) = true := Option.some.inj h3
    have b : ob s = (valD fn, true) := Prod.ext b2 b3
    exact congrArg some (Prod.ext a1 (Prod.ext a2 b))
end K12

set_option maxRecDepth 100000
set_option maxHeartbeats 16000000
namespace K12
open PySem PySem.Spec PyProof.Rows L2 He Kx Kw
theorem err_x {K : PySem.W.Frag} {mg : Str → Option Value} {Kin : Addr} {d : ErrD} (h : ErrOk K Kin d) (m : mg d.name = some (.ref (ga K d.name))) : ErrX K mg d.name d.ps (ga K d.name) (ma K (ga K d.name) "__init__") := ⟨h.oex, h.ini, h.inT, h.no, m⟩
theorem facts {P : Program} {w : World} {K : PySem.W.Frag} {h : Heap} {mg : Str → Option Value} {f : Addr} (X : K.In h) (G : h.Ns mainGlobals mg) (hfa : mg ("law" : Str) = some (.ref f)) (c : SaysK fa fn ex K) :
    ∃ fd : FuncData, (∀ (s : Shared) (v : Value), BindsTo s fd ⟨[v], []⟩ [("_law_script", v)]) ∧ ∀ base : Heap, K.In base → base.Ns mainGlobals mg → FnOk P w K mg base CX0 12 f fd ["_law_script"] (spLaw K) := by
  have e := hfa.symm.trans (glo_ok X G (c.d.fact 57 (f := .glo "law") rfl))
  cases e
  obtain ⟨x1, x2⟩ := ba c.x
  obtain ⟨xB, x3⟩ := ba x2
  obtain ⟨xB1, xB2⟩ := ba xB
  obtain ⟨_, x4⟩ := ba x3
  obtain ⟨_, x5⟩ := ba x4
  obtain ⟨x7, x8⟩ := ba x5
  have eo : ∀ d ∈ errs, ErrOk K (ga K "KinError") d := fun d hd => ErrD.ok_ok (List.all_eq_true.mp x1 d hd)
  have E0' := eo ⟨"BadWorld", ["index", "what"]⟩ (List.mem_of_getElem? (i := 0) rfl)
  have E1' := eo ⟨"NoClass", ["cls"]⟩ (List.mem_of_getElem? (i := 1) rfl)
  have E2' := eo ⟨"BadGiven", ["index"]⟩ (List.mem_of_getElem? (i := 4) rfl)
  have TBW : ErrX K mg "BadWorld" ["index", "what"] (ga K "BadWorld") (ma K (ga K "BadWorld") "__init__") := err_x E0' (glo_ok X G (c.d.fact 59 (f := .glo "BadWorld") rfl))
  have TNC : ErrX K mg "NoClass" ["cls"] (ga K "NoClass") (ma K (ga K "NoClass") "__init__") := err_x E1' (glo_ok X G (c.d.fact 61 (f := .glo "NoClass") rfl))
  have TBG : ErrX K mg "BadGiven" ["index"] (ga K "BadGiven") (ma K (ga K "BadGiven") "__init__") := err_x E2' (glo_ok X G (c.d.fact 67 (f := .glo "BadGiven") rfl))
  have B : Fr mg := ⟨(free_ok X G (c.d.fact 3 (f := .free "isinstance") rfl)), (free_ok X G (c.d.fact 9 (f := .free "list") rfl)), (free_ok X G (c.d.fact 8 (f := .free "tuple") rfl)), (free_ok X G (c.d.fact 10 (f := .free "bool") rfl)), (free_ok X G (c.d.fact 1 (f := .free "int") rfl)), (free_ok X G (c.d.fact 0 (f := .free "len") rfl)), (free_ok X G (c.d.fact 5 (f := .free "set") rfl)), (free_ok X G (c.d.fact 4 (f := .free "range") rfl)), (free_ok X G (c.d.fact 6 (f := .free "sorted") rfl)), (free_ok X G (c.d.fact 7 (f := .free "enumerate") rfl))⟩
  have Z : Cst mg := ⟨(int_ok X G (c.d.fact 19 (f := .int "MOST_FIELDS" 3) rfl)), (int_ok X G (c.d.fact 20 (f := .int "MOST_METHODS" 3) rfl)), (int_ok X G (c.d.fact 21 (f := .int "METHOD_NAMES" 6) rfl)), (int_ok X G (c.d.fact 18 (f := .int "MOST_CLASSES" 12) rfl))⟩
  have TC : ClsWorld K mg (ga K "World") := ⟨cls_ok (c.d.fact 70 (f := .cls "World") rfl), fun f hf => by
    rcases List.mem_cons.mp hf with rfl | hf
    · exact noat_ok (c.d.fact 72 (f := .noat "World" "classes") rfl)
    rcases List.mem_cons.mp hf with rfl | hf
    · exact noat_ok (c.d.fact 73 (f := .noat "World" "bases") rfl)
    rcases List.mem_cons.mp hf with rfl | hf
    · exact noat_ok (c.d.fact 74 (f := .noat "World" "owns") rfl)
    rcases List.mem_cons.mp hf with rfl | hf
    · exact noat_ok (c.d.fact 75 (f := .noat "World" "methods") rfl)
    rcases List.mem_cons.mp hf with rfl | hf
    · exact noat_ok (c.d.fact 76 (f := .noat "World" "elders") rfl)
    rcases List.mem_cons.mp hf with rfl | hf
    · exact noat_ok (c.d.fact 77 (f := .noat "World" "heirs") rfl)
    cases hf⟩
  have TK : ClsF K (ga K "Kinds") ["many", "joined", "bare"] := ⟨cls_ok (c.d.fact 82 (f := .cls "Kinds") rfl), fun f hf => by
    rcases List.mem_cons.mp hf with rfl | hf
    · exact noat_ok (c.d.fact 84 (f := .noat "Kinds" "many") rfl)
    rcases List.mem_cons.mp hf with rfl | hf
    · exact noat_ok (c.d.fact 85 (f := .noat "Kinds" "joined") rfl)
    rcases List.mem_cons.mp hf with rfl | hf
    · exact noat_ok (c.d.fact 86 (f := .noat "Kinds" "bare") rfl)
    cases hf⟩
  have TB : ClsF K (ga K "Breach") ["cls", "first", "second", "what"] := ⟨cls_ok (c.d.fact 91 (f := .cls "Breach") rfl), fun f hf => by
    rcases List.mem_cons.mp hf with rfl | hf
    · exact noat_ok (c.d.fact 93 (f := .noat "Breach" "cls") rfl)
    rcases List.mem_cons.mp hf with rfl | hf
    · exact noat_ok (c.d.fact 94 (f := .noat "Breach" "first") rfl)
    rcases List.mem_cons.mp hf with rfl | hf
    · exact noat_ok (c.d.fact 95 (f := .noat "Breach" "second") rfl)
    rcases List.mem_cons.mp hf with rfl | hf
    · exact noat_ok (c.d.fact 96 (f := .noat "Breach" "what") rfl)
    cases hf⟩
  have IB : IsiC K (ga K "Breach") := ⟨eqO_ok xB1, of_decide_eq_true x7, of_decide_eq_true x8, of_decide_eq_true xB2⟩
  obtain ⟨fdS, FS⟩ := c.d.def_ 0 (d := dF 9 "is_sequence" []) rfl
  obtain ⟨fdW, FW⟩ := c.d.def_ 1 (d := dF 10 "is_whole" [.non, .non]) rfl
  obtain ⟨fdU, FU⟩ := c.d.def_ 2 (d := dF 11 "is_unlike_row" []) rfl
  obtain ⟨fdC, FC⟩ := c.d.def_ 3 (d := dF 13 "check_class" []) rfl
  obtain ⟨fdOL, FOL⟩ := c.d.def_ 4 (d := dF 14 "on_line" []) rfl
  obtain ⟨fdEF, FEF⟩ := c.d.def_ 5 (d := dF 21 "entry_fault" []) rfl
  obtain ⟨fdER, FER⟩ := c.d.def_ 6 (d := dF 22 "elder_rows" []) rfl
  obtain ⟨fdHR, FHR⟩ := c.d.def_ 7 (d := dF 23 "heir_rows" []) rfl
  obtain ⟨fdJF, FJF⟩ := c.d.def_ 8 (d := dF 28 "join_fault" []) rfl
  obtain ⟨fdRF, FRF⟩ := c.d.def_ 9 (d := dF 29 "row_fault_at" []) rfl
  obtain ⟨fdCK, FCK⟩ := c.d.def_ 10 (d := dF 30 "check_kind" []) rfl
  obtain ⟨fdCG, FCG⟩ := c.d.def_ 11 (d := dF 31 "check_given" []) rfl
  obtain ⟨fdKF, FKF⟩ := c.d.def_ 12 (d := dF 32 "kept_fault" []) rfl
  obtain ⟨fdCB, FCB⟩ := c.d.def_ 13 (d := dF 33 "class_breach" []) rfl
  obtain ⟨fdPF, FPF⟩ := c.d.def_ 14 (d := dF 34 "pair_fault" []) rfl
  obtain ⟨fdHa, FHa⟩ := c.d.def_ 15 (d := dF 36 "_law_hand" []) rfl
  obtain ⟨fdMi, FMi⟩ := c.d.def_ 16 (d := dF 37 "_law_mixed" []) rfl
  obtain ⟨fdTa, FTa⟩ := c.d.def_ 17 (d := dF 38 "_law_take" []) rfl
  obtain ⟨fdBa, FBa⟩ := c.d.def_ 18 (d := dF 39 "_law_bases" []) rfl
  obtain ⟨fdEl, FEl⟩ := c.d.def_ 19 (d := dF 40 "_law_elders" []) rfl
  obtain ⟨fdRo, FRo⟩ := c.d.def_ 20 (d := dF 41 "_law_row" []) rfl
  obtain ⟨fdEx, FEx⟩ := c.d.def_ 21 (d := dF 42 "_law_exact" []) rfl
  obtain ⟨fdCo, FCo⟩ := c.d.def_ 22 (d := dF 43 "_law_couples" []) rfl
  obtain ⟨fdKi, FKi⟩ := c.d.def_ 23 (d := dF 44 "_law_kinds" []) rfl
  obtain ⟨fdJo, FJo⟩ := c.d.def_ 24 (d := dF 45 "_law_joined" []) rfl
  obtain ⟨fdBu, FBu⟩ := c.d.def_ 25 (d := dF 46 "_law_built" []) rfl
  obtain ⟨fdPW, FPW⟩ := c.d.def_ 26 (d := dF 47 "_law_pair_word" []) rfl
  obtain ⟨fdLC, FLC⟩ := c.d.def_ 27 (d := dF 48 "_law_class_breach" []) rfl
  obtain ⟨fdLB, FLB⟩ := c.d.def_ 28 (d := dF 49 "_law_breach" []) rfl
  obtain ⟨fdNx, FNx⟩ := c.d.def_ 29 (d := dF 50 "_law_next" []) rfl
  obtain ⟨fdHi, FHi⟩ := c.d.def_ 30 (d := dF 51 "_law_history" []) rfl
  obtain ⟨fdWo, FWo⟩ := c.d.def_ 31 (d := dF 52 "_law_world" []) rfl
  obtain ⟨fdAs, FAs⟩ := c.d.def_ 32 (d := dF 53 "_law_asked" []) rfl
  obtain ⟨fdCh, FCh⟩ := c.d.def_ 33 (d := dF 54 "_law_changed" []) rfl
  obtain ⟨fdLaw, FLaw⟩ := c.d.def_ 34 (d := dF 55 "law" []) rfl
  obtain ⟨fdBW, FBW⟩ := c.d.def_ 35 (d := dM 3 0 "BadWorld" "__init__" "BadWorld.__init__") rfl
  obtain ⟨fdNC, FNC⟩ := c.d.def_ 36 (d := dM 4 0 "NoClass" "__init__" "NoClass.__init__") rfl
  obtain ⟨fdBG, FBG⟩ := c.d.def_ 39 (d := dM 7 0 "BadGiven" "__init__" "BadGiven.__init__") rfl
  obtain ⟨fdWI, FWI⟩ := c.d.def_ 40 (d := dM 20 0 "World" "__init__" "World.__init__") rfl
  obtain ⟨fdKI, FKI⟩ := c.d.def_ 44 (d := dMd 26 0 "Kinds" "__init__" "Kinds.__init__" [.adr (dflAt ("Kinds", some "__init__") 0)]) rfl
  obtain ⟨fdAJ, FAJ⟩ := c.d.def_ 45 (d := dM 26 2 "Kinds" "are_joined" "Kinds.are_joined") rfl
  obtain ⟨fdIB, FIB⟩ := c.d.def_ 46 (d := dM 26 3 "Kinds" "is_bare" "Kinds.is_bare") rfl
  obtain ⟨fdBI, FBI⟩ := c.d.def_ 48 (d := dM 27 0 "Breach" "__init__" "Breach.__init__") rfl
  have b := FunD.bindsA (ps := ["_law_script"]) FLaw fun _ _ _ _ _ _ us hl => match us, hl with | [_], _ => rfl
  refine ⟨fdLaw, fun s v => b s [v] rfl, fun base _ _ => ?_⟩
  have GHa := ok_hand (P := P) (w := w) (base := base) FHa (free_ok X G (c.d.fact 1 (f := .free "int") rfl)) (free_ok X G (c.d.fact 0 (f := .free "len") rfl)) (free_ok X G (c.d.fact 2 (f := .free "abs") rfl))
  have GTa := ok_take (P := P) (w := w) (base := base) FTa FMi (glo_ok X G (c.d.fact 39 (f := .glo "_law_mixed") rfl)) B.int B.len
  have GBa := ok_bases (P := P) (w := w) (base := base) FBa B FTa (glo_ok X G (c.d.fact 40 (f := .glo "_law_take") rfl)) FMi (glo_ok X G (c.d.fact 39 (f := .glo "_law_mixed") rfl))
  have GRo := ok_row (P := P) (w := w) (base := base) FRo B FTa (glo_ok X G (c.d.fact 40 (f := .glo "_law_take") rfl)) FMi (glo_ok X G (c.d.fact 39 (f := .glo "_law_mixed") rfl))
  have GEl := ok_lelders (P := P) (w := w) (base := base) FEl B
  have GW := ok_world (P := P) (w := w) (base := base) FWI B Z TC FS (glo_ok X G (c.d.fact 23 (f := .glo "is_sequence") rfl)) FW (glo_ok X G (c.d.fact 24 (f := .glo "is_whole") rfl)) FU (glo_ok X G (c.d.fact 25 (f := .glo "is_unlike_row") rfl)) FEF (glo_ok X G (c.d.fact 28 (f := .glo "entry_fault") rfl)) FER (glo_ok X G (c.d.fact 29 (f := .glo "elder_rows") rfl)) FHR (glo_ok X G (c.d.fact 30 (f := .glo "heir_rows") rfl)) FBW TBW
  have GU := ok_unlike (P := P) (w := w) (base := base) FU B FS (glo_ok X G (c.d.fact 23 (f := .glo "is_sequence") rfl)) FW (glo_ok X G (c.d.fact 24 (f := .glo "is_whole") rfl))
  have GOL := ok_onLine (P := P) (w := w) (base := base) FOL B TC FC (glo_ok X G (c.d.fact 26 (f := .glo "check_class") rfl)) FW (glo_ok X G (c.d.fact 24 (f := .glo "is_whole") rfl)) FNC TNC
  have GCK := ok_kind (P := P) (w := w) (base := base) FCK B TK FW (glo_ok X G (c.d.fact 24 (f := .glo "is_whole") rfl))
  have GIB := ok_isBare (P := P) (w := w) (base := base) FIB TK FCK (glo_ok X G (c.d.fact 33 (f := .glo "check_kind") rfl)) GCK
  have GAJ := ok_joined (P := P) (w := w) (base := base) FAJ (free_ok X G (c.d.fact 13 (f := .free "min") rfl)) (free_ok X G (c.d.fact 12 (f := .free "max") rfl)) TK FCK (glo_ok X G (c.d.fact 33 (f := .glo "check_kind") rfl)) GCK
  have GPF := ok_pairF (P := P) (w := w) (base := base) FPF B TC TK FOL (glo_ok X G (c.d.fact 27 (f := .glo "on_line") rfl)) GOL FAJ (meth_ok (c.d.fact 87 (f := .meth "Kinds" "are_joined") rfl)) GAJ
  have GCB := ok_br (P := P) (w := w) (base := base) FCB B TC TK FIB (meth_ok (c.d.fact 88 (f := .meth "Kinds" "is_bare") rfl)) GIB FPF (glo_ok X G (c.d.fact 37 (f := .glo "pair_fault") rfl)) GPF FBI TB (mkr_ok (c.d.fact 92 (f := .mkr "Breach") rfl)) (glo_ok X G (c.d.fact 90 (f := .glo "Breach") rfl))
  have GCG := ok_given (P := P) (w := w) (base := base) FCG B TC TK FS (glo_ok X G (c.d.fact 23 (f := .glo "is_sequence") rfl)) FW (glo_ok X G (c.d.fact 24 (f := .glo "is_whole") rfl)) FBG TBG
  have GKF := ok_kept (P := P) (w := w) (base := base) FKF B TC FCG (glo_ok X G (c.d.fact 34 (f := .glo "check_given") rfl)) GCG FCB (glo_ok X G (c.d.fact 36 (f := .glo "class_breach") rfl)) GCB
  have GRF := ok_rowF (P := P) (w := w) (base := base) FRF B FS (glo_ok X G (c.d.fact 23 (f := .glo "is_sequence") rfl)) FW (glo_ok X G (c.d.fact 24 (f := .glo "is_whole") rfl))
  have GJF := ok_joinF (P := P) (w := w) (base := base) FJF B FU (glo_ok X G (c.d.fact 25 (f := .glo "is_unlike_row") rfl)) GU
  have GKI := ok_kindsI (P := P) (w := w) (base := base) FKI B (int_ok X G (c.d.fact 22 (f := .int "MOST_KINDS" 5) rfl)) TK FS (glo_ok X G (c.d.fact 23 (f := .glo "is_sequence") rfl)) FW (glo_ok X G (c.d.fact 24 (f := .glo "is_whole") rfl)) FJF (glo_ok X G (c.d.fact 31 (f := .glo "join_fault") rfl)) GJF FRF (glo_ok X G (c.d.fact 32 (f := .glo "row_fault_at") rfl)) GRF
  have GCo := ok_coup (P := P) (w := w) (base := base) FCo B
  have GKs := ok_lkinds (P := P) (w := w) (base := base) (fM := 0) (fdM := fdTa) FKi B FTa (glo_ok X G (c.d.fact 40 (f := .glo "_law_take") rfl)) GTa FCo (glo_ok X G (c.d.fact 45 (f := .glo "_law_couples") rfl)) GCo
  have GJo := ok_ljoined (P := P) (w := w) (base := base) FJo (free_ok X G (c.d.fact 13 (f := .free "min") rfl)) (free_ok X G (c.d.fact 12 (f := .free "max") rfl))
  have GBu := ok_built (P := P) (w := w) (base := base) FBu B FTa (glo_ok X G (c.d.fact 40 (f := .glo "_law_take") rfl)) GTa FRo (glo_ok X G (c.d.fact 43 (f := .glo "_law_row") rfl)) GRo (mkr_ok (c.d.fact 83 (f := .mkr "Kinds") rfl)) (glo_ok X G (c.d.fact 81 (f := .glo "Kinds") rfl)) GKI (binds_kinds FKI)
  have GPW := ok_lpair (P := P) (w := w) (base := base) FPW FJo (glo_ok X G (c.d.fact 47 (f := .glo "_law_joined") rfl)) GJo
  have GLC := ok_lbr (P := P) (w := w) (base := base) FLC B FPW (glo_ok X G (c.d.fact 49 (f := .glo "_law_pair_word") rfl)) GPW
  have GLB := ok_lbreach (P := P) (w := w) (base := base) FLB B FEl (glo_ok X G (c.d.fact 42 (f := .glo "_law_elders") rfl)) GEl FLC (glo_ok X G (c.d.fact 50 (f := .glo "_law_class_breach") rfl)) GLC
  have GNx := ok_next (P := P) (w := w) (base := base) FNx B (free_ok X G (c.d.fact 13 (f := .free "min") rfl)) FTa (glo_ok X G (c.d.fact 40 (f := .glo "_law_take") rfl)) GTa FBa (glo_ok X G (c.d.fact 41 (f := .glo "_law_bases") rfl)) GBa FEl (glo_ok X G (c.d.fact 42 (f := .glo "_law_elders") rfl)) GEl FLC (glo_ok X G (c.d.fact 50 (f := .glo "_law_class_breach") rfl)) GLC
  have GHi := ok_hist (P := P) (w := w) (base := base) FHi B FNx (glo_ok X G (c.d.fact 52 (f := .glo "_law_next") rfl)) GNx
  have bW : L2.Binds K fdWI ["self", "classes"] [] := FWI.bindsN fun _ _ _ _ _ _ us hl => match us, hl with | [_, _], _ => rfl
  have GWo := ok_lworld (P := P) (w := w) (base := base) FWo B (mkr_ok (c.d.fact 71 (f := .mkr "World") rfl)) (glo_ok X G (c.d.fact 69 (f := .glo "World") rfl)) GW bW
  have GAs := ok_asked (P := P) (w := w) (base := base) FAs B FKF (glo_ok X G (c.d.fact 35 (f := .glo "kept_fault") rfl)) GKF TBG E2'.held.fld (exm_ok (c.d.fact 68 (f := .exm "BadGiven" "BadGiven" true) rfl)) (glo_ok X G (c.d.fact 90 (f := .glo "Breach") rfl)) TB IB
  have GCh := ok_chg (P := P) (w := w) (base := base) FCh B (free_ok X G (c.d.fact 13 (f := .free "min") rfl)) FTa (glo_ok X G (c.d.fact 40 (f := .glo "_law_take") rfl)) GTa
  have GEx := ok_exact (P := P) (w := w) (base := base) FEx B (free_ok X G (c.d.fact 11 (f := .free "str") rfl)) (glo_ok X G (c.d.fact 44 (f := .glo "_law_exact") rfl))
  exact ok_law FLaw B FHa (glo_ok X G (c.d.fact 38 (f := .glo "_law_hand") rfl)) GHa FTa (glo_ok X G (c.d.fact 40 (f := .glo "_law_take") rfl)) GTa FBa (glo_ok X G (c.d.fact 41 (f := .glo "_law_bases") rfl)) GBa FRo (glo_ok X G (c.d.fact 43 (f := .glo "_law_row") rfl)) GRo FEx (glo_ok X G (c.d.fact 44 (f := .glo "_law_exact") rfl)) (GEx 1) FKi (glo_ok X G (c.d.fact 46 (f := .glo "_law_kinds") rfl)) GKs FBu (glo_ok X G (c.d.fact 48 (f := .glo "_law_built") rfl)) GBu FHi (glo_ok X G (c.d.fact 53 (f := .glo "_law_history") rfl)) GHi FLB (glo_ok X G (c.d.fact 51 (f := .glo "_law_breach") rfl)) GLB FWo (glo_ok X G (c.d.fact 54 (f := .glo "_law_world") rfl)) GWo FAs (glo_ok X G (c.d.fact 55 (f := .glo "_law_asked") rfl)) GAs FCh (glo_ok X G (c.d.fact 56 (f := .glo "_law_changed") rfl)) GCh
end K12
open PySem PySem.W PySem.Calls PyProof.Rows
theorem PySem.Challenge.cw_headamid_k12_whole_worlds_that_keep_kind_holds : PySem.Challenge.rw_headamid_k12_whole_worlds_that_keep_kind.Holds := by
  w_on; o_law
  refine HandSHeadRun.head_any (r := OpenLaw.row PySem.Challenge.rw_headamid_k12_whole_worlds_that_keep_kind) (q := view (OpenLaw.row PySem.Challenge.rw_headamid_k12_whole_worlds_that_keep_kind).prog [55]) (H := K12.hk) (ob := K12.ob) (M := 40000) (loose := K12.loose) (d := HandSHeadRun.topDef (OpenLaw.row PySem.Challenge.rw_headamid_k12_whole_worlds_that_keep_kind).prog 55) (kwd := []) K12.ob_eq
    (by kernel_rfl) (fun s => by kernel_rfl) K12.run (by kernel_rfl) (by kernel_rfl) (by kernel_rfl) (by rfl) (by first | assumption | decide +kernel) (by decide +kernel) ⟨rfl, rfl, rfl, rfl, rfl, by decide +kernel⟩ ?hw ?hc
  case hw => w_witness2
  case hc =>
    refine L2.walk_ofE (l := PySem.Challenge.rw_headamid_k12_whole_worlds_that_keep_kind) (n := 63) (k := 12) (x := "_law_script") (CX := L2.CX0) rfl (by decide) (by kernel_rfl) ⟨rfl, by decide, by decide⟩ ?F (fun _ _ _ _ z => z)
    intro w mg fa h Y G hmg0
    obtain ⟨K, KX, c⟩ := Y
    have hmg : mg ("law" : PySem.Str) = some (.ref fa) := by
      have e : (HandSHeadRun.topDef (OpenLaw.row PySem.Challenge.rw_headamid_k12_whole_worlds_that_keep_kind).prog 55).name = ("law" : PySem.Str) := by kernel_rfl
      rw [← e]
      exact hmg0
    obtain ⟨fd, hb, hF⟩ := K12.facts (P := (PySem.Challenge.rw_headamid_k12_whole_worlds_that_keep_kind).prog) (w := w) KX G hmg c
    exact ⟨K, fd, K12.spLaw K, KX, hb, fun H a ns hl _ hS => ⟨a, ns, rfl, hS, hl, fun _ => rfl⟩, hF⟩
