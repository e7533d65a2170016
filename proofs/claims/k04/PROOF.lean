import PyProof.Rows.All
import Wide.All
import OpenK.AllK
import Wide.FinOn
import HandS.ForMost
import HandS.IsInst
import HandS.Codes
import HandS.TupAny
import HandS.Deep
import HandS.Walk
import HandS.Conv
import HandS.More
import HandS.CallLocal
import HandS.Zip
import HandS.Small
import HandS.OwnEq
import HandS.ForExc
import HandS.ExcInit
import HandS.ExcField
import HandS.ExcIs
import HandS.TryMany
import KE.KExcIs
import KE.RegKIsAll
import HandS.Style
import PySem.Challenge.RW_copybooks_k04_kinds_and_marks
set_option Elab.async false
set_option linter.all false
set_option maxRecDepth 100000
set_option maxHeartbeats 4000000
namespace My
open PySem L2
def top (i : Nat) : Stmt := PySem.Challenge.pw_copybooks_k04_kinds_and_marks.main.body.getD i (.Pass ⟨0, 0, 0, 0⟩)
abbrev s_l_pool : Stmt := top 36
abbrev s_l_draw : Stmt := top 37
abbrev s_l_one : Stmt := top 38
theorem sc_l_pool : FnScope [] [] (defScope s_l_pool) := ⟨rfl, rfl, rfl, by decide +kernel, rfl, by decide +kernel, by decide +kernel⟩
theorem sc_l_draw : FnScope ["_law_script", "_law_pool_here", "_law_limit", "_law_value", "_law_cell", "_law_one_here", "_law_two"] ["_law_script", "_law_pool_here", "_law_limit"] (defScope s_l_draw) := ⟨rfl, rfl, rfl, by decide +kernel, rfl, by decide +kernel, by decide +kernel⟩
theorem sc_l_one : FnScope ["_law_script", "_law_pool_here", "_law_row"] ["_law_script", "_law_pool_here", "_law_row"] (defScope s_l_one) := ⟨rfl, rfl, rfl, by decide +kernel, rfl, by decide +kernel, by decide +kernel⟩
/-! ### what stands where -/
structure DefT (K : PySem.W.Frag) (mg : Str → Option Value) (x qual : Str) (st : Stmt) (ps : List Str) (f : Addr) (fd : FuncData) : Prop where
  m : mg x = some (.ref f)
  F : Fun K x qual st f fd
  b : Binds K fd ps []
structure Zs (mg : Str → Option Value) : Prop where
  int : mg "int" = none
  len : mg "len" = none
  range : mg "range" = none
  isinstance : mg "isinstance" = none
  bool : mg "bool" = none
  str : mg "str" = none
  tuple : mg "tuple" = none
  list : mg "list" = none
  all : mg "all" = none
  enumerate : mg "enumerate" = none
  zip : mg "zip" = none
/-! ### the pool of draws -/
def Pool (H : Hp) (p : Addr) : Prop := ∃ x0 x1 x2 x3 : Int, 0 ≤ x1 ∧ H p = some (.lst [.int x0, .int x1, .int x2, .int x3])
/-- all but the pool is kept -/
structure Kp (p : Addr) (H H' : Hp) : Prop where
  keep : ∀ b o, b ≠ p → H b = some o → H' b = some o
  pool : Pool H' p
theorem Kp.trans {p : Addr} {H H1 H2 : Hp} (a : Kp p H H1) (b : Kp p H1 H2) : Kp p H H2 := ⟨fun c o n h => b.keep c o n (a.keep c o n h), b.pool⟩
theorem Kp.refl {p : Addr} {H : Hp} (h : Pool H p) : Kp p H H := ⟨fun _ _ _ h => h, h⟩
theorem Pool.put {H : Hp} {p : Addr} {x0 x1 x2 x3 : Int} (h : 0 ≤ x1) : Kp p H (upd H p (.lst [.int x0, .int x1, .int x2, .int x3])) := ⟨fun b o n e => by rw [upd_ne n]; exact e, x0, x1, x2, x3, h, upd_same⟩
theorem Kp.new {p q : Addr} {H H' : Hp} {o : HO} (k : Kp p H H') (hq : H' q = none) : Kp p H (upd H' q o) := ⟨fun b u n e => by
  have e' := k.keep b u n e
  rw [upd_ne (ne_of_none e' hq)]
  exact e', by
  obtain ⟨x0, x1, x2, x3, h, e⟩ := k.pool
  exact ⟨x0, x1, x2, x3, h, by rw [upd_ne (ne_of_none e hq)]; exact e⟩⟩
/-- a list that is not the pool -/
structure Row (K : PySem.W.Frag) (H : Hp) (a p : Addr) (xs : List V) : Prop where
  seq : ∀ H', Kp p H H' → SqL K H' a xs
theorem Row.on {K : PySem.W.Frag} {H H' : Hp} {a p : Addr} {xs : List V} (s : Row K H a p xs) (k : Kp p H H') : Row K H' a p xs := ⟨fun H2 k2 => s.seq H2 (k.trans k2)⟩
theorem Row.of {K : PySem.W.Frag} {H : Hp} {a p : Addr} {xs : List V} (h : H a = some (.lst xs)) (n : a ≠ p) : Row K H a p xs := ⟨fun _ k => SqL.of (k.keep _ _ n h)⟩
abbrev Scr (K : PySem.W.Frag) (H : Hp) (a p : Addr) (ns : List Int) : Prop := Row K H a p (ns.map V.int)
def spDraw (K : PySem.W.Frag) : Sp := fun vs H Q _ => ∃ (a p : Addr) (ns : List Int) (m : Int), vs = [.ref a, .ref p, .int m] ∧ Scr K H a p ns ∧ Pool H p ∧ 0 < m ∧ m < 1073741824 ∧
  ∀ (r : Int) (H' : Hp), 0 ≤ r → r < m → Kp p H H' → Q (.int r) H'
section
variable {P : Program} {w : World} {K : PySem.W.Frag} {mg : Str → Option Value} {base : Heap}
theorem mod_in {a m : Int} (h : 0 < m) : 0 ≤ a.fmod m ∧ a.fmod m < m := ⟨Int.fmod_nonneg_of_pos a h, Int.fmod_lt_of_pos a h⟩
theorem n29 : (2147483629 : Int) ≠ 0 := by decide
theorem n26 : (26 : Int) ≠ 0 := by decide
theorem n47 : (2147483647 : Int) ≠ 0 := by decide
theorem at_map {ns : List Int} {k : Int} (h0 : 0 ≤ k) (h : k < (ns.length : Int)) : ∃ v : Int, atI (ns.map V.int) k = some (.int v) := by
  have hk : k.toNat < ns.length := by omega
  have ek : k = ((k.toNat : Nat) : Int) := by omega
  have q : atI (ns.map V.int) ((k.toNat : Nat) : Int) = some (.int ns[k.toNat]) := atI_nat (by rw [List.getElem?_map, List.getElem?_eq_getElem hk] <;> rfl)
  rw [← ek] at q
  exact ⟨_, q⟩
theorem ok_draw {f : Addr} {fd : FuncData} (D : DefT K mg "_law_draw" "_law_draw" s_l_draw ["_law_script", "_law_pool_here", "_law_limit"] f fd) (Z : Zs mg) : FnOk P w K mg base CX0 1 f fd ["_law_script", "_law_pool_here", "_law_limit"] (spDraw K) := by
  refine D.F.ok sc_l_draw (fun vs H Q E h => ?_) (fun cdv A outer s H vs Q E hr h => ?_)
  · obtain ⟨a, p, ns, m, rfl, _⟩ := h
    rfl
  obtain ⟨a, p, ns, m, rfl, hS, ⟨x0, x1, x2, x3, h1, hp⟩, hm, hm2, q⟩ := h
  refine ⟨_, (pss_cons (ps_asg (pe_op op_add (pe_ix ix_list (pv 1) pe_int (fun _ _ => rfl)) pe_int) (pg_sub (pv 1) pe_int set_list)) (pss_cons (ps_if (pt_cmpR op_ge (pe_ix ix_list (pv 1) pe_int (fun _ _ => rfl)) (pv 2) (nomark _)) (pss_cons (ps_set (i := 3) sc_l_draw.nd rfl (Or.inl rfl) (pe_op op_modN (pe_callTy call_int1 (by rfl) Z.int (by decide +kernel) (pa_cons (pe_ix ix_list (pv 1) pe_int (fun _ _ => rfl)) pa_nil)) (pv 2))) (pss_cons (ps_asg (pe_op op_fdivN (pe_ix ix_list (pv 1) pe_int (fun _ _ => rfl)) (pv 2)) (pg_sub (pv 1) pe_int set_list)) (pss_one (ps_ret (pv 3))))) pss_nil) (C8.pss_cut (ps_if (pt_cmpR op_lt (pe_ix ix_list (pv 1) pe_int (fun _ _ => rfl)) (pe_callB call_len_seq (by rfl) Z.len (by decide +kernel) (pa_cons (pv 0) pa_nil)) (nomark _)) (pss_cons (ps_set (i := 4) sc_l_draw.nd rfl (Or.inl rfl) (pe_ix ix_list (pv 0) (pe_ix ix_list (pv 1) pe_int (fun _ _ => rfl)) (fun _ _ => rfl))) (pss_cons (ps_asg (pe_op op_add (pe_ix ix_list (pv 1) pe_int (fun _ _ => rfl)) pe_int) (pg_sub (pv 1) pe_int set_list)) (pss_cons (ps_if (pt_cmpR op_ge (pv 4) (pe_op op_pow pe_int pe_int) (nomark _)) (pss_cons (ps_asg (pe_op op_fdivN (pv 4) (pv 2)) (pg_sub (pv 1) pe_int set_list)) (pss_one (ps_ret (pe_op op_modN (pe_callTy call_int1 (by rfl) Z.int (by decide +kernel) (pa_cons (pv 4) pa_nil)) (pv 2))))) pss_nil) (pss_one (ps_asg (pe_op op_modN (pe_callTy call_int1 (by rfl) Z.int (by decide +kernel) (pa_cons (pe_op op_add (pe_op op_add (pe_op op_mul (pe_ix ix_list (pv 1) pe_int (fun _ _ => rfl)) pe_int) (pe_op op_modN (pe_callTy call_int1 (by rfl) Z.int (by decide +kernel) (pa_cons (pv 4) pa_nil)) pe_int)) pe_int) pa_nil)) pe_int) (pg_sub (pv 1) pe_int set_list)))))) pss_nil) (pss_cons (ps_set (i := 5) sc_l_draw.nd rfl (Or.inl rfl) (pe_op op_modN (pe_callTy call_int1 (by rfl) Z.int (by decide +kernel) (pa_cons (pe_op op_add (pe_op op_add (pe_op op_mul (pe_ix ix_list (pv 1) pe_int (fun _ _ => rfl)) pe_int) (pe_op op_mul (pe_ix ix_list (pv 1) pe_int (fun _ _ => rfl)) pe_int)) pe_int) pa_nil)) pe_int)) (pss_cons (ps_set (i := 6) sc_l_draw.nd rfl (Or.inl rfl) (pe_op op_modN (pe_callTy call_int1 (by rfl) Z.int (by decide +kernel) (pa_cons (pe_op op_add (pe_op op_mul (pv 5) (pe_op op_add (pe_op op_fdivN (pv 5) pe_int) pe_int)) (pe_op op_mul (pe_ix ix_list (pv 1) pe_int (fun _ _ => rfl)) pe_int)) pa_nil)) pe_int)) (pss_one (ps_ret (pe_op op_modN (pe_callTy call_int1 (by rfl) Z.int (by decide +kernel) (pa_cons (pe_op op_fdivN (pv 6) pe_int) pa_nil)) (pv 2))))))))), ?_⟩
  have hm0 : m ≠ 0 := by omega
  have hmA : m.natAbs < 1073741824 := by omega
  -- pool[2] = pool[2] + 1
  refine ⟨_, rfl, p, _, _, _, rfl, rfl, SqL.of hp, rfl, _, _, rfl, rfl, _, rfl, p, _, _, _, rfl, rfl, hp, rfl, ?_⟩
  -- if pool[0] >= limit
  refine ⟨_, rfl, p, _, _, _, rfl, rfl, SqL.of upd_same, rfl, _, rfl, _, _, rfl, rfl, _, rfl, ?_⟩
  refine ite2 (fun _ => ?_) (fun _ => ?_)
  · refine ⟨_, rfl, p, _, _, _, rfl, rfl, SqL.of upd_same, rfl, .inl ⟨_, rfl, ?_⟩⟩
    refine ⟨_, rfl, _, _, rfl, rfl, hm0, ?_⟩
    refine ⟨_, rfl, p, _, _, _, rfl, rfl, SqL.of upd_same, rfl, _, rfl, _, _, rfl, rfl, ⟨hm0, hmA⟩, _, rfl, p, _, _, _, rfl, rfl, upd_same, rfl, ?_⟩
    refine ⟨_, rfl, ?_⟩
    exact q _ _ (mod_in hm).1 (mod_in hm).2 (by rw [upd_upd]; exact Pool.put h1)
  have hl : (ns.map V.int).length = ns.length := List.length_map _
  have hS' : ∀ l' : List V, (∃ y0 y1 y2 y3 : Int, 0 ≤ y1 ∧ l' = [.int y0, .int y1, .int y2, .int y3]) → SqL K (upd H p (.lst l')) a (ns.map V.int) := by
    rintro _ ⟨y0, y1, y2, y3, hy, rfl⟩
    exact hS.seq _ (Pool.put hy)
  -- if pool[1] < len(script)
  refine ⟨fun σ' H' => ∃ (y0 y1 y2 y3 : Int) (v : Option V), 0 ≤ y1 ∧ σ' = [some (.ref a), some (.ref p), some (.int m), none, v, none, none] ∧ H' = upd H p (.lst [.int y0, .int y1, .int y2, .int y3]), ?_, ?_⟩
  case refine_1 =>
   refine ⟨_, rfl, p, _, _, _, rfl, rfl, SqL.of upd_same, rfl, _, rfl, a, _, rfl, .inl (hS' _ ⟨_, _, _, _, h1, rfl⟩), _, _, rfl, rfl, _, rfl, ?_⟩
   refine ite2 (fun c => ?_) (fun _ => ?_)
   · have c' : x1 < (((ns.map V.int).length : Nat) : Int) := of_decide_eq_true c
     rw [hl] at c'
     obtain ⟨z, hz⟩ := at_map h1 c'
     refine ⟨_, rfl, _, rfl, p, _, _, _, rfl, rfl, SqL.of upd_same, rfl, a, _, _, _, rfl, rfl, hS' _ ⟨_, _, _, _, h1, rfl⟩, hz, ?_⟩
     refine ⟨_, rfl, p, _, _, _, rfl, rfl, SqL.of upd_same, rfl, _, _, rfl, rfl, _, rfl, p, _, _, _, rfl, rfl, upd_same, rfl, ?_⟩
     refine ⟨_, rfl, _, _, rfl, rfl, ⟨by decide, by decide, by decide⟩, _, _, rfl, rfl, _, rfl, ?_⟩
     refine ite2 (fun _ => ?_) (fun _ => ?_)
     · refine ⟨_, rfl, _, rfl, _, _, rfl, rfl, ⟨hm0, hmA⟩, _, rfl, p, _, _, _, rfl, rfl, upd_same, rfl, ?_⟩
       refine ⟨_, rfl, .inl ⟨_, rfl, ?_⟩⟩
       refine ⟨_, rfl, _, _, rfl, rfl, hm0, ?_⟩
       exact q _ _ (mod_in hm).1 (mod_in hm).2 (by rw [upd_upd, upd_upd]; exact Pool.put (by show (0 : Int) ≤ x1 + 1; omega))
     · refine ⟨_, rfl, p, _, _, _, rfl, rfl, SqL.of upd_same, rfl, _, _, rfl, rfl, .inr ⟨by decide, by decide⟩, _, rfl, .inl ⟨_, rfl, _, _, rfl, rfl, n29, _, _, rfl, rfl, _, _, rfl, rfl, .inl ⟨_, rfl, _, _, rfl, rfl, n47, ?_⟩⟩⟩
       refine ⟨_, rfl, p, _, _, _, rfl, rfl, upd_same, rfl, ?_⟩
       refine ⟨_, _, _, _, _, ?_, rfl, by rw [upd_upd, upd_upd] <;> rfl⟩
       show (0 : Int) ≤ x1 + 1
       omega
   · exact ⟨_, _, _, _, _, h1, rfl, rfl⟩
  case refine_2 =>
   rintro _ _ ⟨y0, y1, y2, y3, v, hy, rfl, rfl⟩
   refine ⟨_, rfl, p, _, _, _, rfl, rfl, SqL.of upd_same, rfl, _, _, rfl, rfl, .inr ⟨by decide, by decide⟩, _, rfl, p, _, _, _, rfl, rfl, SqL.of upd_same, rfl, _, _, rfl, rfl, .inr ⟨by decide, by decide⟩, _, _, rfl, rfl, _, _, rfl, rfl, .inl ⟨_, rfl, _, _, rfl, rfl, n47, ?_⟩⟩
   have zb := mod_in (a := (y3 * 48271 + y2 * 1103515245 + 12345)) (m := 2147483647) (by decide)
   refine ⟨_, rfl, _, rfl, _, _, rfl, rfl, ⟨by decide, by decide⟩, _, _, rfl, rfl, _, _, rfl, rfl, .inl ⟨by omega, by omega⟩, _, rfl, p, _, _, _, rfl, rfl, SqL.of upd_same, rfl, _, _, rfl, rfl, .inr ⟨by decide, by decide⟩, _, _, rfl, rfl, .inl ⟨_, rfl, _, _, rfl, rfl, n29, ?_⟩⟩
   refine ⟨_, rfl, _, _, rfl, rfl, ⟨by decide, by decide⟩, .inl ⟨_, rfl, _, rfl, _, _, rfl, rfl, hm0, ?_⟩⟩
   exact q _ _ (mod_in hm).1 (mod_in hm).2 (Pool.put hy)
def spPool : Sp := fun vs H Q _ => vs = [] ∧ ∀ p H', Same H H' → H p = none → Pool H' p → (∀ b, b ≠ p → H' b = H b) → Q (.ref p) H'
theorem ok_pool {f : Addr} {fd : FuncData} (D : DefT K mg "_law_pool" "_law_pool" s_l_pool [] f fd) : FnOk P w K mg base CX0 1 f fd [] spPool := by
  refine D.F.ok sc_l_pool (fun vs H Q E h => ?_) (fun cdv A outer s H vs Q E hr h => ?_)
  · obtain ⟨rfl, _⟩ := h
    rfl
  obtain ⟨rfl, q⟩ := h
  refine ⟨_, (pss_one (ps_ret (pe_lst (pa_cons pe_int (pa_cons pe_int (pa_cons pe_int (pa_cons pe_int pa_nil))))))), ?_⟩
  exact ⟨(by show 4 ≤ sizeLine; decide), fun p hp => q p _ (fun b o e => by rw [upd_ne (ne_of_none e hp)]; exact e) hp ⟨0, 0, 0, 1, by decide, upd_same⟩ fun b n => upd_ne n⟩
/-- an item of a row that is not empty -/
def spOne (K : PySem.W.Frag) : Sp := fun vs H Q _ => ∃ (a p r : Addr) (ns : List Int) (xs : List V), vs = [.ref a, .ref p, .ref r] ∧ Scr K H a p ns ∧ Row K H r p xs ∧ Pool H p ∧ 0 < xs.length ∧ xs.length < 1073741824 ∧
  ∀ (i : Nat) (x : V) (H' : Hp), xs[i]? = some x → Kp p H H' → Q x H'
theorem ok_one {f fD : Addr} {fd fdD : FuncData} (D : DefT K mg "_law_one" "_law_one" s_l_one ["_law_script", "_law_pool_here", "_law_row"] f fd) (Z : Zs mg) (D_l_draw : DefT K mg "_law_draw" "_law_draw" s_l_draw ["_law_script", "_law_pool_here", "_law_limit"] fD fdD) : FnOk P w K mg base CX0 2 f fd ["_law_script", "_law_pool_here", "_law_row"] (spOne K) := by
  have G_l_draw := ok_draw (P := P) (w := w) (base := base) D_l_draw Z
  refine D.F.ok sc_l_one (fun vs H Q E h => ?_) (fun cdv A outer s H vs Q E hr h => ?_)
  · obtain ⟨a, p, r, ns, xs, rfl, _⟩ := h
    rfl
  obtain ⟨a, p, r, ns, xs, rfl, hS, hR, hP, h0, h1, q⟩ := h
  refine ⟨_, (pss_one (ps_ret (pe_ix ix_list (pv 2) (pe_call G_l_draw (hr.mono (by decide)) rfl D_l_draw.m D_l_draw.F.kp D_l_draw.b .nil pass0 (pa_cons (pv 0) (pa_cons (pv 1) (pa_cons (pe_callB call_len_seq (by rfl) Z.len (by decide +kernel) (pa_cons (pv 2) pa_nil)) pa_nil)))) (fun _ _ => rfl)))), ?_⟩
  refine ⟨_, rfl, _, rfl, _, rfl, _, rfl, r, xs, rfl, .inl (hR.seq _ (.refl hP)), a, p, ns, _, rfl, hS, hP, by omega, by omega, fun i H' i0 i1 k => ?_⟩
  have hi : i.toNat < xs.length := by omega
  have e : i = ((i.toNat : Nat) : Int) := by omega
  have hx : xs[i.toNat]? = some xs[i.toNat] := List.getElem?_eq_getElem hi
  refine ⟨r, xs, i, xs[i.toNat], rfl, rfl, hR.seq _ k, ?_, q _ _ _ hx k⟩
  have e2 := atI_nat hx
  rw [← e] at e2
  exact e2
end
end My

namespace My
open PySem L2
abbrev s_l_maybe : Stmt := top 39
abbrev s_l_word : Stmt := top 40
abbrev s_l_name : Stmt := top 41
abbrev s_l_names : Stmt := top 42
theorem sc_l_maybe : FnScope ["_law_script", "_law_pool_here", "_law_row"] ["_law_script", "_law_pool_here", "_law_row"] (defScope s_l_maybe) := ⟨rfl, rfl, rfl, by decide +kernel, rfl, by decide +kernel, by decide +kernel⟩
theorem sc_l_word : FnScope ["_law_script", "_law_pool_here", "_law_size", "_law_number", "_law_rest", "_law_word_here", "_law_k"] ["_law_script", "_law_pool_here"] (defScope s_l_word) := ⟨rfl, rfl, rfl, by decide +kernel, rfl, by decide +kernel, by decide +kernel⟩
theorem sc_l_name : FnScope ["_law_script", "_law_pool_here", "_law_taken", "_law_others", "_law_word_here", "_law_k", "_law_near"] ["_law_script", "_law_pool_here", "_law_taken", "_law_others"] (defScope s_l_name) := ⟨rfl, rfl, rfl, by decide +kernel, rfl, by decide +kernel, by decide +kernel⟩
theorem sc_l_names : FnScope ["_law_script", "_law_pool_here", "_law_size", "_law_others", "_law_names_here", "_law_k"] ["_law_script", "_law_pool_here", "_law_size", "_law_others"] (defScope s_l_names) := ⟨rfl, rfl, rfl, by decide +kernel, rfl, by decide +kernel, by decide +kernel⟩
theorem sz (n : Nat) (h : n ≤ 1000 := by decide) : n ≤ sizeLine := Nat.le_of_lt (small1000 h)
theorem keep_new {H : Hp} {q : Addr} {o : HO} (h : H q = none) (b : Addr) (u : HO) (e : H b = some u) : upd H q o b = some u := by
  rw [upd_ne (ne_of_none e h)]
  exact e
theorem Kp.ne {p q : Addr} {H H' : Hp} (k : Kp p H H') (h : H' q = none) : q ≠ p := by
  obtain ⟨_, _, _, _, _, e⟩ := k.pool
  exact (ne_of_none e h).symm
theorem Kp.put {p q : Addr} {H H' : Hp} {o : HO} (k : Kp p H H') (hq : H q = none) (n : q ≠ p) : Kp p H (upd H' q o) := ⟨fun b u nb e => by
  rw [upd_ne (ne_of_none e hq)]
  exact k.keep b u nb e, by
  obtain ⟨x0, x1, x2, x3, h, e⟩ := k.pool
  exact ⟨x0, x1, x2, x3, h, by rw [upd_ne (Ne.symm n)]; exact e⟩⟩
theorem Kp.free {p q : Addr} {H H' : Hp} (k : Kp p H H') (h : H' q = none) : H q = none := by
  have n := k.ne h
  cases e : H q with
  | none => rfl
  | some o =>
    have := k.keep _ _ n e
    rw [h] at this
    cases this
/-! ### names -/
/-- a name: 1 to 8 letters -/
def Nm (s : Str) : Prop := 1 ≤ s.length ∧ s.length ≤ 8 ∧ ∀ c ∈ s.cps.toList, 97 ≤ c ∧ c ≤ 122
theorem str_len (s : Str) : s.length = s.cps.toList.length := by
  unfold Str.length
  exact (Array.length_toList).symm
theorem cat_codes (a b : Str) : (a ++ b).cps.toList = a.cps.toList ++ b.cps.toList := by
  show (a.cps ++ b.cps).toList = _
  exact Array.toList_append
theorem cat_len (a b : Str) : (a ++ b).length = a.length + b.length := by
  rw [str_len, cat_codes, List.length_append, ← str_len, ← str_len]
theorem str_ext {a b : Str} (h : a.cps.toList = b.cps.toList) : a = b := by
  obtain ⟨x⟩ := a
  obtain ⟨y⟩ := b
  have e : x = y := by
    apply Array.ext'
    exact h
  rw [e]
theorem abc_nat : ∀ n : Fin 26, ("abcdefghijklmnopqrstuvwxyz" : Str).cps.toList[n.val]? = some (97 + n.val) := by decide +kernel
theorem abc_at {i : Int} (h0 : 0 ≤ i) (h1 : i < 26) : atI ("abcdefghijklmnopqrstuvwxyz" : Str).cps.toList i = some (97 + i.toNat) := by
  have hn : i.toNat < 26 := by omega
  have e := atI_nat (abc_nat ⟨i.toNat, hn⟩)
  have ei : ((i.toNat : Nat) : Int) = i := by omega
  rw [show (((⟨i.toNat, hn⟩ : Fin 26).val : Nat) : Int) = i from ei] at e
  exact e
theorem eqV_str (a b : Str) : eqV (.str a) (.str b) = (a == b) := rfl
theorem in_strs (w : Str) : ∀ ts : List Str, inV (.str w) (ts.map V.str) = decide (w ∈ ts)
  | [] => by
    rw [decide_eq_false (by simp)]
    rfl
  | t :: ts => by
    show (eqV (.str t) (.str w) || inV (.str w) (ts.map V.str)) = _
    rw [in_strs w ts, eqV_str]
    by_cases e : t = w
    · subst e
      simp
    · have e1 : (t == w) = false := by simpa using e
      have e2 : decide (w ∈ t :: ts) = decide (w ∈ ts) := by
        by_cases m : w ∈ ts
        · rw [decide_eq_true m, decide_eq_true (List.mem_cons_of_mem _ m)]
        · rw [decide_eq_false m, decide_eq_false (fun z => by
            rcases List.mem_cons.mp z with z | z
            · exact e z.symm
            · exact m z)]
      rw [e1, e2]
      rfl
theorem flat_strs (ts : List Str) : (ts.map V.str).all flatV = true := by
  rw [List.all_eq_true]
  intro x hx
  obtain ⟨s, _, rfl⟩ := List.mem_map.mp hx
  rfl
/-- a list without doubles in another one is not longer -/
theorem nodup_le {α : Type} [DecidableEq α] : ∀ {xs ys : List α}, xs.Nodup → (∀ x ∈ xs, x ∈ ys) → xs.length ≤ ys.length
  | [], _, _, _ => Nat.zero_le _
  | x :: xs, ys, hn, hm => by
    have hx := hm x List.mem_cons_self
    have hn' := List.nodup_cons.mp hn
    have q := nodup_le (xs := xs) (ys := ys.erase x) hn'.2 fun z hz => by
      have nz : z ≠ x := fun e => hn'.1 (e ▸ hz)
      exact (List.mem_erase_of_ne nz).mpr (hm z (List.mem_cons_of_mem _ hz))
    rw [List.length_erase_of_mem hx] at q
    have : 0 < ys.length := List.length_pos_of_mem hx
    show xs.length + 1 ≤ ys.length
    omega
def spMaybe (K : PySem.W.Frag) : Sp := fun vs H Q _ => ∃ (a p r : Addr) (ns : List Int) (xs : List V), vs = [.ref a, .ref p, .ref r] ∧ Scr K H a p ns ∧ Row K H r p xs ∧ Pool H p ∧ 0 < xs.length ∧ xs.length < 1073741824 ∧
  ∀ (x : V) (H' : Hp), (x = .non ∨ x ∈ xs) → Kp p H H' → Q x H'
def spWord (K : PySem.W.Frag) : Sp := fun vs H Q _ => ∃ (a p : Addr) (ns : List Int), vs = [.ref a, .ref p] ∧ Scr K H a p ns ∧ Pool H p ∧ ∀ (s : Str) (H' : Hp), Nm s → Kp p H H' → Q (.str s) H'
def spName (K : PySem.W.Frag) : Sp := fun vs H Q _ => ∃ (a p t o : Addr) (ns : List Int) (ts os : List Str), vs = [.ref a, .ref p, .ref t, .ref o] ∧ Scr K H a p ns ∧ Pool H p ∧ Row K H t p (ts.map V.str) ∧ Row K H o p (os.map V.str) ∧ os.length < 1000 ∧ (∀ s ∈ os, Nm s) ∧ ts.length ≤ 25 ∧
  ∀ (s : Str) (H' : Hp), Nm s → s ∉ ts → Kp p H H' → Q (.str s) H'
def spNames (K : PySem.W.Frag) : Sp := fun vs H Q _ => ∃ (a p o : Addr) (ns : List Int) (m : Nat) (os : List Str), vs = [.ref a, .ref p, .int (m : Int), .ref o] ∧ Scr K H a p ns ∧ Pool H p ∧ Row K H o p (os.map V.str) ∧ os.length < 1000 ∧ (∀ s ∈ os, Nm s) ∧ m ≤ 25 ∧
  ∀ (l : Addr) (ss : List Str) (H' : Hp), ss.length = m → ss.Nodup → (∀ s ∈ ss, Nm s) → H l = none → H' l = some (.lst (ss.map V.str)) → Kp p H H' → Q (.ref l) H'
section
variable {P : Program} {w : World} {K : PySem.W.Frag} {mg : Str → Option Value} {base : Heap}
theorem ok_maybe {f fD fO : Addr} {fd fdD fdO : FuncData} (D : DefT K mg "_law_maybe" "_law_maybe" s_l_maybe ["_law_script", "_law_pool_here", "_law_row"] f fd) (Z : Zs mg) (D_l_draw : DefT K mg "_law_draw" "_law_draw" s_l_draw ["_law_script", "_law_pool_here", "_law_limit"] fD fdD)
    (D_l_one : DefT K mg "_law_one" "_law_one" s_l_one ["_law_script", "_law_pool_here", "_law_row"] fO fdO) : FnOk P w K mg base CX0 3 f fd ["_law_script", "_law_pool_here", "_law_row"] (spMaybe K) := by
  have G_l_draw := ok_draw (P := P) (w := w) (base := base) D_l_draw Z
  have G_l_one := ok_one (P := P) (w := w) (base := base) D_l_one Z D_l_draw
  refine D.F.ok sc_l_maybe (fun vs H Q E h => ?_) (fun cdv A outer s H vs Q E hr h => ?_)
  · obtain ⟨a, p, r, ns, xs, rfl, _⟩ := h
    rfl
  obtain ⟨a, p, r, ns, xs, rfl, hS, hR, hP, h0, h1, q⟩ := h
  refine ⟨_, (pss_cons (ps_if (pt_cmpR op_eq (pe_call G_l_draw (hr.mono (by decide)) rfl D_l_draw.m D_l_draw.F.kp D_l_draw.b .nil pass0 (pa_cons (pv 0) (pa_cons (pv 1) (pa_cons pe_int pa_nil)))) pe_int (nomark _)) (pss_one (ps_ret pe_non)) pss_nil) (pss_one (ps_ret (pe_call G_l_one (hr.mono (by decide)) rfl D_l_one.m D_l_one.F.kp D_l_one.b .nil pass0 (pa_cons (pv 0) (pa_cons (pv 1) (pa_cons (pv 2) pa_nil))))))), ?_⟩
  refine ⟨_, rfl, _, rfl, a, p, ns, _, rfl, hS, hP, by decide, by decide, fun i H' i0 i1 k => ?_⟩
  refine ⟨rfl, _, rfl, ite2 (fun _ => q _ _ (.inl rfl) k) (fun _ => ?_)⟩
  exact ⟨_, rfl, _, rfl, _, rfl, a, p, r, ns, xs, rfl, hS.on k, hR.on k, k.pool, h0, h1, fun i x H2 hx k2 => q _ _ (.inr (List.mem_of_getElem? hx)) (k.trans k2)⟩
theorem ok_word {f fD : Addr} {fd fdD : FuncData} (D : DefT K mg "_law_word" "_law_word" s_l_word ["_law_script", "_law_pool_here"] f fd) (Z : Zs mg) (D_l_draw : DefT K mg "_law_draw" "_law_draw" s_l_draw ["_law_script", "_law_pool_here", "_law_limit"] fD fdD) : FnOk P w K mg base CX0 2 f fd ["_law_script", "_law_pool_here"] (spWord K) := by
  have G_l_draw := ok_draw (P := P) (w := w) (base := base) D_l_draw Z
  refine D.F.ok sc_l_word (fun vs H Q E h => ?_) (fun cdv A outer s H vs Q E hr h => ?_)
  · obtain ⟨a, p, ns, rfl, _⟩ := h
    rfl
  obtain ⟨a, p, ns, rfl, hS, hP, q⟩ := h
  refine ⟨_, (pss_cons (ps_set (i := 2) sc_l_word.nd rfl (Or.inl rfl) (pe_op op_add pe_int (pe_call G_l_draw (hr.mono (by decide)) rfl D_l_draw.m D_l_draw.F.kp D_l_draw.b .nil pass0 (pa_cons (pv 0) (pa_cons (pv 1) (pa_cons pe_int pa_nil)))))) (pss_cons (ps_set (i := 3) sc_l_word.nd rfl (Or.inl rfl) (pe_call G_l_draw (hr.mono (by decide)) rfl D_l_draw.m D_l_draw.F.kp D_l_draw.b .nil pass0 (pa_cons (pv 0) (pa_cons (pv 1) (pa_cons pe_int pa_nil))))) (pss_cons (ps_set (i := 4) sc_l_word.nd rfl (Or.inl rfl) (pe_call G_l_draw (hr.mono (by decide)) rfl D_l_draw.m D_l_draw.F.kp D_l_draw.b .nil pass0 (pa_cons (pv 0) (pa_cons (pv 1) (pa_cons pe_int pa_nil))))) (pss_cons (ps_set (i := 5) sc_l_word.nd rfl (Or.inl rfl) pe_str) (pss_cons (ps_for PassesOwn.never rfl (pi_range1 rfl Z.range (pa_cons (pv 2) pa_nil)) (pg_name (i := 6) sc_l_word.nd rfl (Or.inl rfl)) (C8.pss_cut (ps_if (pt_cmpR op_eq (pv 6) pe_int (nomark _)) (pss_one (ps_set (i := 3) sc_l_word.nd rfl (Or.inl rfl) (pv 4))) pss_nil) (pss_cons (ps_set (i := 5) sc_l_word.nd rfl (Or.inl rfl) (pe_op op_add_str (pv 5) (pe_ix ix_str pe_str (pe_op op_modN (pe_callTy call_int1 (by rfl) Z.int (by decide +kernel) (pa_cons (pv 3) pa_nil)) pe_int) (fun _ _ => rfl)))) (pss_one (ps_set (i := 3) sc_l_word.nd rfl (Or.inl rfl) (pe_op op_fdivN (pv 3) pe_int)))))) (pss_one (ps_ret (pv 5)))))))), ?_⟩
  refine ⟨_, rfl, _, rfl, a, p, ns, _, rfl, hS, hP, by decide, by decide, fun n H1 n0 n1 k1 => ?_⟩
  refine ⟨_, _, rfl, rfl, ?_⟩
  refine ⟨_, rfl, _, rfl, a, p, ns, _, rfl, hS.on k1, k1.pool, by decide, by decide, fun x H2 _ _ k2 => ?_⟩
  have k12 := k1.trans k2
  refine ⟨_, rfl, _, rfl, a, p, ns, _, rfl, hS.on k12, k2.pool, by decide, by decide, fun y H3 _ _ k3 => ?_⟩
  have k13 := k12.trans k3
  refine ⟨_, rfl, _, rfl, by omega, by omega, ?_⟩
  have en : (1 + n).toNat = n.toNat + 1 := by omega
  refine for_range (fun i σ G => ∃ (x : Int) (z : Str) (v : Option V), σ = [some (.ref a), some (.ref p), some (.int (1 + n)), some (.int x), some (.int y), some (.str z), v] ∧ G = H3 ∧ i ≤ (1 + n).toNat ∧ z.length = i ∧ ∀ c ∈ z.cps.toList, 97 ≤ c ∧ c ≤ 122)
    ⟨x, "", none, rfl, rfl, Nat.zero_le _, by decide, fun c hc => by cases hc⟩ ?_ ?_
  · rintro i σ G hi ⟨x, z, v, rfl, rfl, _, hz, hc⟩
    refine ⟨fun σ' H' => ∃ x' : Int, σ' = [some (.ref a), some (.ref p), some (.int (1 + n)), some (.int x'), some (.int y), some (.str z), some (.int (0 + (i : Int)))] ∧ H' = G, ?_, ?_⟩
    · refine ⟨_, rfl, rfl, _, rfl, ite2 (fun _ => ?_) (fun _ => ?_)⟩
      · exact ⟨_, rfl, _, rfl, rfl⟩
      · exact ⟨_, rfl, rfl⟩
    rintro _ _ ⟨x', rfl, rfl⟩
    have mb := mod_in (a := x') (m := 26) (by decide)
    refine ⟨_, rfl, _, rfl, .inl ⟨_, rfl, _, _, rfl, rfl, n26, _, _, _, rfl, rfl, sz 26, abc_at mb.1 mb.2, _, _, rfl, rfl, ?_, ?_⟩⟩
    · show z.length + 1 ≤ sizeLine
      exact Nat.le_trans (show z.length + 1 ≤ 1000 by omega) (by decide)
    refine ⟨_, rfl, _, _, rfl, rfl, ⟨by decide, by decide⟩, ?_⟩
    refine ⟨_, _, _, rfl, rfl, by omega, ?_, fun c m => ?_⟩
    · rw [cat_len, hz]
      rfl
    · rw [cat_codes] at m
      rcases List.mem_append.mp m with m | m
      · exact hc c m
      · have e : c = 97 + (x'.fmod 26).toNat := by
          rcases List.mem_cons.mp m with e | e
          · exact e
          · cases e
        omega
  · rintro σ G ⟨x, z, v, rfl, rfl, _, hz, hc⟩
    exact ⟨_, rfl, q z _ ⟨by omega, by omega, hc⟩ k13⟩
/-- the word with another last letter -/
def near (w : Str) (k : Nat) : Str := cutS w none (some 7) ++ ⟨#[97 + k]⟩
theorem cut_codes (w : Str) : (cutS w none (some 7)).cps.toList = w.cps.toList.take 7 := by
  show ((w.cps.toList.drop 0).take (HT.sIx w.length w.length (some ((7 : Nat) : Int)) - 0)) = _
  rw [HT.sIx_nat, List.drop_zero, Nat.sub_zero, str_len, ← List.take_take, List.take_length]
theorem near_codes (w : Str) (k : Nat) : (near w k).cps.toList = w.cps.toList.take 7 ++ [97 + k] := by
  unfold near
  rw [cat_codes, cut_codes]
theorem near_nm {w : Str} (h : Nm w) {k : Nat} (hk : k < 26) : Nm (near w k) := by
  obtain ⟨_, _, h3⟩ := h
  have e := near_codes w k
  have el : (near w k).length = (w.cps.toList.take 7).length + 1 := by rw [str_len, e, List.length_append, List.length_singleton]
  have l7 : (w.cps.toList.take 7).length ≤ 7 := by rw [List.length_take]; omega
  refine ⟨by omega, by omega, fun c hc => ?_⟩
  rw [e] at hc
  rcases List.mem_append.mp hc with m | m
  · exact h3 c (List.mem_of_mem_take m)
  · rcases List.mem_cons.mp m with m | m
    · omega
    · cases m
theorem near_inj {w : Str} {j k : Nat} (h : near w j = near w k) : j = k := by
  have e : (near w j).cps.toList = (near w k).cps.toList := by rw [h]
  rw [near_codes, near_codes] at e
  have e2 := List.append_cancel_left e
  have e3 : 97 + j = 97 + k := (List.cons.inj e2).1
  omega
theorem near_all {w : Str} {ts : List Str} (h : ∀ j, j < 26 → near w j ∈ ts) : 26 ≤ ts.length := by
  have nd : ((List.range 26).map (near w)).Nodup := List.Pairwise.map _ (fun a b n e => n (near_inj e)) List.nodup_range
  have q := nodup_le nd fun x hx => by
    obtain ⟨j, hj, rfl⟩ := List.mem_map.mp hx
    exact h j (List.mem_range.mp hj)
  rw [List.length_map, List.length_range] at q
  exact q
theorem ok_name {f fD fO fW : Addr} {fd fdD fdO fdW : FuncData} (D : DefT K mg "_law_name" "_law_name" s_l_name ["_law_script", "_law_pool_here", "_law_taken", "_law_others"] f fd) (Z : Zs mg) (D_l_draw : DefT K mg "_law_draw" "_law_draw" s_l_draw ["_law_script", "_law_pool_here", "_law_limit"] fD fdD)
    (D_l_one : DefT K mg "_law_one" "_law_one" s_l_one ["_law_script", "_law_pool_here", "_law_row"] fO fdO) (D_l_word : DefT K mg "_law_word" "_law_word" s_l_word ["_law_script", "_law_pool_here"] fW fdW) : FnOk P w K mg base CX0 3 f fd ["_law_script", "_law_pool_here", "_law_taken", "_law_others"] (spName K) := by
  have G_l_draw := ok_draw (P := P) (w := w) (base := base) D_l_draw Z
  have G_l_one := ok_one (P := P) (w := w) (base := base) D_l_one Z D_l_draw
  have G_l_word := ok_word (P := P) (w := w) (base := base) D_l_word Z D_l_draw
  refine D.F.ok sc_l_name (fun vs H Q E h => ?_) (fun cdv A outer s H vs Q E hr h => ?_)
  · obtain ⟨a, p, t, o, ns, ts, os, rfl, _⟩ := h
    rfl
  obtain ⟨a, p, t, o, ns, ts, os, rfl, hS, hP, hT, hO, ol, hos, h25, q⟩ := h
  refine ⟨_, (pss_cons (ps_set (i := 4) sc_l_name.nd rfl (Or.inl rfl) (pe_call G_l_word (hr.mono (by decide)) rfl D_l_word.m D_l_word.F.kp D_l_word.b .nil pass0 (pa_cons (pv 0) (pa_cons (pv 1) pa_nil)))) (C8.pss_cut (ps_if (PW.pt (pw_and (pt_cmpR op_gt (pe_callB call_len_seq (by rfl) Z.len (by decide +kernel) (pa_cons (pv 3) pa_nil)) pe_int (nomark _)) (pw_and1 (pt_cmpR op_eq (pe_call G_l_draw (hr.mono (by decide)) rfl D_l_draw.m D_l_draw.F.kp D_l_draw.b .nil pass0 (pa_cons (pv 0) (pa_cons (pv 1) (pa_cons pe_int pa_nil)))) pe_int (nomark _))))) (pss_one (ps_set (i := 4) sc_l_name.nd rfl (Or.inl rfl) (pe_call G_l_one (hr.mono (by decide)) rfl D_l_one.m D_l_one.F.kp D_l_one.b .nil pass0 (pa_cons (pv 0) (pa_cons (pv 1) (pa_cons (pv 3) pa_nil)))))) pss_nil) (pss_cons (ps_if (pt_cmpR op_notIn_seq (pv 4) (pv 2) (by rfl)) (pss_one (ps_ret (pv 4))) pss_nil) (pss_cons (ps_for PassesOwn.never rfl (pi_range1 rfl Z.range (pa_cons pe_int pa_nil)) (pg_name (i := 5) sc_l_name.nd rfl (Or.inl rfl)) (pss_cons (ps_set (i := 6) sc_l_name.nd rfl (Or.inl rfl) (pe_op op_add_str (pe_slice sl_str (pv 4) po_none (po_some pe_int)) (pe_ix ix_str pe_str (pv 5) (fun _ _ => rfl)))) (pss_one (ps_if (pt_cmpR op_notIn_seq (pv 6) (pv 2) (by rfl)) (pss_one (ps_ret (pv 6))) pss_nil)))) (pss_one (ps_ret (pv 4))))))), ?_⟩
  refine ⟨_, rfl, _, rfl, a, p, ns, rfl, hS, hP, fun z H1 hz k1 => ?_⟩
  refine ⟨fun σ' H' => ∃ z' : Str, σ' = [some (.ref a), some (.ref p), some (.ref t), some (.ref o), some (.str z'), none, none] ∧ Nm z' ∧ Kp p H H', ?_, ?_⟩
  · refine ⟨_, rfl, o, _, rfl, .inl (hO.seq _ k1), _, _, rfl, rfl, _, rfl, ite2 (fun c => ?_) (fun _ => iteF ⟨_, rfl, hz, k1⟩)⟩
    have c' : (0 : Int) < (((os.map V.str).length : Nat) : Int) := of_decide_eq_true c
    rw [List.length_map] at c'
    refine ⟨_, rfl, _, rfl, a, p, ns, _, rfl, hS.on k1, k1.pool, by decide, by decide, fun r H2 _ _ k2 => ⟨rfl, _, rfl, ite2 (fun _ => ?_) (fun _ => ⟨_, rfl, hz, k1.trans k2⟩)⟩⟩
    have k12 := k1.trans k2
    refine ⟨_, rfl, _, rfl, _, rfl, a, p, o, ns, _, rfl, hS.on k12, hO.on k12, k2.pool, by rw [List.length_map]; omega, by rw [List.length_map]; omega, fun i x H3 hx k3 => ?_⟩
    obtain ⟨z2, hz2, rfl⟩ := List.mem_map.mp (List.mem_of_getElem? hx)
    exact ⟨_, rfl, hos _ hz2, k12.trans k3⟩
  rintro _ H2 ⟨z2, rfl, hz2, k2⟩
  refine ⟨_, rfl, _, rfl, t, _, rfl, .inl (hT.seq _ k2), rfl, flat_strs ts, _, rfl, ?_⟩
  rw [in_strs]
  refine ite2 (fun c => ?_) (fun c => ?_)
  · have nm : z2 ∉ ts := fun m => by
      rw [if_pos rfl, decide_eq_true m] at c
      cases c
    exact ⟨_, rfl, q _ _ hz2 nm k2⟩
  refine ⟨26, rfl, by decide, by decide, ?_⟩
  refine for_range (n := 26) (fun i σ G => ∃ v5 v6 : Option V, σ = [some (.ref a), some (.ref p), some (.ref t), some (.ref o), some (.str z2), v5, v6] ∧ G = H2 ∧ ∀ j, j < i → near z2 j ∈ ts)
    ⟨_, _, rfl, rfl, fun j hj => absurd hj (Nat.not_lt_zero _)⟩ ?_ ?_
  · rintro i σ G hi ⟨v5, v6, rfl, rfl, hn⟩
    have hl8 := hz2.2.1
    refine ⟨_, rfl, _, rfl, _, rfl, Nat.le_trans (show z2.length ≤ 1000 by omega) (by decide), _, rfl, _, _, _, rfl, rfl, sz 26, abc_at (by omega) (by omega), _, _, rfl, rfl, ?_, ?_⟩
    · have l7 : (cutS z2 none (some 7)).length ≤ 7 := by
        rw [str_len, cut_codes, List.length_take]
        omega
      show (cutS z2 none (some 7)).length + 1 ≤ sizeLine
      exact Nat.le_trans (show _ ≤ 1000 by omega) (by decide)
    have en : (0 + (i : Int)).toNat = i := by omega
    rw [en]
    refine ⟨_, rfl, _, rfl, t, _, rfl, .inl (hT.seq _ k2), rfl, flat_strs ts, _, rfl, ?_⟩
    show if (if true = true then !inV (V.str (near z2 i)) (ts.map V.str) else inV (V.str (near z2 i)) (ts.map V.str)) = true then _ else _
    rw [in_strs]
    by_cases m : near z2 i ∈ ts
    · rw [decide_eq_true m]
      refine iteF ⟨_, _, rfl, rfl, fun j hj => ?_⟩
      by_cases e : j = i
      · rw [e]
        exact m
      · exact hn j (by omega)
    · rw [decide_eq_false m]
      exact iteT ⟨_, rfl, q _ _ (near_nm hz2 hi) m k2⟩
  · rintro σ G ⟨v5, v6, rfl, rfl, hn⟩
    have := near_all hn
    omega
theorem ok_names {f fD fO fW fN : Addr} {fd fdD fdO fdW fdN : FuncData} (D : DefT K mg "_law_names" "_law_names" s_l_names ["_law_script", "_law_pool_here", "_law_size", "_law_others"] f fd) (Z : Zs mg) (D_l_draw : DefT K mg "_law_draw" "_law_draw" s_l_draw ["_law_script", "_law_pool_here", "_law_limit"] fD fdD)
    (D_l_one : DefT K mg "_law_one" "_law_one" s_l_one ["_law_script", "_law_pool_here", "_law_row"] fO fdO) (D_l_word : DefT K mg "_law_word" "_law_word" s_l_word ["_law_script", "_law_pool_here"] fW fdW) (D_l_name : DefT K mg "_law_name" "_law_name" s_l_name ["_law_script", "_law_pool_here", "_law_taken", "_law_others"] fN fdN) : FnOk P w K mg base CX0 4 f fd ["_law_script", "_law_pool_here", "_law_size", "_law_others"] (spNames K) := by
  have G_l_name := ok_name (P := P) (w := w) (base := base) D_l_name Z D_l_draw D_l_one D_l_word
  refine D.F.ok sc_l_names (fun vs H Q E h => ?_) (fun cdv A outer s H vs Q E hr h => ?_)
  · obtain ⟨a, p, o, ns, m, os, rfl, _⟩ := h
    rfl
  obtain ⟨a, p, o, ns, m, os, rfl, hS, hP, hO, ol, hos, h25, q⟩ := h
  refine ⟨_, (pss_cons (ps_set (i := 4) sc_l_names.nd rfl (Or.inl rfl) (pe_lst pa_nil)) (pss_cons (ps_for PassesOwn.never rfl (pi_range1 rfl Z.range (pa_cons (pv 2) pa_nil)) (pg_name (i := 5) sc_l_names.nd rfl (Or.inl rfl)) (pss_one (ps_expr (pe_bm PySem.F.plainAttrs_list PySem.F.slot_list_append PySem.F.type_list_append mt_append (pv 4) (pa_cons (pe_call G_l_name (hr.mono (by decide)) rfl D_l_name.m D_l_name.F.kp D_l_name.b .nil pass0 (pa_cons (pv 0) (pa_cons (pv 1) (pa_cons (pv 4) (pa_cons (pv 3) pa_nil))))) pa_nil))))) (pss_one (ps_ret (pv 4))))), ?_⟩
  refine ⟨Nat.zero_le _, fun l hl => ?_⟩
  have nl := (Kp.refl hP).ne hl
  refine ⟨_, rfl, _, rfl, by omega, by omega, ?_⟩
  rw [Int.toNat_natCast]
  refine for_range (n := m) (fun i σ G => ∃ (v : Option V) (ss : List Str), σ = [some (.ref a), some (.ref p), some (.int (m : Int)), some (.ref o), some (.ref l), v] ∧ ss.length = i ∧ i ≤ m ∧ ss.Nodup ∧ (∀ s ∈ ss, Nm s) ∧ G l = some (.lst (ss.map V.str)) ∧ Kp p H G)
    ⟨none, [], rfl, rfl, Nat.zero_le _, .nil, fun s hs => (by cases hs), upd_same, (Kp.refl hP).new hl⟩ ?_ ?_
  · rintro i σ G hi ⟨v, ss, rfl, hi2, _, nd, hss, hG, k⟩
    refine ⟨_, rfl, .inl ⟨rfl, _, SqL.of hG⟩, _, rfl, _, rfl, _, rfl, _, rfl, a, p, l, o, ns, ss, os, rfl, hS.on k, k.pool, .of hG nl, hO.on k, ol, hos, by omega, fun z G2 hz nz k2 => ?_⟩
    have hG2 := k2.keep _ _ nl hG
    refine ⟨l, _, _, rfl, rfl, hG2, ?_, ?_⟩
    · rw [List.length_map]
      exact Nat.lt_of_lt_of_le (show ss.length < 1000 by omega) (by decide)
    refine ⟨_, ss ++ [z], rfl, by rw [List.length_append, hi2]; rfl, hi, ?_, ?_, ?_, (k.trans k2).put hl nl⟩
    · rw [List.nodup_append]
      exact ⟨nd, by simp, fun x hx y hy e => by
        rcases List.mem_cons.mp hy with h | h
        · exact nz (h ▸ e ▸ hx)
        · cases h⟩
    · intro x hx
      rcases List.mem_append.mp hx with h | h
      · exact hss x h
      · rcases List.mem_cons.mp h with h | h
        · rw [h]
          exact hz
        · cases h
    · rw [upd_same, List.map_append]
      rfl
  · rintro σ G ⟨v, ss, rfl, hi2, _, nd, hss, hG, k⟩
    exact ⟨_, rfl, q l ss G hi2 nd hss hl hG k⟩
end
end My

namespace My
open PySem L2


theorem ix_listK {X : Cx} {K : PySem.W.Frag} (h : X.K = K) : IxR X (rIxL K) := by
  subst h
  exact ix_list
theorem ix_tupK {X : Cx} {K : PySem.W.Frag} (h : X.K = K) : IxR X (rIxT K) := by
  subst h
  exact ix_tup
theorem ix_seqK {X : Cx} {K : PySem.W.Frag} (h : X.K = K) : IxR X (rIx K) := by
  subst h
  exact ix_seq
theorem call_isiK {X : Cx} {K : PySem.W.Frag} (h : X.K = K) : CallR X (.builtin "isinstance") (rIsi K) := by
  subst h
  exact call_isi
theorem op_catTK {X : Cx} {K : PySem.W.Frag} (h : X.K = K) : OpR X (binaryOp .Add) (rCatT K) := by
  subst h
  exact op_catT
theorem op_catAK {X : Cx} {K : PySem.W.Frag} (h : X.K = K) : OpR X (binaryOp .Add) (rCatA K) := by
  subst h
  exact op_catA
theorem op_in_seqK {X : Cx} {K : PySem.W.Frag} (h : X.K = K) : OpR X (compareOp .In) (rIn K false) := by
  subst h
  exact op_in_seq
theorem op_notIn_seqK {X : Cx} {K : PySem.W.Frag} (h : X.K = K) : OpR X (compareOp .NotIn) (rIn K true) := by
  subst h
  exact op_notIn_seq
theorem sl_tupK {X : Cx} {K : PySem.W.Frag} (h : X.K = K) : SlR X (rSlT K) := by
  subst h
  exact sl_tup
theorem sl_tupAK {X : Cx} {K : PySem.W.Frag} (h : X.K = K) : SlR X (rSlA K) := by
  subst h
  exact sl_tupA
theorem sl_listK {X : Cx} {K : PySem.W.Frag} (h : X.K = K) : SlR X (rSlL K) := by
  subst h
  exact sl_list
theorem call_len_seqK {X : Cx} {K : PySem.W.Frag} (h : X.K = K) : CallR X (.builtin "len") (fun xs H Q => ∃ p ys, xs = [.ref p] ∧ (SqL K H p ys ∨ SqT K H p ys) ∧ Q (.int ys.length) H) := by
  subst h
  exact call_len_seq
/-! ### data in tracked objects, with the addresses of their lists -/
mutual
def Df (H : Hp) : PyData → V → List Addr → Prop
  | .none, v, fp => v = .non ∧ fp = []
  | .bool b, v, fp => v = .bl b ∧ fp = []
  | .int i, v, fp => v = .int i ∧ fp = []
  | .str s, v, fp => v = .str s ∧ fp = []
  | .list ds, v, fp => ∃ a xs gp, v = .ref a ∧ fp = a :: gp ∧ H a = some (.lst xs) ∧ DfL H ds xs gp
  | .tuple ds, v, fp => ∃ a xs, v = .ref a ∧ H a = some (.tup xs) ∧ DfL H ds xs fp
  | .dict _, _, _ => False
def DfL (H : Hp) : List PyData → List V → List Addr → Prop
  | [], xs, fp => xs = [] ∧ fp = []
  | d :: ds, xs, fp => ∃ x r f g, xs = x :: r ∧ fp = f ++ g ∧ Df H d x f ∧ DfL H ds r g
end
mutual
theorem Df.keep {H H' : Hp} (kt : ∀ a xs, H a = some (.tup xs) → H' a = some (.tup xs)) : ∀ (d : PyData) (v : V) (fp : List Addr), (∀ a ∈ fp, ∀ o, H a = some o → H' a = some o) → Df H d v fp → Df H' d v fp
  | .none, _, _, _, h => h
  | .bool _, _, _, _, h => h
  | .int _, _, _, _, h => h
  | .str _, _, _, _, h => h
  | .list ds, v, fp, k, h => by
    obtain ⟨a, xs, gp, e, ef, ha, hl⟩ := h
    subst ef
    exact ⟨a, xs, gp, e, rfl, k a List.mem_cons_self _ ha, DfL.keep kt ds xs gp (fun b hb => k b (List.mem_cons_of_mem _ hb)) hl⟩
  | .tuple ds, v, fp, k, h => by
    obtain ⟨a, xs, e, ha, hl⟩ := h
    exact ⟨a, xs, e, kt _ _ ha, DfL.keep kt ds xs fp k hl⟩
  | .dict _, _, _, _, h => h
theorem DfL.keep {H H' : Hp} (kt : ∀ a xs, H a = some (.tup xs) → H' a = some (.tup xs)) : ∀ (ds : List PyData) (xs : List V) (fp : List Addr), (∀ a ∈ fp, ∀ o, H a = some o → H' a = some o) → DfL H ds xs fp → DfL H' ds xs fp
  | [], _, _, _, h => h
  | d :: ds, xs, fp, k, h => by
    obtain ⟨x, r, f, g, e, ef, hx, hr⟩ := h
    subst ef
    exact ⟨x, r, f, g, e, rfl, Df.keep kt d x f (fun b hb => k b (List.mem_append_left _ hb)) hx, DfL.keep kt ds r g (fun b hb => k b (List.mem_append_right _ hb)) hr⟩
end
theorem Pool.notup {H : Hp} {p a : Addr} {xs : List V} (h : Pool H p) (e : H a = some (.tup xs)) : a ≠ p := by
  obtain ⟨_, _, _, _, _, ep⟩ := h
  exact ne_of e ep (by intro z; cases z)
theorem Df.kp {p : Addr} {H H' : Hp} {d : PyData} {v : V} {fp : List Addr} (h : Df H d v fp) (k : Kp p H H') (hP : Pool H p) (hf : p ∉ fp) : Df H' d v fp :=
  Df.keep (fun a xs e => k.keep _ _ (hP.notup e) e) d v fp (fun a ha o e => k.keep _ _ (fun z => hf (z ▸ ha)) e) h
theorem DfL.kp {p : Addr} {H H' : Hp} {ds : List PyData} {xs : List V} {fp : List Addr} (h : DfL H ds xs fp) (k : Kp p H H') (hP : Pool H p) (hf : p ∉ fp) : DfL H' ds xs fp :=
  DfL.keep (fun a xs e => k.keep _ _ (hP.notup e) e) ds xs fp (fun a ha o e => k.keep _ _ (fun z => hf (z ▸ ha)) e) h
theorem Df.same {H H' : Hp} {d : PyData} {v : V} {fp : List Addr} (h : Df H d v fp) (k : Same H H') : Df H' d v fp := Df.keep (fun a xs e => k _ _ e) d v fp (fun a _ o e => k _ _ e) h
theorem DfL.same {H H' : Hp} {ds : List PyData} {xs : List V} {fp : List Addr} (h : DfL H ds xs fp) (k : Same H H') : DfL H' ds xs fp := DfL.keep (fun a xs e => k _ _ e) ds xs fp (fun a _ o e => k _ _ e) h
/-- a list elsewhere is changed -/
theorem DfL.put {H : Hp} {D : Addr} {ys zs : List V} {ds : List PyData} {xs : List V} {fp : List Addr} (h : DfL H ds xs fp) (hD : H D = some (.lst ys)) (n : D ∉ fp) : DfL (upd H D (.lst zs)) ds xs fp :=
  DfL.keep (fun a ws e => by
    rw [upd_ne (ne_of e hD (by intro z; cases z))]
    exact e) ds xs fp (fun a ha o e => by
    rw [upd_ne (show a ≠ D from fun z => n (by rw [← z]; exact ha))]
    exact e) h
theorem Df.put {H : Hp} {D : Addr} {ys zs : List V} {d : PyData} {v : V} {fp : List Addr} (h : Df H d v fp) (hD : H D = some (.lst ys)) (n : D ∉ fp) : Df (upd H D (.lst zs)) d v fp :=
  Df.keep (fun a ws e => by
    rw [upd_ne (ne_of e hD (by intro z; cases z))]
    exact e) d v fp (fun a ha o e => by
    rw [upd_ne (show a ≠ D from fun z => n (by rw [← z]; exact ha))]
    exact e) h
mutual
theorem Df.dp {K : PySem.W.Frag} {H : Hp} : ∀ (d : PyData) (v : V) (fp : List Addr), Df H d v fp → Dp K H v d
  | .none, v, _, h => by
    rw [h.1]
    exact .non
  | .bool b, v, _, h => by
    rw [h.1]
    exact .bl b
  | .int i, v, _, h => by
    rw [h.1]
    exact .int i
  | .str s, v, _, h => by
    rw [h.1]
    exact .str s
  | .list ds, v, fp, h => by
    obtain ⟨a, xs, gp, e, _, ha, hl⟩ := h
    rw [e]
    exact .lst (.of ha) (DfL.dp ds xs gp hl)
  | .tuple ds, v, fp, h => by
    obtain ⟨a, xs, e, ha, hl⟩ := h
    rw [e]
    exact .tup (.of ha) (DfL.dp ds xs fp hl)
  | .dict _, _, _, h => h.elim
theorem DfL.dp {K : PySem.W.Frag} {H : Hp} : ∀ (ds : List PyData) (xs : List V) (fp : List Addr), DfL H ds xs fp → DpAll K H xs ds
  | [], xs, _, h => by
    rw [h.1]
    exact .nil
  | d :: ds, xs, fp, h => by
    obtain ⟨x, r, f, g, e, _, hx, hr⟩ := h
    rw [e]
    exact .cons (Df.dp d x f hx) (DfL.dp ds r g hr)
end
theorem DfL.append {H : Hp} : ∀ {ds es : List PyData} {xs ys : List V} {f g : List Addr}, DfL H ds xs f → DfL H es ys g → DfL H (ds ++ es) (xs ++ ys) (f ++ g)
  | [], _, _, _, _, _, h, h2 => by
    obtain ⟨rfl, rfl⟩ := h
    exact h2
  | d :: ds, _, _, _, _, _, h, h2 => by
    obtain ⟨x, r, f1, f2, rfl, rfl, hx, hr⟩ := h
    exact ⟨x, r ++ _, f1, f2 ++ _, rfl, List.append_assoc .., hx, DfL.append hr h2⟩
theorem DfL.snoc {H : Hp} {ds : List PyData} {xs : List V} {f g : List Addr} {d : PyData} {x : V} (h : DfL H ds xs f) (hx : Df H d x g) : DfL H (ds ++ [d]) (xs ++ [x]) (f ++ g) := h.append ⟨x, [], g, [], rfl, by simp, hx, rfl, rfl⟩
theorem DfL.len {H : Hp} : ∀ {ds : List PyData} {xs : List V} {f : List Addr}, DfL H ds xs f → xs.length = ds.length
  | [], _, _, h => by
    rw [h.1]
    rfl
  | _ :: _, _, _, h => by
    obtain ⟨x, r, f1, f2, rfl, rfl, _, hr⟩ := h
    show r.length + 1 = _ + 1
    rw [DfL.len hr]
theorem DfL.n {H : Hp} : DfL H [] [] [] := ⟨rfl, rfl⟩
theorem DfL.c {H : Hp} {d : PyData} {x : V} {ds : List PyData} {xs : List V} (h : Df H d x []) (r : DfL H ds xs []) : DfL H (d :: ds) (x :: xs) [] := ⟨x, xs, [], [], rfl, rfl, h, r⟩
theorem sD {H : Hp} (s : Str) : Df H (.str s) (.str s) [] := ⟨rfl, rfl⟩
theorem bD {H : Hp} (b : Bool) : Df H (.bool b) (.bl b) [] := ⟨rfl, rfl⟩
theorem tD {H : Hp} {ds : List PyData} {xs : List V} {fp : List Addr} {t : Addr} (e : H t = some (.tup xs)) (h : DfL H ds xs fp) : Df H (.tuple ds) (.ref t) fp := ⟨t, xs, rfl, e, h⟩
theorem Kp.tup {p a : Addr} {H H' : Hp} {xs : List V} (k : Kp p H H') (hP : Pool H p) (e : H a = some (.tup xs)) : H' a = some (.tup xs) := k.keep _ _ (hP.notup e) e
/-! ### the names of a book -/
structure Nm5 where
  st : List Str
  up : List Str
  dn : List Str
  ma : List Str
  tk : List Str
structure NOk (N : Nm5) : Prop where
  st2 : 2 ≤ N.st.length
  st7 : N.st.length ≤ 7
  up1 : 1 ≤ N.up.length
  up5 : N.up.length ≤ 5
  dn1 : 1 ≤ N.dn.length
  dn5 : N.dn.length ≤ 5
  mk1 : 1 ≤ N.ma.length
  mk6 : N.ma.length ≤ 6
  tk1 : 1 ≤ N.tk.length
  tk3 : N.tk.length ≤ 3
  stn : N.st.Nodup ∧ ∀ s ∈ N.st, Nm s
  upn : N.up.Nodup ∧ ∀ s ∈ N.up, Nm s
  dnn : N.dn.Nodup ∧ ∀ s ∈ N.dn, Nm s
  mkn : N.ma.Nodup ∧ ∀ s ∈ N.ma, Nm s
  tkn : N.tk.Nodup ∧ ∀ s ∈ N.tk, Nm s
/-- where the names stand -/
def NA (K : PySem.W.Frag) (H : Hp) (m p : Addr) (N : Nm5) : Prop := ∃ l0 l1 l2 l3 l4 : Addr, Row K H m p [.ref l0, .ref l1, .ref l2, .ref l3, .ref l4] ∧ Row K H l0 p (N.st.map V.str) ∧ Row K H l1 p (N.up.map V.str) ∧ Row K H l2 p (N.dn.map V.str) ∧ Row K H l3 p (N.ma.map V.str) ∧ Row K H l4 p (N.tk.map V.str) ∧ l3 ≠ p ∧ H l3 = some (.lst (N.ma.map V.str))
theorem NA.on {K : PySem.W.Frag} {H H' : Hp} {m p : Addr} {N : Nm5} (h : NA K H m p N) (k : Kp p H H') : NA K H' m p N := by
  obtain ⟨l0, l1, l2, l3, l4, r, r0, r1, r2, r3, r4, n3⟩ := h
  exact ⟨l0, l1, l2, l3, l4, r.on k, r0.on k, r1.on k, r2.on k, r3.on k, r4.on k, n3.1, k.keep _ _ n3.1 n3.2⟩
/-- a name or none -/
def oN : Option Str → PyData
  | none => .none
  | some s => .str s
def oV : Option Str → V
  | none => .non
  | some s => .str s
theorem oN_df (H : Hp) (o : Option Str) : Df H (oN o) (oV o) [] := by
  cases o <;> exact ⟨rfl, rfl⟩
def OnIn (o : Option Str) (l : List Str) : Prop := ∀ s, o = some s → s ∈ l
theorem on_of {x : V} {l : List Str} (h : x = .non ∨ x ∈ l.map V.str) : ∃ o, x = oV o ∧ OnIn o l := by
  rcases h with h | h
  · exact ⟨none, h, fun s e => by cases e⟩
  · obtain ⟨s, hs, e⟩ := List.mem_map.mp h
    exact ⟨some s, e.symm, fun t z => by
      cases z
      exact hs⟩
theorem str_of {x : V} {l : List Str} {i : Nat} (h : (l.map V.str)[i]? = some x) : ∃ s, x = .str s ∧ s ∈ l := by
  obtain ⟨s, hs, e⟩ := List.mem_map.mp (List.mem_of_getElem? h)
  exact ⟨s, e.symm, hs⟩
def IsAnswer (N : Nm5) (d : PyData) : Prop := ∃ (a k b : Str) (u : Option Str), d = .tuple [.str a, .str k, .str b, oN u] ∧ a ∈ N.st ∧ k ∈ N.dn ∧ b ∈ N.st ∧ OnIn u N.up
def IsNote (N : Nm5) (d : PyData) : Prop := ∃ (m u n : Str) (k : Option Str) (f : Bool), d = .tuple [.str m, .str u, .str n, oN k, .bool f] ∧ m ∈ N.ma ∧ u ∈ N.up ∧ n ∈ N.ma ∧ OnIn k N.dn
def IsBegin (N : Nm5) (d : PyData) : Prop := ∃ (m u t : Str), d = .tuple [.str m, .str u, .str t] ∧ m ∈ N.ma ∧ u ∈ N.up ∧ t ∈ N.tk
def spNAll (K : PySem.W.Frag) : Sp := fun vs H Q _ => ∃ (a p : Addr) (ns : List Int), vs = [.ref a, .ref p] ∧ Scr K H a p ns ∧ Pool H p ∧ ∀ (m : Addr) (N : Nm5) (H' : Hp), NOk N → NA K H' m p N → Kp p H H' → Q (.ref m) H'
def spMany (K : PySem.W.Frag) : Sp := fun vs H Q _ => ∃ (a p : Addr) (ns : List Int), vs = [.ref a, .ref p] ∧ Scr K H a p ns ∧ Pool H p ∧ ∀ (n : Nat) (H' : Hp), n ≤ 30 → Kp p H H' → Q (.int (n : Int)) H'
def spRow (K : PySem.W.Frag) (R : Nm5 → PyData → Prop) : Sp := fun vs H Q _ => ∃ (a p m : Addr) (ns : List Int) (N : Nm5), vs = [.ref a, .ref p, .ref m] ∧ Scr K H a p ns ∧ Pool H p ∧ NOk N ∧ NA K H m p N ∧ ∀ (v : V) (d : PyData) (H' : Hp), Kp p H H' → R N d → Df H' d v [] → Q v H'
section
variable {P : Program} {w : World} {K : PySem.W.Frag} {mg : Str → Option Value} {base : Heap}
theorem DfL.u {H : Hp} {d : PyData} {ds : List PyData} {xs : List V} (h : DfL H (d :: ds) xs []) : ∃ x r, xs = x :: r ∧ Df H d x [] ∧ DfL H ds r [] := by
  obtain ⟨x, r, f, g, e, ef, hx, hr⟩ := h
  have ef' := ef.symm
  rw [List.append_eq_nil_iff] at ef'
  obtain ⟨rfl, rfl⟩ := ef'
  exact ⟨x, r, e, hx, hr⟩
theorem Df.t {H : Hp} {ds : List PyData} {v : V} {fp : List Addr} (h : Df H (.tuple ds) v fp) : ∃ t xs, v = .ref t ∧ H t = some (.tup xs) ∧ DfL H ds xs fp := h
theorem cut2 {x y : V} {r : List V} : cutV (x :: y :: r) none (some 2) = [x, y] := by
  unfold cutV
  rw [show ((2 : Int)) = ((2 : Nat) : Int) from rfl, HT.sIx_nat]
  show (List.drop 0 (x :: y :: r)).take (min 2 (x :: y :: r).length - 0) = [x, y]
  rw [List.drop_zero, Nat.sub_zero, Nat.min_eq_left (by simp)]
  rfl
def IsIdle (N : Nm5) (d : PyData) : Prop := IsBegin N d ∨ IsNote N d
end
end My

namespace My
open PySem L2


def owners : List Str := ["asker", "none", "stays"]
def IsCall (N : Nm5) (d : PyData) : Prop := ∃ (m : Str) (k : Option Str), d = .tuple [.str m, oN k] ∧ m ∈ N.ma ∧ OnIn k N.dn
def IsTask (N : Nm5) (nm : Str) (d : PyData) : Prop := ∃ (cs : List PyData) (qs es : List Str) (m : Str) (k : Option Str) (o : Str), d = .tuple [.str nm, .list cs, .list (qs.map .str), .list (es.map .str), .str m, oN k, .str o] ∧
  cs.length = N.ma.length ∧ (∀ c ∈ cs, IsCall N c) ∧ qs ≠ [] ∧ qs.Nodup ∧ (∀ q ∈ qs, q ∈ N.ma) ∧ es.length = N.ma.length ∧ (∀ e ∈ es, e ∈ N.ma) ∧ m ∈ N.ma ∧ OnIn k N.dn ∧ o ∈ owners
theorem strs_df {H : Hp} : ∀ ss : List Str, DfL H (ss.map .str) (ss.map .str) []
  | [] => .n
  | s :: ss => .c (sD s) (strs_df ss)
def spTask (K : PySem.W.Frag) : Sp := fun vs H Q _ => ∃ (a p m : Addr) (ns : List Int) (N : Nm5) (nm : Str), vs = [.ref a, .ref p, .ref m, .str nm] ∧ Scr K H a p ns ∧ Pool H p ∧ NOk N ∧ NA K H m p N ∧
  ∀ (v : V) (d : PyData) (fp : List Addr) (H' : Hp), Kp p H H' → IsTask N nm d → Df H' d v fp → (∀ x ∈ fp, H x = none) → Q v H'
section
variable {P : Program} {w : World} {K : PySem.W.Frag} {mg : Str → Option Value} {base : Heap}
end
end My

namespace My
open PySem L2


theorem hu65 {k : Nat} {A : Around} (r : Room k A) : A.units + 65 < cLine := by
  have := r.un
  omega
theorem same_upd {H : Hp} {a : Addr} {o : HO} (h : H a = none) : Same H (upd H a o) := fun b u e => keep_new h b u e
/-! ### data that can be compared -/
theorem strOk_nm {s : Str} (h : Nm s) : PyData.strOk s = true := by
  unfold PyData.strOk
  rw [← Array.all_toList, List.all_eq_true]
  intro c hc
  have := (h.2.2 c hc).2
  exact decide_eq_true (by omega)
/-- flat, or a tuple of flat ones, that can be compared -/
def Sh (d : PyData) : Prop := d.canLay0 = true ∧ d.depth ≤ 1
theorem Sh.str {s : Str} (h : Nm s) : (PyData.str s).canLay0 = true := strOk_nm h
theorem sh_int (n : Int) : Sh (.int n) := ⟨rfl, Nat.zero_le _⟩
theorem shaped_of {d : PyData} {n : Nat} (h : d.canLay0 = true) (g : d.depth ≤ n) (hn : n ≤ 64) : SeqAt.shaped d = true := by
  unfold SeqAt.shaped
  rw [h, decide_eq_true (show d.depth ≤ 64 by omega)]
  rfl
theorem layAll_of : ∀ {ds : List PyData}, (∀ d ∈ ds, d.canLay0 = true) → PyData.canLayAll0 ds = true
  | [], _ => rfl
  | d :: ds, h => by
    show (d.canLay0 && PyData.canLayAll0 ds) = true
    rw [h d List.mem_cons_self, layAll_of fun e he => h e (List.mem_cons_of_mem _ he)]
    rfl
theorem deepAll_of {n : Nat} : ∀ {ds : List PyData}, (∀ d ∈ ds, d.depth ≤ n) → PyData.depthAll ds ≤ n
  | [], _ => Nat.zero_le _
  | d :: ds, h => by
    show max d.depth (PyData.depthAll ds) ≤ n
    exact Nat.max_le.mpr ⟨h d List.mem_cons_self, deepAll_of fun e he => h e (List.mem_cons_of_mem _ he)⟩
theorem shaped_list {n : Nat} {ds : List PyData} (h : ∀ d ∈ ds, d.canLay0 = true ∧ d.depth ≤ n) (hn : n < 64) : SeqAt.shaped (.list ds) = true := by
  refine shaped_of (n := n + 1) (layAll_of fun d hd => (h d hd).1) ?_ hn
  show PyData.depthAll ds + 1 ≤ n + 1
  have := deepAll_of fun d hd => (h d hd).2
  omega
theorem sh_tup {ds : List PyData} (h : ∀ d ∈ ds, d.canLay0 = true ∧ d.depth ≤ 0) : Sh (.tuple ds) := by
  refine ⟨layAll_of fun d hd => (h d hd).1, ?_⟩
  show PyData.depthAll ds + 1 ≤ 1
  have := deepAll_of fun d hd => (h d hd).2
  omega
/-! ### the rules of a book -/
inductive Kd where
  | w | a | i | b
def Kd.nm : Kd → Str
  | .w => "wishes"
  | .a => "answers"
  | .i => "idles"
  | .b => "busies"
def Kd.cut : Kd → Nat
  | .w => 0
  | .a => 2
  | .i => 2
  | .b => 3
def IsWish (N : Nm5) (d : PyData) : Prop := ∃ (a b : Str) (u : Option Str), d = .tuple [.str a, .str b, oN u] ∧ a ∈ N.st ∧ b ∈ N.st ∧ OnIn u N.up
def IsBusy (N : Nm5) (d : PyData) : Prop := ∃ (t m u n : Str) (k : Option Str) (f : Bool), d = .tuple [.str t, .str m, .str u, .str n, oN k, .bool f] ∧ t ∈ N.tk ∧ m ∈ N.ma ∧ u ∈ N.up ∧ n ∈ N.ma ∧ OnIn k N.dn
def RowR : Kd → Nm5 → PyData → Prop
  | .w => IsWish
  | .a => IsAnswer
  | .i => IsIdle
  | .b => IsBusy
def cutD (n : Nat) : PyData → PyData
  | .tuple ds => .tuple (ds.take n)
  | d => d
def HeadR : Kd → PyData → PyData → Prop
  | .w, _, h => ∃ n : Int, h = .int n
  | k, d, h => h = cutD k.cut d
theorem head_sh {k : Kd} {N : Nm5} {d h : PyData} (ok : NOk N) (r : RowR k N d) (e : HeadR k d h) : Sh h := by
  have two : ∀ s t : Str, Nm s → Nm t → Sh (.tuple [.str s, .str t]) := fun s t hs ht => sh_tup fun d hd => by
    rcases List.mem_cons.mp hd with rfl | hd
    · exact ⟨strOk_nm hs, Nat.le_refl _⟩
    · rcases List.mem_cons.mp hd with rfl | hd
      · exact ⟨strOk_nm ht, Nat.le_refl _⟩
      · cases hd
  cases k with
  | w =>
    obtain ⟨n, rfl⟩ := e
    exact sh_int n
  | a =>
    obtain ⟨a, k, b, u, rfl, h1, h2, _, _⟩ := r
    have e' : h = .tuple [.str a, .str k] := e
    rw [e']
    exact two a k (ok.stn.2 a h1) (ok.dnn.2 k h2)
  | i =>
    rcases r with ⟨m, u, t, rfl, h1, h2, _⟩ | ⟨m, u, n, k, f, rfl, h1, h2, _, _⟩
    · have e' : h = .tuple [.str m, .str u] := e
      rw [e']
      exact two m u (ok.mkn.2 m h1) (ok.upn.2 u h2)
    · have e' : h = .tuple [.str m, .str u] := e
      rw [e']
      exact two m u (ok.mkn.2 m h1) (ok.upn.2 u h2)
  | b =>
    obtain ⟨t, m, u, n, k, f, rfl, h0, h1, h2, _, _⟩ := r
    have e' : h = .tuple [.str t, .str m, .str u] := e
    rw [e']
    refine sh_tup fun d hd => ?_
    rcases List.mem_cons.mp hd with rfl | hd
    · exact ⟨strOk_nm (ok.tkn.2 t h0), Nat.le_refl _⟩
    · rcases List.mem_cons.mp hd with rfl | hd
      · exact ⟨strOk_nm (ok.mkn.2 m h1), Nat.le_refl _⟩
      · rcases List.mem_cons.mp hd with rfl | hd
        · exact ⟨strOk_nm (ok.upn.2 u h2), Nat.le_refl _⟩
        · cases hd
theorem cut3 {x y z : V} {r : List V} : cutV (x :: y :: z :: r) none (some 3) = [x, y, z] := by
  unfold cutV
  rw [show ((3 : Int)) = ((3 : Nat) : Int) from rfl, HT.sIx_nat]
  show (List.drop 0 (x :: y :: z :: r)).take (min 3 (x :: y :: z :: r).length - 0) = [x, y, z]
  rw [List.drop_zero, Nat.sub_zero, Nat.min_eq_left (by simp)]
  rfl
theorem notwhole {n k : Nat} (h : k < n) : ¬ (HT.sIx n 0 none = 0 ∧ HT.sIx n n (some ((k : Nat) : Int)) = n) := by
  rintro ⟨_, z⟩
  rw [HT.sIx_nat] at z
  omega
/-- heads that differ, the earlier one asked first -/
def Apart (hs : List PyData) : Prop := hs.Pairwise fun z d => PyData.eqv z d = false
theorem ifT {c : Bool} {A B : Prop} (h : c = true) (a : A) : if c = true then A else B := by
  rw [if_pos h]
  exact a
theorem ifF {c : Bool} {A B : Prop} (h : c = false) (b : B) : if c = true then A else B := by
  rw [h]
  exact iteF b
theorem nW {k : Kd} (h : k = .w → False) : decide (V.str k.nm = V.str "wishes") = false := by
  cases k with
  | w => exact (h rfl).elim
  | a => decide +kernel
  | i => decide +kernel
  | b => decide +kernel
theorem nA {k : Kd} (h : k = .a → False) : decide (V.str k.nm = V.str "answers") = false := by
  cases k with
  | a => exact (h rfl).elim
  | w => decide +kernel
  | i => decide +kernel
  | b => decide +kernel
theorem nI {k : Kd} (h : k = .i → False) : decide (V.str k.nm = V.str "idles") = false := by
  cases k with
  | i => exact (h rfl).elim
  | w => decide +kernel
  | a => decide +kernel
  | b => decide +kernel
def spRules (K : PySem.W.Frag) : Sp := fun vs H Q _ => ∃ (a p m : Addr) (ns : List Int) (N : Nm5) (kd : Kd), vs = [.ref a, .ref p, .ref m, .str kd.nm] ∧ Scr K H a p ns ∧ Pool H p ∧ NOk N ∧ NA K H m p N ∧
  ∀ (l : Addr) (xs : List V) (ds hs : List PyData) (H' : Hp), Kp p H H' → H l = none → H' l = some (.lst xs) → DfL H' ds xs [] → ds.length ≤ 30 → (∀ d ∈ ds, RowR kd N d) → hs.length = ds.length → (∀ (i : Nat) (d h : PyData), ds[i]? = some d → hs[i]? = some h → HeadR kd d h) → Apart hs → Q (.ref l) H'
section
variable {P : Program} {w : World} {K : PySem.W.Frag} {mg : Str → Option Value} {base : Heap}
end
end My

namespace My
open PySem L2


def traits : List Str := ["", "w", "h", "hr", "hp", "hw", "hrp", "hrw", "hpw", "hrpw"]
/-- the parts of a right book, as data; N its names -/
structure RB where
  N : Nm5
  ss : List PyData
  us : List PyData
  ks : List PyData
  ws : List PyData
  as : List PyData
  ts : List PyData
  is : List PyData
  bs : List PyData
def RB.parts (b : RB) : List PyData := [.list b.ss, .list b.us, .list b.ks, .list (b.N.ma.map .str), .list b.ws, .list b.as, .list b.ts, .list b.is, .list b.bs]
structure RB.Ok (b : RB) : Prop where
  n : NOk b.N
  ss : b.ss.length = b.N.st.length ∧ ∀ (i : Nat) (d : PyData), b.ss[i]? = some d → ∃ s t, b.N.st[i]? = some s ∧ d = .tuple [.str s, .str t] ∧ t ∈ traits ∧ (i = 0 → t = "")
  us : b.us.length = b.N.up.length ∧ ∀ (i : Nat) (d : PyData), b.us[i]? = some d → ∃ s f, b.N.up[i]? = some s ∧ d = .tuple [.str s, .bool f]
  ks : b.ks.length = b.N.dn.length ∧ ∀ (i : Nat) (d : PyData), b.ks[i]? = some d → ∃ s f, b.N.dn[i]? = some s ∧ d = .tuple [.str s, .bool f]
  ws : b.ws.length ≤ 30 ∧ ∀ d ∈ b.ws, IsWish b.N d
  as : b.as.length ≤ 30 ∧ (∀ d ∈ b.as, IsAnswer b.N d) ∧ Apart (b.as.map (cutD 2))
  ts : b.ts.length = b.N.tk.length ∧ ∀ (i : Nat) (d : PyData), b.ts[i]? = some d → ∃ s, b.N.tk[i]? = some s ∧ IsTask b.N s d
  is : b.is.length ≤ 30 ∧ (∀ d ∈ b.is, IsIdle b.N d) ∧ Apart (b.is.map (cutD 2))
  bs : b.bs.length ≤ 30 ∧ (∀ d ∈ b.bs, IsBusy b.N d) ∧ Apart (b.bs.map (cutD 3))
theorem heads_map {kd : Kd} {ds hs : List PyData} (hk : kd ≠ .w) (hl : hs.length = ds.length) (h : ∀ (i : Nat) (d h : PyData), ds[i]? = some d → hs[i]? = some h → HeadR kd d h) : hs = ds.map (cutD kd.cut) := by
  refine List.ext_getElem? fun i => ?_
  rw [List.getElem?_map]
  cases e : ds[i]? with
  | none =>
    rw [List.getElem?_eq_none_iff] at e
    rw [List.getElem?_eq_none_iff.mpr (by omega)]
    rfl
  | some d =>
    have hi := (List.getElem?_eq_some_iff.mp e).1
    have e2 : hs[i]? = some hs[i] := List.getElem?_eq_getElem (by omega)
    have r := h i d _ e e2
    rw [e2]
    cases kd with
    | w => exact absurd rfl hk
    | a => exact congrArg some r
    | i => exact congrArg some r
    | b => exact congrArg some r
/-- a part: a list at l -/
def Pt (p : Addr) (H : Hp) (l : Addr) (ds : List PyData) (fp : List Addr) : Prop := l ≠ p ∧ p ∉ fp ∧ ∃ xs, H l = some (.lst xs) ∧ DfL H ds xs fp
theorem Pt.on {p l : Addr} {H H' : Hp} {ds : List PyData} {fp : List Addr} (h : Pt p H l ds fp) (k : Kp p H H') (hP : Pool H p) : Pt p H' l ds fp := by
  obtain ⟨n, nf, xs, e, hd⟩ := h
  exact ⟨n, nf, xs, k.keep _ _ n e, hd.kp k hP nf⟩
theorem Pt.df {p l : Addr} {H : Hp} {ds : List PyData} {fp : List Addr} (h : Pt p H l ds fp) : Df H (.list ds) (.ref l) (l :: fp) := by
  obtain ⟨n, nf, xs, e, hd⟩ := h
  exact ⟨l, xs, fp, rfl, rfl, e, hd⟩
theorem Pt.no {p l : Addr} {H : Hp} {ds : List PyData} {fp : List Addr} (h : Pt p H l ds fp) : p ∉ l :: fp := by
  obtain ⟨n, nf, _⟩ := h
  intro z
  rcases List.mem_cons.mp z with z | z
  · exact n z.symm
  · exact nf z
/-- flags beside the names of a row -/
def KindsOk (L : List Str) (i : Nat) (ds : List PyData) : Prop := ds.length = i ∧ ∀ (j : Nat) (d : PyData), ds[j]? = some d → ∃ s f, L[j]? = some s ∧ d = .tuple [.str s, .bool f]
theorem KindsOk.snoc {L : List Str} {i : Nat} {ds : List PyData} {s : Str} {f : Bool} (h : KindsOk L i ds) (e : L[i]? = some s) : KindsOk L (i + 1) (ds ++ [.tuple [.str s, .bool f]]) := by
  refine ⟨by rw [List.length_append, h.1]; rfl, fun j d e2 => ?_⟩
  by_cases hj : j < ds.length
  · rw [List.getElem?_append_left hj] at e2
    exact h.2 j d e2
  · rw [List.getElem?_append_right (by omega)] at e2
    cases hz : j - ds.length with
    | zero =>
      rw [hz] at e2
      cases e2
      have h1 := h.1
      have ej : j = i := by omega
      rw [ej]
      exact ⟨s, f, e, rfl⟩
    | succ z =>
      rw [hz] at e2
      cases e2
theorem str_at {x : V} {l : List Str} {i : Nat} (h : (l.map V.str)[i]? = some x) : ∃ s, x = .str s ∧ l[i]? = some s := by
  rw [List.getElem?_map] at h
  cases e : l[i]? with
  | none =>
    rw [e] at h
    cases h
  | some s =>
    rw [e] at h
    exact ⟨s, (Option.some.inj h).symm, rfl⟩
def spParts (K : PySem.W.Frag) : Sp := fun vs H Q _ => ∃ (a p : Addr) (ns : List Int), vs = [.ref a, .ref p] ∧ Scr K H a p ns ∧ Pool H p ∧
  ∀ (v : V) (b : RB) (fp : List Addr) (H' : Hp), Kp p H H' → b.Ok → Df H' (.list b.parts) v fp → p ∉ fp → Q v H'
theorem drop1 (l : List V) : cutV l (some 1) none = l.drop 1 := by
  unfold cutV
  rw [HT.sIx_none, show ((1 : Int)) = ((1 : Nat) : Int) from rfl, HT.sIx_nat]
  cases l with
  | nil => rfl
  | cons x r =>
    rw [Nat.min_eq_left (by simp)]
    show (List.drop 1 (x :: r)).take ((x :: r).length - 1) = _
    rw [← List.length_drop, List.take_length]
section
variable {P : Program} {w : World} {K : PySem.W.Frag} {mg : Str → Option Value} {base : Heap}
end
end My

namespace My
open PySem L2
abbrev s_is_name : Stmt := top 5
abbrev s_has_length : Stmt := top 13
abbrev s_is_one_or_none : Stmt := top 14
theorem sc_is_name : FnScope ["value", "letter"] ["value"] (defScope s_is_name) := ⟨rfl, rfl, rfl, by decide +kernel, rfl, by decide +kernel, by decide +kernel⟩
theorem sc_has_length : FnScope ["row", "many"] ["row", "many"] (defScope s_has_length) := ⟨rfl, rfl, rfl, by decide +kernel, rfl, by decide +kernel, by decide +kernel⟩
theorem sc_is_one_or_none : FnScope ["value", "names"] ["value", "names"] (defScope s_is_one_or_none) := ⟨rfl, rfl, rfl, by decide +kernel, rfl, by decide +kernel, by decide +kernel⟩
theorem Same.put {H G : Hp} {D : Addr} {o : HO} (s : Same H G) (h : H D = none) : Same H (upd G D o) := fun b u e => by
  rw [upd_ne (ne_of_none e h)]
  exact s b u e
theorem cr_allK {X : Cx} {K : PySem.W.Frag} (h : X.K = K) (hc : X.calm = true) : CallR X (.builtin "all") (rAll K) := by
  subst h
  exact cr_all hc
/-- a text, a tuple of texts, a dict of the module -/
structure SqK (K : PySem.W.Frag) (a : Addr) (xs : List V) : Prop where
  ex : ∃ (o : Obj) (its : Array Value) (n : Nat), K.lookup a = some o ∧ o.cls = .type "tuple" ∧ o.data = .seq its n ∧ its.size ≤ sizeLine ∧ Vals xs its.toList
theorem SqK.t {K : PySem.W.Frag} {a : Addr} {xs : List V} (h : SqK K a xs) (H : Hp) : SqT K H a xs := .inr h.ex
def pParts : List Str := ["states", "ups", "downs", "marks", "wishes", "answers", "tasks", "idles", "busies"]
def pNamed : List Str := ["states", "ups", "downs", "tasks"]
def pTraits : List Str := ["", "h", "hr", "hp", "hrp", "w", "hw", "hrw", "hpw", "hrpw"]
structure Tb (K : PySem.W.Frag) (mg : Str → Option Value) (tl : Tok) (aP aN aT aO aL aH aI : Addr) : Prop where
  letters : mg "LETTERS" = some (.str "abcdefghijklmnopqrstuvwxyz" tl)
  parts : mg "PARTS" = some (.ref aP)
  named : mg "NAMED" = some (.ref aN)
  traits : mg "TRAITS" = some (.ref aT)
  owners : mg "OWNERS" = some (.ref aO)
  lengths : mg "LENGTHS" = some (.ref aL)
  heads : mg "HEADS" = some (.ref aH)
  items : mg "ITEMS" = some (.ref aI)
  parts_ : SqK K aP (pParts.map .str)
  named_ : SqK K aN (pNamed.map .str)
  traits_ : SqK K aT (pTraits.map .str)
  owners_ : SqK K aO (My.owners.map .str)
/-- names["part"]: the list of names L -/
def DN (H : Hp) (nd : Addr) (part : Str) (L : List Str) : Prop := ∃ kvs l, H nd = some (.dK kvs) ∧ valV kvs (Sum.inr part) = some (.ref l) ∧ H l = some (.lst (L.map .str))
theorem DN.on {H H' : Hp} {nd : Addr} {part : Str} {L : List Str} (h : DN H nd part L) (s : Same H H') : DN H' nd part L := by
  obtain ⟨kvs, l, h1, h2, h3⟩ := h
  exact ⟨kvs, l, s _ _ h1, h2, s _ _ h3⟩
theorem rep_bl (n : Nat) : (List.replicate n true).map V.bl = List.replicate n (.bl true) := List.map_replicate ..
theorem rep_all (n : Nat) : (List.replicate n true).all id = true := by
  rw [List.all_eq_true]
  intro x hx
  rw [List.eq_of_mem_replicate hx]
  rfl
def spIsName : Sp := fun vs H Q _ => ∃ s : Str, vs = [.str s] ∧ Nm s ∧ ∀ H', Same H H' → Q (.bl true) H'
def spHasLen : Sp := fun vs H Q _ => ∃ (t : Addr) (xs : List V) (n : Int), vs = [.ref t, .int n] ∧ H t = some (.tup xs) ∧ Q (.bl (decide (V.int ((xs.length : Nat) : Int) = V.int n))) H
def spOneOr : Sp := fun vs H Q _ => ∃ (u : Option Str) (l : Addr) (L : List Str), vs = [oV u, .ref l] ∧ H l = some (.lst (L.map .str)) ∧ OnIn u L ∧ Q (.bl true) H
section
variable {P : Program} {w : World} {K : PySem.W.Frag} {mg : Str → Option Value} {base : Heap} {tl : Tok} {aP aN aT aO aL aH aI : Addr}
theorem ok_is_name {f : Addr} {fd : FuncData} (D : DefT K mg "is_name" "is_name" s_is_name ["value"] f fd) (Z : Zs mg) (T : Tb K mg tl aP aN aT aO aL aH aI) : FnOk P w K mg base CX0 1 f fd ["value"] spIsName := by
  refine D.F.ok sc_is_name (fun vs H Q E h => ?_) (fun cdv A outer s H vs Q E hr h => ?_)
  · obtain ⟨z, rfl, _⟩ := h
    rfl
  obtain ⟨z, rfl, hz, q⟩ := h
  obtain ⟨h1, h8, hc⟩ := id hz
  refine ⟨_, (pss_cons (ps_if (PW.pt (pw_or (pt_not (pt_val (pe_callB call_isi (by rfl) Z.isinstance (by decide +kernel) (pa_cons (pv 0) (pa_cons (pe_bltn (v := .ty "str") (by rfl) Z.str (by decide +kernel) rfl) pa_nil))))) (pw_or1 (pt_not (pt_chain op_le op_le pe_int (pe_callB call_len_str (by rfl) Z.len (by decide +kernel) (pa_cons (pv 0) pa_nil)) pe_int))))) (pss_one (ps_ret pe_bl)) pss_nil) (pss_one (ps_ret (pe_callB (cr_all rfl) (by rfl) Z.all (by decide +kernel) (pa_cons (pe_lc (own := [("letter", 1)]) (g := gName 1) rfl sc_is_name.nd  (pi_str (pv 0)) (blkOk_by (own := [("letter", 1)]) (N := ["value", "letter"]) (sc := defScope s_is_name) (by decide +kernel)) (fun _ _ _ _ _ => pg_name (i := 1) sc_is_name.nd rfl (Or.inl rfl)) (fun _ _ _ _ _ => pts_nil) (fun _ _ _ _ _ => (pe_cmpR op_in_sign (pv 1) (pe_glob (v := .str "abcdefghijklmnopqrstuvwxyz") rfl T.letters ⟨_, rfl⟩) (by rfl)))) pa_nil))))), ?_⟩
  have ty : TyX K H (.str z) (.type "str") := .base (.str z)
  have hl : z.length ≤ sizeLine := Nat.le_trans (show z.length ≤ 1000 by omega) (by decide)
  refine ⟨_, rfl, _, _, _, _, _, rfl, .ty _, ty, kit_ty (r := true) (by decide +kernel), _, rfl, iteF ?_⟩
  refine ⟨_, rfl, z, rfl, hl, _, _, rfl, rfl, _, rfl, ifT (decide_eq_true (by omega)) ⟨_, _, rfl, rfl, ?_⟩⟩
  refine ⟨_, rfl, ?_⟩
  rw [decide_eq_true (show ((z.length : Nat) : Int) ≤ 8 by omega)]
  refine iteF ?_
  refine ⟨_, rfl, z, rfl, fun dl hdl => ?_⟩
  refine lc_it (walk_str (z := z)) (fun i G => G dl = some (.lst (List.replicate i (.bl true))) ∧ Same H G) ⟨upd_same, same_upd hdl⟩ (fun _ _ _ _ => trivial) ?_ ?_
  · rintro i x G H' hi ⟨hG, sG⟩ ⟨rfl, c, hc', rfl⟩
    have hm : c ∈ z.cps.toList := Array.mem_toList_iff.mpr (Array.mem_of_getElem? hc')
    have hin : c ∈ ("abcdefghijklmnopqrstuvwxyz" : Str).cps.toList := by
      have b := hc c hm
      have e := abc_nat ⟨c - 97, by omega⟩
      have e2 : 97 + (c - 97) = c := by omega
      rw [show (⟨c - 97, by omega⟩ : Fin 26).val = c - 97 from rfl, e2] at e
      exact List.mem_of_getElem? e
    have hi8 : i < 8 := by
      have : z.cps.size = z.length := rfl
      omega
    refine ⟨rfl, _, rfl, c, _, rfl, rfl, _, hG, ?_, ?_, Same.put sG hdl⟩
    · rw [List.length_replicate]
      exact Nat.lt_of_lt_of_le (show i < 1000 by omega) (by decide)
    · rw [decide_eq_true hin, List.replicate_succ']
      exact upd_same
  rintro G ⟨hG, sG⟩
  refine ⟨dl, List.replicate z.cps.size true, rfl, .of (by rw [rep_bl]; exact hG), ?_⟩
  rw [rep_all]
  exact q G sG
theorem ok_has_length {f : Addr} {fd : FuncData} (D : DefT K mg "has_length" "has_length" s_has_length ["row", "many"] f fd) (Z : Zs mg) : FnOk P w K mg base CX0 1 f fd ["row", "many"] spHasLen := by
  refine D.F.ok sc_has_length (fun vs H Q E h => ?_) (fun cdv A outer s H vs Q E hr h => ?_)
  · obtain ⟨t, xs, n, rfl, _⟩ := h
    rfl
  obtain ⟨t, xs, n, rfl, ht, q⟩ := h
  refine ⟨_, (pss_one (ps_ret (pe_and (pe_callB call_isi (by rfl) Z.isinstance (by decide +kernel) (pa_cons (pv 0) (pa_cons (pe_bltn (v := .ty "tuple") (by rfl) Z.tuple (by decide +kernel) rfl) pa_nil))) (pe_one (pe_cmpR op_eq (pe_callB call_len_seq (by rfl) Z.len (by decide +kernel) (pa_cons (pv 0) pa_nil)) (pv 1) (nomark _)))))), ?_⟩
  have ty : TyX K H (.ref t) (.type "tuple") := .base (.tup ht)
  refine ⟨_, rfl, _, _, _, _, _, rfl, .ty _, ty, kit_ty (r := true) (by decide +kernel), _, rfl, iteT ?_⟩
  exact ⟨_, rfl, t, xs, rfl, .inr (.of ht), _, rfl, rfl, q⟩
theorem ok_one_or {f : Addr} {fd : FuncData} (D : DefT K mg "is_one_or_none" "is_one_or_none" s_is_one_or_none ["value", "names"] f fd) : FnOk P w K mg base CX0 1 f fd ["value", "names"] spOneOr := by
  refine D.F.ok sc_is_one_or_none (fun vs H Q E h => ?_) (fun cdv A outer s H vs Q E hr h => ?_)
  · obtain ⟨u, l, L, rfl, _⟩ := h
    rfl
  obtain ⟨u, l, L, rfl, hl, hu, q⟩ := h
  refine ⟨_, (pss_one (ps_ret (pe_or (pe_cmpR op_isN (pv 0) pe_non (nomark _)) (pe_one (pe_cmpR op_in_seq (pv 0) (pv 1) (by rfl)))))), ?_⟩
  refine ⟨_, rfl, rfl, _, rfl, ?_⟩
  cases u with
  | none => exact iteT q
  | some s =>
    refine iteF ⟨_, rfl, _, rfl, l, _, rfl, .inl (.of hl), rfl, flat_strs L, ?_⟩
    have e : inV (V.str s) (L.map V.str) = true := by
      rw [in_strs]
      exact decide_eq_true (hu s rfl)
    show Q (.bl (if false = true then !inV (V.str s) (L.map V.str) else inV (V.str s) (L.map V.str))) H
    rw [e]
    exact q
end
end My

namespace My
open PySem L2
abbrev s_is_state : Stmt := top 15
abbrev s_is_letter : Stmt := top 16
abbrev s_is_mark : Stmt := top 17
abbrev s_is_wish : Stmt := top 18
abbrev s_is_answer : Stmt := top 19
abbrev s_is_reply : Stmt := top 24
abbrev s_is_idle : Stmt := top 25
abbrev s_is_busy : Stmt := top 26
theorem sc_is_state : FnScope ["row", "_"] ["row", "_"] (defScope s_is_state) := ⟨rfl, rfl, rfl, by decide +kernel, rfl, by decide +kernel, by decide +kernel⟩
theorem sc_is_letter : FnScope ["row", "_"] ["row", "_"] (defScope s_is_letter) := ⟨rfl, rfl, rfl, by decide +kernel, rfl, by decide +kernel, by decide +kernel⟩
theorem sc_is_mark : FnScope ["row", "_"] ["row", "_"] (defScope s_is_mark) := ⟨rfl, rfl, rfl, by decide +kernel, rfl, by decide +kernel, by decide +kernel⟩
theorem sc_is_wish : FnScope ["row", "names", "begin", "goal", "up"] ["row", "names"] (defScope s_is_wish) := ⟨rfl, rfl, rfl, by decide +kernel, rfl, by decide +kernel, by decide +kernel⟩
theorem sc_is_answer : FnScope ["row", "names", "begin", "down", "goal", "up"] ["row", "names"] (defScope s_is_answer) := ⟨rfl, rfl, rfl, by decide +kernel, rfl, by decide +kernel, by decide +kernel⟩
theorem sc_is_reply : FnScope ["mark", "down", "frees", "names"] ["mark", "down", "frees", "names"] (defScope s_is_reply) := ⟨rfl, rfl, rfl, by decide +kernel, rfl, by decide +kernel, by decide +kernel⟩
theorem sc_is_idle : FnScope ["row", "names"] ["row", "names"] (defScope s_is_idle) := ⟨rfl, rfl, rfl, by decide +kernel, rfl, by decide +kernel, by decide +kernel⟩
theorem sc_is_busy : FnScope ["row", "names", "task", "mark", "up", "goal", "down", "frees"] ["row", "names"] (defScope s_is_busy) := ⟨rfl, rfl, rfl, by decide +kernel, rfl, by decide +kernel, by decide +kernel⟩
theorem pg_tupK {X : Cx} {K : PySem.W.Frag} (hK : X.K = K) {es : List Expr} {k : Nat} {t : TGs} {n : Nat} {pos : Pos} (hc : X.calm = true) (h : PGs X es t)
    (hn : (assignEach es X.env).length = n := by rfl) (hst : (assignEach es X.env).findIdx? (·.1) = none := by rfl) : PG X (.Tuple es k pos) (gTup K n t) := by
  subst hK
  exact pg_tup hc h hn hst
theorem DN.get {H : Hp} {nd : Addr} {part : Str} {L : List Str} (h : DN H nd part L) : ∃ l, DGet H nd (.str part) (some (.ref l)) ∧ H l = some (.lst (L.map .str)) := by
  obtain ⟨kvs, l, h1, h2, h3⟩ := h
  have g := DGet.k (k := Sum.inr part) h1
  rw [h2] at g
  exact ⟨l, g, h3⟩
theorem in_true {s : Str} {L : List Str} (h : s ∈ L) : inV (.str s) (L.map V.str) = true := by
  rw [in_strs]
  exact decide_eq_true h
theorem oN_v {H : Hp} {o : Option Str} {x : V} {fp : List Addr} (h : Df H (oN o) x fp) : x = oV o := by
  cases o with
  | none => exact h.1
  | some s => exact h.1
theorem nin_false {s : Str} {L : List Str} (h : s ∈ L) : (!inV (.str s) (L.map V.str)) = false := by
  rw [in_true h]
  rfl
def spItem (R : PyData → Prop) (W : Hp → Addr → Prop) : Sp := fun vs H Q _ => ∃ (v : V) (d : PyData) (fp : List Addr) (nd : Addr), vs = [v, .ref nd] ∧ Df H d v fp ∧ R d ∧ W H nd ∧ ∀ H', Same H H' → Q (.bl true) H'
def W4 (N : Nm5) (H : Hp) (nd : Addr) : Prop := DN H nd "states" N.st ∧ DN H nd "ups" N.up ∧ DN H nd "downs" N.dn ∧ DN H nd "marks" N.ma
def W5 (N : Nm5) (H : Hp) (nd : Addr) : Prop := W4 N H nd ∧ DN H nd "tasks" N.tk
theorem W4.on {N : Nm5} {H H' : Hp} {nd : Addr} (h : W4 N H nd) (s : Same H H') : W4 N H' nd := ⟨h.1.on s, h.2.1.on s, h.2.2.1.on s, h.2.2.2.on s⟩
def RState (d : PyData) : Prop := ∃ s t, d = .tuple [.str s, .str t] ∧ Nm s ∧ t ∈ traits
def RLetter (d : PyData) : Prop := ∃ s f, d = .tuple [.str s, .bool f] ∧ Nm s
def RMark (d : PyData) : Prop := ∃ s, d = .str s ∧ Nm s
def spReply (N : Nm5) : Sp := fun vs H Q _ => ∃ (m : Str) (k : Option Str) (f : Bool) (nd : Addr), vs = [.str m, oV k, .bl f, .ref nd] ∧ m ∈ N.ma ∧ OnIn k N.dn ∧ W4 N H nd ∧ Q (.bl true) H
section
variable {P : Program} {w : World} {K : PySem.W.Frag} {mg : Str → Option Value} {base : Heap} {tl : Tok} {aP aN aT aO aL aH aI : Addr}
theorem ok_is_state {f f1 f2 : Addr} {fd fd1 fd2 : FuncData} (D : DefT K mg "is_state" "is_state" s_is_state ["row", "_"] f fd) (Z : Zs mg) (T : Tb K mg tl aP aN aT aO aL aH aI) (D_has_length : DefT K mg "has_length" "has_length" s_has_length ["row", "many"] f1 fd1) (D_is_name : DefT K mg "is_name" "is_name" s_is_name ["value"] f2 fd2) :
    FnOk P w K mg base CX0 3 f fd ["row", "_"] (spItem RState fun _ _ => True) := by
  have G_has_length := ok_has_length (P := P) (w := w) (base := base) D_has_length Z
  have G_is_name := ok_is_name (P := P) (w := w) (base := base) D_is_name Z T
  refine D.F.ok sc_is_state (fun vs H Q E h => ?_) (fun cdv A outer s H vs Q E hr h => ?_)
  · obtain ⟨v, d, fp, nd, rfl, _⟩ := h
    rfl
  obtain ⟨v, d, fp, nd, rfl, hD, ⟨s, tr, rfl, hs, htr⟩, _, q⟩ := h
  obtain ⟨t, xs, rfl, ht, x0, r0, g0, g1, rfl, rfl, ⟨rfl, rfl⟩, x1, r1, g2, g3, rfl, rfl, ⟨rfl, rfl⟩, rfl, rfl⟩ := hD
  refine ⟨_, (pss_one (ps_ret (pe_and (pe_call G_has_length (hr.mono (by decide)) rfl D_has_length.m D_has_length.F.kp D_has_length.b .nil pass0 (pa_cons (pv 0) (pa_cons pe_int pa_nil))) (pe_and (pe_call G_is_name (hr.mono (by decide)) rfl D_is_name.m D_is_name.F.kp D_is_name.b .nil pass0 (pa_cons (pe_ix ix_tup (pv 0) pe_int (fun _ _ => rfl)) pa_nil)) (pe_one (pe_cmpR op_in_seq (pe_ix ix_tup (pv 0) pe_int (fun _ _ => rfl)) (pe_glob (v := .ref aT) rfl T.traits rfl) (by rfl))))))), ?_⟩
  refine ⟨_, rfl, t, _, _, rfl, ht, _, rfl, ifT (decide_eq_true rfl) ?_⟩
  refine ⟨_, rfl, t, _, _, _, rfl, rfl, .of ht, atI_nat (j := 0) rfl, s, rfl, hs, fun H1 s1 => ⟨_, rfl, iteT ?_⟩⟩
  refine ⟨_, rfl, t, _, _, _, rfl, rfl, .of (s1 _ _ ht), atI_nat (j := 1) rfl, aT, _, rfl, .inr (T.traits_.t _), rfl, flat_strs _, ?_⟩
  have e : inV (V.str tr) (pTraits.map V.str) = true := in_true (by
    have : ∀ x ∈ traits, x ∈ pTraits := by decide +kernel
    exact this _ htr)
  show Q (.bl (if false = true then !inV (V.str tr) (pTraits.map V.str) else inV (V.str tr) (pTraits.map V.str))) H1
  rw [e]
  exact q H1 s1
theorem ok_is_letter {f f1 f2 : Addr} {fd fd1 fd2 : FuncData} (D : DefT K mg "is_letter" "is_letter" s_is_letter ["row", "_"] f fd) (Z : Zs mg) (T : Tb K mg tl aP aN aT aO aL aH aI) (D_has_length : DefT K mg "has_length" "has_length" s_has_length ["row", "many"] f1 fd1) (D_is_name : DefT K mg "is_name" "is_name" s_is_name ["value"] f2 fd2) :
    FnOk P w K mg base CX0 3 f fd ["row", "_"] (spItem RLetter fun _ _ => True) := by
  have G_has_length := ok_has_length (P := P) (w := w) (base := base) D_has_length Z
  have G_is_name := ok_is_name (P := P) (w := w) (base := base) D_is_name Z T
  refine D.F.ok sc_is_letter (fun vs H Q E h => ?_) (fun cdv A outer s H vs Q E hr h => ?_)
  · obtain ⟨v, d, fp, nd, rfl, _⟩ := h
    rfl
  obtain ⟨v, d, fp, nd, rfl, hD, ⟨s, b, rfl, hs⟩, _, q⟩ := h
  obtain ⟨t, xs, rfl, ht, x0, r0, g0, g1, rfl, rfl, ⟨rfl, rfl⟩, x1, r1, g2, g3, rfl, rfl, ⟨rfl, rfl⟩, rfl, rfl⟩ := hD
  refine ⟨_, (pss_one (ps_ret (pe_and (pe_call G_has_length (hr.mono (by decide)) rfl D_has_length.m D_has_length.F.kp D_has_length.b .nil pass0 (pa_cons (pv 0) (pa_cons pe_int pa_nil))) (pe_and (pe_call G_is_name (hr.mono (by decide)) rfl D_is_name.m D_is_name.F.kp D_is_name.b .nil pass0 (pa_cons (pe_ix ix_tup (pv 0) pe_int (fun _ _ => rfl)) pa_nil)) (pe_one (pe_callB call_isi (by rfl) Z.isinstance (by decide +kernel) (pa_cons (pe_ix ix_tup (pv 0) pe_int (fun _ _ => rfl)) (pa_cons (pe_bltn (v := .ty "bool") (by rfl) Z.bool (by decide +kernel) rfl) pa_nil)))))))), ?_⟩
  refine ⟨_, rfl, t, _, _, rfl, ht, _, rfl, ifT (decide_eq_true rfl) ?_⟩
  refine ⟨_, rfl, t, _, _, _, rfl, rfl, .of ht, atI_nat (j := 0) rfl, s, rfl, hs, fun H1 s1 => ⟨_, rfl, iteT ?_⟩⟩
  have ty : TyX K H1 (.bl b) (.type "bool") := .base (.bl b)
  exact ⟨_, rfl, t, _, _, _, rfl, rfl, .of (s1 _ _ ht), atI_nat (j := 1) rfl, _, _, _, _, _, rfl, .ty _, ty, kit_ty (r := true) (by decide +kernel), q H1 s1⟩
theorem ok_is_mark {f f2 : Addr} {fd fd2 : FuncData} (D : DefT K mg "is_mark" "is_mark" s_is_mark ["row", "_"] f fd) (Z : Zs mg) (T : Tb K mg tl aP aN aT aO aL aH aI) (D_is_name : DefT K mg "is_name" "is_name" s_is_name ["value"] f2 fd2) :
    FnOk P w K mg base CX0 3 f fd ["row", "_"] (spItem RMark fun _ _ => True) := by
  have G_is_name := ok_is_name (P := P) (w := w) (base := base) D_is_name Z T
  refine D.F.ok sc_is_mark (fun vs H Q E h => ?_) (fun cdv A outer s H vs Q E hr h => ?_)
  · obtain ⟨v, d, fp, nd, rfl, _⟩ := h
    rfl
  obtain ⟨v, d, fp, nd, rfl, hD, ⟨s, rfl, hs⟩, _, q⟩ := h
  have e : v = .str s := hD.1
  subst e
  refine ⟨_, (pss_one (ps_ret (pe_call G_is_name (hr.mono (by decide)) rfl D_is_name.m D_is_name.F.kp D_is_name.b .nil pass0 (pa_cons (pv 0) pa_nil)))), ?_⟩
  exact ⟨_, rfl, s, rfl, hs, q⟩
theorem ok_is_wish {f f1 f2 : Addr} {fd fd1 fd2 : FuncData} (N : Nm5) (D : DefT K mg "is_wish" "is_wish" s_is_wish ["row", "names"] f fd) (Z : Zs mg) (D_has_length : DefT K mg "has_length" "has_length" s_has_length ["row", "many"] f1 fd1) (D_is_one_or_none : DefT K mg "is_one_or_none" "is_one_or_none" s_is_one_or_none ["value", "names"] f2 fd2) :
    FnOk P w K mg base CX0 3 f fd ["row", "names"] (spItem (IsWish N) (W4 N)) := by
  have G_has_length := ok_has_length (P := P) (w := w) (base := base) D_has_length Z
  have G_is_one_or_none := ok_one_or (P := P) (w := w) (base := base) D_is_one_or_none
  refine D.F.ok sc_is_wish (fun vs H Q E h => ?_) (fun cdv A outer s H vs Q E hr h => ?_)
  · obtain ⟨v, d, fp, nd, rfl, _⟩ := h
    rfl
  obtain ⟨v, d, fp, nd, rfl, hD, ⟨a, b, u, rfl, ha, hb, hu⟩, hW, q⟩ := h
  obtain ⟨t, xs, rfl, ht, x0, r0, g0, g1, rfl, rfl, ⟨rfl, rfl⟩, x1, r1, g2, g3, rfl, rfl, ⟨rfl, rfl⟩, x2, r2, g4, g5, rfl, rfl, hD2, rfl, rfl⟩ := hD
  have e2 := oN_v hD2
  subst e2
  obtain ⟨l0, d0, e0⟩ := hW.1.get
  obtain ⟨l1, d1, e1⟩ := hW.2.1.get
  refine ⟨_, (pss_cons (ps_if (pt_not (pt_val (pe_call G_has_length (hr.mono (by decide)) rfl D_has_length.m D_has_length.F.kp D_has_length.b .nil pass0 (pa_cons (pv 0) (pa_cons pe_int pa_nil))))) (pss_one (ps_ret pe_bl)) pss_nil) (pss_cons (ps_asg (pv 0) (pg_tup rfl (pgs_cons (pg_name (i := 2) sc_is_wish.nd rfl (Or.inl rfl)) (pgs_cons (pg_name (i := 3) sc_is_wish.nd rfl (Or.inl rfl)) (pgs_cons (pg_name (i := 4) sc_is_wish.nd rfl (Or.inl rfl)) pgs_nil))))) (pss_one (ps_ret (pe_and (pe_cmpR op_in_seq (pv 2) (pe_dget (hu_of hr) (pv 1) pe_str (fun _ _ => rfl)) (by rfl)) (pe_and (pe_cmpR op_in_seq (pv 3) (pe_dget (hu_of hr) (pv 1) pe_str (fun _ _ => rfl)) (by rfl)) (pe_one (pe_call G_is_one_or_none (hr.mono (by decide)) rfl D_is_one_or_none.m D_is_one_or_none.F.kp D_is_one_or_none.b .nil pass0 (pa_cons (pv 4) (pa_cons (pe_dget (hu_of hr) (pv 1) pe_str (fun _ _ => rfl)) pa_nil)))))))))), ?_⟩
  refine ⟨_, rfl, t, _, _, rfl, ht, _, rfl, iteNS rfl ?_⟩
  refine ⟨_, rfl, t, _, rfl, .of ht, rfl, _, _, rfl, _, _, rfl, _, _, rfl, rfl, ?_⟩
  refine ⟨_, rfl, _, rfl, nd, _, rfl, d0, l0, _, rfl, .inl (.of e0), rfl, flat_strs _, _, rfl, ifT (in_true ha) ?_⟩
  refine ⟨_, rfl, _, rfl, nd, _, rfl, d0, l0, _, rfl, .inl (.of e0), rfl, flat_strs _, _, rfl, ifT (in_true hb) ?_⟩
  exact ⟨_, rfl, _, rfl, nd, _, rfl, d1, u, l1, _, rfl, e1, hu, q H (Same.refl H)⟩
theorem ok_is_answer {f f1 f2 : Addr} {fd fd1 fd2 : FuncData} (N : Nm5) (D : DefT K mg "is_answer" "is_answer" s_is_answer ["row", "names"] f fd) (Z : Zs mg) (D_has_length : DefT K mg "has_length" "has_length" s_has_length ["row", "many"] f1 fd1) (D_is_one_or_none : DefT K mg "is_one_or_none" "is_one_or_none" s_is_one_or_none ["value", "names"] f2 fd2) :
    FnOk P w K mg base CX0 3 f fd ["row", "names"] (spItem (IsAnswer N) (W4 N)) := by
  have G_has_length := ok_has_length (P := P) (w := w) (base := base) D_has_length Z
  have G_is_one_or_none := ok_one_or (P := P) (w := w) (base := base) D_is_one_or_none
  refine D.F.ok sc_is_answer (fun vs H Q E h => ?_) (fun cdv A outer s H vs Q E hr h => ?_)
  · obtain ⟨v, d, fp, nd, rfl, _⟩ := h
    rfl
  obtain ⟨v, d, fp, nd, rfl, hD, ⟨a, k, b, u, rfl, ha, hk, hb, hu⟩, hW, q⟩ := h
  obtain ⟨t, xs, rfl, ht, x0, r0, g0, g1, rfl, rfl, ⟨rfl, rfl⟩, x1, r1, g2, g3, rfl, rfl, ⟨rfl, rfl⟩, x2, r2, g4, g5, rfl, rfl, ⟨rfl, rfl⟩, x3, r3, g6, g7, rfl, rfl, hD2, rfl, rfl⟩ := hD
  have e2 := oN_v hD2
  subst e2
  obtain ⟨l0, d0, e0⟩ := hW.1.get
  obtain ⟨l1, d1, e1⟩ := hW.2.1.get
  obtain ⟨l2, d2, e2⟩ := hW.2.2.1.get
  refine ⟨_, (pss_cons (ps_if (pt_not (pt_val (pe_call G_has_length (hr.mono (by decide)) rfl D_has_length.m D_has_length.F.kp D_has_length.b .nil pass0 (pa_cons (pv 0) (pa_cons pe_int pa_nil))))) (pss_one (ps_ret pe_bl)) pss_nil) (pss_cons (ps_asg (pv 0) (pg_tup rfl (pgs_cons (pg_name (i := 2) sc_is_answer.nd rfl (Or.inl rfl)) (pgs_cons (pg_name (i := 3) sc_is_answer.nd rfl (Or.inl rfl)) (pgs_cons (pg_name (i := 4) sc_is_answer.nd rfl (Or.inl rfl)) (pgs_cons (pg_name (i := 5) sc_is_answer.nd rfl (Or.inl rfl)) pgs_nil)))))) (pss_cons (ps_if (PW.pt (pw_or (pt_cmpR op_notIn_seq (pv 2) (pe_dget (hu_of hr) (pv 1) pe_str (fun _ _ => rfl)) (by rfl)) (pw_or1 (pt_cmpR op_notIn_seq (pv 4) (pe_dget (hu_of hr) (pv 1) pe_str (fun _ _ => rfl)) (by rfl))))) (pss_one (ps_ret pe_bl)) pss_nil) (pss_one (ps_ret (pe_and (pe_cmpR op_in_seq (pv 3) (pe_dget (hu_of hr) (pv 1) pe_str (fun _ _ => rfl)) (by rfl)) (pe_one (pe_call G_is_one_or_none (hr.mono (by decide)) rfl D_is_one_or_none.m D_is_one_or_none.F.kp D_is_one_or_none.b .nil pass0 (pa_cons (pv 5) (pa_cons (pe_dget (hu_of hr) (pv 1) pe_str (fun _ _ => rfl)) pa_nil)))))))))), ?_⟩
  refine ⟨_, rfl, t, _, _, rfl, ht, _, rfl, iteNS rfl ?_⟩
  refine ⟨_, rfl, t, _, rfl, .of ht, rfl, _, _, rfl, _, _, rfl, _, _, rfl, _, _, rfl, rfl, ?_⟩
  refine ⟨_, rfl, _, rfl, nd, _, rfl, d0, l0, _, rfl, .inl (.of e0), rfl, flat_strs _, _, rfl, ifF (nin_false ha) ?_⟩
  refine ⟨_, rfl, _, rfl, nd, _, rfl, d0, l0, _, rfl, .inl (.of e0), rfl, flat_strs _, _, rfl, ifF (nin_false hb) ?_⟩
  refine ⟨_, rfl, _, rfl, nd, _, rfl, d2, l2, _, rfl, .inl (.of e2), rfl, flat_strs _, _, rfl, ifT (in_true hk) ?_⟩
  exact ⟨_, rfl, _, rfl, nd, _, rfl, d1, u, l1, _, rfl, e1, hu, q H (Same.refl H)⟩
theorem ok_is_reply {f f2 : Addr} {fd fd2 : FuncData} (N : Nm5) (D : DefT K mg "is_reply" "is_reply" s_is_reply ["mark", "down", "frees", "names"] f fd) (Z : Zs mg) (D_is_one_or_none : DefT K mg "is_one_or_none" "is_one_or_none" s_is_one_or_none ["value", "names"] f2 fd2) :
    FnOk P w K mg base CX0 3 f fd ["mark", "down", "frees", "names"] (spReply N) := by
  have G_is_one_or_none := ok_one_or (P := P) (w := w) (base := base) D_is_one_or_none
  refine D.F.ok sc_is_reply (fun vs H Q E h => ?_) (fun cdv A outer s H vs Q E hr h => ?_)
  · obtain ⟨m, k, b, nd, rfl, _⟩ := h
    rfl
  obtain ⟨m, k, b, nd, rfl, hm, hk, hW, q⟩ := h
  obtain ⟨l2, d2, e2⟩ := hW.2.2.1.get
  obtain ⟨l3, d3, e3⟩ := hW.2.2.2.get
  refine ⟨_, (pss_one (ps_ret (pe_and (pe_cmpR op_in_seq (pv 0) (pe_dget (hu_of hr) (pv 3) pe_str (fun _ _ => rfl)) (by rfl)) (pe_and (pe_call G_is_one_or_none (hr.mono (by decide)) rfl D_is_one_or_none.m D_is_one_or_none.F.kp D_is_one_or_none.b .nil pass0 (pa_cons (pv 1) (pa_cons (pe_dget (hu_of hr) (pv 3) pe_str (fun _ _ => rfl)) pa_nil))) (pe_one (pe_callB call_isi (by rfl) Z.isinstance (by decide +kernel) (pa_cons (pv 2) (pa_cons (pe_bltn (v := .ty "bool") (by rfl) Z.bool (by decide +kernel) rfl) pa_nil)))))))), ?_⟩
  refine ⟨_, rfl, _, rfl, nd, _, rfl, d3, l3, _, rfl, .inl (.of e3), rfl, flat_strs _, _, rfl, ifT (in_true hm) ?_⟩
  have ty : TyX K H (.bl b) (.type "bool") := .base (.bl b)
  exact ⟨_, rfl, _, rfl, nd, _, rfl, d2, k, l2, _, rfl, e2, hk, _, rfl, iteT ⟨_, rfl, _, _, _, _, _, rfl, .ty _, ty, kit_ty (r := true) (by decide +kernel), q⟩⟩
theorem ok_is_idle {f f1 f2 : Addr} {fd fd1 fd2 : FuncData} (N : Nm5) (D : DefT K mg "is_idle" "is_idle" s_is_idle ["row", "names"] f fd) (Z : Zs mg) (D_has_length : DefT K mg "has_length" "has_length" s_has_length ["row", "many"] f1 fd1) (D_is_one_or_none : DefT K mg "is_one_or_none" "is_one_or_none" s_is_one_or_none ["value", "names"] f2 fd2)
    {f3 : Addr} {fd3 : FuncData} (D_is_reply : DefT K mg "is_reply" "is_reply" s_is_reply ["mark", "down", "frees", "names"] f3 fd3) :
    FnOk P w K mg base CX0 4 f fd ["row", "names"] (spItem (IsIdle N) (W5 N)) := by
  have G_has_length := ok_has_length (P := P) (w := w) (base := base) D_has_length Z
  have G_is_reply := ok_is_reply (P := P) (w := w) (base := base) N D_is_reply Z D_is_one_or_none
  refine D.F.ok sc_is_idle (fun vs H Q E h => ?_) (fun cdv A outer s H vs Q E hr h => ?_)
  · obtain ⟨v, d, fp, nd, rfl, _⟩ := h
    rfl
  obtain ⟨v, d, fp, nd, rfl, hD, hR, ⟨hW, hW5⟩, q⟩ := h
  obtain ⟨l1, d1, e1⟩ := hW.2.1.get
  obtain ⟨l3, d3, e3⟩ := hW.2.2.2.get
  obtain ⟨l4, d4, e4⟩ := hW5.get
  refine ⟨_, (pss_cons (ps_if (PW.pt (pw_and (pt_not (pt_val (pe_call G_has_length (hr.mono (by decide)) rfl D_has_length.m D_has_length.F.kp D_has_length.b .nil pass0 (pa_cons (pv 0) (pa_cons pe_int pa_nil))))) (pw_and1 (pt_not (pt_val (pe_call G_has_length (hr.mono (by decide)) rfl D_has_length.m D_has_length.F.kp D_has_length.b .nil pass0 (pa_cons (pv 0) (pa_cons pe_int pa_nil)))))))) (pss_one (ps_ret pe_bl)) pss_nil) (pss_cons (ps_if (PW.pt (pw_or (pt_cmpR op_notIn_seq (pe_ix ix_tup (pv 0) pe_int (fun _ _ => rfl)) (pe_dget (hu_of hr) (pv 1) pe_str (fun _ _ => rfl)) (by rfl)) (pw_or1 (pt_cmpR op_notIn_seq (pe_ix ix_tup (pv 0) pe_int (fun _ _ => rfl)) (pe_dget (hu_of hr) (pv 1) pe_str (fun _ _ => rfl)) (by rfl))))) (pss_one (ps_ret pe_bl)) pss_nil) (pss_cons (ps_if (pt_cmpR op_eq (pe_callB call_len_seq (by rfl) Z.len (by decide +kernel) (pa_cons (pv 0) pa_nil)) pe_int (nomark _)) (pss_one (ps_ret (pe_cmpR op_in_seq (pe_ix ix_tup (pv 0) pe_int (fun _ _ => rfl)) (pe_dget (hu_of hr) (pv 1) pe_str (fun _ _ => rfl)) (by rfl)))) pss_nil) (pss_one (ps_ret (pe_call G_is_reply (hr.mono (by decide)) rfl D_is_reply.m D_is_reply.F.kp D_is_reply.b .nil pass0 (pa_cons (pe_ix ix_tup (pv 0) pe_int (fun _ _ => rfl)) (pa_cons (pe_ix ix_tup (pv 0) pe_int (fun _ _ => rfl)) (pa_cons (pe_ix ix_tup (pv 0) pe_int (fun _ _ => rfl)) (pa_cons (pv 1) pa_nil)))))))))), ?_⟩
  rcases hR with ⟨m, u, tk, rfl, hm, hu, htk⟩ | ⟨m, u, n, k, b, rfl, hm, hu, hn, hk⟩
  · obtain ⟨t, xs, rfl, ht, x0, r0, g0, g1, rfl, rfl, ⟨rfl, rfl⟩, x1, r1, g2, g3, rfl, rfl, ⟨rfl, rfl⟩, x2, r2, g4, g5, rfl, rfl, ⟨rfl, rfl⟩, rfl, rfl⟩ := hD
    refine ⟨_, rfl, t, _, _, rfl, ht, _, rfl, iteNS (c := (V.int _ = V.int 3)) rfl ?_⟩
    refine ⟨_, rfl, t, _, _, _, rfl, rfl, .of ht, atI_nat (j := 0) rfl, _, rfl, nd, _, rfl, d3, l3, _, rfl, .inl (.of e3), rfl, flat_strs _, _, rfl, ifF (nin_false hm) ?_⟩
    refine ⟨_, rfl, t, _, _, _, rfl, rfl, .of ht, atI_nat (j := 1) rfl, _, rfl, nd, _, rfl, d1, l1, _, rfl, .inl (.of e1), rfl, flat_strs _, _, rfl, ifF (nin_false hu) ?_⟩
    refine ⟨_, rfl, t, _, rfl, .inr (.of ht), rfl, _, rfl, ifT (decide_eq_true rfl) ?_⟩
    refine ⟨_, rfl, t, _, _, _, rfl, rfl, .of ht, atI_nat (j := 2) rfl, _, rfl, nd, _, rfl, d4, l4, _, rfl, .inl (.of e4), rfl, flat_strs _, ?_⟩
    have e : inV (V.str tk) (N.tk.map V.str) = true := in_true htk
    show Q (.bl (if false = true then !inV (V.str tk) (N.tk.map V.str) else inV (V.str tk) (N.tk.map V.str))) H
    rw [e]
    exact q H (Same.refl H)
  · obtain ⟨t, xs, rfl, ht, x0, r0, g0, g1, rfl, rfl, ⟨rfl, rfl⟩, x1, r1, g2, g3, rfl, rfl, ⟨rfl, rfl⟩, x2, r2, g4, g5, rfl, rfl, ⟨rfl, rfl⟩, x3, r3, g6, g7, rfl, rfl, hD2, x4, r4, g8, g9, rfl, rfl, ⟨rfl, rfl⟩, rfl, rfl⟩ := hD
    have eo := oN_v hD2
    subst eo
    have n3 : ¬ (V.int ((5 : Nat) : Int) = V.int 3) := by decide
    refine ⟨_, rfl, t, _, _, rfl, ht, _, rfl, ifT (show (!decide (V.int ((5 : Nat) : Int) = V.int 3)) = true by rw [decide_eq_false n3]; rfl) ?_⟩
    refine ⟨_, rfl, t, _, _, rfl, ht, _, rfl, iteNS (c := (V.int ((5 : Nat) : Int) = V.int 5)) rfl ?_⟩
    refine ⟨_, rfl, t, _, _, _, rfl, rfl, .of ht, atI_nat (j := 0) rfl, _, rfl, nd, _, rfl, d3, l3, _, rfl, .inl (.of e3), rfl, flat_strs _, _, rfl, ifF (nin_false hm) ?_⟩
    refine ⟨_, rfl, t, _, _, _, rfl, rfl, .of ht, atI_nat (j := 1) rfl, _, rfl, nd, _, rfl, d1, l1, _, rfl, .inl (.of e1), rfl, flat_strs _, _, rfl, ifF (nin_false hu) ?_⟩
    refine ⟨_, rfl, t, _, rfl, .inr (.of ht), rfl, _, rfl, ifF (decide_eq_false n3) ?_⟩
    exact ⟨_, rfl, t, _, _, _, rfl, rfl, .of ht, atI_nat (j := 2) rfl, _, rfl, t, _, _, _, rfl, rfl, .of ht, atI_nat (j := 3) rfl, _, rfl, t, _, _, _, rfl, rfl, .of ht, atI_nat (j := 4) rfl, _, rfl, n, k, b, nd, rfl, hn, hk, hW, q H (Same.refl H)⟩
theorem ok_is_busy {f f1 f2 : Addr} {fd fd1 fd2 : FuncData} (N : Nm5) (D : DefT K mg "is_busy" "is_busy" s_is_busy ["row", "names"] f fd) (Z : Zs mg) (D_has_length : DefT K mg "has_length" "has_length" s_has_length ["row", "many"] f1 fd1) (D_is_one_or_none : DefT K mg "is_one_or_none" "is_one_or_none" s_is_one_or_none ["value", "names"] f2 fd2)
    {f3 : Addr} {fd3 : FuncData} (D_is_reply : DefT K mg "is_reply" "is_reply" s_is_reply ["mark", "down", "frees", "names"] f3 fd3) :
    FnOk P w K mg base CX0 4 f fd ["row", "names"] (spItem (IsBusy N) (W5 N)) := by
  have G_has_length := ok_has_length (P := P) (w := w) (base := base) D_has_length Z
  have G_is_reply := ok_is_reply (P := P) (w := w) (base := base) N D_is_reply Z D_is_one_or_none
  refine D.F.ok sc_is_busy (fun vs H Q E h => ?_) (fun cdv A outer s H vs Q E hr h => ?_)
  · obtain ⟨v, d, fp, nd, rfl, _⟩ := h
    rfl
  obtain ⟨v, d, fp, nd, rfl, hD, ⟨tk, m, u, n, k, b, rfl, htk, hm, hu, hn, hk⟩, ⟨hW, hW5⟩, q⟩ := h
  obtain ⟨l1, d1, e1⟩ := hW.2.1.get
  obtain ⟨l3, d3, e3⟩ := hW.2.2.2.get
  obtain ⟨l4, d4, e4⟩ := hW5.get
  obtain ⟨t, xs, rfl, ht, x0, r0, g0, g1, rfl, rfl, ⟨rfl, rfl⟩, x1, r1, g2, g3, rfl, rfl, ⟨rfl, rfl⟩, x2, r2, g4, g5, rfl, rfl, ⟨rfl, rfl⟩, x3, r3, g6, g7, rfl, rfl, ⟨rfl, rfl⟩, x4, r4, g8, g9, rfl, rfl, hD2, x5, r5, g10, g11, rfl, rfl, ⟨rfl, rfl⟩, rfl, rfl⟩ := hD
  have eo := oN_v hD2
  subst eo
  refine ⟨_, (pss_cons (ps_if (pt_not (pt_val (pe_call G_has_length (hr.mono (by decide)) rfl D_has_length.m D_has_length.F.kp D_has_length.b .nil pass0 (pa_cons (pv 0) (pa_cons pe_int pa_nil))))) (pss_one (ps_ret pe_bl)) pss_nil) (pss_cons (ps_asg (pv 0) (pg_tup rfl (pgs_cons (pg_name (i := 2) sc_is_busy.nd rfl (Or.inl rfl)) (pgs_cons (pg_name (i := 3) sc_is_busy.nd rfl (Or.inl rfl)) (pgs_cons (pg_name (i := 4) sc_is_busy.nd rfl (Or.inl rfl)) (pgs_cons (pg_name (i := 5) sc_is_busy.nd rfl (Or.inl rfl)) (pgs_cons (pg_name (i := 6) sc_is_busy.nd rfl (Or.inl rfl)) (pgs_cons (pg_name (i := 7) sc_is_busy.nd rfl (Or.inl rfl)) pgs_nil)))))))) (pss_cons (ps_if (PW.pt (pw_or (pt_cmpR op_notIn_seq (pv 2) (pe_dget (hu_of hr) (pv 1) pe_str (fun _ _ => rfl)) (by rfl)) (pw_or (pt_cmpR op_notIn_seq (pv 3) (pe_dget (hu_of hr) (pv 1) pe_str (fun _ _ => rfl)) (by rfl)) (pw_or1 (pt_cmpR op_notIn_seq (pv 4) (pe_dget (hu_of hr) (pv 1) pe_str (fun _ _ => rfl)) (by rfl)))))) (pss_one (ps_ret pe_bl)) pss_nil) (pss_one (ps_ret (pe_call G_is_reply (hr.mono (by decide)) rfl D_is_reply.m D_is_reply.F.kp D_is_reply.b .nil pass0 (pa_cons (pv 5) (pa_cons (pv 6) (pa_cons (pv 7) (pa_cons (pv 1) pa_nil)))))))))), ?_⟩
  refine ⟨_, rfl, t, _, _, rfl, ht, _, rfl, iteNS rfl ?_⟩
  refine ⟨_, rfl, t, _, rfl, .of ht, rfl, _, _, rfl, _, _, rfl, _, _, rfl, _, _, rfl, _, _, rfl, _, _, rfl, rfl, ?_⟩
  refine ⟨_, rfl, _, rfl, nd, _, rfl, d4, l4, _, rfl, .inl (.of e4), rfl, flat_strs _, _, rfl, ifF (nin_false htk) ?_⟩
  refine ⟨_, rfl, _, rfl, nd, _, rfl, d3, l3, _, rfl, .inl (.of e3), rfl, flat_strs _, _, rfl, ifF (nin_false hm) ?_⟩
  refine ⟨_, rfl, _, rfl, nd, _, rfl, d1, l1, _, rfl, .inl (.of e1), rfl, flat_strs _, _, rfl, ifF (nin_false hu) ?_⟩
  exact ⟨_, rfl, _, rfl, _, rfl, _, rfl, n, k, b, nd, rfl, hn, hk, hW, q H (Same.refl H)⟩
end
end My

namespace My
open PySem L2
abbrev s_are_calls : Stmt := top 20
abbrev s_are_quiet : Stmt := top 21
abbrev s_are_ends : Stmt := top 22
abbrev s_is_task : Stmt := top 23
theorem sc_are_calls : FnScope ["rows", "names", "row"] ["rows", "names"] (defScope s_are_calls) := ⟨rfl, rfl, rfl, by decide +kernel, rfl, by decide +kernel, by decide +kernel⟩
theorem sc_are_quiet : FnScope ["rows", "marks", "at", "mark"] ["rows", "marks"] (defScope s_are_quiet) := ⟨rfl, rfl, rfl, by decide +kernel, rfl, by decide +kernel, by decide +kernel⟩
theorem sc_are_ends : FnScope ["rows", "marks", "mark"] ["rows", "marks"] (defScope s_are_ends) := ⟨rfl, rfl, rfl, by decide +kernel, rfl, by decide +kernel, by decide +kernel⟩
theorem sc_is_task : FnScope ["row", "names", "name", "calls", "quiet", "ends", "mark", "down", "owner", "marks"] ["row", "names"] (defScope s_is_task) := ⟨rfl, rfl, rfl, by decide +kernel, rfl, by decide +kernel, by decide +kernel⟩
def spCalls (N : Nm5) : Sp := fun vs H Q _ => ∃ (v : V) (cs : List PyData) (fp : List Addr) (nd : Addr), vs = [v, .ref nd] ∧ Df H (.list cs) v fp ∧ cs.length = N.ma.length ∧ cs.length ≤ 6 ∧ (∀ c ∈ cs, IsCall N c) ∧ W4 N H nd ∧ ∀ H', Same H H' → Q (.bl true) H'
def spQuiet : Sp := fun vs H Q _ => ∃ (a b : Addr) (qs ms : List Str), vs = [.ref a, .ref b] ∧ H a = some (.lst (qs.map .str)) ∧ H b = some (.lst (ms.map .str)) ∧ qs.length ≤ 6 ∧ qs ≠ [] ∧ qs.Nodup ∧ (∀ q ∈ qs, q ∈ ms ∧ Nm q) ∧ ∀ H', Same H H' → Q (.bl true) H'
def spEnds : Sp := fun vs H Q _ => ∃ (a b : Addr) (es ms : List Str), vs = [.ref a, .ref b] ∧ H a = some (.lst (es.map .str)) ∧ H b = some (.lst (ms.map .str)) ∧ es.length = ms.length ∧ es.length ≤ 6 ∧ (∀ e ∈ es, e ∈ ms) ∧ ∀ H', Same H H' → Q (.bl true) H'
theorem DfL.at {H : Hp} : ∀ {ds : List PyData} {xs : List V} {fp : List Addr} {i : Nat} {x : V}, DfL H ds xs fp → xs[i]? = some x → ∃ d f, ds[i]? = some d ∧ Df H d x f ∧ ∀ a ∈ f, a ∈ fp
  | [], _, _, _, _, h, e => by
    rw [h.1] at e
    cases e
  | d :: ds, _, _, 0, _, h, e => by
    obtain ⟨y, r, f, g, rfl, rfl, hx, _⟩ := h
    cases e
    exact ⟨d, f, rfl, hx, fun a ha => List.mem_append_left _ ha⟩
  | d :: ds, _, _, i + 1, _, h, e => by
    obtain ⟨y, r, f, g, rfl, rfl, _, hr⟩ := h
    obtain ⟨d', f', h1, h2, h3⟩ := DfL.at (i := i) hr (by simpa using e)
    exact ⟨d', f', by simpa using h1, h2, fun a ha => List.mem_append_right _ (h3 a ha)⟩
theorem strs_v {H : Hp} : ∀ {ss : List Str} {xs : List V} {fp : List Addr}, DfL H (ss.map .str) xs fp → xs = ss.map V.str
  | [], _, _, h => h.1
  | s :: ss, _, _, h => by
    obtain ⟨x, r, f, g, rfl, rfl, hx, hr⟩ := h
    rw [strs_v hr, hx.1]
    rfl
theorem lt1000 {n : Nat} (h : n < 1000) : n < sizeLine := Nat.lt_of_lt_of_le h (by decide)
theorem cutTo (xs : List V) (i : Nat) (h : i ≤ xs.length) : cutV xs none (some (i : Int)) = xs.take i := by
  unfold cutV
  rw [HT.sIx_none, HT.sIx_nat, List.drop_zero, Nat.sub_zero, Nat.min_eq_left h]
section
variable {P : Program} {w : World} {K : PySem.W.Frag} {mg : Str → Option Value} {base : Heap} {tl : Tok} {aP aN aT aO aL aH aI : Addr}
theorem ok_are_calls {f f1 f2 : Addr} {fd fd1 fd2 : FuncData} (N : Nm5) (D : DefT K mg "are_calls" "are_calls" s_are_calls ["rows", "names"] f fd) (Z : Zs mg) (D_has_length : DefT K mg "has_length" "has_length" s_has_length ["row", "many"] f1 fd1) (D_is_one_or_none : DefT K mg "is_one_or_none" "is_one_or_none" s_is_one_or_none ["value", "names"] f2 fd2) :
    FnOk P w K mg base CX0 3 f fd ["rows", "names"] (spCalls N) := by
  have G_has_length := ok_has_length (P := P) (w := w) (base := base) D_has_length Z
  have G_is_one_or_none := ok_one_or (P := P) (w := w) (base := base) D_is_one_or_none
  refine D.F.ok sc_are_calls (fun vs H Q E h => ?_) (fun cdv A outer s H vs Q E hr h => ?_)
  · obtain ⟨v, cs, fp, nd, rfl, _⟩ := h
    rfl
  obtain ⟨v, cs, fp, nd, rfl, ⟨l, xs, gp, rfl, rfl, hl, hD⟩, hlen, h6, hcs, hW, q⟩ := h
  obtain ⟨l3, d3, e3⟩ := hW.2.2.2.get
  have hxl := hD.len
  refine ⟨_, (pss_cons (ps_if (PW.pt (pw_or (pt_not (pt_val (pe_callB call_isi (by rfl) Z.isinstance (by decide +kernel) (pa_cons (pv 0) (pa_cons (pe_bltn (v := .ty "list") (by rfl) Z.list (by decide +kernel) rfl) pa_nil))))) (pw_or1 (pt_cmpR op_ne (pe_callB call_len_seq (by rfl) Z.len (by decide +kernel) (pa_cons (pv 0) pa_nil)) (pe_callB call_len_seq (by rfl) Z.len (by decide +kernel) (pa_cons (pe_dget (hu_of hr) (pv 1) pe_str (fun _ _ => rfl)) pa_nil)) (nomark _))))) (pss_one (ps_ret pe_bl)) pss_nil) (pss_one (ps_ret (pe_callB (cr_all rfl) (by rfl) Z.all (by decide +kernel) (pa_cons (pe_lc (own := [("row", 2)]) (g := gName 2) rfl sc_are_calls.nd  (pi_list (pv 0)) (blkOk_by (own := [("row", 2)]) (N := ["rows", "names", "row"]) (sc := defScope s_are_calls) (by decide +kernel)) (fun _ _ _ _ _ => pg_name (i := 2) sc_are_calls.nd rfl (Or.inl rfl)) (fun _ _ _ _ _ => pts_nil) (fun _ _ _ _ _ => (pe_and (pe_call G_has_length (hr.mono (by decide)) rfl D_has_length.m D_has_length.F.kp D_has_length.b .nil pass0 (pa_cons (pv 2) (pa_cons pe_int pa_nil))) (pe_and (pe_cmpR (op_in_seqK (K := K) rfl) (pe_ix (ix_tupK (K := K) rfl) (pv 2) pe_int (fun _ _ => rfl)) (pe_dget (hu_of hr) (pv 1) pe_str (fun _ _ => rfl)) (by rfl)) (pe_one (pe_call G_is_one_or_none (hr.mono (by decide)) rfl D_is_one_or_none.m D_is_one_or_none.F.kp D_is_one_or_none.b .nil pass0 (pa_cons (pe_ix (ix_tupK (K := K) rfl) (pv 2) pe_int (fun _ _ => rfl)) (pa_cons (pe_dget (hu_of hr) (pv 1) pe_str (fun _ _ => rfl)) pa_nil)))))))) pa_nil))))), ?_⟩
  have ty : TyX K H (.ref l) (.type "list") := .base (.lst hl)
  refine ⟨_, rfl, _, _, _, _, _, rfl, .ty _, ty, kit_ty (r := true) (by decide +kernel), _, rfl, iteF ?_⟩
  refine ⟨_, rfl, l, _, rfl, .inl (.of hl), _, rfl, nd, _, rfl, d3, l3, _, rfl, .inl (.of e3), rfl, _, rfl, iteNS (by rw [hxl, hlen, List.length_map]) ?_⟩
  refine ⟨_, rfl, l, rfl, ⟨_, .of hl⟩, fun dl hdl => ?_⟩
  refine lc_it (walk_list (K := K) (a := l) (xs := xs)) (fun i G => G dl = some (.lst (List.replicate i (.bl true))) ∧ Same H G) ⟨upd_same, same_upd hdl⟩ (fun _ G _ ⟨_, sG⟩ => .of (sG _ _ hl)) ?_ ?_
  · rintro i x G H' hi ⟨hG, sG⟩ ⟨rfl, hx⟩
    obtain ⟨d, f', hd, hDx, _⟩ := hD.at hx
    obtain ⟨m, k, rfl, hm, hk⟩ := hcs d (List.mem_of_getElem? hd)
    obtain ⟨t, ys, rfl, ht, x0, r0, g0, g1, rfl, _, ⟨rfl, _⟩, x1, r1, g2, g3, rfl, _, hD2, rfl, _⟩ := hDx
    have eo := oN_v hD2
    subst eo
    obtain ⟨l2, d2, e2⟩ := (hW.2.2.1.on sG).get
    obtain ⟨l3', d3', e3'⟩ := (hW.2.2.2.on sG).get
    have htG := sG _ _ ht
    refine ⟨rfl, _, rfl, t, _, _, rfl, htG, _, rfl, ifT (decide_eq_true rfl) ?_⟩
    refine ⟨_, rfl, t, _, _, _, rfl, rfl, .of htG, atI_nat (j := 0) rfl, _, rfl, nd, _, rfl, d3', l3', _, rfl, .inl (.of e3'), rfl, flat_strs _, _, rfl, ifT (in_true hm) ?_⟩
    refine ⟨_, rfl, t, _, _, _, rfl, rfl, .of htG, atI_nat (j := 1) rfl, _, rfl, nd, _, rfl, d2, k, l2, _, rfl, e2, hk, ?_⟩
    refine ⟨_, hG, ?_, ?_, Same.put sG hdl⟩
    · rw [List.length_replicate]
      exact lt1000 (by omega)
    · rw [List.replicate_succ']
      exact upd_same
  rintro G ⟨hG, sG⟩
  refine ⟨dl, List.replicate xs.length true, rfl, .of (by rw [rep_bl]; exact hG), ?_⟩
  rw [rep_all]
  exact q G sG
theorem ok_are_ends {f : Addr} {fd : FuncData} (D : DefT K mg "are_ends" "are_ends" s_are_ends ["rows", "marks"] f fd) (Z : Zs mg) : FnOk P w K mg base CX0 1 f fd ["rows", "marks"] spEnds := by
  refine D.F.ok sc_are_ends (fun vs H Q E h => ?_) (fun cdv A outer s H vs Q E hr h => ?_)
  · obtain ⟨a, b, es, ms, rfl, _⟩ := h
    rfl
  obtain ⟨a, b, es, ms, rfl, ha, hb, hl, h6, hm, q⟩ := h
  refine ⟨_, (pss_one (ps_ret (pe_and (pe_callB call_isi (by rfl) Z.isinstance (by decide +kernel) (pa_cons (pv 0) (pa_cons (pe_bltn (v := .ty "list") (by rfl) Z.list (by decide +kernel) rfl) pa_nil))) (pe_and (pe_cmpR op_eq (pe_callB call_len_seq (by rfl) Z.len (by decide +kernel) (pa_cons (pv 0) pa_nil)) (pe_callB call_len_seq (by rfl) Z.len (by decide +kernel) (pa_cons (pv 1) pa_nil)) (nomark _)) (pe_one (pe_callB (cr_all rfl) (by rfl) Z.all (by decide +kernel) (pa_cons (pe_lc (own := [("mark", 2)]) (g := gName 2) rfl sc_are_ends.nd  (pi_list (pv 0)) (blkOk_by (own := [("mark", 2)]) (N := ["rows", "marks", "mark"]) (sc := defScope s_are_ends) (by decide +kernel)) (fun _ _ _ _ _ => pg_name (i := 2) sc_are_ends.nd rfl (Or.inl rfl)) (fun _ _ _ _ _ => pts_nil) (fun _ _ _ _ _ => (pe_cmpR (op_in_seqK (K := K) rfl) (pv 2) (pv 1) (by rfl)))) pa_nil))))))), ?_⟩
  have ty : TyX K H (.ref a) (.type "list") := .base (.lst ha)
  refine ⟨_, rfl, _, _, _, _, _, rfl, .ty _, ty, kit_ty (r := true) (by decide +kernel), _, rfl, iteT ?_⟩
  refine ⟨_, rfl, a, _, rfl, .inl (.of ha), _, rfl, b, _, rfl, .inl (.of hb), rfl, _, rfl, ifT (decide_eq_true (by rw [List.length_map, List.length_map, hl])) ?_⟩
  refine ⟨_, rfl, a, rfl, ⟨_, .of ha⟩, fun dl hdl => ?_⟩
  refine lc_it (walk_list (K := K) (a := a) (xs := es.map V.str)) (fun i G => G dl = some (.lst (List.replicate i (.bl true))) ∧ Same H G) ⟨upd_same, same_upd hdl⟩ (fun _ G _ ⟨_, sG⟩ => .of (sG _ _ ha)) ?_ ?_
  · rintro i x G H' hi ⟨hG, sG⟩ ⟨rfl, hx⟩
    obtain ⟨e, rfl, he⟩ := str_of hx
    rw [List.length_map] at hi
    refine ⟨rfl, _, rfl, _, rfl, b, _, rfl, .inl (.of (sG _ _ hb)), rfl, flat_strs _, _, hG, ?_, ?_, Same.put sG hdl⟩
    · rw [List.length_replicate]
      exact lt1000 (by omega)
    · have e1 : inV (V.str e) (ms.map V.str) = true := in_true (hm e he)
      show upd H' dl (.lst (List.replicate i (.bl true) ++ [.bl (if false = true then !inV (V.str e) (ms.map V.str) else inV (V.str e) (ms.map V.str))])) dl = _
      rw [e1, List.replicate_succ']
      exact upd_same
  rintro G ⟨hG, sG⟩
  refine ⟨dl, List.replicate (es.map V.str).length true, rfl, .of (by rw [rep_bl]; exact hG), ?_⟩
  rw [rep_all]
  exact q G sG
theorem ok_are_quiet {f : Addr} {fd : FuncData} (D : DefT K mg "are_quiet" "are_quiet" s_are_quiet ["rows", "marks"] f fd) (Z : Zs mg) : FnOk P w K mg base CX0 1 f fd ["rows", "marks"] spQuiet := by
  refine D.F.ok sc_are_quiet (fun vs H Q E h => ?_) (fun cdv A outer s H vs Q E hr h => ?_)
  · obtain ⟨a, b, qs, ms, rfl, _⟩ := h
    rfl
  obtain ⟨a, b, qs, ms, rfl, ha, hb, h6, hne, hnd, hm, q⟩ := h
  refine ⟨_, (pss_cons (ps_if (PW.pt (pw_or (pt_not (pt_val (pe_callB call_isi (by rfl) Z.isinstance (by decide +kernel) (pa_cons (pv 0) (pa_cons (pe_bltn (v := .ty "list") (by rfl) Z.list (by decide +kernel) rfl) pa_nil))))) (pw_or1 (pt_cmpR (op_eqD hr.units) (pv 0) (pe_lst pa_nil) (nomark _))))) (pss_one (ps_ret pe_bl)) pss_nil) (pss_one (ps_ret (pe_callB (cr_all rfl) (by rfl) Z.all (by decide +kernel) (pa_cons (pe_lc (own := [("at", 2), ("mark", 3)]) (g := gTup K 2 (gCons (gName 2) (gCons (gName 3) gNil))) rfl sc_are_quiet.nd  (pi_enum (by rfl) Z.enumerate (pa_cons (pv 0) pa_nil)) (blkOk_by (own := [("at", 2), ("mark", 3)]) (N := ["rows", "marks", "at", "mark"]) (sc := defScope s_are_quiet) (by decide +kernel)) (fun _ _ _ _ _ => pg_tupK (K := K) (n := 2) rfl rfl (pgs_cons (pg_name (i := 2) sc_are_quiet.nd rfl (Or.inl rfl)) (pgs_cons (pg_name (i := 3) sc_are_quiet.nd rfl (Or.inl rfl)) pgs_nil))) (fun _ _ _ _ _ => pts_nil) (fun _ _ _ _ _ => (pe_and (pe_cmpR (op_in_seqK (K := K) rfl) (pv 3) (pv 1) (by rfl)) (pe_one (pe_cmpR (op_notIn_seqK (K := K) rfl) (pv 3) (pe_slice (sl_listK (K := K) rfl) (pv 0) po_none (po_some (pv 2))) (by rfl)))))) pa_nil))))), ?_⟩
  have ty : TyX K H (.ref a) (.type "list") := .base (.lst ha)
  refine ⟨_, rfl, _, _, _, _, _, rfl, .ty _, ty, kit_ty (r := true) (by decide +kernel), _, rfl, iteF ?_⟩
  refine ⟨_, rfl, sz 0, fun l0 h0 => ?_⟩
  have s0 := same_upd (o := .lst []) h0
  have ha0 := s0 _ _ ha
  refine ⟨.list (qs.map .str), .list [], .lst (.of ha0) (DfL.dp _ _ [] (strs_df qs)), .lst (.of upd_same) .nil, shaped_list (n := 0) (fun d hd => ?_) (by decide), rfl, _, rfl, ?_⟩
  · obtain ⟨z, hz, rfl⟩ := List.mem_map.mp hd
    exact ⟨strOk_nm (hm z hz).2, Nat.le_refl _⟩
  have e0 : PyData.eqv (.list (qs.map .str)) (.list []) = false := by
    cases qs with
    | nil => exact absurd rfl hne
    | cons z r => rfl
  rw [e0]
  refine iteF ?_
  refine ⟨_, rfl, a, _, rfl, .of ha0, fun dl hdl => ?_⟩
  refine lc_it (walk_enum (K := K) (a := a) (xs := qs.map V.str)) (fun i G => G dl = some (.lst (List.replicate i (.bl true))) ∧ Same (upd H l0 (.lst [])) G) ⟨upd_same, same_upd hdl⟩ (fun _ G _ ⟨_, sG⟩ => .of (sG _ _ ha0)) ?_ ?_
  · rintro i x G H' hi ⟨hG, sG⟩ ⟨T, x0, x1, rfl, hT, rfl, e0, e1⟩
    cases e0
    obtain ⟨z, rfl, hz⟩ := str_at e1
    rw [List.length_map] at hi
    have sT := sG.trans (same_upd (o := .tup [.int (i : Int), .str z]) hT)
    refine ⟨T, _, rfl, .of upd_same, rfl, _, _, rfl, _, _, rfl, rfl, rfl, ?_⟩
    refine ⟨_, rfl, _, rfl, b, _, rfl, .inl (.of (sT _ _ (s0 _ _ hb))), rfl, flat_strs _, _, rfl, ifT (in_true (hm z (List.mem_of_getElem? hz)).1) ?_⟩
    refine ⟨_, rfl, _, rfl, _, rfl, _, rfl, a, _, rfl, .of (sT _ _ ha0), fun lc hlc => ?_⟩
    rw [cutTo _ i (by rw [List.length_map]; omega), ← List.map_take]
    have sC := sT.trans (same_upd (o := .lst ((qs.take i).map V.str)) hlc)
    refine ⟨lc, _, rfl, .inl (.of upd_same), rfl, flat_strs _, ?_⟩
    have nin : z ∉ qs.take i := fun hmem => by
      obtain ⟨j, hj, ej⟩ := List.mem_iff_getElem.mp hmem
      rw [List.length_take] at hj
      have hj2 : j < qs.length := by omega
      have e2 : qs[j] = z := by
        rw [← ej]
        exact (List.getElem_take ..).symm
      have hi2 : i < qs.length := by omega
      have e3 : qs[i] = z := by
        rw [List.getElem?_eq_getElem hi2] at hz
        exact Option.some.inj hz
      exact List.pairwise_iff_getElem.mp hnd j i hj2 hi2 (by omega) (e2.trans e3.symm)
    refine ⟨_, keep_new hlc _ _ (keep_new hT _ _ hG), ?_, ?_, ?_⟩
    · rw [List.length_replicate]
      exact lt1000 (by omega)
    · have e4 : (!inV (V.str z) ((qs.take i).map V.str)) = true := by
        rw [in_strs, decide_eq_false nin]
        rfl
      show upd _ dl (.lst (List.replicate i (.bl true) ++ [.bl (if true = true then !inV (V.str z) ((qs.take i).map V.str) else inV (V.str z) ((qs.take i).map V.str))])) dl = _
      rw [if_pos rfl, e4, List.replicate_succ']
      exact upd_same
    · exact Same.put sC hdl
  rintro G ⟨hG, sG⟩
  refine ⟨dl, List.replicate (qs.map V.str).length true, rfl, .of (by rw [rep_bl]; exact hG), ?_⟩
  rw [rep_all]
  exact q G (s0.trans sG)
theorem ok_is_task {f f1 f2 f3 f4 f5 f6 : Addr} {fd fd1 fd2 fd3 fd4 fd5 fd6 : FuncData} (N : Nm5) (hN : NOk N) (D : DefT K mg "is_task" "is_task" s_is_task ["row", "names"] f fd) (Z : Zs mg) (T : Tb K mg tl aP aN aT aO aL aH aI)
    (D_has_length : DefT K mg "has_length" "has_length" s_has_length ["row", "many"] f1 fd1) (D_is_one_or_none : DefT K mg "is_one_or_none" "is_one_or_none" s_is_one_or_none ["value", "names"] f2 fd2) (D_is_name : DefT K mg "is_name" "is_name" s_is_name ["value"] f3 fd3)
    (D_are_calls : DefT K mg "are_calls" "are_calls" s_are_calls ["rows", "names"] f4 fd4) (D_are_quiet : DefT K mg "are_quiet" "are_quiet" s_are_quiet ["rows", "marks"] f5 fd5) (D_are_ends : DefT K mg "are_ends" "are_ends" s_are_ends ["rows", "marks"] f6 fd6) :
    FnOk P w K mg base CX0 4 f fd ["row", "names"] (spItem (fun d => ∃ nm, Nm nm ∧ IsTask N nm d) (W4 N)) := by
  have G_has_length := ok_has_length (P := P) (w := w) (base := base) D_has_length Z
  have G_is_one_or_none := ok_one_or (P := P) (w := w) (base := base) D_is_one_or_none
  have G_is_name := ok_is_name (P := P) (w := w) (base := base) D_is_name Z T
  have G_are_calls := ok_are_calls (P := P) (w := w) (base := base) N D_are_calls Z D_has_length D_is_one_or_none
  have G_are_quiet := ok_are_quiet (P := P) (w := w) (base := base) D_are_quiet Z
  have G_are_ends := ok_are_ends (P := P) (w := w) (base := base) D_are_ends Z
  refine D.F.ok sc_is_task (fun vs H Q E h => ?_) (fun cdv A outer s H vs Q E hr h => ?_)
  · obtain ⟨v, d, fp, nd, rfl, _⟩ := h
    rfl
  obtain ⟨v, d, fp, nd, rfl, hD, ⟨nm, hnm, cs, qs, es, m, k, o, rfl, hcl, hcs, hqn, hqd, hqs, hel, hes, hm, hk, ho⟩, hW, q⟩ := h
  have b8 := hN.mk6
  obtain ⟨t, xs, rfl, ht, x0, r0, g0, g1, rfl, rfl, ⟨rfl, rfl⟩, x1, r1, g2, g3, rfl, rfl, hC, x2, r2, g4, g5, rfl, rfl, hQ, x3, r3, g6, g7, rfl, rfl, hE, x4, r4, g8, g9, rfl, rfl, ⟨rfl, rfl⟩, x5, r5, g10, g11, rfl, rfl, hD2, x6, r6, g12, g13, rfl, rfl, ⟨rfl, rfl⟩, rfl, rfl⟩ := hD
  have eo := oN_v hD2
  subst eo
  obtain ⟨lq, xq, gq, rfl, rfl, hlq, hQl⟩ := hQ
  obtain ⟨le, xe, ge, rfl, rfl, hle, hEl⟩ := hE
  have eq1 := strs_v hQl
  have eq2 := strs_v hEl
  subst eq1 eq2
  obtain ⟨l3, d3, e3⟩ := hW.2.2.2.get
  have q6 : qs.length ≤ 6 := Nat.le_trans (nodup_le hqd hqs) b8
  refine ⟨_, (pss_cons (ps_if (pt_not (pt_val (pe_call G_has_length (hr.mono (by decide)) rfl D_has_length.m D_has_length.F.kp D_has_length.b .nil pass0 (pa_cons (pv 0) (pa_cons pe_int pa_nil))))) (pss_one (ps_ret pe_bl)) pss_nil) (pss_cons (ps_asg (pv 0) (pg_tup rfl (pgs_cons (pg_name (i := 2) sc_is_task.nd rfl (Or.inl rfl)) (pgs_cons (pg_name (i := 3) sc_is_task.nd rfl (Or.inl rfl)) (pgs_cons (pg_name (i := 4) sc_is_task.nd rfl (Or.inl rfl)) (pgs_cons (pg_name (i := 5) sc_is_task.nd rfl (Or.inl rfl)) (pgs_cons (pg_name (i := 6) sc_is_task.nd rfl (Or.inl rfl)) (pgs_cons (pg_name (i := 7) sc_is_task.nd rfl (Or.inl rfl)) (pgs_cons (pg_name (i := 8) sc_is_task.nd rfl (Or.inl rfl)) pgs_nil))))))))) (pss_cons (ps_set (i := 9) sc_is_task.nd rfl (Or.inl rfl) (pe_dget (hu_of hr) (pv 1) pe_str (fun _ _ => rfl))) (pss_cons (ps_if (PW.pt (pw_or (pt_not (pt_val (pe_call G_is_name (hr.mono (by decide)) rfl D_is_name.m D_is_name.F.kp D_is_name.b .nil pass0 (pa_cons (pv 2) pa_nil)))) (pw_or1 (pt_not (pt_val (pe_call G_are_calls (hr.mono (by decide)) rfl D_are_calls.m D_are_calls.F.kp D_are_calls.b .nil pass0 (pa_cons (pv 3) (pa_cons (pv 1) pa_nil)))))))) (pss_one (ps_ret pe_bl)) pss_nil) (pss_cons (ps_if (PW.pt (pw_or (pt_not (pt_val (pe_call G_are_quiet (hr.mono (by decide)) rfl D_are_quiet.m D_are_quiet.F.kp D_are_quiet.b .nil pass0 (pa_cons (pv 4) (pa_cons (pv 9) pa_nil))))) (pw_or1 (pt_not (pt_val (pe_call G_are_ends (hr.mono (by decide)) rfl D_are_ends.m D_are_ends.F.kp D_are_ends.b .nil pass0 (pa_cons (pv 5) (pa_cons (pv 9) pa_nil)))))))) (pss_one (ps_ret pe_bl)) pss_nil) (pss_one (ps_ret (pe_and (pe_cmpR op_in_seq (pv 6) (pv 9) (by rfl)) (pe_and (pe_call G_is_one_or_none (hr.mono (by decide)) rfl D_is_one_or_none.m D_is_one_or_none.F.kp D_is_one_or_none.b .nil pass0 (pa_cons (pv 7) (pa_cons (pe_dget (hu_of hr) (pv 1) pe_str (fun _ _ => rfl)) pa_nil))) (pe_one (pe_cmpR op_in_seq (pv 8) (pe_glob (v := .ref aO) rfl T.owners rfl) (by rfl)))))))))))), ?_⟩
  refine ⟨_, rfl, t, _, _, rfl, ht, _, rfl, iteNS rfl ?_⟩
  refine ⟨_, rfl, t, _, rfl, .of ht, rfl, _, _, rfl, _, _, rfl, _, _, rfl, _, _, rfl, _, _, rfl, _, _, rfl, _, _, rfl, rfl, ?_⟩
  refine ⟨_, rfl, nd, _, rfl, d3, ?_⟩
  refine ⟨_, rfl, nm, rfl, hnm, fun H1 s1 => ⟨_, rfl, iteF ?_⟩⟩
  refine ⟨_, rfl, _, rfl, x1, cs, g2, nd, rfl, hC.same s1, hcl, by omega, hcs, hW.on s1, fun H2 s2 => ⟨_, rfl, iteF ?_⟩⟩
  have s12 := s1.trans s2
  refine ⟨_, rfl, _, rfl, lq, l3, qs, N.ma, rfl, s12 _ _ hlq, s12 _ _ e3, q6, hqn, hqd, fun z hz => ⟨hqs z hz, hN.mkn.2 z (hqs z hz)⟩, fun H3 s3 => ⟨_, rfl, iteF ?_⟩⟩
  have s13 := s12.trans s3
  refine ⟨_, rfl, _, rfl, le, l3, es, N.ma, rfl, s13 _ _ hle, s13 _ _ e3, hel, by omega, hes, fun H4 s4 => ⟨_, rfl, iteF ?_⟩⟩
  have s14 := s13.trans s4
  refine ⟨_, rfl, _, rfl, l3, _, rfl, .inl (.of (s14 _ _ e3)), rfl, flat_strs _, _, rfl, ifT (in_true hm) ?_⟩
  obtain ⟨l2, d2, e2⟩ := (hW.2.2.1.on s14).get
  refine ⟨_, rfl, _, rfl, nd, _, rfl, d2, k, l2, _, rfl, e2, hk, _, rfl, iteT ?_⟩
  refine ⟨_, rfl, aO, _, rfl, .inr (T.owners_.t _), rfl, flat_strs _, ?_⟩
  have e : inV (V.str o) (owners.map V.str) = true := in_true ho
  show Q (.bl (if false = true then !inV (V.str o) (owners.map V.str) else inV (V.str o) (owners.map V.str))) H4
  rw [e]
  exact q H4 s14
end
end My

namespace My
open PySem L2
abbrev s_may_stand : Stmt := top 28
theorem sc_may_stand : FnScope ["part", "row", "before", "many", "other"] ["part", "row", "before"] (defScope s_may_stand) := ⟨rfl, rfl, rfl, by decide +kernel, rfl, by decide +kernel, by decide +kernel⟩
inductive Pk where
  | ss | us | ks | ms | ws | as | ts | is | bs
def Pk.nm : Pk → Str
  | .ss => "states"
  | .us => "ups"
  | .ks => "downs"
  | .ms => "marks"
  | .ws => "wishes"
  | .as => "answers"
  | .ts => "tasks"
  | .is => "idles"
  | .bs => "busies"
def Pk.lo : Pk → Nat
  | .ss => 2
  | .us => 1
  | .ks => 1
  | .ms => 1
  | .ws => 0
  | .as => 0
  | .ts => 1
  | .is => 0
  | .bs => 0
def Pk.hi : Pk → Nat
  | .ss => 7
  | .us => 5
  | .ks => 5
  | .ms => 6
  | .ws => 30
  | .as => 30
  | .ts => 3
  | .is => 30
  | .bs => 30
def Pk.cut : Pk → Nat
  | .as => 2
  | .is => 2
  | .bs => 3
  | _ => 1
def ItemR (N : Nm5) : Pk → PyData → Prop
  | .ss => RState
  | .us => RLetter
  | .ks => RLetter
  | .ms => RMark
  | .ws => IsWish N
  | .as => IsAnswer N
  | .ts => fun d => ∃ nm, Nm nm ∧ IsTask N nm d
  | .is => IsIdle N
  | .bs => IsBusy N
def Wk (N : Nm5) : Pk → Hp → Addr → Prop
  | .ws => W4 N
  | .as => W4 N
  | .ts => W4 N
  | .is => W5 N
  | .bs => W5 N
  | _ => fun _ _ => True
/-- the dicts of the module -/
structure Td (K : PySem.W.Frag) (w : World) (aL aH aI : Addr) (it : Pk → Addr) : Prop where
  lengths : ∀ k : Pk, ∃ t, KDct K w aL k.nm (.ref t) ∧ SqK K t [.int (k.lo : Nat), .int (k.hi : Nat)]
  heads : ∀ k : Pk, k ≠ .ms → k ≠ .ws → KDct K w aH k.nm (.int (k.cut : Nat))
  items : ∀ k : Pk, KDct K w aI k.nm (.ref (it k))
/-- the row begins with n names, and goes on -/
def Cut (n : Nat) (d : PyData) : Prop := ∃ (ss : List Str) (r : List PyData), d = .tuple (ss.map .str ++ r) ∧ ss.length = n ∧ r ≠ [] ∧ ∀ s ∈ ss, Nm s
def Stand (k : Pk) (bs : List PyData) (d : PyData) : Prop := match k with
  | .ms => ∃ s, d = .str s ∧ Nm s ∧ ∀ z ∈ bs, ∃ t, z = .str t ∧ Nm t ∧ t ≠ s
  | .ws => True
  | k => Cut k.cut d ∧ (∀ z ∈ bs, Cut k.cut z ∧ PyData.eqv (cutD k.cut z) (cutD k.cut d) = false) ∧ (k = .ss → (bs = [] → ∃ s, d = .tuple [.str s, .str ""]) ∧ ∀ z ∈ bs, z.canLay0 = true ∧ z.depth ≤ 1)
theorem DfL.split {H : Hp} : ∀ {ds es : List PyData} {xs : List V} {fp : List Addr}, DfL H (ds ++ es) xs fp → ∃ ys zs f g, xs = ys ++ zs ∧ DfL H ds ys f ∧ DfL H es zs g ∧ fp = f ++ g
  | [], _, xs, fp, h => ⟨[], xs, [], fp, rfl, .n, h, rfl⟩
  | d :: ds, _, _, _, h => by
    obtain ⟨x, r, f, g, rfl, rfl, hx, hr⟩ := h
    obtain ⟨ys, zs, f2, g2, rfl, h1, h2, rfl⟩ := DfL.split hr
    exact ⟨x :: ys, zs, f ++ f2, g2, rfl, ⟨x, ys, f, f2, rfl, rfl, hx, h1⟩, h2, (List.append_assoc ..).symm⟩
theorem Cut.at {H : Hp} {n : Nat} {d : PyData} {v : V} {fp : List Addr} (c : Cut n d) (h : Df H d v fp) : ∃ (t : Addr) (xs : List V) (ss : List Str), v = .ref t ∧ H t = some (.tup xs) ∧ n < xs.length ∧ xs.take n = ss.map V.str ∧ cutD n d = .tuple (ss.map .str) ∧ ∀ s ∈ ss, Nm s := by
  obtain ⟨ss, r, rfl, hn, hr, hs⟩ := c
  obtain ⟨t, xs, rfl, ht, hl⟩ := h
  obtain ⟨ys, zs, f, g, rfl, h1, h2, _⟩ := hl.split
  have e1 := strs_v h1
  subst e1
  have hz : 0 < zs.length := by
    rw [h2.len]
    exact List.length_pos_iff.mpr hr
  refine ⟨t, _, ss, rfl, ht, ?_, ?_, ?_, hs⟩
  · rw [List.length_append, List.length_map]
    omega
  · rw [← hn]
    have : (ss.map V.str).length = ss.length := List.length_map _
    rw [← this, List.take_left]
  · show PyData.tuple ((ss.map PyData.str ++ r).take n) = _
    rw [← hn]
    have : (ss.map PyData.str).length = ss.length := List.length_map _
    rw [← this, List.take_left]
theorem sh_strs {ss : List Str} (h : ∀ s ∈ ss, Nm s) : Sh (.tuple (ss.map .str)) := sh_tup fun d hd => by
  obtain ⟨s, hs, rfl⟩ := List.mem_map.mp hd
  exact ⟨strOk_nm (h s hs), Nat.le_refl _⟩
theorem ite_both {b : Bool} {A B : Prop} (h : B) (g : b = true → B → A) : if b = true then A else B := by
  cases b with
  | false => exact h
  | true => exact g rfl h
def spStand (k : Pk) : Sp := fun vs H Q _ => ∃ (v : V) (d : PyData) (fp gp : List Addr) (l : Addr) (xs : List V) (bs : List PyData), vs = [.str k.nm, v, .ref l] ∧ Df H d v fp ∧ H l = some (.lst xs) ∧ DfL H bs xs gp ∧ bs.length ≤ 30 ∧ Stand k bs d ∧ ∀ H', Same H H' → Q (.bl true) H'
section
variable {P : Program} {w : World} {K : PySem.W.Frag} {mg : Str → Option Value} {base : Heap} {tl : Tok} {aP aN aT aO aL aH aI : Addr} {it : Pk → Addr}
theorem ok_may_stand {f : Addr} {fd : FuncData} (D : DefT K mg "may_stand" "may_stand" s_may_stand ["part", "row", "before"] f fd) (Z : Zs mg) (T : Tb K mg tl aP aN aT aO aL aH aI) (Td' : Td K w aL aH aI it) :
    FnOk P w K mg base CX0 1 f fd ["part", "row", "before"] (fun vs H Q E => ∃ k, spStand k vs H Q E) := by
  refine D.F.ok sc_may_stand (fun vs H Q E h => ?_) (fun cdv A outer s H vs Q E hr h => ?_)
  · obtain ⟨k, v, d, fp, gp, l, xs, bs, rfl, _⟩ := h
    rfl
  obtain ⟨k, v, d, fp, gp, l, xs, bs, rfl, hD, hl, hB, h30, hSt, q⟩ := h
  refine ⟨_, (pss_cons (ps_if (PW.pt (pw_and (pt_cmpR op_eq (pv 0) pe_str (nomark _)) (pw_and (pt_cmpR (op_eqD hr.units) (pv 2) (pe_lst pa_nil) (nomark _)) (pw_and1 (pt_cmpR op_ne (pe_ix ix_tup (pv 1) pe_int (fun _ _ => rfl)) pe_str (nomark _)))))) (pss_one (ps_ret pe_bl)) pss_nil) (pss_cons (ps_if (pt_cmpR op_eq (pv 0) pe_str (nomark _)) (pss_one (ps_ret (pe_cmpR (op_notInD (hu65 hr)) (pv 1) (pv 2) (by rfl)))) pss_nil) (pss_cons (ps_if (pt_cmpR op_eq (pv 0) pe_str (nomark _)) (pss_one (ps_ret pe_bl)) pss_nil) (pss_cons (ps_set (i := 3) sc_may_stand.nd rfl (Or.inr rfl) (pe_ix ix_kdict (pe_glob (v := .ref aH) rfl T.heads rfl) (pv 0) (fun _ _ => rfl))) (pss_one (ps_ret (pe_cmpR (op_notInD (hu65 hr)) (pe_slice sl_tup (pv 1) po_none (po_some (pv 3))) (pe_lc (own := [("other", 4)]) (g := gName 4) rfl sc_may_stand.nd  (pi_list (pv 2)) (blkOk_by (own := [("other", 4)]) (N := ["part", "row", "before", "many", "other"]) (sc := defScope s_may_stand) (by decide +kernel)) (fun _ _ _ _ _ => pg_name (i := 4) sc_may_stand.nd rfl (Or.inl rfl)) (fun _ _ _ _ _ => pts_nil) (fun _ _ _ _ _ => (pe_slice (sl_tupK (K := K) rfl) (pv 4) po_none (po_some (pv 3))))) (by rfl)))))))), ?_⟩
  cases k
  case ms =>
    obtain ⟨s, rfl, hs, hz⟩ := hSt
    have ev : v = .str s := hD.1
    subst ev
    refine ⟨_, rfl, rfl, _, rfl, ifF (by decide +kernel) (iteF ?_)⟩
    refine ⟨_, rfl, rfl, _, rfl, ifT (decide_eq_true rfl) ?_⟩
    refine ⟨_, rfl, _, rfl, .str s, bs, .str s, .lst (.of hl) (DfL.dp bs xs gp hB), shaped_of (n := 0) (strOk_nm hs) (Nat.le_refl _) (by decide), shaped_list (n := 0) (fun z hz' => ?_) (by decide), ?_⟩
    · obtain ⟨t, rfl, ht, _⟩ := hz z hz'
      exact ⟨strOk_nm ht, Nat.le_refl _⟩
    have e : (bs.any fun z => PyData.eqv z (.str s)) = false := by
      rw [List.any_eq_false]
      intro z hz'
      obtain ⟨t, rfl, _, ne⟩ := hz z hz'
      have e1 : (t == s) = false := by simpa using ne
      show ¬ (PyData.eqv (.str t) (.str s) = true)
      simp [PyData.eqv, ne]
    rw [e]
    exact q H (Same.refl H)
  case ws =>
    refine ⟨_, rfl, rfl, _, rfl, ifF (by decide +kernel) (iteF ?_)⟩
    refine ⟨_, rfl, rfl, _, rfl, ifF (by decide +kernel) ?_⟩
    refine ⟨_, rfl, rfl, _, rfl, ifT (decide_eq_true rfl) ?_⟩
    exact q H (Same.refl H)
  case ss =>
    obtain ⟨t, ys, ss, rfl, ht, hn, htk, hcd, hss⟩ := hSt.1.at hD
    refine ⟨_, rfl, rfl, _, rfl, ifT (by decide +kernel) ?_⟩
    refine ⟨_, rfl, sz 0, fun l0 h0 => ?_⟩
    have s0 := same_upd (o := .lst []) h0
    have hl0 := s0 _ _ hl
    have ht0 := s0 _ _ ht
    have hB0 := hB.same s0
    refine ⟨.list bs, .list [], .lst (.of hl0) (hB0.dp), .lst (.of upd_same) .nil, shaped_list (n := 1) (fun z hz => (hSt.2.2 rfl).2 z hz) (by decide), rfl, _, rfl, ?_⟩
    refine ite_both ?_ (fun e2 hB2 => ?_)
    case refine_2 =>
      have e3 : bs = [] := by
        cases bs with
        | nil => rfl
        | cons z r => cases e2
      obtain ⟨s1, rfl⟩ := (hSt.2.2 rfl).1 e3
      obtain ⟨t9, xs9, e9, ht9, hl9⟩ := hD
      cases e9
      have exs : xs9 = ys := by
        rw [ht] at ht9
        cases ht9
        rfl
      subst exs
      have e4 : xs9 = [.str s1, .str ""] := strs_v (ss := [s1, ""]) hl9
      subst e4
      refine ⟨_, rfl, t, _, 1, _, rfl, rfl, .of ht0, rfl, rfl, ?_⟩

      exact ⟨_, rfl, hB2⟩
    refine iteF ?_
    refine ⟨_, rfl, rfl, _, rfl, ifF (by decide +kernel) ?_⟩
    refine ⟨_, rfl, rfl, _, rfl, ifF (by decide +kernel) ?_⟩
    refine ⟨_, rfl, aH, _, _, rfl, rfl, Td'.heads .ss (fun z => nomatch z) (fun z => nomatch z), ?_⟩
    refine ⟨_, rfl, _, rfl, _, rfl, t, _, rfl, .of ht0, notwhole hn, fun t2 ht2 => ?_⟩
    rw [cutTo _ _ (Nat.le_of_lt hn), htk]
    have s2 := s0.trans (same_upd (o := .tup (ss.map V.str)) ht2)
    refine ⟨_, rfl, l, rfl, ⟨_, .of (s2 _ _ hl)⟩, fun dl hdl => ?_⟩
    have hxl := hB.len
    refine lc_it (walk_list (K := K) (a := l) (xs := xs)) (fun i G => ∃ acc : List V, G dl = some (.lst acc) ∧ acc.length = i ∧ DfL G ((bs.take i).map (cutD (Pk.cut .ss))) acc [] ∧ Same _ G) ⟨[], upd_same, rfl, .n, same_upd hdl⟩ (fun _ G _ ⟨_, _, _, _, sG⟩ => .of (sG _ _ (s2 _ _ hl))) ?_ ?_
    · rintro i x G H' hi ⟨acc, hG, hal, hacc, sG⟩ ⟨rfl, hx⟩
      obtain ⟨d', f', hd', hDx, _⟩ := hB.at hx
      obtain ⟨t', ys', ss', rfl, ht', hn', htk', hcd', hss'⟩ := (hSt.2.1 d' (List.mem_of_getElem? hd')).1.at hDx
      have htG := sG _ _ (s2 _ _ ht')
      refine ⟨rfl, _, rfl, _, rfl, _, rfl, t', _, rfl, .of htG, notwhole hn', fun t3 ht3 => ?_⟩
      rw [cutTo _ _ (Nat.le_of_lt hn'), htk']
      refine ⟨acc, keep_new ht3 _ _ hG, lt1000 (by omega), acc ++ [.ref t3], upd_same, by rw [List.length_append, hal]; rfl, ?_, Same.put (sG.trans (same_upd ht3)) hdl⟩
      have et : bs.take (i + 1) = bs.take i ++ [d'] := by
        rw [List.take_succ, hd']
        rfl
      rw [et, List.map_append]
      refine ((hacc.same (same_upd ht3)).snoc (g := []) ?_).put (keep_new ht3 _ _ hG) (by simp)
      rw [hcd']
      exact tD upd_same (strs_df ss')
    rintro G ⟨acc, hG, hal, hacc, sG⟩
    rw [hxl, List.take_length] at hacc
    have hcut : Df G (cutD (Pk.cut .ss) d) (.ref t2) [] := by
      rw [hcd]
      exact tD (sG _ _ upd_same) (strs_df ss)
    have hsh : Sh (cutD (Pk.cut .ss) d) := by
      rw [hcd]
      exact sh_strs hss
    refine ⟨_, _, hcut.dp, .lst (.of hG) (hacc.dp), shaped_of hsh.1 hsh.2 (by decide), shaped_list (n := 1) (fun z hz => ?_) (by decide), ?_⟩
    · obtain ⟨z', hz', rfl⟩ := List.mem_map.mp hz
      obtain ⟨ss', r', e', hn', _, hs'⟩ := (hSt.2.1 z' hz').1
      have e2 : cutD (Pk.cut .ss) z' = .tuple (ss'.map .str) := by
        rw [e', ← hn']
        show PyData.tuple ((ss'.map PyData.str ++ r').take ss'.length) = _
        have : (ss'.map PyData.str).length = ss'.length := List.length_map _
        rw [← this, List.take_left]
      rw [e2]
      exact sh_strs hs'
    have e : ((bs.map (cutD (Pk.cut .ss))).any fun z => PyData.eqv z (cutD (Pk.cut .ss) d)) = false := by
      rw [List.any_eq_false]
      intro z hz
      obtain ⟨z', hz', rfl⟩ := List.mem_map.mp hz
      rw [(hSt.2.1 z' hz').2]
      exact Bool.false_ne_true
    rw [e]
    exact q G (s2.trans sG)
  case us =>
    obtain ⟨t, ys, ss, rfl, ht, hn, htk, hcd, hss⟩ := hSt.1.at hD
    refine ⟨_, rfl, rfl, _, rfl, ifF (by decide +kernel) (iteF ?_)⟩
    refine ⟨_, rfl, rfl, _, rfl, ifF (by decide +kernel) ?_⟩
    refine ⟨_, rfl, rfl, _, rfl, ifF (by decide +kernel) ?_⟩
    refine ⟨_, rfl, aH, _, _, rfl, rfl, Td'.heads .us (fun z => nomatch z) (fun z => nomatch z), ?_⟩
    refine ⟨_, rfl, _, rfl, _, rfl, t, _, rfl, .of ht, notwhole hn, fun t2 ht2 => ?_⟩
    rw [cutTo _ _ (Nat.le_of_lt hn), htk]
    have s2 := (Same.refl H).trans (same_upd (o := .tup (ss.map V.str)) ht2)
    refine ⟨_, rfl, l, rfl, ⟨_, .of (s2 _ _ hl)⟩, fun dl hdl => ?_⟩
    have hxl := hB.len
    refine lc_it (walk_list (K := K) (a := l) (xs := xs)) (fun i G => ∃ acc : List V, G dl = some (.lst acc) ∧ acc.length = i ∧ DfL G ((bs.take i).map (cutD (Pk.cut .us))) acc [] ∧ Same _ G) ⟨[], upd_same, rfl, .n, same_upd hdl⟩ (fun _ G _ ⟨_, _, _, _, sG⟩ => .of (sG _ _ (s2 _ _ hl))) ?_ ?_
    · rintro i x G H' hi ⟨acc, hG, hal, hacc, sG⟩ ⟨rfl, hx⟩
      obtain ⟨d', f', hd', hDx, _⟩ := hB.at hx
      obtain ⟨t', ys', ss', rfl, ht', hn', htk', hcd', hss'⟩ := (hSt.2.1 d' (List.mem_of_getElem? hd')).1.at hDx
      have htG := sG _ _ (s2 _ _ ht')
      refine ⟨rfl, _, rfl, _, rfl, _, rfl, t', _, rfl, .of htG, notwhole hn', fun t3 ht3 => ?_⟩
      rw [cutTo _ _ (Nat.le_of_lt hn'), htk']
      refine ⟨acc, keep_new ht3 _ _ hG, lt1000 (by omega), acc ++ [.ref t3], upd_same, by rw [List.length_append, hal]; rfl, ?_, Same.put (sG.trans (same_upd ht3)) hdl⟩
      have et : bs.take (i + 1) = bs.take i ++ [d'] := by
        rw [List.take_succ, hd']
        rfl
      rw [et, List.map_append]
      refine ((hacc.same (same_upd ht3)).snoc (g := []) ?_).put (keep_new ht3 _ _ hG) (by simp)
      rw [hcd']
      exact tD upd_same (strs_df ss')
    rintro G ⟨acc, hG, hal, hacc, sG⟩
    rw [hxl, List.take_length] at hacc
    have hcut : Df G (cutD (Pk.cut .us) d) (.ref t2) [] := by
      rw [hcd]
      exact tD (sG _ _ upd_same) (strs_df ss)
    have hsh : Sh (cutD (Pk.cut .us) d) := by
      rw [hcd]
      exact sh_strs hss
    refine ⟨_, _, hcut.dp, .lst (.of hG) (hacc.dp), shaped_of hsh.1 hsh.2 (by decide), shaped_list (n := 1) (fun z hz => ?_) (by decide), ?_⟩
    · obtain ⟨z', hz', rfl⟩ := List.mem_map.mp hz
      obtain ⟨ss', r', e', hn', _, hs'⟩ := (hSt.2.1 z' hz').1
      have e2 : cutD (Pk.cut .us) z' = .tuple (ss'.map .str) := by
        rw [e', ← hn']
        show PyData.tuple ((ss'.map PyData.str ++ r').take ss'.length) = _
        have : (ss'.map PyData.str).length = ss'.length := List.length_map _
        rw [← this, List.take_left]
      rw [e2]
      exact sh_strs hs'
    have e : ((bs.map (cutD (Pk.cut .us))).any fun z => PyData.eqv z (cutD (Pk.cut .us) d)) = false := by
      rw [List.any_eq_false]
      intro z hz
      obtain ⟨z', hz', rfl⟩ := List.mem_map.mp hz
      rw [(hSt.2.1 z' hz').2]
      exact Bool.false_ne_true
    rw [e]
    exact q G (s2.trans sG)
  case ks =>
    obtain ⟨t, ys, ss, rfl, ht, hn, htk, hcd, hss⟩ := hSt.1.at hD
    refine ⟨_, rfl, rfl, _, rfl, ifF (by decide +kernel) (iteF ?_)⟩
    refine ⟨_, rfl, rfl, _, rfl, ifF (by decide +kernel) ?_⟩
    refine ⟨_, rfl, rfl, _, rfl, ifF (by decide +kernel) ?_⟩
    refine ⟨_, rfl, aH, _, _, rfl, rfl, Td'.heads .ks (fun z => nomatch z) (fun z => nomatch z), ?_⟩
    refine ⟨_, rfl, _, rfl, _, rfl, t, _, rfl, .of ht, notwhole hn, fun t2 ht2 => ?_⟩
    rw [cutTo _ _ (Nat.le_of_lt hn), htk]
    have s2 := (Same.refl H).trans (same_upd (o := .tup (ss.map V.str)) ht2)
    refine ⟨_, rfl, l, rfl, ⟨_, .of (s2 _ _ hl)⟩, fun dl hdl => ?_⟩
    have hxl := hB.len
    refine lc_it (walk_list (K := K) (a := l) (xs := xs)) (fun i G => ∃ acc : List V, G dl = some (.lst acc) ∧ acc.length = i ∧ DfL G ((bs.take i).map (cutD (Pk.cut .ks))) acc [] ∧ Same _ G) ⟨[], upd_same, rfl, .n, same_upd hdl⟩ (fun _ G _ ⟨_, _, _, _, sG⟩ => .of (sG _ _ (s2 _ _ hl))) ?_ ?_
    · rintro i x G H' hi ⟨acc, hG, hal, hacc, sG⟩ ⟨rfl, hx⟩
      obtain ⟨d', f', hd', hDx, _⟩ := hB.at hx
      obtain ⟨t', ys', ss', rfl, ht', hn', htk', hcd', hss'⟩ := (hSt.2.1 d' (List.mem_of_getElem? hd')).1.at hDx
      have htG := sG _ _ (s2 _ _ ht')
      refine ⟨rfl, _, rfl, _, rfl, _, rfl, t', _, rfl, .of htG, notwhole hn', fun t3 ht3 => ?_⟩
      rw [cutTo _ _ (Nat.le_of_lt hn'), htk']
      refine ⟨acc, keep_new ht3 _ _ hG, lt1000 (by omega), acc ++ [.ref t3], upd_same, by rw [List.length_append, hal]; rfl, ?_, Same.put (sG.trans (same_upd ht3)) hdl⟩
      have et : bs.take (i + 1) = bs.take i ++ [d'] := by
        rw [List.take_succ, hd']
        rfl
      rw [et, List.map_append]
      refine ((hacc.same (same_upd ht3)).snoc (g := []) ?_).put (keep_new ht3 _ _ hG) (by simp)
      rw [hcd']
      exact tD upd_same (strs_df ss')
    rintro G ⟨acc, hG, hal, hacc, sG⟩
    rw [hxl, List.take_length] at hacc
    have hcut : Df G (cutD (Pk.cut .ks) d) (.ref t2) [] := by
      rw [hcd]
      exact tD (sG _ _ upd_same) (strs_df ss)
    have hsh : Sh (cutD (Pk.cut .ks) d) := by
      rw [hcd]
      exact sh_strs hss
    refine ⟨_, _, hcut.dp, .lst (.of hG) (hacc.dp), shaped_of hsh.1 hsh.2 (by decide), shaped_list (n := 1) (fun z hz => ?_) (by decide), ?_⟩
    · obtain ⟨z', hz', rfl⟩ := List.mem_map.mp hz
      obtain ⟨ss', r', e', hn', _, hs'⟩ := (hSt.2.1 z' hz').1
      have e2 : cutD (Pk.cut .ks) z' = .tuple (ss'.map .str) := by
        rw [e', ← hn']
        show PyData.tuple ((ss'.map PyData.str ++ r').take ss'.length) = _
        have : (ss'.map PyData.str).length = ss'.length := List.length_map _
        rw [← this, List.take_left]
      rw [e2]
      exact sh_strs hs'
    have e : ((bs.map (cutD (Pk.cut .ks))).any fun z => PyData.eqv z (cutD (Pk.cut .ks) d)) = false := by
      rw [List.any_eq_false]
      intro z hz
      obtain ⟨z', hz', rfl⟩ := List.mem_map.mp hz
      rw [(hSt.2.1 z' hz').2]
      exact Bool.false_ne_true
    rw [e]
    exact q G (s2.trans sG)
  case as =>
    obtain ⟨t, ys, ss, rfl, ht, hn, htk, hcd, hss⟩ := hSt.1.at hD
    refine ⟨_, rfl, rfl, _, rfl, ifF (by decide +kernel) (iteF ?_)⟩
    refine ⟨_, rfl, rfl, _, rfl, ifF (by decide +kernel) ?_⟩
    refine ⟨_, rfl, rfl, _, rfl, ifF (by decide +kernel) ?_⟩
    refine ⟨_, rfl, aH, _, _, rfl, rfl, Td'.heads .as (fun z => nomatch z) (fun z => nomatch z), ?_⟩
    refine ⟨_, rfl, _, rfl, _, rfl, t, _, rfl, .of ht, notwhole hn, fun t2 ht2 => ?_⟩
    rw [cutTo _ _ (Nat.le_of_lt hn), htk]
    have s2 := (Same.refl H).trans (same_upd (o := .tup (ss.map V.str)) ht2)
    refine ⟨_, rfl, l, rfl, ⟨_, .of (s2 _ _ hl)⟩, fun dl hdl => ?_⟩
    have hxl := hB.len
    refine lc_it (walk_list (K := K) (a := l) (xs := xs)) (fun i G => ∃ acc : List V, G dl = some (.lst acc) ∧ acc.length = i ∧ DfL G ((bs.take i).map (cutD (Pk.cut .as))) acc [] ∧ Same _ G) ⟨[], upd_same, rfl, .n, same_upd hdl⟩ (fun _ G _ ⟨_, _, _, _, sG⟩ => .of (sG _ _ (s2 _ _ hl))) ?_ ?_
    · rintro i x G H' hi ⟨acc, hG, hal, hacc, sG⟩ ⟨rfl, hx⟩
      obtain ⟨d', f', hd', hDx, _⟩ := hB.at hx
      obtain ⟨t', ys', ss', rfl, ht', hn', htk', hcd', hss'⟩ := (hSt.2.1 d' (List.mem_of_getElem? hd')).1.at hDx
      have htG := sG _ _ (s2 _ _ ht')
      refine ⟨rfl, _, rfl, _, rfl, _, rfl, t', _, rfl, .of htG, notwhole hn', fun t3 ht3 => ?_⟩
      rw [cutTo _ _ (Nat.le_of_lt hn'), htk']
      refine ⟨acc, keep_new ht3 _ _ hG, lt1000 (by omega), acc ++ [.ref t3], upd_same, by rw [List.length_append, hal]; rfl, ?_, Same.put (sG.trans (same_upd ht3)) hdl⟩
      have et : bs.take (i + 1) = bs.take i ++ [d'] := by
        rw [List.take_succ, hd']
        rfl
      rw [et, List.map_append]
      refine ((hacc.same (same_upd ht3)).snoc (g := []) ?_).put (keep_new ht3 _ _ hG) (by simp)
      rw [hcd']
      exact tD upd_same (strs_df ss')
    rintro G ⟨acc, hG, hal, hacc, sG⟩
    rw [hxl, List.take_length] at hacc
    have hcut : Df G (cutD (Pk.cut .as) d) (.ref t2) [] := by
      rw [hcd]
      exact tD (sG _ _ upd_same) (strs_df ss)
    have hsh : Sh (cutD (Pk.cut .as) d) := by
      rw [hcd]
      exact sh_strs hss
    refine ⟨_, _, hcut.dp, .lst (.of hG) (hacc.dp), shaped_of hsh.1 hsh.2 (by decide), shaped_list (n := 1) (fun z hz => ?_) (by decide), ?_⟩
    · obtain ⟨z', hz', rfl⟩ := List.mem_map.mp hz
      obtain ⟨ss', r', e', hn', _, hs'⟩ := (hSt.2.1 z' hz').1
      have e2 : cutD (Pk.cut .as) z' = .tuple (ss'.map .str) := by
        rw [e', ← hn']
        show PyData.tuple ((ss'.map PyData.str ++ r').take ss'.length) = _
        have : (ss'.map PyData.str).length = ss'.length := List.length_map _
        rw [← this, List.take_left]
      rw [e2]
      exact sh_strs hs'
    have e : ((bs.map (cutD (Pk.cut .as))).any fun z => PyData.eqv z (cutD (Pk.cut .as) d)) = false := by
      rw [List.any_eq_false]
      intro z hz
      obtain ⟨z', hz', rfl⟩ := List.mem_map.mp hz
      rw [(hSt.2.1 z' hz').2]
      exact Bool.false_ne_true
    rw [e]
    exact q G (s2.trans sG)
  case ts =>
    obtain ⟨t, ys, ss, rfl, ht, hn, htk, hcd, hss⟩ := hSt.1.at hD
    refine ⟨_, rfl, rfl, _, rfl, ifF (by decide +kernel) (iteF ?_)⟩
    refine ⟨_, rfl, rfl, _, rfl, ifF (by decide +kernel) ?_⟩
    refine ⟨_, rfl, rfl, _, rfl, ifF (by decide +kernel) ?_⟩
    refine ⟨_, rfl, aH, _, _, rfl, rfl, Td'.heads .ts (fun z => nomatch z) (fun z => nomatch z), ?_⟩
    refine ⟨_, rfl, _, rfl, _, rfl, t, _, rfl, .of ht, notwhole hn, fun t2 ht2 => ?_⟩
    rw [cutTo _ _ (Nat.le_of_lt hn), htk]
    have s2 := (Same.refl H).trans (same_upd (o := .tup (ss.map V.str)) ht2)
    refine ⟨_, rfl, l, rfl, ⟨_, .of (s2 _ _ hl)⟩, fun dl hdl => ?_⟩
    have hxl := hB.len
    refine lc_it (walk_list (K := K) (a := l) (xs := xs)) (fun i G => ∃ acc : List V, G dl = some (.lst acc) ∧ acc.length = i ∧ DfL G ((bs.take i).map (cutD (Pk.cut .ts))) acc [] ∧ Same _ G) ⟨[], upd_same, rfl, .n, same_upd hdl⟩ (fun _ G _ ⟨_, _, _, _, sG⟩ => .of (sG _ _ (s2 _ _ hl))) ?_ ?_
    · rintro i x G H' hi ⟨acc, hG, hal, hacc, sG⟩ ⟨rfl, hx⟩
      obtain ⟨d', f', hd', hDx, _⟩ := hB.at hx
      obtain ⟨t', ys', ss', rfl, ht', hn', htk', hcd', hss'⟩ := (hSt.2.1 d' (List.mem_of_getElem? hd')).1.at hDx
      have htG := sG _ _ (s2 _ _ ht')
      refine ⟨rfl, _, rfl, _, rfl, _, rfl, t', _, rfl, .of htG, notwhole hn', fun t3 ht3 => ?_⟩
      rw [cutTo _ _ (Nat.le_of_lt hn'), htk']
      refine ⟨acc, keep_new ht3 _ _ hG, lt1000 (by omega), acc ++ [.ref t3], upd_same, by rw [List.length_append, hal]; rfl, ?_, Same.put (sG.trans (same_upd ht3)) hdl⟩
      have et : bs.take (i + 1) = bs.take i ++ [d'] := by
        rw [List.take_succ, hd']
        rfl
      rw [et, List.map_append]
      refine ((hacc.same (same_upd ht3)).snoc (g := []) ?_).put (keep_new ht3 _ _ hG) (by simp)
      rw [hcd']
      exact tD upd_same (strs_df ss')
    rintro G ⟨acc, hG, hal, hacc, sG⟩
    rw [hxl, List.take_length] at hacc
    have hcut : Df G (cutD (Pk.cut .ts) d) (.ref t2) [] := by
      rw [hcd]
      exact tD (sG _ _ upd_same) (strs_df ss)
    have hsh : Sh (cutD (Pk.cut .ts) d) := by
      rw [hcd]
      exact sh_strs hss
    refine ⟨_, _, hcut.dp, .lst (.of hG) (hacc.dp), shaped_of hsh.1 hsh.2 (by decide), shaped_list (n := 1) (fun z hz => ?_) (by decide), ?_⟩
    · obtain ⟨z', hz', rfl⟩ := List.mem_map.mp hz
      obtain ⟨ss', r', e', hn', _, hs'⟩ := (hSt.2.1 z' hz').1
      have e2 : cutD (Pk.cut .ts) z' = .tuple (ss'.map .str) := by
        rw [e', ← hn']
        show PyData.tuple ((ss'.map PyData.str ++ r').take ss'.length) = _
        have : (ss'.map PyData.str).length = ss'.length := List.length_map _
        rw [← this, List.take_left]
      rw [e2]
      exact sh_strs hs'
    have e : ((bs.map (cutD (Pk.cut .ts))).any fun z => PyData.eqv z (cutD (Pk.cut .ts) d)) = false := by
      rw [List.any_eq_false]
      intro z hz
      obtain ⟨z', hz', rfl⟩ := List.mem_map.mp hz
      rw [(hSt.2.1 z' hz').2]
      exact Bool.false_ne_true
    rw [e]
    exact q G (s2.trans sG)
  case is =>
    obtain ⟨t, ys, ss, rfl, ht, hn, htk, hcd, hss⟩ := hSt.1.at hD
    refine ⟨_, rfl, rfl, _, rfl, ifF (by decide +kernel) (iteF ?_)⟩
    refine ⟨_, rfl, rfl, _, rfl, ifF (by decide +kernel) ?_⟩
    refine ⟨_, rfl, rfl, _, rfl, ifF (by decide +kernel) ?_⟩
    refine ⟨_, rfl, aH, _, _, rfl, rfl, Td'.heads .is (fun z => nomatch z) (fun z => nomatch z), ?_⟩
    refine ⟨_, rfl, _, rfl, _, rfl, t, _, rfl, .of ht, notwhole hn, fun t2 ht2 => ?_⟩
    rw [cutTo _ _ (Nat.le_of_lt hn), htk]
    have s2 := (Same.refl H).trans (same_upd (o := .tup (ss.map V.str)) ht2)
    refine ⟨_, rfl, l, rfl, ⟨_, .of (s2 _ _ hl)⟩, fun dl hdl => ?_⟩
    have hxl := hB.len
    refine lc_it (walk_list (K := K) (a := l) (xs := xs)) (fun i G => ∃ acc : List V, G dl = some (.lst acc) ∧ acc.length = i ∧ DfL G ((bs.take i).map (cutD (Pk.cut .is))) acc [] ∧ Same _ G) ⟨[], upd_same, rfl, .n, same_upd hdl⟩ (fun _ G _ ⟨_, _, _, _, sG⟩ => .of (sG _ _ (s2 _ _ hl))) ?_ ?_
    · rintro i x G H' hi ⟨acc, hG, hal, hacc, sG⟩ ⟨rfl, hx⟩
      obtain ⟨d', f', hd', hDx, _⟩ := hB.at hx
      obtain ⟨t', ys', ss', rfl, ht', hn', htk', hcd', hss'⟩ := (hSt.2.1 d' (List.mem_of_getElem? hd')).1.at hDx
      have htG := sG _ _ (s2 _ _ ht')
      refine ⟨rfl, _, rfl, _, rfl, _, rfl, t', _, rfl, .of htG, notwhole hn', fun t3 ht3 => ?_⟩
      rw [cutTo _ _ (Nat.le_of_lt hn'), htk']
      refine ⟨acc, keep_new ht3 _ _ hG, lt1000 (by omega), acc ++ [.ref t3], upd_same, by rw [List.length_append, hal]; rfl, ?_, Same.put (sG.trans (same_upd ht3)) hdl⟩
      have et : bs.take (i + 1) = bs.take i ++ [d'] := by
        rw [List.take_succ, hd']
        rfl
      rw [et, List.map_append]
      refine ((hacc.same (same_upd ht3)).snoc (g := []) ?_).put (keep_new ht3 _ _ hG) (by simp)
      rw [hcd']
      exact tD upd_same (strs_df ss')
    rintro G ⟨acc, hG, hal, hacc, sG⟩
    rw [hxl, List.take_length] at hacc
    have hcut : Df G (cutD (Pk.cut .is) d) (.ref t2) [] := by
      rw [hcd]
      exact tD (sG _ _ upd_same) (strs_df ss)
    have hsh : Sh (cutD (Pk.cut .is) d) := by
      rw [hcd]
      exact sh_strs hss
    refine ⟨_, _, hcut.dp, .lst (.of hG) (hacc.dp), shaped_of hsh.1 hsh.2 (by decide), shaped_list (n := 1) (fun z hz => ?_) (by decide), ?_⟩
    · obtain ⟨z', hz', rfl⟩ := List.mem_map.mp hz
      obtain ⟨ss', r', e', hn', _, hs'⟩ := (hSt.2.1 z' hz').1
      have e2 : cutD (Pk.cut .is) z' = .tuple (ss'.map .str) := by
        rw [e', ← hn']
        show PyData.tuple ((ss'.map PyData.str ++ r').take ss'.length) = _
        have : (ss'.map PyData.str).length = ss'.length := List.length_map _
        rw [← this, List.take_left]
      rw [e2]
      exact sh_strs hs'
    have e : ((bs.map (cutD (Pk.cut .is))).any fun z => PyData.eqv z (cutD (Pk.cut .is) d)) = false := by
      rw [List.any_eq_false]
      intro z hz
      obtain ⟨z', hz', rfl⟩ := List.mem_map.mp hz
      rw [(hSt.2.1 z' hz').2]
      exact Bool.false_ne_true
    rw [e]
    exact q G (s2.trans sG)
  case bs =>
    obtain ⟨t, ys, ss, rfl, ht, hn, htk, hcd, hss⟩ := hSt.1.at hD
    refine ⟨_, rfl, rfl, _, rfl, ifF (by decide +kernel) (iteF ?_)⟩
    refine ⟨_, rfl, rfl, _, rfl, ifF (by decide +kernel) ?_⟩
    refine ⟨_, rfl, rfl, _, rfl, ifF (by decide +kernel) ?_⟩
    refine ⟨_, rfl, aH, _, _, rfl, rfl, Td'.heads .bs (fun z => nomatch z) (fun z => nomatch z), ?_⟩
    refine ⟨_, rfl, _, rfl, _, rfl, t, _, rfl, .of ht, notwhole hn, fun t2 ht2 => ?_⟩
    rw [cutTo _ _ (Nat.le_of_lt hn), htk]
    have s2 := (Same.refl H).trans (same_upd (o := .tup (ss.map V.str)) ht2)
    refine ⟨_, rfl, l, rfl, ⟨_, .of (s2 _ _ hl)⟩, fun dl hdl => ?_⟩
    have hxl := hB.len
    refine lc_it (walk_list (K := K) (a := l) (xs := xs)) (fun i G => ∃ acc : List V, G dl = some (.lst acc) ∧ acc.length = i ∧ DfL G ((bs.take i).map (cutD (Pk.cut .bs))) acc [] ∧ Same _ G) ⟨[], upd_same, rfl, .n, same_upd hdl⟩ (fun _ G _ ⟨_, _, _, _, sG⟩ => .of (sG _ _ (s2 _ _ hl))) ?_ ?_
    · rintro i x G H' hi ⟨acc, hG, hal, hacc, sG⟩ ⟨rfl, hx⟩
      obtain ⟨d', f', hd', hDx, _⟩ := hB.at hx
      obtain ⟨t', ys', ss', rfl, ht', hn', htk', hcd', hss'⟩ := (hSt.2.1 d' (List.mem_of_getElem? hd')).1.at hDx
      have htG := sG _ _ (s2 _ _ ht')
      refine ⟨rfl, _, rfl, _, rfl, _, rfl, t', _, rfl, .of htG, notwhole hn', fun t3 ht3 => ?_⟩
      rw [cutTo _ _ (Nat.le_of_lt hn'), htk']
      refine ⟨acc, keep_new ht3 _ _ hG, lt1000 (by omega), acc ++ [.ref t3], upd_same, by rw [List.length_append, hal]; rfl, ?_, Same.put (sG.trans (same_upd ht3)) hdl⟩
      have et : bs.take (i + 1) = bs.take i ++ [d'] := by
        rw [List.take_succ, hd']
        rfl
      rw [et, List.map_append]
      refine ((hacc.same (same_upd ht3)).snoc (g := []) ?_).put (keep_new ht3 _ _ hG) (by simp)
      rw [hcd']
      exact tD upd_same (strs_df ss')
    rintro G ⟨acc, hG, hal, hacc, sG⟩
    rw [hxl, List.take_length] at hacc
    have hcut : Df G (cutD (Pk.cut .bs) d) (.ref t2) [] := by
      rw [hcd]
      exact tD (sG _ _ upd_same) (strs_df ss)
    have hsh : Sh (cutD (Pk.cut .bs) d) := by
      rw [hcd]
      exact sh_strs hss
    refine ⟨_, _, hcut.dp, .lst (.of hG) (hacc.dp), shaped_of hsh.1 hsh.2 (by decide), shaped_list (n := 1) (fun z hz => ?_) (by decide), ?_⟩
    · obtain ⟨z', hz', rfl⟩ := List.mem_map.mp hz
      obtain ⟨ss', r', e', hn', _, hs'⟩ := (hSt.2.1 z' hz').1
      have e2 : cutD (Pk.cut .bs) z' = .tuple (ss'.map .str) := by
        rw [e', ← hn']
        show PyData.tuple ((ss'.map PyData.str ++ r').take ss'.length) = _
        have : (ss'.map PyData.str).length = ss'.length := List.length_map _
        rw [← this, List.take_left]
      rw [e2]
      exact sh_strs hs'
    have e : ((bs.map (cutD (Pk.cut .bs))).any fun z => PyData.eqv z (cutD (Pk.cut .bs) d)) = false := by
      rw [List.any_eq_false]
      intro z hz
      obtain ⟨z', hz', rfl⟩ := List.mem_map.mp hz
      rw [(hSt.2.1 z' hz').2]
      exact Bool.false_ne_true
    rw [e]
    exact q G (s2.trans sG)
end
end My

namespace My
open PySem L2
abbrev s_wrong_index : Stmt := top 29
abbrev s_names_in : Stmt := top 30
theorem sc_wrong_index : FnScope ["part", "rows", "names", "least", "greatest", "is_item", "index", "row"] ["part", "rows", "names"] (defScope s_wrong_index) := ⟨rfl, rfl, rfl, by decide +kernel, rfl, by decide +kernel, by decide +kernel⟩
theorem sc_names_in : FnScope ["part", "rows", "row"] ["part", "rows"] (defScope s_names_in) := ⟨rfl, rfl, rfl, by decide +kernel, rfl, by decide +kernel, by decide +kernel⟩
def spIndex (N : Nm5) (k : Pk) : Sp := fun vs H Q _ => ∃ (l : Addr) (xs : List V) (ds : List PyData) (fp : List Addr) (nd : Addr), vs = [.str k.nm, .ref l, .ref nd] ∧ H l = some (.lst xs) ∧ DfL H ds xs fp ∧ k.lo ≤ ds.length ∧ ds.length ≤ k.hi ∧ (∀ d ∈ ds, ItemR N k d) ∧ (∀ (i : Nat) (d : PyData), ds[i]? = some d → Stand k (ds.take i) d) ∧ Wk N k H nd ∧ ∀ H', Same H H' → Q .non H'
theorem Wk.on {N : Nm5} {k : Pk} {H H' : Hp} {nd : Addr} (h : Wk N k H nd) (s : Same H H') : Wk N k H' nd := by
  cases k
  case ss => trivial
  case us => trivial
  case ks => trivial
  case ms => trivial
  case ws => exact W4.on h s
  case as => exact W4.on h s
  case ts => exact W4.on h s
  case is => exact ⟨W4.on h.1 s, h.2.on s⟩
  case bs => exact ⟨W4.on h.1 s, h.2.on s⟩
theorem DfL.take {H : Hp} : ∀ {ds : List PyData} {xs : List V} {fp : List Addr} (i : Nat), DfL H ds xs fp → ∃ g, DfL H (ds.take i) (xs.take i) g
  | _, _, _, 0, _ => ⟨[], rfl, rfl⟩
  | [], _, _, _ + 1, h => ⟨[], by rw [h.1]; rfl, rfl⟩
  | d :: ds, _, _, i + 1, h => by
    obtain ⟨x, r, f, g, rfl, rfl, hx, hr⟩ := h
    obtain ⟨g', h'⟩ := DfL.take i hr
    exact ⟨f ++ g', x, r.take i, f, g', rfl, rfl, hx, h'⟩
theorem Pk.hi30 (k : Pk) : k.hi ≤ 30 := by cases k <;> decide
section
variable {P : Program} {w : World} {K : PySem.W.Frag} {mg : Str → Option Value} {base : Heap} {tl : Tok} {aP aN aT aO aL aH aI : Addr} {it : Pk → Addr}
theorem ok_wrong_index {f f1 : Addr} {fd fd1 : FuncData} (N : Nm5) (D : DefT K mg "wrong_index" "wrong_index" s_wrong_index ["part", "rows", "names"] f fd) (Z : Zs mg) (T : Tb K mg tl aP aN aT aO aL aH aI) (Td' : Td K w aL aH aI it)
    (D_may_stand : DefT K mg "may_stand" "may_stand" s_may_stand ["part", "row", "before"] f1 fd1) (hI : ∀ k, Held P w K mg base 4 (it k) (spItem (ItemR N k) (Wk N k))) :
    FnOk P w K mg base CX0 5 f fd ["part", "rows", "names"] (fun vs H Q E => ∃ k, spIndex N k vs H Q E) := by
  have G_may_stand := ok_may_stand (P := P) (w := w) (base := base) D_may_stand Z T Td'
  refine D.F.ok sc_wrong_index (fun vs H Q E h => ?_) (fun cdv A outer s H vs Q E hr h => ?_)
  · obtain ⟨k, l, xs, ds, fp, nd, rfl, _⟩ := h
    rfl
  obtain ⟨k, l, xs, ds, fp, nd, rfl, hl, hD, hlo, hhi, hIt, hSt, hW, q⟩ := h
  obtain ⟨fd5, ps5, F5, hk5, hb5⟩ := (hI k).ex
  obtain ⟨tL, hL, hLs⟩ := Td'.lengths k
  have hxl := hD.len
  have h30 := k.hi30
  refine ⟨_, (pss_cons (ps_asg (pe_ix ix_kdict (pe_glob (v := .ref aL) rfl T.lengths rfl) (pv 0) (fun _ _ => rfl)) (pg_tup rfl (pgs_cons (pg_name (i := 3) sc_wrong_index.nd rfl (Or.inl rfl)) (pgs_cons (pg_name (i := 4) sc_wrong_index.nd rfl (Or.inl rfl)) pgs_nil)))) (pss_cons (ps_if (PW.pt (pw_or (pt_not (pt_val (pe_callB call_isi (by rfl) Z.isinstance (by decide +kernel) (pa_cons (pv 1) (pa_cons (pe_bltn (v := .ty "list") (by rfl) Z.list (by decide +kernel) rfl) pa_nil))))) (pw_or1 (pt_not (pt_chain op_le op_le (pv 3) (pe_callB call_len_seq (by rfl) Z.len (by decide +kernel) (pa_cons (pv 1) pa_nil)) (pv 4)))))) (pss_one (ps_ret (pe_un un_neg pe_int))) pss_nil) (pss_cons (ps_set (i := 5) sc_wrong_index.nd rfl (Or.inl rfl) (pe_ix ix_kdict (pe_glob (v := .ref aI) rfl T.items rfl) (pv 0) (fun _ _ => rfl))) (pss_cons (ps_for PassesOwn.never rfl (pi_enum (by rfl) Z.enumerate (pa_cons (pv 1) pa_nil)) (pg_tup rfl (pgs_cons (pg_name (i := 6) sc_wrong_index.nd rfl (Or.inl rfl)) (pgs_cons (pg_name (i := 7) sc_wrong_index.nd rfl (Or.inl rfl)) pgs_nil))) (pss_one (ps_if (PW.pt (pw_or (pt_not (pt_val (pe_callL (i := 5) F5 (hr.mono (by decide)) rfl (Or.inl rfl) hk5 hb5 .nil pass0 (pa_cons (pv 7) (pa_cons (pv 2) pa_nil))))) (pw_or1 (pt_not (pt_val (pe_call G_may_stand (hr.mono (by decide)) rfl D_may_stand.m D_may_stand.F.kp D_may_stand.b .nil pass0 (pa_cons (pv 0) (pa_cons (pv 7) (pa_cons (pe_slice sl_list (pv 1) po_none (po_some (pv 6))) pa_nil))))))))) (pss_one (ps_ret (pv 6))) pss_nil))) (pss_one (ps_ret pe_non)))))), ?_⟩
  refine ⟨_, rfl, aL, _, _, rfl, rfl, hL, tL, _, rfl, hLs.t _, rfl, _, _, rfl, _, _, rfl, rfl, ?_⟩
  have ty : TyX K H (.ref l) (.type "list") := .base (.lst hl)
  refine ⟨_, rfl, _, _, _, _, _, rfl, .ty _, ty, kit_ty (r := true) (by decide +kernel), _, rfl, iteF ?_⟩
  refine ⟨_, rfl, _, rfl, l, _, rfl, .inl (.of hl), _, _, rfl, rfl, _, rfl, ifT (decide_eq_true (by omega)) ⟨_, rfl, _, _, rfl, rfl, _, rfl, ?_⟩⟩
  rw [decide_eq_true (show ((xs.length : Nat) : Int) ≤ (k.hi : Nat) by omega)]
  refine iteF ?_
  refine ⟨_, rfl, aI, _, _, rfl, rfl, Td'.items k, ?_⟩
  refine ⟨_, rfl, l, xs, rfl, .of hl, for_it (walk_enum (K := K) (a := l) (xs := xs)) (fun i σ G => ∃ v6 v7 : Option V, σ = [some (.str k.nm), some (.ref l), some (.ref nd), some (.int (k.lo : Nat)), some (.int (k.hi : Nat)), some (.ref (it k)), v6, v7] ∧ Same H G) ⟨_, _, rfl, Same.refl H⟩ (fun _ _ G _ ⟨_, _, _, sG⟩ => .of (sG _ _ hl)) ?_ ?_⟩
  · rintro i x σ G H' hi ⟨v6, v7, rfl, sG⟩ ⟨T0, x0, x1, rfl, hT, rfl, e0, e1⟩
    cases e0
    have sT := sG.trans (same_upd (o := .tup [.int (i : Int), x1]) hT)
    obtain ⟨d, f', hd, hDx, _⟩ := hD.at e1
    refine ⟨T0, _, rfl, .of upd_same, rfl, _, _, rfl, _, _, rfl, rfl, ?_⟩
    refine ⟨rfl, _, rfl, _, rfl, x1, d, f', nd, rfl, hDx.same sT, hIt d (List.mem_of_getElem? hd), hW.on sT, fun H2 s2 => ⟨_, rfl, iteF ?_⟩⟩
    have s12 := sT.trans s2
    refine ⟨_, rfl, _, rfl, _, rfl, _, rfl, _, rfl, l, _, rfl, .of (s12 _ _ hl), fun lc hlc => ?_⟩
    rw [cutTo _ i (by omega)]
    have sC := s12.trans (same_upd (o := .lst (xs.take i)) hlc)
    obtain ⟨gp, hTk⟩ := hD.take i
    refine ⟨k, x1, d, f', gp, lc, _, ds.take i, rfl, hDx.same sC, upd_same, hTk.same sC, by rw [List.length_take]; omega, hSt i d hd, fun H3 s3 => ⟨_, rfl, iteF ?_⟩⟩
    exact ⟨_, _, rfl, sC.trans s3⟩
  · rintro σ G ⟨_, _, rfl, sG⟩
    exact q G sG
/-- the names that a part's items have -/
def HasNm (k : Pk) (ds : List PyData) (nms : List Str) : Prop := match k with
  | .ms => ds = nms.map .str
  | .ws => nms = []
  | .as => nms = []
  | .is => nms = []
  | .bs => nms = []
  | _ => nms.length = ds.length ∧ ∀ (i : Nat) (d : PyData), ds[i]? = some d → ∃ s r, nms[i]? = some s ∧ d = .tuple (.str s :: r)
def Pk.nmd : Pk → Bool
  | .ss => true
  | .us => true
  | .ks => true
  | .ts => true
  | _ => false
def spNamesIn : Sp := fun vs H Q _ => ∃ (k : Pk) (l : Addr) (xs : List V) (ds : List PyData) (fp : List Addr) (nms : List Str), vs = [.str k.nm, .ref l] ∧ H l = some (.lst xs) ∧ DfL H ds xs fp ∧ ds.length ≤ 30 ∧ HasNm k ds nms ∧ ∀ l' H', Same H H' → H' l' = some (.lst (nms.map .str)) → H l' = none → Q (.ref l') H'
theorem nm_named {k : Pk} (h : k.nmd = true) : k.nm ∈ pNamed := by
  cases k <;> first | (revert h; decide) | (show _ ∈ pNamed; decide +kernel)
theorem nm_not {k : Pk} (h : k.nmd = false) : k.nm ∉ pNamed := by
  cases k <;> first | (revert h; decide) | (show _ ∉ pNamed; decide +kernel)
theorem ok_names_in {f : Addr} {fd : FuncData} (D : DefT K mg "names_in" "names_in" s_names_in ["part", "rows"] f fd) (Z : Zs mg) (T : Tb K mg tl aP aN aT aO aL aH aI) :
    FnOk P w K mg base CX0 1 f fd ["part", "rows"] spNamesIn := by
  refine D.F.ok sc_names_in (fun vs H Q E h => ?_) (fun cdv A outer s H vs Q E hr h => ?_)
  · obtain ⟨k, l, xs, ds, fp, nms, rfl, _⟩ := h
    rfl
  obtain ⟨k, l, xs, ds, fp, nms, rfl, hl, hD, h30, hN, q⟩ := h
  have hxl := hD.len
  refine ⟨_, (pss_cons (ps_if (pt_cmpR op_eq (pv 0) pe_str (nomark _)) (pss_one (ps_ret (pe_callTy call_list_of (by rfl) Z.list (by decide +kernel) (pa_cons (pv 1) pa_nil)))) pss_nil) (pss_one (ps_ret (pe_ifExp (pt_cmpR op_in_seq (pv 0) (pe_glob (v := .ref aN) rfl T.named rfl) (by rfl)) (pe_lc (own := [("row", 2)]) (g := gName 2) rfl sc_names_in.nd  (pi_list (pv 1)) (blkOk_by (own := [("row", 2)]) (N := ["part", "rows", "row"]) (sc := defScope s_names_in) (by decide +kernel)) (fun _ _ _ _ _ => pg_name (i := 2) sc_names_in.nd rfl (Or.inl rfl)) (fun _ _ _ _ _ => pts_nil) (fun _ _ _ _ _ => (pe_ix (ix_tupK (K := K) rfl) (pv 2) pe_int (fun _ _ => rfl)))) (pe_lst pa_nil))))), ?_⟩
  by_cases em : k = .ms
  · subst em
    have e1 : xs = nms.map V.str := strs_v (by
      have e2 : ds = nms.map PyData.str := hN
      rw [← e2]
      exact hD)
    subst e1
    refine ⟨_, rfl, rfl, _, rfl, ifT (by decide +kernel) ?_⟩
    refine ⟨_, rfl, l, _, rfl, .inl (.of hl), fun l2 h2 => ?_⟩
    exact q l2 _ (same_upd h2) upd_same h2
  have e0 : decide (V.str k.nm = V.str "marks") = false := by
    cases k <;> first | exact absurd rfl em | decide +kernel
  refine ⟨_, rfl, rfl, _, rfl, ifF e0 ?_⟩
  refine ⟨_, rfl, aN, _, rfl, .inr (T.named_.t _), rfl, flat_strs _, _, rfl, ?_⟩
  show if inV (V.str k.nm) (pNamed.map V.str) = true then _ else _
  cases hb : k.nmd with
  | false =>
    have e2 : inV (V.str k.nm) (pNamed.map V.str) = false := by
      rw [in_strs]
      exact decide_eq_false (nm_not hb)
    have e3 : nms = [] := by
      cases k <;> first | exact absurd rfl em | exact hN | (cases hb; done)
    subst e3
    refine ifF e2 ⟨sz 0, fun l2 h2 => ?_⟩
    exact q l2 _ (same_upd h2) upd_same h2
  | true =>
    have hN2 : nms.length = ds.length ∧ ∀ (i : Nat) (d : PyData), ds[i]? = some d → ∃ s r, nms[i]? = some s ∧ d = .tuple (.str s :: r) := by
      cases k <;> first | exact hN | (cases hb; done)
    obtain ⟨hnl, hN3⟩ := hN2
    refine ifT (in_true (nm_named hb)) ?_
    refine ⟨_, rfl, l, rfl, ⟨_, .of hl⟩, fun dl hdl => ?_⟩
    refine lc_it (walk_list (K := K) (a := l) (xs := xs)) (fun i G => G dl = some (.lst ((nms.take i).map V.str)) ∧ Same H G) ⟨upd_same, same_upd hdl⟩ (fun _ G _ ⟨_, sG⟩ => .of (sG _ _ hl)) ?_ ?_
    · rintro i x G H' hi ⟨hG, sG⟩ ⟨rfl, hx⟩
      obtain ⟨d, f', hd, hDx, _⟩ := hD.at hx
      obtain ⟨z, r, hz, rfl⟩ := hN3 i d hd
      obtain ⟨t, ys, rfl, ht, hDl⟩ := hDx
      obtain ⟨x0, r0, g0, g1, rfl, _, ⟨rfl, _⟩, _⟩ := hDl
      refine ⟨rfl, _, rfl, t, _, _, _, rfl, rfl, .of (sG _ _ ht), atI_nat (j := 0) rfl, _, hG, ?_, ?_, Same.put sG hdl⟩
      · rw [List.length_map, List.length_take]
        exact lt1000 (by omega)
      · have et : nms.take (i + 1) = nms.take i ++ [z] := by
          rw [List.take_succ, hz]
          rfl
        rw [et, List.map_append]
        exact upd_same
    rintro G ⟨hG, sG⟩
    rw [hxl, ← hnl, List.take_length] at hG
    exact q dl G sG hG hdl
end
end My

namespace My
open PySem L2
abbrev s_wrong_part : Stmt := top 31
theorem sc_wrong_part : FnScope ["parts", "names", "part", "rows", "index"] ["parts"] (defScope s_wrong_part) := ⟨rfl, rfl, rfl, by decide +kernel, rfl, by decide +kernel, by decide +kernel⟩
def allPk : List Pk := [.ss, .us, .ks, .ms, .ws, .as, .ts, .is, .bs]
def RB.ds (b : RB) : Pk → List PyData
  | .ss => b.ss
  | .us => b.us
  | .ks => b.ks
  | .ms => b.N.ma.map .str
  | .ws => b.ws
  | .as => b.as
  | .ts => b.ts
  | .is => b.is
  | .bs => b.bs
def RB.nms (b : RB) : Pk → List Str
  | .ss => b.N.st
  | .us => b.N.up
  | .ks => b.N.dn
  | .ms => b.N.ma
  | .ts => b.N.tk
  | _ => []
theorem nd_ne {L : List Str} (h : L.Nodup) {i j : Nat} {s t : Str} (hj : j < i) (e1 : L[j]? = some t) (e2 : L[i]? = some s) : t ≠ s := fun e => by
  obtain ⟨h1, e1⟩ := List.getElem?_eq_some_iff.mp e1
  obtain ⟨h2, e2⟩ := List.getElem?_eq_some_iff.mp e2
  exact List.pairwise_iff_getElem.mp h j i h1 h2 hj (by rw [e1, e2, e])
theorem take_at {α : Type} {L : List α} {i : Nat} {z : α} (h : z ∈ L.take i) : ∃ j, j < i ∧ L[j]? = some z := by
  obtain ⟨j, hj, e⟩ := List.mem_iff_getElem.mp h
  rw [List.length_take] at hj
  refine ⟨j, by omega, ?_⟩
  rw [← e, List.getElem_take]
  exact List.getElem?_eq_getElem (by omega)
theorem stand1 {L : List Str} {ds : List PyData} (hn : L.Nodup) (hm : ∀ s ∈ L, Nm s) (h : ∀ (i : Nat) (d : PyData), ds[i]? = some d → ∃ s r, L[i]? = some s ∧ d = .tuple (.str s :: r) ∧ r ≠ []) {i : Nat} {d : PyData} (e : ds[i]? = some d) :
    Cut 1 d ∧ ∀ z ∈ ds.take i, Cut 1 z ∧ PyData.eqv (cutD 1 z) (cutD 1 d) = false := by
  obtain ⟨s, r, es, rfl, hr⟩ := h i d e
  refine ⟨⟨[s], r, rfl, rfl, hr, fun x hx => ?_⟩, fun z hz => ?_⟩
  · rw [List.mem_singleton.mp hx]
    exact hm s (List.mem_of_getElem? es)
  obtain ⟨j, hj, ej⟩ := take_at hz
  obtain ⟨t, r', et, rfl, hr'⟩ := h j z ej
  refine ⟨⟨[t], r', rfl, rfl, hr', fun x hx => ?_⟩, ?_⟩
  · rw [List.mem_singleton.mp hx]
    exact hm t (List.mem_of_getElem? et)
  have ne := nd_ne hn hj et es
  show PyData.eqv (.tuple [.str t]) (.tuple [.str s]) = false
  simp [PyData.eqv, PyData.eqvAll, ne]
theorem standH {n : Nat} {ds : List PyData} (hA : Apart (ds.map (cutD n))) (h : ∀ d ∈ ds, Cut n d) {i : Nat} {d : PyData} (e : ds[i]? = some d) :
    Cut n d ∧ ∀ z ∈ ds.take i, Cut n z ∧ PyData.eqv (cutD n z) (cutD n d) = false := by
  refine ⟨h d (List.mem_of_getElem? e), fun z hz => ?_⟩
  obtain ⟨j, hj, ej⟩ := take_at hz
  refine ⟨h z (List.mem_of_getElem? ej), ?_⟩
  obtain ⟨h1, e1⟩ := List.getElem?_eq_some_iff.mp ej
  obtain ⟨h2, e2⟩ := List.getElem?_eq_some_iff.mp e
  have := List.pairwise_iff_getElem.mp hA j i (by rw [List.length_map]; exact h1) (by rw [List.length_map]; exact h2) hj
  rw [List.getElem_map, List.getElem_map, e1, e2] at this
  exact this
theorem RB.Ok.fact {b : RB} (ok : b.Ok) (k : Pk) : k.lo ≤ (b.ds k).length ∧ (b.ds k).length ≤ k.hi ∧ (∀ d ∈ b.ds k, ItemR b.N k d) ∧ (∀ (i : Nat) (d : PyData), (b.ds k)[i]? = some d → Stand k ((b.ds k).take i) d) ∧ HasNm k (b.ds k) (b.nms k) := by
  have n := ok.n
  cases k
  case ss =>
    have hl := ok.ss.1
    have h2 := n.st2
    have h7 := n.st7
    refine ⟨show 2 ≤ b.ss.length by omega, show b.ss.length ≤ 7 by omega, fun d hd => ?_, fun i d e => ?_, hl.symm, fun i d e => ?_⟩
    · obtain ⟨i, hi, e⟩ := List.mem_iff_getElem.mp hd
      obtain ⟨s, t, es, rfl, ht, _⟩ := ok.ss.2 i d (by rw [← e]; exact List.getElem?_eq_getElem hi)
      exact ⟨s, t, rfl, n.stn.2 s (List.mem_of_getElem? es), ht⟩
    · have h := stand1 (ds := b.ss) n.stn.1 n.stn.2 (fun i d e => by
        obtain ⟨s, t, es, rfl, ht, _⟩ := ok.ss.2 i d e
        exact ⟨s, _, es, rfl, by simp⟩) e
      refine ⟨h.1, h.2, fun _ => ⟨fun en => ?_, fun z hz => ?_⟩⟩
      · obtain ⟨s, t, es, rfl, ht, h0⟩ := ok.ss.2 i d e
        have ei : i = 0 := by
          have en2 : (b.ss.take i).length = 0 := by
            have en3 : b.ss.take i = [] := en
            rw [en3]
            rfl
          rw [List.length_take] at en2
          have := (List.getElem?_eq_some_iff.mp e).1
          omega
        rw [h0 ei]
        exact ⟨s, rfl⟩
      · obtain ⟨j, hj, ej⟩ := take_at hz
        obtain ⟨s, t, es, rfl, ht, h0⟩ := ok.ss.2 j z ej
        refine sh_tup fun x hx => ?_
        rcases List.mem_cons.mp hx with rfl | hx
        · exact ⟨strOk_nm (n.stn.2 s (List.mem_of_getElem? es)), Nat.le_refl _⟩
        · rw [List.mem_singleton.mp hx]
          refine ⟨?_, Nat.le_refl _⟩
          have : ∀ t ∈ traits, PyData.strOk t = true := by decide +kernel
          exact this t ht
    · obtain ⟨s, t, es, rfl, _⟩ := ok.ss.2 i d e
      exact ⟨s, _, es, rfl⟩
  case us =>
    have hl := ok.us.1
    have h2 := n.up1
    have h7 := n.up5
    refine ⟨show 1 ≤ b.us.length by omega, show b.us.length ≤ 5 by omega, fun d hd => ?_, fun i d e => ?_, hl.symm, fun i d e => ?_⟩
    · obtain ⟨i, hi, e⟩ := List.mem_iff_getElem.mp hd
      obtain ⟨s, t, es, rfl⟩ := ok.us.2 i d (by rw [← e]; exact List.getElem?_eq_getElem hi)
      exact ⟨s, t, rfl, n.upn.2 s (List.mem_of_getElem? es)⟩
    · have h := stand1 (ds := b.us) n.upn.1 n.upn.2 (fun i d e => by
        obtain ⟨s, t, es, rfl⟩ := ok.us.2 i d e
        exact ⟨s, _, es, rfl, by simp⟩) e
      exact ⟨h.1, h.2, nofun⟩
    · obtain ⟨s, t, es, rfl⟩ := ok.us.2 i d e
      exact ⟨s, _, es, rfl⟩
  case ks =>
    have hl := ok.ks.1
    have h2 := n.dn1
    have h7 := n.dn5
    refine ⟨show 1 ≤ b.ks.length by omega, show b.ks.length ≤ 5 by omega, fun d hd => ?_, fun i d e => ?_, hl.symm, fun i d e => ?_⟩
    · obtain ⟨i, hi, e⟩ := List.mem_iff_getElem.mp hd
      obtain ⟨s, t, es, rfl⟩ := ok.ks.2 i d (by rw [← e]; exact List.getElem?_eq_getElem hi)
      exact ⟨s, t, rfl, n.dnn.2 s (List.mem_of_getElem? es)⟩
    · have h := stand1 (ds := b.ks) n.dnn.1 n.dnn.2 (fun i d e => by
        obtain ⟨s, t, es, rfl⟩ := ok.ks.2 i d e
        exact ⟨s, _, es, rfl, by simp⟩) e
      exact ⟨h.1, h.2, nofun⟩
    · obtain ⟨s, t, es, rfl⟩ := ok.ks.2 i d e
      exact ⟨s, _, es, rfl⟩
  case ms =>
    have h2 := n.mk1
    have h7 := n.mk6
    have hl : (b.ds .ms).length = b.N.ma.length := List.length_map _
    refine ⟨show 1 ≤ (b.ds .ms).length by omega, show (b.ds .ms).length ≤ 6 by omega, fun d hd => ?_, fun i d e => ?_, rfl⟩
    · obtain ⟨s, hs, rfl⟩ := List.mem_map.mp hd
      exact ⟨s, rfl, n.mkn.2 s hs⟩
    · have at_ : ∀ {j : Nat} {z : PyData}, (b.ds .ms)[j]? = some z → ∃ t, b.N.ma[j]? = some t ∧ z = .str t := by
        intro j z e
        have e' : (b.N.ma.map PyData.str)[j]? = some z := e
        rw [List.getElem?_map] at e'
        cases hq : b.N.ma[j]? with
        | none =>
          rw [hq] at e'
          cases e'
        | some t =>
          rw [hq] at e'
          exact ⟨t, rfl, (Option.some.inj e').symm⟩
      obtain ⟨s, es, rfl⟩ := at_ e
      refine ⟨s, rfl, n.mkn.2 s (List.mem_of_getElem? es), fun z hz => ?_⟩
      obtain ⟨j, hj, ej⟩ := take_at hz
      obtain ⟨t, et, rfl⟩ := at_ ej
      exact ⟨t, rfl, n.mkn.2 t (List.mem_of_getElem? et), nd_ne n.mkn.1 hj et es⟩
  case ws => exact ⟨Nat.zero_le _, ok.ws.1, ok.ws.2, fun _ _ _ => trivial, rfl⟩
  case as =>
    refine ⟨Nat.zero_le _, ok.as.1, ok.as.2.1, fun i d e => ?_, rfl⟩
    have h := standH (n := 2) ok.as.2.2 (fun d hd => by
      obtain ⟨a, k, c, u, rfl, h1, h2, _⟩ := ok.as.2.1 d hd
      refine ⟨[a, k], _, rfl, rfl, by simp, fun x hx => ?_⟩
      rcases List.mem_cons.mp hx with rfl | hx
      · exact n.stn.2 _ h1
      · rw [List.mem_singleton.mp hx]
        exact n.dnn.2 _ h2) e
    exact ⟨h.1, h.2, nofun⟩
  case ts =>
    have hl := ok.ts.1
    have h2 := n.tk1
    have h7 := n.tk3
    refine ⟨show 1 ≤ b.ts.length by omega, show b.ts.length ≤ 3 by omega, fun d hd => ?_, fun i d e => ?_, hl.symm, fun i d e => ?_⟩
    · obtain ⟨i, hi, e⟩ := List.mem_iff_getElem.mp hd
      obtain ⟨s, es, ht⟩ := ok.ts.2 i d (by rw [← e]; exact List.getElem?_eq_getElem hi)
      exact ⟨s, n.tkn.2 s (List.mem_of_getElem? es), ht⟩
    · have h := stand1 (ds := b.ts) n.tkn.1 n.tkn.2 (fun i d e => by
        obtain ⟨s, es, cs, qs, es', m, k, o, rfl, _⟩ := ok.ts.2 i d e
        exact ⟨s, _, es, rfl, by simp⟩) e
      exact ⟨h.1, h.2, nofun⟩
    · obtain ⟨s, es, cs, qs, es', m, k, o, rfl, _⟩ := ok.ts.2 i d e
      exact ⟨s, _, es, rfl⟩
  case is =>
    refine ⟨Nat.zero_le _, ok.is.1, ok.is.2.1, fun i d e => ?_, rfl⟩
    have h := standH (n := 2) ok.is.2.2 (fun d hd => by
      have two : ∀ {m u : Str} {r : List PyData}, m ∈ b.N.ma → u ∈ b.N.up → r ≠ [] → Cut 2 (.tuple (.str m :: .str u :: r)) := fun {m u r} h1 h2 hr => ⟨[m, u], r, rfl, rfl, hr, fun x hx => by
        rcases List.mem_cons.mp hx with rfl | hx
        · exact n.mkn.2 _ h1
        · rw [List.mem_singleton.mp hx]
          exact n.upn.2 _ h2⟩
      rcases ok.is.2.1 d hd with ⟨m, u, t, rfl, h1, h2, _⟩ | ⟨m, u, c, k, f, rfl, h1, h2, _⟩
      · exact two h1 h2 (by simp)
      · exact two h1 h2 (by simp)) e
    exact ⟨h.1, h.2, nofun⟩
  case bs =>
    refine ⟨Nat.zero_le _, ok.bs.1, ok.bs.2.1, fun i d e => ?_, rfl⟩
    have h := standH (n := 3) ok.bs.2.2 (fun d hd => by
      obtain ⟨t, m, u, c, k, f, rfl, h0, h1, h2, _⟩ := ok.bs.2.1 d hd
      refine ⟨[t, m, u], _, rfl, rfl, by simp, fun x hx => ?_⟩
      rcases List.mem_cons.mp hx with rfl | hx
      · exact n.tkn.2 _ h0
      rcases List.mem_cons.mp hx with rfl | hx
      · exact n.mkn.2 _ h1
      · rw [List.mem_singleton.mp hx]
        exact n.upn.2 _ h2) e
    exact ⟨h.1, h.2, nofun⟩
theorem pParts_eq : pParts = allPk.map Pk.nm := by decide +kernel
theorem RB.parts_eq (b : RB) : b.parts = allPk.map fun k => .list (b.ds k) := rfl
theorem nm_inj : ∀ {i j : Nat} {k k' : Pk}, allPk[i]? = some k → allPk[j]? = some k' → i ≠ j → k'.nm ≠ k.nm := by
  have h : (allPk.map Pk.nm).Nodup := by decide +kernel
  intro i j k k' e1 e2 ne e
  have f1 : (allPk.map Pk.nm)[i]? = some k.nm := by rw [List.getElem?_map, e1]; rfl
  have f2 : (allPk.map Pk.nm)[j]? = some k'.nm := by rw [List.getElem?_map, e2]; rfl
  rcases Nat.lt_or_gt_of_ne ne with hh | hh
  · exact nd_ne h hh f1 f2 e.symm
  · exact nd_ne h hh f2 f1 e
theorem putK_len {κ : Type} [DecidableEq κ] {kvs : List (κ × V)} {k : κ} {v : V} : (putK kvs k v).length ≤ kvs.length + 1 := by
  unfold putK
  split
  · rw [List.length_map]
    omega
  · rw [List.length_append]
    exact Nat.le_refl _
/-- the names of the parts before i stand in the dict -/
def Told (b : RB) (i : Nat) (kvs : List (Key × V)) (G : Hp) : Prop := ∀ (j : Nat) (k : Pk), j < i → allPk[j]? = some k → ∃ l, valV kvs (Sum.inr k.nm) = some (.ref l) ∧ G l = some (.lst ((b.nms k).map V.str))
theorem Told.wk {b : RB} {i : Nat} {kvs : List (Key × V)} {G : Hp} {nd : Addr} {k : Pk} (h : Told b i kvs G) (e : G nd = some (.dK kvs)) (hk : allPk[i]? = some k) : Wk b.N k G nd := by
  have dn : ∀ (j : Nat) (k : Pk), j < i → allPk[j]? = some k → DN G nd k.nm (b.nms k) := fun j k hj hk => by
    obtain ⟨l, h1, h2⟩ := h j k hj hk
    exact ⟨kvs, l, e, h1, h2⟩
  have w4 : 4 ≤ i → W4 b.N G nd := fun hi => ⟨dn 0 .ss (by omega) rfl, dn 1 .us (by omega) rfl, dn 2 .ks (by omega) rfl, dn 3 .ms (by omega) rfl⟩
  have w5 : 7 ≤ i → W5 b.N G nd := fun hi => ⟨w4 (by omega), dn 6 .ts (by omega) rfl⟩
  have hi : i < 9 := (List.getElem?_eq_some_iff.mp hk).1
  have at_ : ∀ (j : Nat) (q : Pk), allPk[j]? = some q → i = j → q = k := fun j q hq e => by
    rw [e, hq] at hk
    exact Option.some.inj hk
  match i, hi with
  | 0, _ => cases hk; trivial
  | 1, _ => cases hk; trivial
  | 2, _ => cases hk; trivial
  | 3, _ => cases hk; trivial
  | 4, _ => cases hk; exact w4 (by decide)
  | 5, _ => cases hk; exact w4 (by decide)
  | 6, _ => cases hk; exact w4 (by decide)
  | 7, _ => cases hk; exact w5 (by decide)
  | 8, _ => cases hk; exact w5 (by decide)
def spPart : Sp := fun vs H Q _ => ∃ (v : V) (b : RB) (fp : List Addr), vs = [v] ∧ Df H (.tuple b.parts) v fp ∧ b.Ok ∧ ∀ H', Same H H' → Q .non H'
section
variable {P : Program} {w : World} {K : PySem.W.Frag} {mg : Str → Option Value} {base : Heap} {tl : Tok} {aP aN aT aO aL aH aI : Addr} {it : Pk → Addr}
theorem ok_wrong_part {f f1 f2 f3 : Addr} {fd fd1 fd2 fd3 : FuncData} (D : DefT K mg "wrong_part" "wrong_part" s_wrong_part ["parts"] f fd) (Z : Zs mg) (T : Tb K mg tl aP aN aT aO aL aH aI) (Td' : Td K w aL aH aI it)
    (D_may_stand : DefT K mg "may_stand" "may_stand" s_may_stand ["part", "row", "before"] f1 fd1) (D_wrong_index : DefT K mg "wrong_index" "wrong_index" s_wrong_index ["part", "rows", "names"] f2 fd2) (D_names_in : DefT K mg "names_in" "names_in" s_names_in ["part", "rows"] f3 fd3)
    (hI : ∀ N, NOk N → ∀ k, Held P w K mg base 4 (it k) (spItem (ItemR N k) (Wk N k))) :
    FnOk P w K mg base CX0 6 f fd ["parts"] spPart := by
  have G_names_in := ok_names_in (P := P) (w := w) (base := base) D_names_in Z T
  refine D.F.ok sc_wrong_part (fun vs H Q E h => ?_) (fun cdv A outer s H vs Q E hr h => ?_)
  · obtain ⟨v, b, fp, rfl, _⟩ := h
    rfl
  obtain ⟨v, b, fp, rfl, hD, ok, q⟩ := h
  have G_wrong_index := ok_wrong_index (P := P) (w := w) (base := base) b.N D_wrong_index Z T Td' D_may_stand (hI b.N ok.n)
  obtain ⟨tp, ps, rfl, ht, hDl⟩ := hD
  have hpl := hDl.len
  refine ⟨_, (pss_cons (ps_set (i := 1) sc_wrong_part.nd rfl (Or.inl rfl) (pe_dnewK)) (pss_cons (ps_for PassesOwn.never rfl (RZ.pi_zipA (by rfl) Z.zip (pa_cons (pe_glob (v := .ref aP) rfl T.parts rfl) (pa_cons (pv 0) pa_nil))) (pg_tup rfl (pgs_cons (pg_name (i := 2) sc_wrong_part.nd rfl (Or.inl rfl)) (pgs_cons (pg_name (i := 3) sc_wrong_part.nd rfl (Or.inl rfl)) pgs_nil))) (pss_cons (ps_set (i := 4) sc_wrong_part.nd rfl (Or.inl rfl) (pe_call G_wrong_index (hr.mono (by decide)) rfl D_wrong_index.m D_wrong_index.F.kp D_wrong_index.b .nil pass0 (pa_cons (pv 2) (pa_cons (pv 3) (pa_cons (pv 1) pa_nil))))) (pss_cons (ps_if (pt_cmpR op_notN (pv 4) pe_non (nomark _)) (pss_one (ps_ret (pe_tup (pa_cons (pv 2) (pa_cons (pv 4) pa_nil))))) pss_nil) (pss_one (ps_asg (pe_call G_names_in (hr.mono (by decide)) rfl D_names_in.m D_names_in.F.kp D_names_in.b .nil pass0 (pa_cons (pv 2) (pa_cons (pv 3) pa_nil))) (pg_sub (pv 1) (pv 2) (set_dict (hu_of hr)))))))) (pss_one (ps_ret pe_non)))), ?_⟩
  refine fun nd hnd => ?_
  have s0 := same_upd (o := .dK []) hnd
  refine ⟨_, rfl, aP, tp, pParts.map V.str, ps, rfl, .inr ⟨T.parts_.t _, .of (s0 _ _ ht), ?_⟩⟩
  refine RZ.for_zipT (by rw [hpl]; rfl) (fun i σ G => ∃ (v2 v3 v4 : Option V) (kvs : List (Key × V)), σ = [some (.ref tp), some (.ref nd), v2, v3, v4] ∧ Same H G ∧ G nd = some (.dK kvs) ∧ kvs.length ≤ i ∧ Told b i kvs G)
    ⟨_, _, _, [], rfl, s0, upd_same, Nat.le_refl _, fun _ _ h _ => absurd h (Nat.not_lt_zero _)⟩ (fun i σ G ⟨_, _, _, _, _, sG, _⟩ => ⟨T.parts_.t _, .of (sG _ _ ht)⟩) ?_ ?_
  · rintro i x y T0 σ G hx hy ⟨v2, v3, v4, kvs, rfl, sG, hnG, hlen, hTo⟩ hT
    obtain ⟨d, f', hd, hDx, _⟩ := hDl.at hy
    rw [pParts_eq] at hx
    obtain ⟨z, rfl, hz⟩ := str_at hx
    rw [List.getElem?_map] at hz
    obtain ⟨k, hk, rfl⟩ := Option.map_eq_some_iff.mp hz
    rw [RB.parts_eq, List.getElem?_map, hk] at hd
    obtain rfl := Option.some.inj hd
    obtain ⟨l, xs, gp, rfl, rfl, hl, hDk⟩ := hDx
    obtain ⟨flo, fhi, fit, fst, fnm⟩ := ok.fact k
    have i9 : i < 9 := (List.getElem?_eq_some_iff.mp hk).1
    have sT := sG.trans (same_upd (o := .tup [.str k.nm, .ref l]) hT)
    have sGT := same_upd (H := G) (o := .tup [.str k.nm, .ref l]) hT
    have hTT : Told b i kvs (upd G T0 (.tup [.str k.nm, .ref l])) := fun j q hj hq => by
      obtain ⟨l0, h1, h2⟩ := hTo j q hj hq
      exact ⟨l0, h1, sGT _ _ h2⟩
    refine ⟨T0, _, rfl, .of upd_same, rfl, _, _, rfl, _, _, rfl, rfl, ?_⟩
    refine ⟨_, rfl, _, rfl, _, rfl, k, l, xs, b.ds k, gp, nd, rfl, sT _ _ hl, hDk.same sT, flo, fhi, fit, fst, hTT.wk (sGT _ _ hnG) hk, fun H2 s2 => ?_⟩
    refine ⟨_, rfl, rfl, _, rfl, ifF (by decide +kernel) ?_⟩
    have sT2 := sT.trans s2
    have sG2 := sGT.trans s2
    refine ⟨_, rfl, _, rfl, k, l, xs, b.ds k, gp, b.nms k, rfl, sT2 _ _ hl, hDk.same sT2, Nat.le_trans fhi k.hi30, fnm, fun l' G3 s3 e3 n3 => ?_⟩
    have sG3 := sG2.trans s3
    refine ⟨_, rfl, _, rfl, nd, _, rfl, DPut.k (k := Sum.inr k.nm) (sG3 _ _ hnG) (lt1000 (by omega)), ?_⟩
    refine ⟨_, _, _, _, rfl, Same.put (sT2.trans s3) hnd, upd_same, Nat.le_trans putK_len (by omega), fun j q hj hq => ?_⟩
    by_cases ej : j = i
    · subst ej
      rw [hk] at hq
      cases hq
      refine ⟨l', by rw [valV_put, if_pos rfl], ?_⟩
      rw [upd_ne (ne_of e3 (sG3 _ _ hnG) (by intro z; cases z))]
      exact e3
    · obtain ⟨l0, h1, h2⟩ := hTo j q (by omega) hq
      have h3 := sG3 _ _ h2
      refine ⟨l0, ?_, ?_⟩
      · rw [valV_put, if_neg (fun z => nm_inj hk hq (fun w => ej w.symm) (Sum.inr.inj z))]
        exact h1
      · rw [upd_ne (ne_of h3 (sG3 _ _ hnG) (by intro z; cases z))]
        exact h3
  · rintro σ G ⟨v2, v3, v4, kvs, rfl, sG, _⟩
    exact q G sG
end
end My

namespace My
open PySem L2
abbrev s_copied_tasks : Stmt := top 32
theorem sc_copied_tasks : FnScope ["tasks", "name", "calls", "quiet", "ends", "mark", "down", "owner"] ["tasks"] (defScope s_copied_tasks) := ⟨rfl, rfl, rfl, by decide +kernel, rfl, by decide +kernel, by decide +kernel⟩
theorem call_list_ofK {X : Cx} {K : PySem.W.Frag} (h : X.K = K) : CallR X (.type "list") (fun xs H Q => ∃ p ys, xs = [.ref p] ∧ (SqL K H p ys ∨ SqT K H p ys) ∧ ∀ l, H l = none → Q (.ref l) (upd H l (.lst ys))) := by
  subst h
  exact call_list_of
theorem wipe_get {σ : St} {j : Nat} : ∀ {vs : List Nat}, (wipe σ vs)[j]? = if j ∈ vs then (if j < σ.length then some none else none) else σ[j]?
  | [] => by
    rw [if_neg (by simp)]
    rfl
  | v :: vs => by
    show ((wipe σ vs).set v none)[j]? = _
    rw [List.getElem?_set, wipe_length]
    by_cases e : v = j
    · subst e
      rw [if_pos rfl, if_pos (List.mem_cons_self)]
    · rw [if_neg e, wipe_get]
      by_cases m : j ∈ vs
      · rw [if_pos m, if_pos (List.mem_cons_of_mem _ m)]
      · rw [if_neg m, if_neg (fun h => by
          rcases List.mem_cons.mp h with h | h
          · exact e h.symm
          · exact m h)]
theorem wipe_set {σ : St} {i : Nat} {x : Option V} {vs : List Nat} (h : i ∈ vs) : wipe (σ.set i x) vs = wipe σ vs := by
  refine List.ext_getElem? fun j => ?_
  rw [wipe_get, wipe_get, List.length_set]
  by_cases m : j ∈ vs
  · rw [if_pos m, if_pos m]
  · rw [if_neg m, if_neg m, List.getElem?_set_ne (fun e => m (by rw [← e]; exact h))]
theorem wipe_wipe {σ : St} {vs : List Nat} : wipe (wipe σ vs) vs = wipe σ vs := by
  refine List.ext_getElem? fun j => ?_
  rw [wipe_get, wipe_get, wipe_length]
  by_cases m : j ∈ vs
  · rw [if_pos m, if_pos m]
  · rw [if_neg m, if_neg m]
theorem wipe7 {σ : St} {x1 x2 x3 x4 x5 x6 x7 : Option V} {vs : List Nat} (h : vs = [1, 2, 3, 4, 5, 6, 7]) : wipe (((((((wipe σ vs).set 1 x1).set 2 x2).set 3 x3).set 4 x4).set 5 x5).set 6 x6 |>.set 7 x7) vs = wipe σ vs := by
  subst h
  rw [wipe_set (by decide), wipe_set (by decide), wipe_set (by decide), wipe_set (by decide), wipe_set (by decide), wipe_set (by decide), wipe_set (by decide), wipe_wipe]
theorem look7 {w : St} {x1 x2 x3 x4 x5 x6 x7 : Option V} (h : w.length = 8) : (((((((w.set 1 x1).set 2 x2).set 3 x3).set 4 x4).set 5 x5).set 6 x6).set 7 x7)[1]? = some x1 ∧ (((((((w.set 1 x1).set 2 x2).set 3 x3).set 4 x4).set 5 x5).set 6 x6).set 7 x7)[2]? = some x2 ∧
    (((((((w.set 1 x1).set 2 x2).set 3 x3).set 4 x4).set 5 x5).set 6 x6).set 7 x7)[3]? = some x3 ∧ (((((((w.set 1 x1).set 2 x2).set 3 x3).set 4 x4).set 5 x5).set 6 x6).set 7 x7)[4]? = some x4 ∧ (((((((w.set 1 x1).set 2 x2).set 3 x3).set 4 x4).set 5 x5).set 6 x6).set 7 x7)[5]? = some x5 ∧
    (((((((w.set 1 x1).set 2 x2).set 3 x3).set 4 x4).set 5 x5).set 6 x6).set 7 x7)[6]? = some x6 ∧ (((((((w.set 1 x1).set 2 x2).set 3 x3).set 4 x4).set 5 x5).set 6 x6).set 7 x7)[7]? = some x7 := by
  match w, h with
  | [a, b, c, d, e, f, g, k], _ => exact ⟨rfl, rfl, rfl, rfl, rfl, rfl, rfl⟩
/-- addresses that are new -/
def Fr (H : Hp) (as : List Addr) : Prop := as.Nodup ∧ ∀ a ∈ as, H a = none
def Live (H : Hp) (as : List Addr) : Prop := ∀ a ∈ as, ∃ xs, H a = some (.lst xs)
theorem Live.same {H G : Hp} {as : List Addr} (h : Live H as) (s : Same H G) : Live G as := fun a ha => by
  obtain ⟨xs, e⟩ := h a ha
  exact ⟨xs, s _ _ e⟩
theorem Live.add {H : Hp} {as bs : List Addr} (h : Live H as) (g : Live H bs) : Live H (as ++ bs) := fun a ha => by
  rcases List.mem_append.mp ha with h1 | h1
  · exact h a h1
  · exact g a h1
theorem Same.free' {H G : Hp} (s : Same H G) {a : Addr} (h : G a = none) : H a = none := by
  cases e : H a with
  | none => rfl
  | some o =>
    rw [s _ _ e] at h
    cases h
theorem Fr.add {H G : Hp} {as : List Addr} (f : Fr H as) (l : Live G as) (s : Same H G) {a : Addr} (h : G a = none) : Fr H (as ++ [a]) := by
  refine ⟨?_, fun b hb => ?_⟩
  · rw [List.nodup_append]
    refine ⟨f.1, by simp, fun x hx y hy e => ?_⟩
    rcases List.mem_cons.mp hy with h1 | h1
    · obtain ⟨xs, ex⟩ := l x hx
      rw [e, h1, h] at ex
      cases ex
    · cases h1
  · rcases List.mem_append.mp hb with h1 | h1
    · exact f.2 b h1
    · rw [List.mem_singleton.mp h1]
      exact Same.free' s h
theorem Fr.add2 {H G : Hp} {as bs : List Addr} (f : Fr H as) (l : Live G as) (s : Same H G) (g : Fr G bs) : Fr H (as ++ bs) := by
  refine ⟨?_, fun b hb => ?_⟩
  · rw [List.nodup_append]
    refine ⟨f.1, g.1, fun x hx y hy e => ?_⟩
    obtain ⟨xs, ex⟩ := l x hx
    rw [e, g.2 y hy] at ex
    cases ex
  · rcases List.mem_append.mp hb with h1 | h1
    · exact f.2 b h1
    · exact Same.free' s (g.2 b h1)
mutual
theorem Df.live {H : Hp} : ∀ (d : PyData) (v : V) (fp : List Addr), Df H d v fp → Live H fp
  | .none, _, _, h => by
    rw [h.2]
    exact nofun
  | .bool _, _, _, h => by
    rw [h.2]
    exact nofun
  | .int _, _, _, h => by
    rw [h.2]
    exact nofun
  | .str _, _, _, h => by
    rw [h.2]
    exact nofun
  | .list ds, v, fp, h => by
    obtain ⟨a, xs, gp, e, ef, ha, hl⟩ := h
    rw [ef]
    intro b hb
    rcases List.mem_cons.mp hb with h1 | h1
    · rw [h1]
      exact ⟨xs, ha⟩
    · exact DfL.live ds xs gp hl b h1
  | .tuple ds, v, fp, h => by
    obtain ⟨a, xs, e, ha, hl⟩ := h
    exact DfL.live ds xs fp hl
  | .dict _, _, _, h => h.elim
theorem DfL.live {H : Hp} : ∀ (ds : List PyData) (xs : List V) (fp : List Addr), DfL H ds xs fp → Live H fp
  | [], _, _, h => by
    rw [h.2]
    exact nofun
  | d :: ds, xs, fp, h => by
    obtain ⟨x, r, f, g, e, ef, hx, hr⟩ := h
    rw [ef]
    exact Live.add (Df.live d x f hx) (DfL.live ds r g hr)
end
/-- no list in it -/
def Flat (d : PyData) : Prop := ∀ (H : Hp) (v : V) (f : List Addr), Df H d v f → f = []
theorem DfL.flat {H : Hp} : ∀ {ds : List PyData} {xs : List V} {fp : List Addr}, (∀ d ∈ ds, Flat d) → DfL H ds xs fp → fp = []
  | [], _, _, _, h => h.2
  | d :: ds, _, _, hf, h => by
    obtain ⟨x, r, f, g, rfl, rfl, hx, hr⟩ := h
    rw [hf d List.mem_cons_self _ _ _ hx, DfL.flat (fun z hz => hf z (List.mem_cons_of_mem _ hz)) hr]
    rfl
theorem flat_str (s : Str) : Flat (.str s) := fun _ _ _ h => h.2
theorem flat_oN (o : Option Str) : Flat (oN o) := by
  cases o with
  | none => exact fun _ _ _ h => h.2
  | some s => exact flat_str s
theorem flat_bool (b : Bool) : Flat (.bool b) := fun _ _ _ h => h.2
theorem flat_tup {ds : List PyData} (h : ∀ d ∈ ds, Flat d) : Flat (.tuple ds) := fun H v f g => by
  obtain ⟨a, xs, _, _, hl⟩ := g
  exact DfL.flat h hl
theorem flat_call {N : Nm5} {c : PyData} (h : IsCall N c) : Flat c := by
  obtain ⟨m, k, rfl, _⟩ := h
  exact flat_tup fun d hd => by
    rcases List.mem_cons.mp hd with rfl | hd
    · exact flat_str m
    · rw [List.mem_singleton.mp hd]
      exact flat_oN k
theorem flat_strs_d (ss : List Str) : ∀ d ∈ ss.map PyData.str, Flat d := fun d hd => by
  obtain ⟨s, _, rfl⟩ := List.mem_map.mp hd
  exact flat_str s
def spCopied : Sp := fun vs H Q _ => ∃ (l : Addr) (xs : List V) (ts : List PyData) (fp : List Addr), vs = [.ref l] ∧ H l = some (.lst xs) ∧ DfL H ts xs fp ∧ ts.length ≤ 30 ∧ (∀ t ∈ ts, ∃ N s, IsTask N s t) ∧
  ∀ (G : Hp) (l' : Addr) (ys : List V) (gp : List Addr), Same H G → G l' = some (.lst ys) → DfL G ts ys gp → Fr H (l' :: gp) → Q (.ref l') G
section
variable {P : Program} {w : World} {K : PySem.W.Frag} {mg : Str → Option Value} {base : Heap}
theorem ok_copied {f : Addr} {fd : FuncData} (D : DefT K mg "copied_tasks" "copied_tasks" s_copied_tasks ["tasks"] f fd) (Z : Zs mg) : FnOk P w K mg base CX0 1 f fd ["tasks"] spCopied := by
  refine D.F.ok sc_copied_tasks (fun vs H Q E h => ?_) (fun cdv A outer s H vs Q E hr h => ?_)
  · obtain ⟨l, xs, ts, fp, rfl, _⟩ := h
    rfl
  obtain ⟨l, xs, ts, fp, rfl, hl, hD, h30, hT, q⟩ := h
  have hxl := hD.len
  refine ⟨_, (pss_one (ps_ret (pe_lc (own := [("name", 1), ("calls", 2), ("quiet", 3), ("ends", 4), ("mark", 5), ("down", 6), ("owner", 7)]) (g := gTup K 7 (gCons (gName 1) (gCons (gName 2) (gCons (gName 3) (gCons (gName 4) (gCons (gName 5) (gCons (gName 6) (gCons (gName 7) gNil)))))))) rfl sc_copied_tasks.nd  (pi_list (pv 0)) (blkOk_by (own := [("name", 1), ("calls", 2), ("quiet", 3), ("ends", 4), ("mark", 5), ("down", 6), ("owner", 7)]) (N := ["tasks", "name", "calls", "quiet", "ends", "mark", "down", "owner"]) (sc := defScope s_copied_tasks) (by decide +kernel)) (fun _ _ _ _ _ => pg_tupK (K := K) (n := 7) rfl rfl (pgs_cons (pg_name (i := 1) sc_copied_tasks.nd rfl (Or.inl rfl)) (pgs_cons (pg_name (i := 2) sc_copied_tasks.nd rfl (Or.inl rfl)) (pgs_cons (pg_name (i := 3) sc_copied_tasks.nd rfl (Or.inl rfl)) (pgs_cons (pg_name (i := 4) sc_copied_tasks.nd rfl (Or.inl rfl)) (pgs_cons (pg_name (i := 5) sc_copied_tasks.nd rfl (Or.inl rfl)) (pgs_cons (pg_name (i := 6) sc_copied_tasks.nd rfl (Or.inl rfl)) (pgs_cons (pg_name (i := 7) sc_copied_tasks.nd rfl (Or.inl rfl)) pgs_nil)))))))) (fun _ _ _ _ _ => pts_nil) (fun _ _ _ _ _ => (pe_tup (pa_cons (pv 1) (pa_cons (pe_callTy (call_list_ofK (K := K) rfl) (by rfl) Z.list (by decide +kernel) (pa_cons (pv 2) pa_nil)) (pa_cons (pe_callTy (call_list_ofK (K := K) rfl) (by rfl) Z.list (by decide +kernel) (pa_cons (pv 3) pa_nil)) (pa_cons (pe_callTy (call_list_ofK (K := K) rfl) (by rfl) Z.list (by decide +kernel) (pa_cons (pv 4) pa_nil)) (pa_cons (pv 5) (pa_cons (pv 6) (pa_cons (pv 7) pa_nil)))))))))))), ?_⟩
  refine ⟨_, rfl, l, rfl, ⟨_, .of hl⟩, fun dl hdl => ?_⟩
  refine lc_it (walk_list (K := K) (a := l) (xs := xs)) (fun i G => ∃ (acc : List V) (gp : List Addr), G dl = some (.lst acc) ∧ acc.length = i ∧ DfL G (ts.take i) acc gp ∧ Fr H (dl :: gp) ∧ Same H G)
    ⟨[], [], upd_same, rfl, .n, ⟨by simp, fun a ha => by rw [List.mem_singleton.mp ha]; exact hdl⟩, same_upd hdl⟩ (fun _ G _ ⟨_, _, _, _, _, _, sG⟩ => .of (sG _ _ hl)) ?_ ?_
  · rintro i x G H' hi ⟨acc, gp, hG, hal, hacc, hF, sG⟩ ⟨rfl, hx⟩
    obtain ⟨d, f', hd, hDx, _⟩ := hD.at hx
    obtain ⟨N, nm, cs, qs, es, m, k, o, hdd, hcl, hcs, hqn, hqd, hqs, hel, hes, hm, hk, ho⟩ := hT d (List.mem_of_getElem? hd)
    subst hdd
    obtain ⟨t, ys, rfl, ht, x0, r0, g0, g1, rfl, rfl, ⟨rfl, rfl⟩, x1, r1, g2, g3, rfl, rfl, hC, x2, r2, g4, g5, rfl, rfl, hQ, x3, r3, g6, g7, rfl, rfl, hE, x4, r4, g8, g9, rfl, rfl, ⟨rfl, rfl⟩, x5, r5, g10, g11, rfl, rfl, hD2, x6, r6, g12, g13, rfl, rfl, ⟨rfl, rfl⟩, rfl, rfl⟩ := hDx
    have eo := oN_v hD2
    subst eo
    obtain ⟨lc, xc, gc, rfl, rfl, hlc, hCl⟩ := hC
    obtain ⟨lq, xq, gq, rfl, rfl, hlq, hQl⟩ := hQ
    obtain ⟨le, xe, ge, rfl, rfl, hle, hEl⟩ := hE
    have ec := DfL.flat (fun c hc => flat_call (hcs c hc)) hCl
    have eq := DfL.flat (flat_strs_d qs) hQl
    have ee := DfL.flat (flat_strs_d es) hEl
    subst ec eq ee
    have htG := sG _ _ ht
    have hw8 : (wipe (L2.start ["tasks", "name", "calls", "quiet", "ends", "mark", "down", "owner"] [V.ref l]) (List.map (fun x => x.2) [(("name" : Str), 1), ("calls", 2), ("quiet", 3), ("ends", 4), ("mark", 5), ("down", 6), ("owner", 7)])).length = 8 := (wipe_length _ _).trans rfl
    refine ⟨t, _, rfl, .of htG, rfl, _, _, rfl, _, _, rfl, _, _, rfl, _, _, rfl, _, _, rfl, _, _, rfl, _, _, rfl, rfl, wipe7 rfl, ?_⟩
    refine ⟨_, (look7 hw8).1, _, (look7 hw8).2.1, lc, xc, rfl, .inl (.of (sG _ _ hlc)), fun l1 h1 => ?_⟩
    have s1 := same_upd (o := .lst xc) h1
    have sG1 := sG.trans s1
    refine ⟨_, (look7 hw8).2.2.1, lq, xq, rfl, .inl (.of (sG1 _ _ hlq)), fun l2 h2 => ?_⟩
    have s2 := same_upd (o := .lst xq) h2
    have sG2 := sG1.trans s2
    refine ⟨_, (look7 hw8).2.2.2.1, le, xe, rfl, .inl (.of (sG2 _ _ hle)), fun l3 h3 => ?_⟩
    have s3 := same_upd (o := .lst xe) h3
    have sG3 := sG2.trans s3
    refine ⟨_, (look7 hw8).2.2.2.2.1, _, (look7 hw8).2.2.2.2.2.1, _, (look7 hw8).2.2.2.2.2.2, sz 7, fun tt htt => ?_⟩
    have s4 := same_upd (o := .tup [.str nm, .ref l1, .ref l2, .ref l3, .str m, oV k, .str o]) htt
    have sG4 := sG3.trans s4
    have s14 := ((s1.trans s2).trans s3).trans s4
    have s24 := (s2.trans s3).trans s4
    have s34 := s3.trans s4
    refine ⟨acc, s14 _ _ hG, lt1000 (by omega), acc ++ [.ref tt], gp ++ [l1, l2, l3], upd_same, by rw [List.length_append, hal]; rfl, ?_, ?_, Same.put sG4 hdl⟩
    · have et : ts.take (i + 1) = ts.take i ++ [.tuple [.str nm, .list cs, .list (qs.map .str), .list (es.map .str), .str m, oN k, .str o]] := by
        rw [List.take_succ, hd]
        rfl
      rw [et]
      have hnew : Df _ (.tuple [.str nm, .list cs, .list (qs.map .str), .list (es.map .str), .str m, oN k, .str o]) (.ref tt) [l1, l2, l3] := tD upd_same ⟨_, _, [], _, rfl, rfl, sD nm, _, _, [l1], [l2, l3], rfl, rfl, ⟨l1, xc, [], rfl, rfl, s24 _ _ upd_same, hCl.same sG4⟩, _, _, [l2], [l3], rfl, rfl, ⟨l2, xq, [], rfl, rfl, s34 _ _ upd_same, hQl.same sG4⟩, _, _, [l3], [], rfl, rfl, ⟨l3, xe, [], rfl, rfl, s4 _ _ upd_same, hEl.same sG4⟩, .c (sD _) (.c (oN_df _ k) (.c (sD _) .n))⟩
      refine ((hacc.same s14).snoc hnew).put (s14 _ _ hG) ?_
      have n1 : dl ≠ l1 := ne_of_none hG h1
      have n2 : dl ≠ l2 := ne_of_none (s1 _ _ hG) h2
      have n3 : dl ≠ l3 := ne_of_none ((s1.trans s2) _ _ hG) h3
      have n0 : dl ∉ gp := (List.nodup_cons.mp hF.1).1
      simp [n0, n1, n2, n3]
    · have L0 : Live H' (dl :: gp) := fun a ha => by
        rcases List.mem_cons.mp ha with h | h
        · rw [h]
          exact ⟨_, hG⟩
        · exact DfL.live _ _ _ hacc a h
      have F1 := hF.add L0 sG h1
      have L1 : Live _ (dl :: gp ++ [l1]) := (L0.same s1).add fun a ha => by
        rw [List.mem_singleton.mp ha]
        exact ⟨_, upd_same⟩
      have F2 := F1.add L1 sG1 h2
      have L2' : Live _ (dl :: gp ++ [l1] ++ [l2]) := (L1.same s2).add fun a ha => by
        rw [List.mem_singleton.mp ha]
        exact ⟨_, upd_same⟩
      have F3 := F2.add L2' sG2 h3
      have e : dl :: gp ++ [l1] ++ [l2] ++ [l3] = dl :: (gp ++ [l1, l2, l3]) := by simp
      rw [← e]
      exact F3
  rintro G ⟨acc, gp, hG, hal, hacc, hF, sG⟩
  rw [hxl, List.take_length] at hacc
  exact q G dl acc gp sG hG hacc hF
end
end My

namespace My
open PySem L2
abbrev s_Book__init_ : Stmt := inClass (top 34) 0
abbrev s_Book_states : Stmt := inClass (top 34) 1
abbrev s_Book_ups : Stmt := inClass (top 34) 2
abbrev s_Book_downs : Stmt := inClass (top 34) 3
abbrev s_Book_marks : Stmt := inClass (top 34) 4
abbrev s_Book_wishes : Stmt := inClass (top 34) 5
abbrev s_Book_answers : Stmt := inClass (top 34) 6
abbrev s_Book_tasks : Stmt := inClass (top 34) 7
abbrev s_Book_idles : Stmt := inClass (top 34) 8
abbrev s_Book_busies : Stmt := inClass (top 34) 9
theorem sc_Book__init_ : FnScope ["self", "states", "ups", "downs", "marks", "wishes", "answers", "tasks", "idles", "busies", "fault"] ["self", "states", "ups", "downs", "marks", "wishes", "answers", "tasks", "idles", "busies"] (defScope s_Book__init_) := ⟨rfl, rfl, rfl, by decide +kernel, rfl, by decide +kernel, by decide +kernel⟩
theorem sc_Book_states : FnScope ["self"] ["self"] (defScope s_Book_states) := ⟨rfl, rfl, rfl, by decide +kernel, rfl, by decide +kernel, by decide +kernel⟩
theorem sc_Book_ups : FnScope ["self"] ["self"] (defScope s_Book_ups) := ⟨rfl, rfl, rfl, by decide +kernel, rfl, by decide +kernel, by decide +kernel⟩
theorem sc_Book_downs : FnScope ["self"] ["self"] (defScope s_Book_downs) := ⟨rfl, rfl, rfl, by decide +kernel, rfl, by decide +kernel, by decide +kernel⟩
theorem sc_Book_marks : FnScope ["self"] ["self"] (defScope s_Book_marks) := ⟨rfl, rfl, rfl, by decide +kernel, rfl, by decide +kernel, by decide +kernel⟩
theorem sc_Book_wishes : FnScope ["self"] ["self"] (defScope s_Book_wishes) := ⟨rfl, rfl, rfl, by decide +kernel, rfl, by decide +kernel, by decide +kernel⟩
theorem sc_Book_answers : FnScope ["self"] ["self"] (defScope s_Book_answers) := ⟨rfl, rfl, rfl, by decide +kernel, rfl, by decide +kernel, by decide +kernel⟩
theorem sc_Book_tasks : FnScope ["self"] ["self"] (defScope s_Book_tasks) := ⟨rfl, rfl, rfl, by decide +kernel, rfl, by decide +kernel, by decide +kernel⟩
theorem sc_Book_idles : FnScope ["self"] ["self"] (defScope s_Book_idles) := ⟨rfl, rfl, rfl, by decide +kernel, rfl, by decide +kernel, by decide +kernel⟩
theorem sc_Book_busies : FnScope ["self"] ["self"] (defScope s_Book_busies) := ⟨rfl, rfl, rfl, by decide +kernel, rfl, by decide +kernel, by decide +kernel⟩
def Pk.fld : Pk → Str
  | .ss => "_states"
  | .us => "_ups"
  | .ks => "_downs"
  | .ms => "_marks"
  | .ws => "_wishes"
  | .as => "_answers"
  | .ts => "_tasks"
  | .is => "_idles"
  | .bs => "_busies"
def bookF9 (l0 l1 l2 l3 l4 l5 l6 l7 l8 : Addr) : List (Str × V) := putF "_busies" (.ref l8) (putF "_idles" (.ref l7) (putF "_tasks" (.ref l6) (putF "_answers" (.ref l5) (putF "_wishes" (.ref l4) (putF "_marks" (.ref l3) (putF "_downs" (.ref l2) (putF "_ups" (.ref l1) (putF "_states" (.ref l0) []))))))))
def lsOf (l0 l1 l2 l3 l4 l5 l6 l7 l8 : Addr) : Pk → Addr
  | .ss => l0
  | .us => l1
  | .ks => l2
  | .ms => l3
  | .ws => l4
  | .as => l5
  | .ts => l6
  | .is => l7
  | .bs => l8
def bookF (ls : Pk → Addr) (tp : Addr) : List (Str × V) := putF "_parts" (.ref tp) (bookF9 (ls .ss) (ls .us) (ls .ks) (ls .ms) (ls .ws) (ls .as) (ls .ts) (ls .is) (ls .bs))
theorem look9 (ls : Pk → Addr) (k : Pk) : (bookF9 (ls .ss) (ls .us) (ls .ks) (ls .ms) (ls .ws) (ls .as) (ls .ts) (ls .is) (ls .bs)).lookup k.fld = some (.ref (ls k)) := by
  cases k
  case ss =>
    unfold bookF9 Pk.fld
    rw [lookup_putF, if_neg (by decide +kernel), lookup_putF, if_neg (by decide +kernel), lookup_putF, if_neg (by decide +kernel), lookup_putF, if_neg (by decide +kernel), lookup_putF, if_neg (by decide +kernel), lookup_putF, if_neg (by decide +kernel), lookup_putF, if_neg (by decide +kernel), lookup_putF, if_neg (by decide +kernel), lookup_putF, if_pos rfl]
  case us =>
    unfold bookF9 Pk.fld
    rw [lookup_putF, if_neg (by decide +kernel), lookup_putF, if_neg (by decide +kernel), lookup_putF, if_neg (by decide +kernel), lookup_putF, if_neg (by decide +kernel), lookup_putF, if_neg (by decide +kernel), lookup_putF, if_neg (by decide +kernel), lookup_putF, if_neg (by decide +kernel), lookup_putF, if_pos rfl]
  case ks =>
    unfold bookF9 Pk.fld
    rw [lookup_putF, if_neg (by decide +kernel), lookup_putF, if_neg (by decide +kernel), lookup_putF, if_neg (by decide +kernel), lookup_putF, if_neg (by decide +kernel), lookup_putF, if_neg (by decide +kernel), lookup_putF, if_neg (by decide +kernel), lookup_putF, if_pos rfl]
  case ms =>
    unfold bookF9 Pk.fld
    rw [lookup_putF, if_neg (by decide +kernel), lookup_putF, if_neg (by decide +kernel), lookup_putF, if_neg (by decide +kernel), lookup_putF, if_neg (by decide +kernel), lookup_putF, if_neg (by decide +kernel), lookup_putF, if_pos rfl]
  case ws =>
    unfold bookF9 Pk.fld
    rw [lookup_putF, if_neg (by decide +kernel), lookup_putF, if_neg (by decide +kernel), lookup_putF, if_neg (by decide +kernel), lookup_putF, if_neg (by decide +kernel), lookup_putF, if_pos rfl]
  case as =>
    unfold bookF9 Pk.fld
    rw [lookup_putF, if_neg (by decide +kernel), lookup_putF, if_neg (by decide +kernel), lookup_putF, if_neg (by decide +kernel), lookup_putF, if_pos rfl]
  case ts =>
    unfold bookF9 Pk.fld
    rw [lookup_putF, if_neg (by decide +kernel), lookup_putF, if_neg (by decide +kernel), lookup_putF, if_pos rfl]
  case is =>
    unfold bookF9 Pk.fld
    rw [lookup_putF, if_neg (by decide +kernel), lookup_putF, if_pos rfl]
  case bs =>
    unfold bookF9 Pk.fld
    rw [lookup_putF, if_pos rfl]
theorem lookF (ls : Pk → Addr) (tp : Addr) (k : Pk) : (bookF ls tp).lookup k.fld = some (.ref (ls k)) := by
  unfold bookF
  rw [lookup_putF, if_neg (by cases k <;> decide +kernel)]
  exact look9 ls k
theorem lookM (ls : Pk → Addr) (tp : Addr) (k : Pk) : (bookF ls tp).lookup k.nm = none := by
  unfold bookF bookF9
  rw [lookup_putF, if_neg (by cases k <;> decide +kernel), lookup_putF, if_neg (by cases k <;> decide +kernel), lookup_putF, if_neg (by cases k <;> decide +kernel), lookup_putF, if_neg (by cases k <;> decide +kernel), lookup_putF, if_neg (by cases k <;> decide +kernel), lookup_putF, if_neg (by cases k <;> decide +kernel), lookup_putF, if_neg (by cases k <;> decide +kernel), lookup_putF, if_neg (by cases k <;> decide +kernel), lookup_putF, if_neg (by cases k <;> decide +kernel), lookup_putF, if_neg (by cases k <;> decide +kernel)]
  rfl
theorem putF_len {f : Str} {v : V} : ∀ {F : List (Str × V)}, (putF f v F).length ≤ F.length + 1
  | [] => Nat.le_refl _
  | (g, x) :: r => by
    unfold putF
    by_cases h : g = f
    · rw [if_pos h]
      show r.length + 1 ≤ r.length + 1 + 1
      omega
    · rw [if_neg h]
      have := putF_len (f := f) (v := v) (F := r)
      show (putF f v r).length + 1 ≤ r.length + 1 + 1
      omega
/-- the class -/
structure BK (K : PySem.W.Frag) (C : Addr) : Prop where
  c : Cls K C
  no : ∀ k : Pk, NoAttr K C k.fld
  noP : NoAttr K C "_parts"
/-- a book stands at p; its lists are among fp -/
def BookAt (C : Addr) (b : RB) (H : Hp) (p : Addr) (fp : List Addr) : Prop := Live H fp ∧ ∃ (dx tp : Addr) (ls : Pk → Addr), H p = some (.ins C dx (bookF ls tp)) ∧ H tp = some (.tup (allPk.map fun k => .ref (ls k))) ∧ ∀ k, ∃ xs gp, H (ls k) = some (.lst xs) ∧ DfL H (b.ds k) xs gp ∧ ∀ a ∈ ls k :: gp, a ∈ fp
theorem BookAt.same {C : Addr} {b : RB} {H G : Hp} {p : Addr} {fp : List Addr} (h : BookAt C b H p fp) (s : Same H G) : BookAt C b G p fp := by
  obtain ⟨hl, dx, tp, ls, e, et, hk⟩ := h
  refine ⟨hl.same s, dx, tp, ls, s _ _ e, s _ _ et, fun k => ?_⟩
  obtain ⟨xs, gp, h1, h2, h3⟩ := hk k
  exact ⟨xs, gp, s _ _ h1, h2.same s, h3⟩
/-- only lists of M are changed -/
def Fix (M : List Addr) (H G : Hp) : Prop := ∀ a o, a ∉ M → H a = some o → G a = some o
theorem BookAt.fix {C : Addr} {b : RB} {H G : Hp} {p : Addr} {fp M : List Addr} (h : BookAt C b H p fp) (f : Fix M H G) (hM : Live H M) (hd : ∀ a ∈ fp, a ∉ M) : BookAt C b G p fp := by
  obtain ⟨hl, dx, tp, ls, e, et, hk⟩ := h
  have nl : ∀ {a : Addr} {o : HO}, H a = some o → (∀ xs, o ≠ .lst xs) → G a = some o := fun {a o} e n => f a o (fun m => by
    obtain ⟨xs, ex⟩ := hM a m
    rw [e] at ex
    exact n xs (Option.some.inj ex)) e
  refine ⟨fun a ha => ?_, dx, tp, ls, nl e (fun _ z => by cases z), nl et (fun _ z => by cases z), fun k => ?_⟩
  · obtain ⟨xs, ex⟩ := hl a ha
    exact ⟨xs, f a _ (hd a ha) ex⟩
  obtain ⟨xs, gp, h1, h2, h3⟩ := hk k
  exact ⟨xs, gp, f _ _ (hd _ (h3 _ List.mem_cons_self)) h1, DfL.keep (fun a ys e => nl e (fun _ z => by cases z)) _ _ _ (fun a ha o e => f a o (hd a (h3 a (List.mem_cons_of_mem _ ha))) e) h2, h3⟩
/-- the nine lists -/
def Nine (H : Hp) (b : RB) (hs : Pk → Addr) : Prop := ∀ k, ∃ xs gp, H (hs k) = some (.lst xs) ∧ DfL H (b.ds k) xs gp
theorem Nine.dfl {H : Hp} {b : RB} {hs : Pk → Addr} (h : Nine H b hs) : ∀ L : List Pk, ∃ fp, DfL H (L.map fun k => .list (b.ds k)) (L.map fun k => .ref (hs k)) fp
  | [] => ⟨[], .n⟩
  | k :: L => by
    obtain ⟨xs, gp, h1, h2⟩ := h k
    obtain ⟨fp, h3⟩ := Nine.dfl h L
    exact ⟨(hs k :: gp) ++ fp, _, _, hs k :: gp, fp, rfl, rfl, ⟨hs k, xs, gp, rfl, rfl, h1, h2⟩, h3⟩
theorem Nine.same {H G : Hp} {b : RB} {hs : Pk → Addr} (h : Nine H b hs) (s : Same H G) : Nine G b hs := fun k => by
  obtain ⟨xs, gp, h1, h2⟩ := h k
  exact ⟨xs, gp, s _ _ h1, h2.same s⟩
theorem flat_item {N : Nm5} {k : Pk} (hk : k ≠ .ts) {d : PyData} (h : ItemR N k d) : Flat d := by
  have two : ∀ {ds : List PyData}, (∀ d ∈ ds, Flat d) → Flat (.tuple ds) := fun h => flat_tup h
  cases k
  case ss =>
    obtain ⟨s, t, rfl, _⟩ := h
    exact flat_tup (by simp [flat_str])
  case us =>
    obtain ⟨s, t, rfl, _⟩ := h
    exact flat_tup (by simp [flat_str, flat_bool])
  case ks =>
    obtain ⟨s, t, rfl, _⟩ := h
    exact flat_tup (by simp [flat_str, flat_bool])
  case ms =>
    obtain ⟨s, rfl, _⟩ := h
    exact flat_str s
  case ws =>
    obtain ⟨a, b, u, rfl, _⟩ := h
    exact flat_tup (by simp [flat_str, flat_oN])
  case as =>
    obtain ⟨a, k, b, u, rfl, _⟩ := h
    exact flat_tup (by simp [flat_str, flat_oN])
  case ts => exact absurd rfl hk
  case is =>
    rcases h with ⟨m, u, t, rfl, _⟩ | ⟨m, u, n, k, f, rfl, _⟩
    · exact flat_tup (by simp [flat_str])
    · exact flat_tup (by simp [flat_str, flat_oN, flat_bool])
  case bs =>
    obtain ⟨t, m, u, n, k, f, rfl, _⟩ := h
    exact flat_tup (by simp [flat_str, flat_oN, flat_bool])
theorem RB.Ok.flat {b : RB} (ok : b.Ok) {k : Pk} (hk : k ≠ .ts) {H : Hp} {xs : List V} {gp : List Addr} (h : DfL H (b.ds k) xs gp) : gp = [] := DfL.flat (fun d hd => flat_item hk ((ok.fact k).2.2.1 d hd)) h
/-- one step of the constructor -/
def Sp1 (p : Addr) (H G : Hp) : Prop := ∀ a o, a ≠ p → H a = some o → G a = some o
theorem Sp1.trans {p : Addr} {H G J : Hp} (h : Sp1 p H G) (g : Sp1 p G J) : Sp1 p H J := fun a o n e => g a o n (h a o n e)
theorem Sp1.of {p : Addr} {H G : Hp} {o : HO} (s : Same H G) : Sp1 p H (upd G p o) := fun a o' n e => by
  rw [upd_ne n]
  exact s _ _ e
theorem Sp1.same {p : Addr} {H0 H G : Hp} (s : Same H0 H) (h0 : H0 p = none) (g : Sp1 p H G) : Same H0 G := fun a o e => g a o (ne_of_none e h0) (s _ _ e)
theorem DfL.sp1 {p C dx : Addr} {H G : Hp} {fs : List (Str × V)} {ds : List PyData} {xs : List V} {fp : List Addr} (h : DfL H ds xs fp) (g : Sp1 p H G) (e : H p = some (.ins C dx fs)) : DfL G ds xs fp :=
  DfL.keep (fun a ys ea => g a _ (ne_of ea e (by intro z; cases z)) ea) _ _ _ (fun a ha o ea => g a o (fun z => by
    obtain ⟨xs, ex⟩ := DfL.live _ _ _ h a ha
    rw [z, e] at ex
    cases ex) ea) h
def spInit (C : Addr) : Sp := fun vs H Q _ => ∃ (H0 : Hp) (p dx : Addr) (b : RB) (hs : Pk → Addr), vs = [.ref p, .ref (hs .ss), .ref (hs .us), .ref (hs .ks), .ref (hs .ms), .ref (hs .ws), .ref (hs .as), .ref (hs .ts), .ref (hs .is), .ref (hs .bs)] ∧ Same H0 H ∧ H0 p = none ∧ H p = some (.ins C dx []) ∧ Nine H0 b hs ∧ b.Ok ∧
  ∀ (G : Hp) (fp : List Addr), Same H0 G → BookAt C b G p fp → (∀ a ∈ fp, H0 a = none) → Q .non G
def spRead (C : Addr) (k : Pk) : Sp := fun vs H Q _ => ∃ (p : Addr) (b : RB) (fp : List Addr), vs = [.ref p] ∧ BookAt C b H p fp ∧ b.Ok ∧
  ∀ (G : Hp) (l' : Addr) (xs : List V) (gp : List Addr), Same H G → G l' = some (.lst xs) → DfL G (b.ds k) xs gp → Fr H (l' :: gp) → Q (.ref l') G
structure DefM (K : PySem.W.Frag) (C : Addr) (m qual : Str) (st : Stmt) (ps : List Str) (f : Addr) (fd : FuncData) : Prop where
  mt : Meth K C m f
  F : Fun K m qual st f fd
  b : Binds K fd ps []
section
variable {P : Program} {w : World} {K : PySem.W.Frag} {mg : Str → Option Value} {base : Heap} {tl : Tok} {aP aN aT aO aL aH aI : Addr} {it : Pk → Addr}
theorem ok_m_ss {f C : Addr} {fd : FuncData} (D : DefM K C "states" "Book.states" s_Book_states ["self"] f fd) (Z : Zs mg) (B : BK K C) : FnOk P w K mg base CX0 1 f fd ["self"] (spRead C .ss) := by
  refine D.F.ok sc_Book_states (fun vs H Q E h => ?_) (fun cdv A outer s H vs Q E hr h => ?_)
  · obtain ⟨p, b, fp, rfl, _⟩ := h
    rfl
  obtain ⟨p, b, fp, rfl, ⟨hL, dx, tp, ls, hp, _, hk⟩, ok, q⟩ := h
  obtain ⟨xs, gp, h1, h2, h3⟩ := hk .ss
  have eg := ok.flat (k := .ss) (by intro z; cases z) h2
  subst eg
  refine ⟨_, pss_one (ps_ret (pe_callTy call_list_of (by rfl) Z.list (by decide +kernel) (pa_cons (pe_fld (pv 0) rfl) pa_nil))), ?_⟩
  refine ⟨_, rfl, p, C, dx, _, _, rfl, hp, B.c, B.no .ss, lookF ls tp .ss, ls .ss, xs, rfl, .inl (.of h1), fun l' hn => ?_⟩
  exact q _ l' xs [] (same_upd hn) upd_same (h2.same (same_upd hn)) ⟨by simp, fun a ha => by rw [List.mem_singleton.mp ha]; exact hn⟩
theorem ok_m_us {f C : Addr} {fd : FuncData} (D : DefM K C "ups" "Book.ups" s_Book_ups ["self"] f fd) (Z : Zs mg) (B : BK K C) : FnOk P w K mg base CX0 1 f fd ["self"] (spRead C .us) := by
  refine D.F.ok sc_Book_ups (fun vs H Q E h => ?_) (fun cdv A outer s H vs Q E hr h => ?_)
  · obtain ⟨p, b, fp, rfl, _⟩ := h
    rfl
  obtain ⟨p, b, fp, rfl, ⟨hL, dx, tp, ls, hp, _, hk⟩, ok, q⟩ := h
  obtain ⟨xs, gp, h1, h2, h3⟩ := hk .us
  have eg := ok.flat (k := .us) (by intro z; cases z) h2
  subst eg
  refine ⟨_, pss_one (ps_ret (pe_callTy call_list_of (by rfl) Z.list (by decide +kernel) (pa_cons (pe_fld (pv 0) rfl) pa_nil))), ?_⟩
  refine ⟨_, rfl, p, C, dx, _, _, rfl, hp, B.c, B.no .us, lookF ls tp .us, ls .us, xs, rfl, .inl (.of h1), fun l' hn => ?_⟩
  exact q _ l' xs [] (same_upd hn) upd_same (h2.same (same_upd hn)) ⟨by simp, fun a ha => by rw [List.mem_singleton.mp ha]; exact hn⟩
theorem ok_m_ks {f C : Addr} {fd : FuncData} (D : DefM K C "downs" "Book.downs" s_Book_downs ["self"] f fd) (Z : Zs mg) (B : BK K C) : FnOk P w K mg base CX0 1 f fd ["self"] (spRead C .ks) := by
  refine D.F.ok sc_Book_downs (fun vs H Q E h => ?_) (fun cdv A outer s H vs Q E hr h => ?_)
  · obtain ⟨p, b, fp, rfl, _⟩ := h
    rfl
  obtain ⟨p, b, fp, rfl, ⟨hL, dx, tp, ls, hp, _, hk⟩, ok, q⟩ := h
  obtain ⟨xs, gp, h1, h2, h3⟩ := hk .ks
  have eg := ok.flat (k := .ks) (by intro z; cases z) h2
  subst eg
  refine ⟨_, pss_one (ps_ret (pe_callTy call_list_of (by rfl) Z.list (by decide +kernel) (pa_cons (pe_fld (pv 0) rfl) pa_nil))), ?_⟩
  refine ⟨_, rfl, p, C, dx, _, _, rfl, hp, B.c, B.no .ks, lookF ls tp .ks, ls .ks, xs, rfl, .inl (.of h1), fun l' hn => ?_⟩
  exact q _ l' xs [] (same_upd hn) upd_same (h2.same (same_upd hn)) ⟨by simp, fun a ha => by rw [List.mem_singleton.mp ha]; exact hn⟩
theorem ok_m_ms {f C : Addr} {fd : FuncData} (D : DefM K C "marks" "Book.marks" s_Book_marks ["self"] f fd) (Z : Zs mg) (B : BK K C) : FnOk P w K mg base CX0 1 f fd ["self"] (spRead C .ms) := by
  refine D.F.ok sc_Book_marks (fun vs H Q E h => ?_) (fun cdv A outer s H vs Q E hr h => ?_)
  · obtain ⟨p, b, fp, rfl, _⟩ := h
    rfl
  obtain ⟨p, b, fp, rfl, ⟨hL, dx, tp, ls, hp, _, hk⟩, ok, q⟩ := h
  obtain ⟨xs, gp, h1, h2, h3⟩ := hk .ms
  have eg := ok.flat (k := .ms) (by intro z; cases z) h2
  subst eg
  refine ⟨_, pss_one (ps_ret (pe_callTy call_list_of (by rfl) Z.list (by decide +kernel) (pa_cons (pe_fld (pv 0) rfl) pa_nil))), ?_⟩
  refine ⟨_, rfl, p, C, dx, _, _, rfl, hp, B.c, B.no .ms, lookF ls tp .ms, ls .ms, xs, rfl, .inl (.of h1), fun l' hn => ?_⟩
  exact q _ l' xs [] (same_upd hn) upd_same (h2.same (same_upd hn)) ⟨by simp, fun a ha => by rw [List.mem_singleton.mp ha]; exact hn⟩
theorem ok_m_ws {f C : Addr} {fd : FuncData} (D : DefM K C "wishes" "Book.wishes" s_Book_wishes ["self"] f fd) (Z : Zs mg) (B : BK K C) : FnOk P w K mg base CX0 1 f fd ["self"] (spRead C .ws) := by
  refine D.F.ok sc_Book_wishes (fun vs H Q E h => ?_) (fun cdv A outer s H vs Q E hr h => ?_)
  · obtain ⟨p, b, fp, rfl, _⟩ := h
    rfl
  obtain ⟨p, b, fp, rfl, ⟨hL, dx, tp, ls, hp, _, hk⟩, ok, q⟩ := h
  obtain ⟨xs, gp, h1, h2, h3⟩ := hk .ws
  have eg := ok.flat (k := .ws) (by intro z; cases z) h2
  subst eg
  refine ⟨_, pss_one (ps_ret (pe_callTy call_list_of (by rfl) Z.list (by decide +kernel) (pa_cons (pe_fld (pv 0) rfl) pa_nil))), ?_⟩
  refine ⟨_, rfl, p, C, dx, _, _, rfl, hp, B.c, B.no .ws, lookF ls tp .ws, ls .ws, xs, rfl, .inl (.of h1), fun l' hn => ?_⟩
  exact q _ l' xs [] (same_upd hn) upd_same (h2.same (same_upd hn)) ⟨by simp, fun a ha => by rw [List.mem_singleton.mp ha]; exact hn⟩
theorem ok_m_as {f C : Addr} {fd : FuncData} (D : DefM K C "answers" "Book.answers" s_Book_answers ["self"] f fd) (Z : Zs mg) (B : BK K C) : FnOk P w K mg base CX0 1 f fd ["self"] (spRead C .as) := by
  refine D.F.ok sc_Book_answers (fun vs H Q E h => ?_) (fun cdv A outer s H vs Q E hr h => ?_)
  · obtain ⟨p, b, fp, rfl, _⟩ := h
    rfl
  obtain ⟨p, b, fp, rfl, ⟨hL, dx, tp, ls, hp, _, hk⟩, ok, q⟩ := h
  obtain ⟨xs, gp, h1, h2, h3⟩ := hk .as
  have eg := ok.flat (k := .as) (by intro z; cases z) h2
  subst eg
  refine ⟨_, pss_one (ps_ret (pe_callTy call_list_of (by rfl) Z.list (by decide +kernel) (pa_cons (pe_fld (pv 0) rfl) pa_nil))), ?_⟩
  refine ⟨_, rfl, p, C, dx, _, _, rfl, hp, B.c, B.no .as, lookF ls tp .as, ls .as, xs, rfl, .inl (.of h1), fun l' hn => ?_⟩
  exact q _ l' xs [] (same_upd hn) upd_same (h2.same (same_upd hn)) ⟨by simp, fun a ha => by rw [List.mem_singleton.mp ha]; exact hn⟩
theorem ok_m_ts {f f1 C : Addr} {fd fd1 : FuncData} (D : DefM K C "tasks" "Book.tasks" s_Book_tasks ["self"] f fd) (Z : Zs mg) (B : BK K C) (D_copied_tasks : DefT K mg "copied_tasks" "copied_tasks" s_copied_tasks ["tasks"] f1 fd1) : FnOk P w K mg base CX0 2 f fd ["self"] (spRead C .ts) := by
  have G_copied_tasks := ok_copied (P := P) (w := w) (base := base) D_copied_tasks Z
  refine D.F.ok sc_Book_tasks (fun vs H Q E h => ?_) (fun cdv A outer s H vs Q E hr h => ?_)
  · obtain ⟨p, b, fp, rfl, _⟩ := h
    rfl
  obtain ⟨p, b, fp, rfl, ⟨hL, dx, tp, ls, hp, _, hk⟩, ok, q⟩ := h
  obtain ⟨xs, gp, h1, h2, h3⟩ := hk .ts
  obtain ⟨flo, fhi, fit, _, _⟩ := ok.fact .ts
  refine ⟨_, pss_one (ps_ret (pe_call G_copied_tasks (hr.mono (by decide)) rfl D_copied_tasks.m D_copied_tasks.F.kp D_copied_tasks.b .nil pass0 (pa_cons (pe_fld (pv 0) rfl) pa_nil))), ?_⟩
  refine ⟨_, rfl, p, C, dx, _, _, rfl, hp, B.c, B.no .ts, lookF ls tp .ts, ls .ts, xs, b.ts, gp, rfl, h1, h2, Nat.le_trans fhi (by decide), fun t ht => ?_, fun G l' ys gp' sG e1 e2 e3 => q G l' ys gp' sG e1 e2 e3⟩
  obtain ⟨nm, _, h⟩ := fit t ht
  exact ⟨b.N, nm, h⟩
theorem ok_m_is {f C : Addr} {fd : FuncData} (D : DefM K C "idles" "Book.idles" s_Book_idles ["self"] f fd) (Z : Zs mg) (B : BK K C) : FnOk P w K mg base CX0 1 f fd ["self"] (spRead C .is) := by
  refine D.F.ok sc_Book_idles (fun vs H Q E h => ?_) (fun cdv A outer s H vs Q E hr h => ?_)
  · obtain ⟨p, b, fp, rfl, _⟩ := h
    rfl
  obtain ⟨p, b, fp, rfl, ⟨hL, dx, tp, ls, hp, _, hk⟩, ok, q⟩ := h
  obtain ⟨xs, gp, h1, h2, h3⟩ := hk .is
  have eg := ok.flat (k := .is) (by intro z; cases z) h2
  subst eg
  refine ⟨_, pss_one (ps_ret (pe_callTy call_list_of (by rfl) Z.list (by decide +kernel) (pa_cons (pe_fld (pv 0) rfl) pa_nil))), ?_⟩
  refine ⟨_, rfl, p, C, dx, _, _, rfl, hp, B.c, B.no .is, lookF ls tp .is, ls .is, xs, rfl, .inl (.of h1), fun l' hn => ?_⟩
  exact q _ l' xs [] (same_upd hn) upd_same (h2.same (same_upd hn)) ⟨by simp, fun a ha => by rw [List.mem_singleton.mp ha]; exact hn⟩
theorem ok_m_bs {f C : Addr} {fd : FuncData} (D : DefM K C "busies" "Book.busies" s_Book_busies ["self"] f fd) (Z : Zs mg) (B : BK K C) : FnOk P w K mg base CX0 1 f fd ["self"] (spRead C .bs) := by
  refine D.F.ok sc_Book_busies (fun vs H Q E h => ?_) (fun cdv A outer s H vs Q E hr h => ?_)
  · obtain ⟨p, b, fp, rfl, _⟩ := h
    rfl
  obtain ⟨p, b, fp, rfl, ⟨hL, dx, tp, ls, hp, _, hk⟩, ok, q⟩ := h
  obtain ⟨xs, gp, h1, h2, h3⟩ := hk .bs
  have eg := ok.flat (k := .bs) (by intro z; cases z) h2
  subst eg
  refine ⟨_, pss_one (ps_ret (pe_callTy call_list_of (by rfl) Z.list (by decide +kernel) (pa_cons (pe_fld (pv 0) rfl) pa_nil))), ?_⟩
  refine ⟨_, rfl, p, C, dx, _, _, rfl, hp, B.c, B.no .bs, lookF ls tp .bs, ls .bs, xs, rfl, .inl (.of h1), fun l' hn => ?_⟩
  exact q _ l' xs [] (same_upd hn) upd_same (h2.same (same_upd hn)) ⟨by simp, fun a ha => by rw [List.mem_singleton.mp ha]; exact hn⟩
theorem ok_init {f C f1 f2 f3 f4 f5 : Addr} {fd fd1 fd2 fd3 fd4 fd5 : FuncData} (F : Fun K "__init__" "Book.__init__" s_Book__init_ f fd) (Z : Zs mg) (B : BK K C) (T : Tb K mg tl aP aN aT aO aL aH aI) (Td' : Td K w aL aH aI it)
    (D_copied_tasks : DefT K mg "copied_tasks" "copied_tasks" s_copied_tasks ["tasks"] f1 fd1) (D_wrong_part : DefT K mg "wrong_part" "wrong_part" s_wrong_part ["parts"] f2 fd2) (D_may_stand : DefT K mg "may_stand" "may_stand" s_may_stand ["part", "row", "before"] f3 fd3)
    (D_wrong_index : DefT K mg "wrong_index" "wrong_index" s_wrong_index ["part", "rows", "names"] f4 fd4) (D_names_in : DefT K mg "names_in" "names_in" s_names_in ["part", "rows"] f5 fd5) (hI : ∀ N, NOk N → ∀ k, Held P w K mg base 4 (it k) (spItem (ItemR N k) (Wk N k))) :
    FnOk P w K mg base CX0 7 f fd ["self", "states", "ups", "downs", "marks", "wishes", "answers", "tasks", "idles", "busies"] (spInit C) := by
  have G_copied_tasks := ok_copied (P := P) (w := w) (base := base) D_copied_tasks Z
  have G_wrong_part := ok_wrong_part (P := P) (w := w) (base := base) D_wrong_part Z T Td' D_may_stand D_wrong_index D_names_in hI
  refine F.ok sc_Book__init_ (fun vs H Q E h => ?_) (fun cdv A outer s H vs Q E hr h => ?_)
  · obtain ⟨H0, p, dx, b, hs, rfl, _⟩ := h
    rfl
  obtain ⟨H0, p, dx, b, hs, rfl, s0, hp0, hp, hN, ok, q⟩ := h
  refine ⟨_, (pss_cons (ps_set (i := 10) sc_Book__init_.nd rfl (Or.inl rfl) (pe_call G_wrong_part (hr.mono (by decide)) rfl D_wrong_part.m D_wrong_part.F.kp D_wrong_part.b .nil pass0 (pa_cons (pe_tup (pa_cons (pv 1) (pa_cons (pv 2) (pa_cons (pv 3) (pa_cons (pv 4) (pa_cons (pv 5) (pa_cons (pv 6) (pa_cons (pv 7) (pa_cons (pv 8) (pa_cons (pv 9) pa_nil)))))))))) pa_nil))) (pss_cons (ps_if (pt_cmpR op_notN (pv 10) pe_non (nomark _)) pss_never pss_nil) (pss_cons (ps_fld (pv 0) (pe_callTy call_list_of (by rfl) Z.list (by decide +kernel) (pa_cons (pv 1) pa_nil)) rfl) (pss_cons (ps_fld (pv 0) (pe_callTy call_list_of (by rfl) Z.list (by decide +kernel) (pa_cons (pv 2) pa_nil)) rfl) (pss_cons (ps_fld (pv 0) (pe_callTy call_list_of (by rfl) Z.list (by decide +kernel) (pa_cons (pv 3) pa_nil)) rfl) (pss_cons (ps_fld (pv 0) (pe_callTy call_list_of (by rfl) Z.list (by decide +kernel) (pa_cons (pv 4) pa_nil)) rfl) (pss_cons (ps_fld (pv 0) (pe_callTy call_list_of (by rfl) Z.list (by decide +kernel) (pa_cons (pv 5) pa_nil)) rfl) (pss_cons (ps_fld (pv 0) (pe_callTy call_list_of (by rfl) Z.list (by decide +kernel) (pa_cons (pv 6) pa_nil)) rfl) (pss_cons (ps_fld (pv 0) (pe_call G_copied_tasks (hr.mono (by decide)) rfl D_copied_tasks.m D_copied_tasks.F.kp D_copied_tasks.b .nil pass0 (pa_cons (pv 7) pa_nil)) rfl) (pss_cons (ps_fld (pv 0) (pe_callTy call_list_of (by rfl) Z.list (by decide +kernel) (pa_cons (pv 8) pa_nil)) rfl) (pss_cons (ps_fld (pv 0) (pe_callTy call_list_of (by rfl) Z.list (by decide +kernel) (pa_cons (pv 9) pa_nil)) rfl) (pss_one (ps_fld (pv 0) (pe_tup (pa_cons (pe_fld (pv 0) rfl) (pa_cons (pe_fld (pv 0) rfl) (pa_cons (pe_fld (pv 0) rfl) (pa_cons (pe_fld (pv 0) rfl) (pa_cons (pe_fld (pv 0) rfl) (pa_cons (pe_fld (pv 0) rfl) (pa_cons (pe_fld (pv 0) rfl) (pa_cons (pe_fld (pv 0) rfl) (pa_cons (pe_fld (pv 0) rfl) pa_nil)))))))))) rfl))))))))))))), ?_⟩
  refine ⟨_, rfl, _, rfl, _, rfl, _, rfl, _, rfl, _, rfl, _, rfl, _, rfl, _, rfl, sz 9, fun t0 ht0 => ?_⟩
  have sA := same_upd (o := .tup [.ref (hs .ss), .ref (hs .us), .ref (hs .ks), .ref (hs .ms), .ref (hs .ws), .ref (hs .as), .ref (hs .ts), .ref (hs .is), .ref (hs .bs)]) ht0
  obtain ⟨fp0, hdf⟩ := (hN.same (s0.trans sA)).dfl allPk
  refine ⟨.ref t0, b, fp0, rfl, tD upd_same hdf, ok, fun A0 sA0 => ?_⟩
  have z0 : Same H0 A0 := (s0.trans sA).trans sA0
  have y0 : A0 p = some (.ins C dx []) := sA0 _ _ (sA _ _ hp)
  refine ⟨_, rfl, rfl, _, rfl, ifF (by decide +kernel) ?_⟩
  obtain ⟨xs0, gp0, e0, d0⟩ := hN .ss
  obtain ⟨xs1, gp1, e1, d1⟩ := hN .us
  obtain ⟨xs2, gp2, e2, d2⟩ := hN .ks
  obtain ⟨xs3, gp3, e3, d3⟩ := hN .ms
  obtain ⟨xs4, gp4, e4, d4⟩ := hN .ws
  obtain ⟨xs5, gp5, e5, d5⟩ := hN .as
  obtain ⟨xs6, gp6, e6, d6⟩ := hN .ts
  obtain ⟨xs7, gp7, e7, d7⟩ := hN .is
  obtain ⟨xs8, gp8, e8, d8⟩ := hN .bs
  -- _states
  refine ⟨_, rfl, hs .ss, xs0, rfl, .inl (.of (z0 _ _ e0)), fun l0 n0 => ?_⟩
  have np0 : p ≠ l0 := ne_of_none y0 n0
  have v0 := same_upd (o := .lst xs0) n0
  have f0 := Same.free' z0 n0
  have w0 := v0 _ _ y0
  refine ⟨_, rfl, p, C, dx, _, rfl, w0, B.c, B.no .ss, by decide, ?_⟩
  have g1 : (putF "_states" (.ref l0) []).length ≤ 1 := Nat.le_refl _
  have u0 := Sp1.of (p := p) (o := .ins C dx (putF "_states" (.ref l0) [])) v0
  have z1 := Sp1.same z0 hp0 u0
  have y1 : (upd (upd A0 l0 (.lst xs0)) p (.ins C dx (putF "_states" (.ref l0) []))) p = some (.ins C dx (putF "_states" (.ref l0) [])) := upd_same
  have x0 : (upd (upd A0 l0 (.lst xs0)) p (.ins C dx (putF "_states" (.ref l0) []))) l0 = some (.lst xs0) := (upd_ne np0.symm).trans upd_same
  -- _ups
  refine ⟨_, rfl, hs .us, xs1, rfl, .inl (.of (z1 _ _ e1)), fun l1 n1 => ?_⟩
  have np1 : p ≠ l1 := ne_of_none y1 n1
  have v1 := same_upd (o := .lst xs1) n1
  have f1 := Same.free' z1 n1
  have w1 := v1 _ _ y1
  refine ⟨_, rfl, p, C, dx, _, rfl, w1, B.c, B.no .us, by have := g1; omega, ?_⟩
  have g2 : (putF "_ups" (.ref l1) (putF "_states" (.ref l0) [])).length ≤ 2 := Nat.le_trans putF_len (by omega)
  have u1 := Sp1.of (p := p) (o := .ins C dx (putF "_ups" (.ref l1) (putF "_states" (.ref l0) []))) v1
  have z2 := Sp1.same z1 hp0 u1
  have y2 : (upd (upd (upd (upd A0 l0 (.lst xs0)) p (.ins C dx (putF "_states" (.ref l0) []))) l1 (.lst xs1)) p (.ins C dx (putF "_ups" (.ref l1) (putF "_states" (.ref l0) [])))) p = some (.ins C dx (putF "_ups" (.ref l1) (putF "_states" (.ref l0) []))) := upd_same
  have x1 : (upd (upd (upd (upd A0 l0 (.lst xs0)) p (.ins C dx (putF "_states" (.ref l0) []))) l1 (.lst xs1)) p (.ins C dx (putF "_ups" (.ref l1) (putF "_states" (.ref l0) [])))) l1 = some (.lst xs1) := (upd_ne np1.symm).trans upd_same
  -- _downs
  refine ⟨_, rfl, hs .ks, xs2, rfl, .inl (.of (z2 _ _ e2)), fun l2 n2 => ?_⟩
  have np2 : p ≠ l2 := ne_of_none y2 n2
  have v2 := same_upd (o := .lst xs2) n2
  have f2 := Same.free' z2 n2
  have w2 := v2 _ _ y2
  refine ⟨_, rfl, p, C, dx, _, rfl, w2, B.c, B.no .ks, by have := g2; omega, ?_⟩
  have g3 : (putF "_downs" (.ref l2) (putF "_ups" (.ref l1) (putF "_states" (.ref l0) []))).length ≤ 3 := Nat.le_trans putF_len (by omega)
  have u2 := Sp1.of (p := p) (o := .ins C dx (putF "_downs" (.ref l2) (putF "_ups" (.ref l1) (putF "_states" (.ref l0) [])))) v2
  have z3 := Sp1.same z2 hp0 u2
  have y3 : (upd (upd (upd (upd (upd (upd A0 l0 (.lst xs0)) p (.ins C dx (putF "_states" (.ref l0) []))) l1 (.lst xs1)) p (.ins C dx (putF "_ups" (.ref l1) (putF "_states" (.ref l0) [])))) l2 (.lst xs2)) p (.ins C dx (putF "_downs" (.ref l2) (putF "_ups" (.ref l1) (putF "_states" (.ref l0) []))))) p = some (.ins C dx (putF "_downs" (.ref l2) (putF "_ups" (.ref l1) (putF "_states" (.ref l0) [])))) := upd_same
  have x2 : (upd (upd (upd (upd (upd (upd A0 l0 (.lst xs0)) p (.ins C dx (putF "_states" (.ref l0) []))) l1 (.lst xs1)) p (.ins C dx (putF "_ups" (.ref l1) (putF "_states" (.ref l0) [])))) l2 (.lst xs2)) p (.ins C dx (putF "_downs" (.ref l2) (putF "_ups" (.ref l1) (putF "_states" (.ref l0) []))))) l2 = some (.lst xs2) := (upd_ne np2.symm).trans upd_same
  -- _marks
  refine ⟨_, rfl, hs .ms, xs3, rfl, .inl (.of (z3 _ _ e3)), fun l3 n3 => ?_⟩
  have np3 : p ≠ l3 := ne_of_none y3 n3
  have v3 := same_upd (o := .lst xs3) n3
  have f3 := Same.free' z3 n3
  have w3 := v3 _ _ y3
  refine ⟨_, rfl, p, C, dx, _, rfl, w3, B.c, B.no .ms, by have := g3; omega, ?_⟩
  have g4 : (putF "_marks" (.ref l3) (putF "_downs" (.ref l2) (putF "_ups" (.ref l1) (putF "_states" (.ref l0) [])))).length ≤ 4 := Nat.le_trans putF_len (by omega)
  have u3 := Sp1.of (p := p) (o := .ins C dx (putF "_marks" (.ref l3) (putF "_downs" (.ref l2) (putF "_ups" (.ref l1) (putF "_states" (.ref l0) []))))) v3
  have z4 := Sp1.same z3 hp0 u3
  have y4 : (upd (upd (upd (upd (upd (upd (upd (upd A0 l0 (.lst xs0)) p (.ins C dx (putF "_states" (.ref l0) []))) l1 (.lst xs1)) p (.ins C dx (putF "_ups" (.ref l1) (putF "_states" (.ref l0) [])))) l2 (.lst xs2)) p (.ins C dx (putF "_downs" (.ref l2) (putF "_ups" (.ref l1) (putF "_states" (.ref l0) []))))) l3 (.lst xs3)) p (.ins C dx (putF "_marks" (.ref l3) (putF "_downs" (.ref l2) (putF "_ups" (.ref l1) (putF "_states" (.ref l0) [])))))) p = some (.ins C dx (putF "_marks" (.ref l3) (putF "_downs" (.ref l2) (putF "_ups" (.ref l1) (putF "_states" (.ref l0) []))))) := upd_same
  have x3 : (upd (upd (upd (upd (upd (upd (upd (upd A0 l0 (.lst xs0)) p (.ins C dx (putF "_states" (.ref l0) []))) l1 (.lst xs1)) p (.ins C dx (putF "_ups" (.ref l1) (putF "_states" (.ref l0) [])))) l2 (.lst xs2)) p (.ins C dx (putF "_downs" (.ref l2) (putF "_ups" (.ref l1) (putF "_states" (.ref l0) []))))) l3 (.lst xs3)) p (.ins C dx (putF "_marks" (.ref l3) (putF "_downs" (.ref l2) (putF "_ups" (.ref l1) (putF "_states" (.ref l0) [])))))) l3 = some (.lst xs3) := (upd_ne np3.symm).trans upd_same
  -- _wishes
  refine ⟨_, rfl, hs .ws, xs4, rfl, .inl (.of (z4 _ _ e4)), fun l4 n4 => ?_⟩
  have np4 : p ≠ l4 := ne_of_none y4 n4
  have v4 := same_upd (o := .lst xs4) n4
  have f4 := Same.free' z4 n4
  have w4 := v4 _ _ y4
  refine ⟨_, rfl, p, C, dx, _, rfl, w4, B.c, B.no .ws, by have := g4; omega, ?_⟩
  have g5 : (putF "_wishes" (.ref l4) (putF "_marks" (.ref l3) (putF "_downs" (.ref l2) (putF "_ups" (.ref l1) (putF "_states" (.ref l0) []))))).length ≤ 5 := Nat.le_trans putF_len (by omega)
  have u4 := Sp1.of (p := p) (o := .ins C dx (putF "_wishes" (.ref l4) (putF "_marks" (.ref l3) (putF "_downs" (.ref l2) (putF "_ups" (.ref l1) (putF "_states" (.ref l0) [])))))) v4
  have z5 := Sp1.same z4 hp0 u4
  have y5 : (upd (upd (upd (upd (upd (upd (upd (upd (upd (upd A0 l0 (.lst xs0)) p (.ins C dx (putF "_states" (.ref l0) []))) l1 (.lst xs1)) p (.ins C dx (putF "_ups" (.ref l1) (putF "_states" (.ref l0) [])))) l2 (.lst xs2)) p (.ins C dx (putF "_downs" (.ref l2) (putF "_ups" (.ref l1) (putF "_states" (.ref l0) []))))) l3 (.lst xs3)) p (.ins C dx (putF "_marks" (.ref l3) (putF "_downs" (.ref l2) (putF "_ups" (.ref l1) (putF "_states" (.ref l0) [])))))) l4 (.lst xs4)) p (.ins C dx (putF "_wishes" (.ref l4) (putF "_marks" (.ref l3) (putF "_downs" (.ref l2) (putF "_ups" (.ref l1) (putF "_states" (.ref l0) []))))))) p = some (.ins C dx (putF "_wishes" (.ref l4) (putF "_marks" (.ref l3) (putF "_downs" (.ref l2) (putF "_ups" (.ref l1) (putF "_states" (.ref l0) [])))))) := upd_same
  have x4 : (upd (upd (upd (upd (upd (upd (upd (upd (upd (upd A0 l0 (.lst xs0)) p (.ins C dx (putF "_states" (.ref l0) []))) l1 (.lst xs1)) p (.ins C dx (putF "_ups" (.ref l1) (putF "_states" (.ref l0) [])))) l2 (.lst xs2)) p (.ins C dx (putF "_downs" (.ref l2) (putF "_ups" (.ref l1) (putF "_states" (.ref l0) []))))) l3 (.lst xs3)) p (.ins C dx (putF "_marks" (.ref l3) (putF "_downs" (.ref l2) (putF "_ups" (.ref l1) (putF "_states" (.ref l0) [])))))) l4 (.lst xs4)) p (.ins C dx (putF "_wishes" (.ref l4) (putF "_marks" (.ref l3) (putF "_downs" (.ref l2) (putF "_ups" (.ref l1) (putF "_states" (.ref l0) []))))))) l4 = some (.lst xs4) := (upd_ne np4.symm).trans upd_same
  -- _answers
  refine ⟨_, rfl, hs .as, xs5, rfl, .inl (.of (z5 _ _ e5)), fun l5 n5 => ?_⟩
  have np5 : p ≠ l5 := ne_of_none y5 n5
  have v5 := same_upd (o := .lst xs5) n5
  have f5 := Same.free' z5 n5
  have w5 := v5 _ _ y5
  refine ⟨_, rfl, p, C, dx, _, rfl, w5, B.c, B.no .as, by have := g5; omega, ?_⟩
  have g6 : (putF "_answers" (.ref l5) (putF "_wishes" (.ref l4) (putF "_marks" (.ref l3) (putF "_downs" (.ref l2) (putF "_ups" (.ref l1) (putF "_states" (.ref l0) [])))))).length ≤ 6 := Nat.le_trans putF_len (by omega)
  have u5 := Sp1.of (p := p) (o := .ins C dx (putF "_answers" (.ref l5) (putF "_wishes" (.ref l4) (putF "_marks" (.ref l3) (putF "_downs" (.ref l2) (putF "_ups" (.ref l1) (putF "_states" (.ref l0) []))))))) v5
  have z6 := Sp1.same z5 hp0 u5
  have y6 : (upd (upd (upd (upd (upd (upd (upd (upd (upd (upd (upd (upd A0 l0 (.lst xs0)) p (.ins C dx (putF "_states" (.ref l0) []))) l1 (.lst xs1)) p (.ins C dx (putF "_ups" (.ref l1) (putF "_states" (.ref l0) [])))) l2 (.lst xs2)) p (.ins C dx (putF "_downs" (.ref l2) (putF "_ups" (.ref l1) (putF "_states" (.ref l0) []))))) l3 (.lst xs3)) p (.ins C dx (putF "_marks" (.ref l3) (putF "_downs" (.ref l2) (putF "_ups" (.ref l1) (putF "_states" (.ref l0) [])))))) l4 (.lst xs4)) p (.ins C dx (putF "_wishes" (.ref l4) (putF "_marks" (.ref l3) (putF "_downs" (.ref l2) (putF "_ups" (.ref l1) (putF "_states" (.ref l0) []))))))) l5 (.lst xs5)) p (.ins C dx (putF "_answers" (.ref l5) (putF "_wishes" (.ref l4) (putF "_marks" (.ref l3) (putF "_downs" (.ref l2) (putF "_ups" (.ref l1) (putF "_states" (.ref l0) [])))))))) p = some (.ins C dx (putF "_answers" (.ref l5) (putF "_wishes" (.ref l4) (putF "_marks" (.ref l3) (putF "_downs" (.ref l2) (putF "_ups" (.ref l1) (putF "_states" (.ref l0) []))))))) := upd_same
  have x5 : (upd (upd (upd (upd (upd (upd (upd (upd (upd (upd (upd (upd A0 l0 (.lst xs0)) p (.ins C dx (putF "_states" (.ref l0) []))) l1 (.lst xs1)) p (.ins C dx (putF "_ups" (.ref l1) (putF "_states" (.ref l0) [])))) l2 (.lst xs2)) p (.ins C dx (putF "_downs" (.ref l2) (putF "_ups" (.ref l1) (putF "_states" (.ref l0) []))))) l3 (.lst xs3)) p (.ins C dx (putF "_marks" (.ref l3) (putF "_downs" (.ref l2) (putF "_ups" (.ref l1) (putF "_states" (.ref l0) [])))))) l4 (.lst xs4)) p (.ins C dx (putF "_wishes" (.ref l4) (putF "_marks" (.ref l3) (putF "_downs" (.ref l2) (putF "_ups" (.ref l1) (putF "_states" (.ref l0) []))))))) l5 (.lst xs5)) p (.ins C dx (putF "_answers" (.ref l5) (putF "_wishes" (.ref l4) (putF "_marks" (.ref l3) (putF "_downs" (.ref l2) (putF "_ups" (.ref l1) (putF "_states" (.ref l0) [])))))))) l5 = some (.lst xs5) := (upd_ne np5.symm).trans upd_same
  -- _tasks
  refine ⟨_, rfl, hs .ts, xs6, b.ts, gp6, rfl, z6 _ _ e6, d6.same z6, Nat.le_trans (ok.fact .ts).2.1 (by decide), fun t ht => ?_, fun A6 l6 ys6 gq6 v6 c6 d6' r6 => ?_⟩
  · obtain ⟨nm, _, h⟩ := (ok.fact .ts).2.2.1 t ht
    exact ⟨b.N, nm, h⟩
  have np6 : p ≠ l6 := ne_of_none y6 (r6.2 _ List.mem_cons_self)
  have w6 := v6 _ _ y6
  refine ⟨_, rfl, p, C, dx, _, rfl, w6, B.c, B.no .ts, by have := g6; omega, ?_⟩
  have g7 : (putF "_tasks" (.ref l6) (putF "_answers" (.ref l5) (putF "_wishes" (.ref l4) (putF "_marks" (.ref l3) (putF "_downs" (.ref l2) (putF "_ups" (.ref l1) (putF "_states" (.ref l0) []))))))).length ≤ 7 := Nat.le_trans putF_len (by omega)
  have u6 := Sp1.of (p := p) (o := .ins C dx (putF "_tasks" (.ref l6) (putF "_answers" (.ref l5) (putF "_wishes" (.ref l4) (putF "_marks" (.ref l3) (putF "_downs" (.ref l2) (putF "_ups" (.ref l1) (putF "_states" (.ref l0) [])))))))) v6
  have z7 := Sp1.same z6 hp0 u6
  have y7 : (upd A6 p (.ins C dx (putF "_tasks" (.ref l6) (putF "_answers" (.ref l5) (putF "_wishes" (.ref l4) (putF "_marks" (.ref l3) (putF "_downs" (.ref l2) (putF "_ups" (.ref l1) (putF "_states" (.ref l0) []))))))))) p = some (.ins C dx (putF "_tasks" (.ref l6) (putF "_answers" (.ref l5) (putF "_wishes" (.ref l4) (putF "_marks" (.ref l3) (putF "_downs" (.ref l2) (putF "_ups" (.ref l1) (putF "_states" (.ref l0) [])))))))) := upd_same
  have x6 : (upd A6 p (.ins C dx (putF "_tasks" (.ref l6) (putF "_answers" (.ref l5) (putF "_wishes" (.ref l4) (putF "_marks" (.ref l3) (putF "_downs" (.ref l2) (putF "_ups" (.ref l1) (putF "_states" (.ref l0) []))))))))) l6 = some (.lst ys6) := (upd_ne np6.symm).trans c6
  -- _idles
  refine ⟨_, rfl, hs .is, xs7, rfl, .inl (.of (z7 _ _ e7)), fun l7 n7 => ?_⟩
  have np7 : p ≠ l7 := ne_of_none y7 n7
  have v7 := same_upd (o := .lst xs7) n7
  have f7 := Same.free' z7 n7
  have w7 := v7 _ _ y7
  refine ⟨_, rfl, p, C, dx, _, rfl, w7, B.c, B.no .is, by have := g7; omega, ?_⟩
  have g8 : (putF "_idles" (.ref l7) (putF "_tasks" (.ref l6) (putF "_answers" (.ref l5) (putF "_wishes" (.ref l4) (putF "_marks" (.ref l3) (putF "_downs" (.ref l2) (putF "_ups" (.ref l1) (putF "_states" (.ref l0) [])))))))).length ≤ 8 := Nat.le_trans putF_len (by omega)
  have u7 := Sp1.of (p := p) (o := .ins C dx (putF "_idles" (.ref l7) (putF "_tasks" (.ref l6) (putF "_answers" (.ref l5) (putF "_wishes" (.ref l4) (putF "_marks" (.ref l3) (putF "_downs" (.ref l2) (putF "_ups" (.ref l1) (putF "_states" (.ref l0) []))))))))) v7
  have z8 := Sp1.same z7 hp0 u7
  have y8 : (upd (upd (upd A6 p (.ins C dx (putF "_tasks" (.ref l6) (putF "_answers" (.ref l5) (putF "_wishes" (.ref l4) (putF "_marks" (.ref l3) (putF "_downs" (.ref l2) (putF "_ups" (.ref l1) (putF "_states" (.ref l0) []))))))))) l7 (.lst xs7)) p (.ins C dx (putF "_idles" (.ref l7) (putF "_tasks" (.ref l6) (putF "_answers" (.ref l5) (putF "_wishes" (.ref l4) (putF "_marks" (.ref l3) (putF "_downs" (.ref l2) (putF "_ups" (.ref l1) (putF "_states" (.ref l0) [])))))))))) p = some (.ins C dx (putF "_idles" (.ref l7) (putF "_tasks" (.ref l6) (putF "_answers" (.ref l5) (putF "_wishes" (.ref l4) (putF "_marks" (.ref l3) (putF "_downs" (.ref l2) (putF "_ups" (.ref l1) (putF "_states" (.ref l0) []))))))))) := upd_same
  have x7 : (upd (upd (upd A6 p (.ins C dx (putF "_tasks" (.ref l6) (putF "_answers" (.ref l5) (putF "_wishes" (.ref l4) (putF "_marks" (.ref l3) (putF "_downs" (.ref l2) (putF "_ups" (.ref l1) (putF "_states" (.ref l0) []))))))))) l7 (.lst xs7)) p (.ins C dx (putF "_idles" (.ref l7) (putF "_tasks" (.ref l6) (putF "_answers" (.ref l5) (putF "_wishes" (.ref l4) (putF "_marks" (.ref l3) (putF "_downs" (.ref l2) (putF "_ups" (.ref l1) (putF "_states" (.ref l0) [])))))))))) l7 = some (.lst xs7) := (upd_ne np7.symm).trans upd_same
  -- _busies
  refine ⟨_, rfl, hs .bs, xs8, rfl, .inl (.of (z8 _ _ e8)), fun l8 n8 => ?_⟩
  have np8 : p ≠ l8 := ne_of_none y8 n8
  have v8 := same_upd (o := .lst xs8) n8
  have f8 := Same.free' z8 n8
  have w8 := v8 _ _ y8
  refine ⟨_, rfl, p, C, dx, _, rfl, w8, B.c, B.no .bs, by have := g8; omega, ?_⟩
  have g9 : (putF "_busies" (.ref l8) (putF "_idles" (.ref l7) (putF "_tasks" (.ref l6) (putF "_answers" (.ref l5) (putF "_wishes" (.ref l4) (putF "_marks" (.ref l3) (putF "_downs" (.ref l2) (putF "_ups" (.ref l1) (putF "_states" (.ref l0) []))))))))).length ≤ 9 := Nat.le_trans putF_len (by omega)
  have u8 := Sp1.of (p := p) (o := .ins C dx (putF "_busies" (.ref l8) (putF "_idles" (.ref l7) (putF "_tasks" (.ref l6) (putF "_answers" (.ref l5) (putF "_wishes" (.ref l4) (putF "_marks" (.ref l3) (putF "_downs" (.ref l2) (putF "_ups" (.ref l1) (putF "_states" (.ref l0) [])))))))))) v8
  have z9 := Sp1.same z8 hp0 u8
  have y9 : (upd (upd (upd (upd (upd A6 p (.ins C dx (putF "_tasks" (.ref l6) (putF "_answers" (.ref l5) (putF "_wishes" (.ref l4) (putF "_marks" (.ref l3) (putF "_downs" (.ref l2) (putF "_ups" (.ref l1) (putF "_states" (.ref l0) []))))))))) l7 (.lst xs7)) p (.ins C dx (putF "_idles" (.ref l7) (putF "_tasks" (.ref l6) (putF "_answers" (.ref l5) (putF "_wishes" (.ref l4) (putF "_marks" (.ref l3) (putF "_downs" (.ref l2) (putF "_ups" (.ref l1) (putF "_states" (.ref l0) [])))))))))) l8 (.lst xs8)) p (.ins C dx (putF "_busies" (.ref l8) (putF "_idles" (.ref l7) (putF "_tasks" (.ref l6) (putF "_answers" (.ref l5) (putF "_wishes" (.ref l4) (putF "_marks" (.ref l3) (putF "_downs" (.ref l2) (putF "_ups" (.ref l1) (putF "_states" (.ref l0) []))))))))))) p = some (.ins C dx (putF "_busies" (.ref l8) (putF "_idles" (.ref l7) (putF "_tasks" (.ref l6) (putF "_answers" (.ref l5) (putF "_wishes" (.ref l4) (putF "_marks" (.ref l3) (putF "_downs" (.ref l2) (putF "_ups" (.ref l1) (putF "_states" (.ref l0) [])))))))))) := upd_same
  have x8 : (upd (upd (upd (upd (upd A6 p (.ins C dx (putF "_tasks" (.ref l6) (putF "_answers" (.ref l5) (putF "_wishes" (.ref l4) (putF "_marks" (.ref l3) (putF "_downs" (.ref l2) (putF "_ups" (.ref l1) (putF "_states" (.ref l0) []))))))))) l7 (.lst xs7)) p (.ins C dx (putF "_idles" (.ref l7) (putF "_tasks" (.ref l6) (putF "_answers" (.ref l5) (putF "_wishes" (.ref l4) (putF "_marks" (.ref l3) (putF "_downs" (.ref l2) (putF "_ups" (.ref l1) (putF "_states" (.ref l0) [])))))))))) l8 (.lst xs8)) p (.ins C dx (putF "_busies" (.ref l8) (putF "_idles" (.ref l7) (putF "_tasks" (.ref l6) (putF "_answers" (.ref l5) (putF "_wishes" (.ref l4) (putF "_marks" (.ref l3) (putF "_downs" (.ref l2) (putF "_ups" (.ref l1) (putF "_states" (.ref l0) []))))))))))) l8 = some (.lst xs8) := (upd_ne np8.symm).trans upd_same
  have lk := look9 (lsOf l0 l1 l2 l3 l4 l5 l6 l7 l8)
  refine ⟨_, rfl, p, C, dx, _, _, rfl, y9, B.c, B.no .ss, lk .ss, _, rfl, p, C, dx, _, _, rfl, y9, B.c, B.no .us, lk .us, _, rfl, p, C, dx, _, _, rfl, y9, B.c, B.no .ks, lk .ks, _, rfl, p, C, dx, _, _, rfl, y9, B.c, B.no .ms, lk .ms, _, rfl, p, C, dx, _, _, rfl, y9, B.c, B.no .ws, lk .ws, _, rfl, p, C, dx, _, _, rfl, y9, B.c, B.no .as, lk .as, _, rfl, p, C, dx, _, _, rfl, y9, B.c, B.no .ts, lk .ts, _, rfl, p, C, dx, _, _, rfl, y9, B.c, B.no .is, lk .is, _, rfl, p, C, dx, _, _, rfl, y9, B.c, B.no .bs, lk .bs, sz 9, fun tp htp => ?_⟩
  have v9 := same_upd (o := .tup [.ref l0, .ref l1, .ref l2, .ref l3, .ref l4, .ref l5, .ref l6, .ref l7, .ref l8]) htp
  have w9 := v9 _ _ y9
  refine ⟨_, rfl, p, C, dx, _, rfl, w9, B.c, B.noP, by have := g9; omega, ?_⟩
  have uT := Sp1.of (p := p) (o := .ins C dx (bookF (lsOf l0 l1 l2 l3 l4 l5 l6 l7 l8) tp)) v9
  have zT := Sp1.same z9 hp0 uT
  have t8 := uT
  have X8 := t8 _ _ np8.symm x8
  have t7 := u8.trans t8
  have X7 := t7 _ _ np7.symm x7
  have t6 := u7.trans t7
  have X6 := t6 _ _ np6.symm x6
  have t5 := u6.trans t6
  have X5 := t5 _ _ np5.symm x5
  have t4 := u5.trans t5
  have X4 := t4 _ _ np4.symm x4
  have t3 := u4.trans t4
  have X3 := t3 _ _ np3.symm x3
  have t2 := u3.trans t3
  have X2 := t2 _ _ np2.symm x2
  have t1 := u2.trans t2
  have X1 := t1 _ _ np1.symm x1
  have t0 := u1.trans t1
  have X0 := t0 _ _ np0.symm x0
  have t66 := (Sp1.of (p := p) (o := .ins C dx (putF "_tasks" (.ref l6) (putF "_answers" (.ref l5) (putF "_wishes" (.ref l4) (putF "_marks" (.ref l3) (putF "_downs" (.ref l2) (putF "_ups" (.ref l1) (putF "_states" (.ref l0) [])))))))) (Same.refl A6)).trans t6
  have D6 := d6'.sp1 t66 w6
  have eg0 := ok.flat (k := .ss) (by intro z; cases z) d0
  subst eg0
  have eg1 := ok.flat (k := .us) (by intro z; cases z) d1
  subst eg1
  have eg2 := ok.flat (k := .ks) (by intro z; cases z) d2
  subst eg2
  have eg3 := ok.flat (k := .ms) (by intro z; cases z) d3
  subst eg3
  have eg4 := ok.flat (k := .ws) (by intro z; cases z) d4
  subst eg4
  have eg5 := ok.flat (k := .as) (by intro z; cases z) d5
  subst eg5
  have eg7 := ok.flat (k := .is) (by intro z; cases z) d7
  subst eg7
  have eg8 := ok.flat (k := .bs) (by intro z; cases z) d8
  subst eg8
  have L6 : Live _ gq6 := DfL.live _ _ _ D6
  have mem : ∀ {a : Addr}, a ∈ [l0, l1, l2, l3, l4, l5] ++ (l6 :: gq6) ++ [l7, l8] → a = l0 ∨ a = l1 ∨ a = l2 ∨ a = l3 ∨ a = l4 ∨ a = l5 ∨ a = l6 ∨ a ∈ gq6 ∨ a = l7 ∨ a = l8 := fun {a} ha => by
    simpa using ha
  refine q _ ([l0, l1, l2, l3, l4, l5] ++ (l6 :: gq6) ++ [l7, l8]) zT ⟨fun a ha => ?_, dx, tp, lsOf l0 l1 l2 l3 l4 l5 l6 l7 l8, upd_same, (upd_ne (ne_of_none y9 htp).symm).trans upd_same, fun k => ?_⟩ (fun a ha => ?_)
  · rcases mem ha with e | e | e | e | e | e | e | e | e | e
    · rw [e]; exact ⟨_, X0⟩
    · rw [e]; exact ⟨_, X1⟩
    · rw [e]; exact ⟨_, X2⟩
    · rw [e]; exact ⟨_, X3⟩
    · rw [e]; exact ⟨_, X4⟩
    · rw [e]; exact ⟨_, X5⟩
    · rw [e]; exact ⟨_, X6⟩
    · exact L6 a e
    · rw [e]; exact ⟨_, X7⟩
    · rw [e]; exact ⟨_, X8⟩
  · cases k
    case ss => exact ⟨xs0, [], X0, d0.same zT, fun a ha => by
      rw [List.mem_singleton.mp ha]
      simp [lsOf]⟩
    case us => exact ⟨xs1, [], X1, d1.same zT, fun a ha => by
      rw [List.mem_singleton.mp ha]
      simp [lsOf]⟩
    case ks => exact ⟨xs2, [], X2, d2.same zT, fun a ha => by
      rw [List.mem_singleton.mp ha]
      simp [lsOf]⟩
    case ms => exact ⟨xs3, [], X3, d3.same zT, fun a ha => by
      rw [List.mem_singleton.mp ha]
      simp [lsOf]⟩
    case ws => exact ⟨xs4, [], X4, d4.same zT, fun a ha => by
      rw [List.mem_singleton.mp ha]
      simp [lsOf]⟩
    case as => exact ⟨xs5, [], X5, d5.same zT, fun a ha => by
      rw [List.mem_singleton.mp ha]
      simp [lsOf]⟩
    case ts => exact ⟨ys6, gq6, X6, D6, fun a ha => by
      rcases List.mem_cons.mp ha with h | h
      · rw [h]
        simp [lsOf]
      · simp [h]⟩
    case is => exact ⟨xs7, [], X7, d7.same zT, fun a ha => by
      rw [List.mem_singleton.mp ha]
      simp [lsOf]⟩
    case bs => exact ⟨xs8, [], X8, d8.same zT, fun a ha => by
      rw [List.mem_singleton.mp ha]
      simp [lsOf]⟩
  · rcases mem ha with e | e | e | e | e | e | e | e | e | e
    · rw [e]; exact f0
    · rw [e]; exact f1
    · rw [e]; exact f2
    · rw [e]; exact f3
    · rw [e]; exact f4
    · rw [e]; exact f5
    · rw [e]; exact Same.free' z6 (r6.2 _ List.mem_cons_self)
    · exact Same.free' z6 (r6.2 _ (List.mem_cons_of_mem _ e))
    · rw [e]; exact f7
    · rw [e]; exact f8
end
end My

namespace My
open PySem L2 PyProof.Rows PySem.SeqAt
open AutoSeq1 (wpAny_loadPart')
open MeetsSeq
/-! ### == of an instance with its own def for it and a value of another kind, either way -/
theorem int_dec_bool (b : Bool) (x : Addr) (c dx : Addr) : Meets (Builtin.«int.__eq__» ⟨[.bool b, .ref x], []⟩) (fun _ R s => s.heap.get? x = some (PySem.W.instObj c dx) ∧ R (.ok (.ret .notImplemented)) s) :=
  .of_wp fun prog w A R s h => by obtain ⟨hp, g, d, tk, os⟩ := s; obtain ⟨hl, h⟩ := h; unfold PySem.W.instObj at hl; wp_walk using wpAny_loadPart' hl, wpAny_load hl; exact ⟨_, rfl, h⟩
theorem int_dec_int (b : Int) (u : Tok) (x : Addr) (c dx : Addr) : Meets (Builtin.«int.__eq__» ⟨[.int b u, .ref x], []⟩) (fun _ R s => s.heap.get? x = some (PySem.W.instObj c dx) ∧ R (.ok (.ret .notImplemented)) s) :=
  .of_wp fun prog w A R s h => by obtain ⟨hp, g, d, tk, os⟩ := s; obtain ⟨hl, h⟩ := h; unfold PySem.W.instObj at hl; wp_walk using wpAny_loadPart' hl, wpAny_load hl; exact ⟨_, rfl, h⟩
theorem str_dec (b : Str) (u : Tok) (x : Addr) (c dx : Addr) : Meets (Builtin.«str.__eq__» ⟨[.str b u, .ref x], []⟩) (fun _ R s => s.heap.get? x = some (PySem.W.instObj c dx) ∧ R (.ok (.ret .notImplemented)) s) :=
  .of_wp fun prog w A R s h => by obtain ⟨hp, g, d, tk, os⟩ := s; obtain ⟨hl, h⟩ := h; unfold PySem.W.instObj at hl; wp_walk using wpAny_loadPart' hl, wpAny_load hl; exact ⟨_, rfl, h⟩
section
variable {prog : Program} {w : World} {A : Around} {E : Value → Shared → Prop} {s : Shared} {K : PySem.W.Frag} {x C f : Addr} {ox : Obj} {od : Option Obj}
theorem isInst_own {v base : Value} {T r : _} (ht : PySem.W.Looks (model prog w) s.heap (typeOf v) T) (hs : PySem.W.Looks (model prog w) s.heap (isSubtype T base) r) : PySem.W.Looks (model prog w) s.heap (isInstance v base) r := ht.andThen hs
theorem list_dec {l : Addr} {items : Array Value} {n : Nat} {dd : Option Addr} {sl : Array (Option Value)} {R : Result → Shared → Prop} (hl : s.heap.get? l = some { cls := .type "list", dict := dd, data := .seq items n, slots := sl })
    (hi : PySem.W.Looks (model prog w) s.heap (isInstance (.ref x) (.type "list")) false) (h : R (.ok (.ret .notImplemented)) s) :
    wpAny (model prog w) A.in1 (Builtin.«list.__eq__» ⟨[.ref l, .ref x], []⟩) (GQ.FinOf prog w A R) (fun e s' => R (.error e) s') s := by
  obtain ⟨hp, g, d, tk, os⟩ := s
  wp_walk using hi.here
  exact h
theorem tup_dec {l : Addr} {items : Array Value} {n : Nat} {dd : Option Addr} {sl : Array (Option Value)} {R : Result → Shared → Prop} (hl : s.heap.get? l = some { cls := .type "tuple", dict := dd, data := .seq items n, slots := sl })
    (hi : PySem.W.Looks (model prog w) s.heap (isInstance (.ref x) (.type "tuple")) false) (h : R (.ok (.ret .notImplemented)) s) :
    wpAny (model prog w) A.in1 (Builtin.«tuple.__eq__» ⟨[.ref l, .ref x], []⟩) (GQ.FinOf prog w A R) (fun e s' => R (.error e) s') s := by
  obtain ⟨hp, g, d, tk, os⟩ := s
  wp_walk using hi.here
  exact h
theorem rc_refl {b : Value} {T id : String} {Q : Value → Shared → Prop} (hu : A.units < cLine) (X : K.In s.heap) (I : PySem.W.InstAt s.heap x ox C od) (ht : s.TypeIs b T) (hm : PySem.W.mroIn K C (.type T) = some false)
    (hs : PySem.W.findIn K (.ref C) "__eq__" = some (some (.ref f))) (hf : PySem.W.isFn K (.ref f) = true) (sl : Slot T "__eq__" id)
    (hd : ∀ Q' : Value → Shared → Prop, Q' .notImplemented s → wpAny (model prog w) A (call (.builtin id) [b, .ref x]) Q' E s)
    (h : wpAny (model prog w) A (call (.ref f) [.ref x, b]) (PySem.W.CmpBack Q) E s) : wpAny (model prog w) A (richCompare .Eq b (.ref x)) Q E s := by
  have two : wpAny (model prog w) A (tryCompare (.ref x) "__eq__" b) (fun r s' => ∃ v, r = some v ∧ Q v s') E s := by
    unfold tryCompare
    refine wpAny_bind (PySem.W.ifBound_K X I hs hf (wpAny_mono h (fun v s' hv => ?_) fun _ _ e => e))
    cases v <;> first | exact hv.elim | exact wpAny_pure ⟨_, rfl, hv⟩
  simp only [richCompare, cmpInfo_Eq, ht.oneThing_none]
  refine wpAny_holding (wpAny_bind (wpAny_cRoomFor hu ?_))
  refine wpAny_bind (wpAny_typeOf ht ?_)
  refine wpAny_bind (I.type.here ?_)
  split
  · refine wpAny_bind ((PySem.W.looks_mroIn X hm).here ?_)
    simp only [Bool.false_eq_true, if_false, Bool.not_false, if_true]
    refine wpAny_bind (m := tryCompare b _ (.ref x)) (wpAny_tryCompare_declines ht sl (hd _ ⟨rfl, ?_⟩))
    refine wpAny_bind (m := tryCompare (.ref x) _ b) (wpAny_mono two (fun r s' z => ?_) fun _ _ e => e)
    obtain ⟨v, rfl, hq⟩ := z
    exact wpAny_pure hq
  · rename_i q
    exact absurd (by simp) q
end
/-- a value of a built-in kind, and the name of the kind -/
inductive Oth (H : Hp) : V → String → Prop where
  | non : Oth H .non "NoneType"
  | bl (b : Bool) : Oth H (.bl b) "bool"
  | int (i : Int) : Oth H (.int i) "int"
  | str (t : Str) : Oth H (.str t) "str"
  | lst {a : Addr} {xs : List V} (e : H a = some (.lst xs)) : Oth H (.ref a) "list"
  | tup {a : Addr} {xs : List V} (e : H a = some (.tup xs)) : Oth H (.ref a) "tuple"
structure NoT (K : PySem.W.Frag) (C : Addr) : Prop where
  n0 : PySem.W.mroIn K C (.type "NoneType") = some false
  n1 : PySem.W.mroIn K C (.type "bool") = some false
  n2 : PySem.W.mroIn K C (.type "int") = some false
  n3 : PySem.W.mroIn K C (.type "str") = some false
  n4 : PySem.W.mroIn K C (.type "list") = some false
  n5 : PySem.W.mroIn K C (.type "tuple") = some false
theorem Oth.mro {K : PySem.W.Frag} {C : Addr} {H : Hp} {x : V} {t : String} (o : Oth H x t) (n : NoT K C) : PySem.W.mroIn K C (.type t) = some false := by
  cases o with
  | non => exact n.n0
  | bl => exact n.n1
  | int => exact n.n2
  | str => exact n.n3
  | lst => exact n.n4
  | tup => exact n.n5
theorem Oth.first {K : PySem.W.Frag} {C : Addr} {H : Hp} {x : V} {t : String} (o : Oth H x t) : PySem.W.subIn K (.type t) (.ref C) = some false := by
  have key : ∀ {t : String} {l : List Value}, fastBuiltinMro t = some l → l.contains (.ref C) = false → PySem.W.subIn K (.type t) (.ref C) = some false := fun {t l} e h => by
    show (fastBuiltinMro t).map (·.contains (.ref C)) = some false
    rw [e]
    show some (l.contains (.ref C)) = some false
    rw [h]
  cases o with
  | non => exact key (l := [.type "NoneType", .type "object"]) (by decide +kernel) (by simp)
  | bl => exact key (l := [.type "bool", .type "int", .type "object"]) (by decide +kernel) (by simp)
  | int => exact key (l := [.type "int", .type "object"]) (by decide +kernel) (by simp)
  | str => exact key (l := [.type "str", .type "object"]) (by decide +kernel) (by simp)
  | lst => exact key (l := [.type "list", .type "object"]) (by decide +kernel) (by simp)
  | tup => exact key (l := [.type "tuple", .type "object"]) (by decide +kernel) (by simp)
theorem Oth.notFirst {K : PySem.W.Frag} {C : Addr} {H : Hp} {x : V} {t : String} (o : Oth H x t) : PySem.W.notFirst K C (.type t) = true := by
  unfold PySem.W.notFirst
  rw [o.first]
  simp
theorem looks_type {M : Model} {s : Shared} {v : Value} {T : String} (h : s.TypeIs v T) : PySem.W.Looks M s.heap (typeOf v) (.type T) := by
  cases v with
  | ref a =>
    obtain ⟨o, ho, hc⟩ := h
    exact hc ▸ (PySem.W.Looks.ld ho).andThen .now
  | _ => exact PySem.W.Looks.of_pure h
section
variable {X : Cx} {pins : List (Addr × Obj)} {σ : L2.St} {H : Hp} {s : Shared}
theorem Oth.type {x : V} {t : String} {u : Value} (o : Oth H x t) (I : Inv X pins σ H s) (r : RelV x u) : s.TypeIs u t := by
  cases o with
  | non => cases (show u = Value.none from r); rfl
  | bl b => cases (show u = Value.bool b from r); rfl
  | int i => obtain ⟨t, q⟩ := (show ∃ t, u = Value.int i t from r); cases q; exact typeIs_int s i t
  | str i => obtain ⟨t, q⟩ := (show ∃ t, u = Value.str i t from r); cases q; exact typeIs_str s i t
  | @lst a xs ea =>
    cases (show u = Value.ref a from r)
    obtain ⟨_, _, n, _, h1⟩ := (show ObjOk X.prog X.w H s.heap a (.lst xs) from I.hok a _ ea)
    exact ⟨_, h1, rfl⟩
  | @tup a xs ea =>
    cases (show u = Value.ref a from r)
    obtain ⟨_, _, _, o, h1, h2, _⟩ := (show ObjOk X.prog X.w H s.heap a (.tup xs) from I.hok a _ ea)
    exact ⟨_, h1, h2⟩
theorem Oth.declines {x : V} {t : String} {u : Value} {a C dx : Addr} {od : Option Obj} (o : Oth H x t) (n : NoT X.K C) (I : Inv X pins σ H s) (r : RelV x u) (J : PySem.W.InstAt s.heap a (PySem.W.instObj C dx) C od) :
    ∃ id, Slot t "__eq__" id ∧ ∀ (A : Around) (E : Value → Shared → Prop) (Q' : Value → Shared → Prop), Q' .notImplemented s → wpAny (model X.prog X.w) A (call (.builtin id) [u, .ref a]) Q' E s := by
  have ho := J.at_
  cases o with
  | non =>
    cases (show u = Value.none from r)
    exact ⟨_, F.slot_NoneType_eq, fun A E Q' hq => call_gives F.slot_NoneType_eq rfl F.entry_NoneType_eq (F.args_NoneType_eq_2 _ _) (NoneType___eq___none_ref_0 a) hq⟩
  | bl b =>
    cases (show u = Value.bool b from r)
    exact ⟨_, F.slot_bool_eq, fun A E Q' hq => call_meets F.slot_bool_eq rfl F.entry_int_eq (F.args_int_eq_2 _ _) (int_dec_bool b a C dx) ⟨ho, hq⟩⟩
  | int i =>
    obtain ⟨t, q⟩ := (show ∃ t, u = Value.int i t from r)
    cases q
    exact ⟨_, F.slot_int_eq, fun A E Q' hq => call_meets F.slot_int_eq (typeIs_int s i t) F.entry_int_eq (F.args_int_eq_2 _ _) (int_dec_int i t a C dx) ⟨ho, hq⟩⟩
  | str i =>
    obtain ⟨t, q⟩ := (show ∃ t, u = Value.str i t from r)
    cases q
    exact ⟨_, F.slot_str_eq, fun A E Q' hq => call_meets F.slot_str_eq (typeIs_str s i t) F.entry_str_eq (F.args_str_eq_2 _ _) (str_dec i t a C dx) ⟨ho, hq⟩⟩
  | @lst l xs ea =>
    cases (show u = Value.ref l from r)
    obtain ⟨_, its, n', _, h1⟩ := (show ObjOk X.prog X.w H s.heap l (.lst xs) from I.hok l _ ea)
    refine ⟨_, F.slot_list_eq, fun A E Q' hq => GQ.call_here F.slot_list_eq ⟨_, h1, rfl⟩ F.entry_list_eq (F.args_list_eq_2 _ _) ?_⟩
    exact list_dec (R := wants Q' E) h1 (isInst_own J.type (PySem.W.looks_mroIn I.kIn n.n4)) hq
  | @tup l xs ea =>
    cases (show u = Value.ref l from r)
    obtain ⟨_, its, _, o, h1, h2, n', h3⟩ := (show ObjOk X.prog X.w H s.heap l (.tup xs) from I.hok l _ ea)
    obtain ⟨cls, dd, data, sl⟩ := o
    simp only at h2 h3
    subst h2 h3
    refine ⟨_, F.slot_tuple_eq, fun A E Q' hq => GQ.call_here F.slot_tuple_eq ⟨_, h1, rfl⟩ F.entry_tuple_eq (F.args_tuple_eq_2 _ _) ?_⟩
    exact tup_dec (R := wants Q' E) h1 (isInst_own J.type (PySem.W.looks_mroIn I.kIn n.n5)) hq
end
/-- x == y, x an instance of the class at C, y of another kind -/
def rEqO (C : Addr) (sp : Sp) : R2 := fun x y H Q => ∃ a dx fs t, x = .ref a ∧ H a = some (.ins C dx fs) ∧ Oth H y t ∧ sp [.ref a, y] H (fun v H' => ∃ r, v = .bl r ∧ Q v H') (fun _ _ _ => False)
/-- x == y, y an instance of the class at C, x of another kind -/
def rEqR (C : Addr) (sp : Sp) : R2 := fun x y H Q => ∃ a dx fs t, y = .ref a ∧ H a = some (.ins C dx fs) ∧ Oth H x t ∧ sp [.ref a, x] H (fun v H' => ∃ r, v = .bl r ∧ Q v H') (fun _ _ _ => False)
section
variable {X : Cx} {n : Nat} {C f : Addr} {fd : FuncData} {ps : List Str} {sp : Sp}
theorem op_eqO (F : FnOk X.prog X.w X.K X.mg X.base CX0 n f fd ps sp) (hs : PySem.W.findIn X.K (.ref C) "__eq__" = some (some (.ref f))) (hf : PySem.W.isFn X.K (.ref f) = true) (hb : Binds X.K fd ps []) (hr : Room n X.A) :
    OpR X (compareOp .Eq) (rEqO C sp) := by
  intro pins s σ H x y u v Q I rx ry d
  obtain ⟨a, dx, fs, t, rfl, ha, ho, hsp⟩ := d
  cases rx
  show wpAny (model X.prog X.w) X.A (richCompare .Eq (.ref a) v) (EP X pins σ Q) X.xe s
  obtain ⟨mA, J, _⟩ := ins_get I.hok ha
  obtain ⟨od, J, _⟩ := J.look
  obtain ⟨m, hF⟩ := I.fr
  refine PySem.W.cmp_K (op := .Eq) (tb := .type t) hr.units0 hF I.ok.mod.kin J (looks_type (ho.type I ry)) ho.notFirst hs hf ?_
  have hl := F.len _ _ _ _ hsp
  have r2 : Vals [V.ref a, y] [Value.ref a, v] := .cons rfl (.cons ry .nil)
  refine wpAny_call (codeAny_mono (F.run X.A X.stack s H ⟨[.ref a, v], []⟩ [.ref a, v] [.ref a, y] _ _ hr I.env0 (by
    have := hb s [.ref a, v] I.kIn (by simpa using hl)
    simpa using this) r2 hsp) fun r s' hq => ?_)
  cases r with
  | error e => exact (pass0 : Passes CX0 X fun _ _ _ => False) pins σ H s e s' I hq
  | ok fl =>
    cases fl with
    | ret w =>
      obtain ⟨z, H', I', rz, r, ez, q⟩ := I.after hq
      subst ez
      cases rz
      exact ⟨.bl r, H', I', rfl, q⟩
    | next => exact False.elim hq
    | brk => exact False.elim hq
    | cont => exact False.elim hq
theorem op_eqRf (F : FnOk X.prog X.w X.K X.mg X.base CX0 n f fd ps sp) (hs : PySem.W.findIn X.K (.ref C) "__eq__" = some (some (.ref f))) (hf : PySem.W.isFn X.K (.ref f) = true) (hb : Binds X.K fd ps []) (hr : Room n X.A) (nt : NoT X.K C) :
    OpR X (compareOp .Eq) (rEqR C sp) := by
  intro pins s σ H x y u v Q I rx ry d
  obtain ⟨a, dx, fs, t, rfl, ha, ho, hsp⟩ := d
  cases ry
  show wpAny (model X.prog X.w) X.A (richCompare .Eq u (.ref a)) (EP X pins σ Q) X.xe s
  obtain ⟨mA, J, _⟩ := ins_get I.hok ha
  obtain ⟨od, J, _⟩ := J.look
  obtain ⟨id, sl, hd⟩ := ho.declines nt I rx J
  refine rc_refl hr.units0 I.kIn J (ho.type I rx) (ho.mro nt) hs hf sl (hd _ _) ?_
  have hl := F.len _ _ _ _ hsp
  have r2 : Vals [V.ref a, x] [Value.ref a, u] := .cons rfl (.cons rx .nil)
  refine wpAny_call (codeAny_mono (F.run X.A X.stack s H ⟨[.ref a, u], []⟩ [.ref a, u] [.ref a, x] _ _ hr I.env0 (by
    have := hb s [.ref a, u] I.kIn (by simpa using hl)
    simpa using this) r2 hsp) fun r s' hq => ?_)
  cases r with
  | error e => exact (pass0 : Passes CX0 X fun _ _ _ => False) pins σ H s e s' I hq
  | ok fl =>
    cases fl with
    | ret w =>
      obtain ⟨z, H', I', rz, r, ez, q⟩ := I.after hq
      subst ez
      cases rz
      exact ⟨.bl r, H', I', rfl, q⟩
    | next => exact False.elim hq
    | brk => exact False.elim hq
    | cont => exact False.elim hq
end
end My

namespace My
open PySem L2 PyProof.Rows PySem.SeqAt
open AutoSeq1 (wpAny_loadPart')
open MeetsSeq MeetsSeq2 MeetsSeq3 SeqRoads2
/-! ### any value in a list or tuple of texts -/
theorem str_dec_dict (b : Str) (u : Tok) (l : Addr) (o : Obj) (es : Array DictEntry) (ep : Nat) (hc : o.cls = .type "dict") (hd : o.data = .dict es ep) : Meets (Builtin.«str.__eq__» ⟨[.str b u, .ref l], []⟩) (fun _ R s => s.heap.get? l = some o ∧ R (.ok (.ret .notImplemented)) s) :=
  .of_wp fun prog w A R s h => by
    obtain ⟨cls, dd, data, sl⟩ := o
    simp only at hc hd
    subst hc hd
    obtain ⟨hp, g, d, tk, os⟩ := s; obtain ⟨hl, h⟩ := h; wp_walk using wpAny_loadPart' hl, wpAny_load hl; exact ⟨_, rfl, h⟩
theorem dict_dec_str (b : Str) (u : Tok) (l : Addr) (o : Obj) (es : Array DictEntry) (ep : Nat) (hc : o.cls = .type "dict") (hd : o.data = .dict es ep) : Meets (Builtin.«dict.__eq__» ⟨[.ref l, .str b u], []⟩) (fun _ R s => s.heap.get? l = some o ∧ R (.ok (.ret .notImplemented)) s) :=
  .of_wp fun prog w A R s h => by
    obtain ⟨cls, dd, data, sl⟩ := o
    simp only at hc hd
    subst hc hd
    obtain ⟨hp, g, d, tk, os⟩ := s; obtain ⟨hl, h⟩ := h; have f1 := F.sub_str_dict; wp_walk using wpAny_loadPart' hl, wpAny_load hl; exact ⟨_, rfl, h⟩
theorem eqAt_str_dict {A : Around} {s : Shared} {l : Addr} (b : Str) (u : Tok) {o : Obj} {es : Array DictEntry} {ep : Nat} (ho : s.heap.get? l = some o) (hc : o.cls = .type "dict") (hd : o.data = .dict es ep) (hu : A.units < cLine) : EqAt A s (.str b u) (.ref l) false := fun prog w E Q h => by
  unfold eqBool
  refine wpAny_holding ?_
  refine wpAny_ite_split (fun hab => absurd (eq_of_beq hab) nofun) (fun _ => ?_)
  refine wpAny_bind (rc_eq_decline_or (k := false) (typeIs_str s b u) ⟨_, ho, hc⟩ (by decide) F.sub_dict_str F.slot_str_eq F.slot_dict_eq_refl
    (fun _ hq => call_meets F.slot_str_eq (typeIs_str s b u) F.entry_str_eq (F.args_str_eq_2 _ _) (str_dec_dict b u l o es ep hc hd) ⟨ho, hq⟩)
    (fun _ hq => call_meets F.slot_dict_eq_refl ⟨_, ho, hc⟩ F.entry_dict_eq (F.args_dict_eq_2 _ _) (dict_dec_str b u l o es ep hc hd) ⟨ho, hq⟩)
    (fun _ hq => wpAny_of_eq (rfl : isSame (.str b u) (.ref l) = pure false) hq) (.inr hu) ?_)
  exact wpAny_truthy_bool h
section
variable {prog : Program} {w : World} {A : Around} {R : Result → Shared → Prop}
theorem tup_containsI (l : Addr) (items : Array Value) (n : Nat) (dd : Option Addr) (sl : Array (Option Value)) (x : Value) (I : Shared → Prop) (turn : ∀ y, y ∈ items → ∀ s, I s → wpAny (model prog w) A.in1 (eqBool y x) (fun r s' => r = false ∧ I s') (fun e s' => R (.error e) s') s)
    (fin : ∀ s, I s → R (.ok (.ret (.bool false))) s) {s : Shared} (hl : s.heap.get? l = some { cls := .type "tuple", dict := dd, data := .seq items n, slots := sl }) (h : I s) :
    wpAny (model prog w) A.in1 (Builtin.«tuple.__contains__» ⟨[.ref l, x], []⟩) (GQ.FinOf prog w A R) (fun e s' => R (.error e) s') s := by
  obtain ⟨hp, g, d, tk, os⟩ := s
  wp_walk using wpAny_loadPart' hl, wpAny_forIn_array _ (fun rest b s' => b.1 = none ∧ (∀ y, y ∈ rest → y ∈ items) ∧ I s') _
  case turn =>
    rintro y rest b s' ⟨hb, hmem, hI⟩
    refine wpAny_bind (wpAny_mono (turn y (hmem y (List.mem_cons_self ..)) s' hI) (fun r s2 q => ?_) fun _ _ e => e)
    obtain ⟨rfl, q⟩ := q
    wp_walk
    exact ⟨rfl, fun z hz => hmem z (List.mem_cons_of_mem _ hz), q⟩
  case fin =>
    rintro ⟨b1, b2⟩ s' ⟨hb, -, hI⟩
    simp only at hb
    subst hb
    have := fin s' hI
    wp_walk
    exact this
  case h =>
    exact ⟨rfl, fun y hy => by simpa using hy, h⟩
theorem list_contains_loopI (l : Addr) (N : Nat) (x : Value) (I : Nat → Shared → Prop) (hl : ∀ i s, I i s → ∃ (items : Array Value) (n : Nat), s.heap.get? l = some { cls := .type "list", data := .seq items n } ∧ items.size = N ∧ ∀ h1 : i < items.size, wpAny (model prog w) A.in1 (eqBool items[i] x) (fun r s' => r = false ∧ I (i + 1) s') (fun e s' => R (.error e) s') s)
    (fin : ∀ s, I N s → R (.ok (.ret (.bool false))) s) (k : Nat) : ∀ i : Nat, N - i = k → i ≤ N → ∀ s, I i s → wpAny (model prog w) A.in1 (Builtin.«list.__contains__.loop» ⟨[.ref l, x, rawInt i], []⟩) (GQ.FinOf prog w A R) (fun e s' => R (.error e) s') s := by
  induction k with
  | zero =>
    intro i hk hi s h
    obtain ⟨items, n, hl1, hs1, _⟩ := hl _ _ h
    have hi' : i = N := by omega
    have hR : R (.ok (.ret (.bool false))) s := fin s (hi' ▸ h)
    obtain ⟨hp, g, d, tk, os⟩ := s
    wp_walk using wpAny_loadPart' hl1
    have hi1 : items[((i : Nat) : Int).toNat]? = none := by simp; omega
    rw [hi1]
    wp_walk
    exact hR
  | succ k ih =>
    intro i hk hi s h
    obtain ⟨items, n, hl1, hs1, turn⟩ := hl _ _ h
    have hlt : i < items.size := by omega
    have ht := turn hlt
    obtain ⟨hp, g, d, tk, os⟩ := s
    wp_walk using wpAny_loadPart' hl1
    have hi1 : items[((i : Nat) : Int).toNat]? = some items[i] := by simp [hlt]
    have hc : ((i : Int) + 1) = ((i + 1 : Nat) : Int) := by omega
    rw [hi1]
    refine wpAny_bind (wpAny_mono ht (fun r s2 h2 => ?_) fun _ _ x => x)
    obtain ⟨rfl, h2⟩ := h2
    have hrec := ih (i + 1) (by omega) (by omega) s2 h2
    obtain ⟨hp2, g2, d2, tk2, os2⟩ := s2
    wp_walk
    rw [hc]
    exact ⟨plainId_quiet plain_contains_loop _, codeAny_builtin entry_contains_loop (by
      rw [Around.under_plainId plain_contains_loop _]
      exact hrec)⟩
theorem list_containsI (l : Addr) (N : Nat) (x : Value) (I : Nat → Shared → Prop) (hl : ∀ i s, I i s → ∃ (items : Array Value) (n : Nat), s.heap.get? l = some { cls := .type "list", data := .seq items n } ∧ items.size = N ∧ ∀ h1 : i < items.size, wpAny (model prog w) A.in1 (eqBool items[i] x) (fun r s' => r = false ∧ I (i + 1) s') (fun e s' => R (.error e) s') s)
    (fin : ∀ s, I N s → R (.ok (.ret (.bool false))) s) {s : Shared} (h : I 0 s) : wpAny (model prog w) A.in1 (Builtin.«list.__contains__» ⟨[.ref l, x], []⟩) (GQ.FinOf prog w A R) (fun e s' => R (.error e) s') s := by
  obtain ⟨items, n, hl1, _⟩ := hl _ _ h
  have hrec := list_contains_loopI (A := A) (R := R) l N x I hl fin _ 0 rfl (Nat.zero_le _) s h
  obtain ⟨hp, g, d, tk, os⟩ := s
  wp_walk using wpAny_loadPart' hl1
  exact ⟨plainId_quiet plain_contains_loop _, codeAny_builtin entry_contains_loop (by
    rw [Around.under_plainId plain_contains_loop _]
    exact hrec)⟩
end
section
variable {prog : Program} {w : World} {A : Around} {E : Value → Shared → Prop} {s : Shared}
theorem in_here {T id : String} {B : Builtin} {c x : Value} {Q : Value → Shared → Prop} (hT : s.TypeIs c T) (slot : Slot T "__contains__" id) (entry : entryFor table id = some B) (args : argsOk id ⟨[c, x], []⟩)
    (h : wpAny (model prog w) A.in1 (B ⟨[c, x], []⟩) (GQ.FinOf prog w A (wants (fun v s' => ∃ b, v = .bool b ∧ Q (.bool b) s') E)) (fun e s' => wants (fun v s' => ∃ b, v = .bool b ∧ Q (.bool b) s') E (.error e) s') s) : wpAny (model prog w) A (compareOp .In x c) Q E s := by
  show wpAny _ A (do return .bool (← contains c x)) Q E s
  refine wpAny_bind (wpAny_contains_slot hT slot (wpAny_mono (GQ.call_here slot hT entry args h) (fun v s' hv => ?_) fun _ _ e => e))
  obtain ⟨b, rfl, hq⟩ := hv
  exact wpAny_truthy_bool (wpAny_pure hq)
end
end My

namespace My
open PySem L2 PyProof.Rows PySem.SeqAt
open MeetsSeq MeetsSeq2 MeetsSeq3 SeqRoads2
/-- any value, by its kind -/
inductive Vl (C : Addr) (H : Hp) : V → Prop where
  | non : Vl C H .non
  | bl (b : Bool) : Vl C H (.bl b)
  | int (i : Int) : Vl C H (.int i)
  | str (t : Str) (h : t.length ≤ 1000) : Vl C H (.str t)
  | lst {a : Addr} {xs : List V} (e : H a = some (.lst xs)) : Vl C H (.ref a)
  | tup {a : Addr} {xs : List V} (e : H a = some (.tup xs)) : Vl C H (.ref a)
  | dk {a : Addr} {kvs : List (Key × V)} (e : H a = some (.dK kvs)) : Vl C H (.ref a)
  | ins {a dx : Addr} {fs : List (Str × V)} (e : H a = some (.ins C dx fs)) : Vl C H (.ref a)
/-- == of a book and a value of a built-in kind -/
def spEqT (C : Addr) : Sp := fun vs H Q _ => ∃ (a : Addr) (y : V) (dx : Addr) (fs : List (Str × V)), vs = [.ref a, y] ∧ H a = some (.ins C dx fs) ∧ (∃ s, y = .str s) ∧ Q (.bl false) H
/-- what the comparison of a text with a book asks of the class -/
structure EqC (K : PySem.W.Frag) (C f : Addr) : Prop where
  at_ : PySem.W.findIn K (.ref C) "__eq__" = some (some (.ref f))
  fn : PySem.W.isFn K (.ref f) = true
  str : PySem.W.mroIn K C (.type "str") = some false
section
variable {X : Cx} {n : Nat} {C f : Addr} {fd : FuncData} {ps : List Str}
theorem eq_str_ins {A : Around} {pins : List (Addr × Obj)} {σ : L2.St} {H : Hp} {s : Shared} {a dx : Addr} {fs : List (Str × V)} {z : Str} {t : Tok} {Q : Bool → Shared → Prop} (G : FnOk X.prog X.w X.K X.mg X.base CX0 n f fd ps (spEqT C)) (hc : EqC X.K C f) (hb : Binds X.K fd ps [])
    (hr : Room n A) (e0 : Env0 X.prog X.w X.K X.mg X.base A X.stack s H) (I : Inv X pins σ H s) (ha : H a = some (.ins C dx fs)) (q : ∀ s', Inv X pins σ H s' → Q false s') : wpAny (model X.prog X.w) A (eqBool (.str z t) (.ref a)) Q X.xe s := by
  unfold eqBool
  refine wpAny_holding ?_
  refine wpAny_ite_split (fun hab => absurd (eq_of_beq hab) nofun) (fun _ => ?_)
  refine wpAny_bind ?_
  obtain ⟨mA, J, _⟩ := ins_get I.hok ha
  obtain ⟨od, J, _⟩ := J.look
  refine rc_refl hr.units0 I.kIn J (typeIs_str s z t) hc.str hc.at_ hc.fn F.slot_str_eq (fun Q' hq => call_meets F.slot_str_eq (typeIs_str s z t) F.entry_str_eq (F.args_str_eq_2 _ _) (str_dec z t a C dx) ⟨J.at_, hq⟩) ?_
  have hsp : spEqT C [.ref a, .str z] H (fun v H' => v = .bl false ∧ H' = H) (fun _ _ _ => False) := ⟨a, _, dx, fs, rfl, ha, ⟨z, rfl⟩, rfl, rfl⟩
  have hl := G.len _ _ _ _ hsp
  have r2 : Vals [V.ref a, V.str z] [Value.ref a, Value.str z t] := .cons rfl (.cons ⟨t, rfl⟩ .nil)
  refine wpAny_call (codeAny_mono (G.run A X.stack s H ⟨[.ref a, .str z t], []⟩ [.ref a, .str z t] [.ref a, .str z] _ _ hr e0 (by
    have := hb s [.ref a, .str z t] I.kIn (by simpa using hl)
    simpa using this) r2 hsp) fun r s' hq => ?_)
  cases r with
  | error e => exact (pass0 : Passes CX0 X fun _ _ _ => False) pins σ H s e s' I hq
  | ok fl =>
    cases fl with
    | ret w =>
      obtain ⟨y, H', I', rz, ez, eh⟩ := I.after hq
      subst ez eh
      cases rz
      exact wpAny_truthy_bool (q s' I')
    | next => exact False.elim hq
    | brk => exact False.elim hq
    | cont => exact False.elim hq
end
/-- any value in a list or tuple of texts -/
def rInS (K : PySem.W.Frag) (C : Addr) (neg : Bool) : R2 := fun x y H Q => ∃ (p : Addr) (ss : List Str), y = .ref p ∧ (H p = some (.lst (ss.map V.str)) ∨ SqT K H p (ss.map V.str)) ∧ Vl C H x ∧ ∀ r, (r = true ↔ ∃ s ∈ ss, x = .str s) → Q (.bl (if neg then !r else r)) H
theorem str_item {ss : List Str} {its : List Value} (r : Vals (ss.map V.str) its) : ∀ y ∈ its, ∃ z t, y = Value.str z t := by
  induction ss generalizing its with
  | nil =>
    cases r
    intro y hy
    cases hy
  | cons s ss ih =>
    cases r with
    | cons h t =>
      intro y hy
      rcases List.mem_cons.mp hy with e | e
      · obtain ⟨u, hu⟩ := h
        exact ⟨s, u, by rw [e, hu]⟩
      · exact ih t y e
theorem any_false {its : Array Value} : its.any (fun _ => false) = false := by simp
section
variable {X : Cx} {n : Nat} {C f : Addr} {fd : FuncData} {ps : List Str}
theorem flat_in {x : V} {ss : List Str} (h : flatV x = true) : (inV x (ss.map V.str) = true ↔ ∃ s ∈ ss, x = .str s) := by
  have key : ∀ {x : V}, (∀ s, eqV (.str s) x = decide (x = .str s)) → (inV x (ss.map V.str) = true ↔ ∃ s ∈ ss, x = .str s) := fun {x} hx => by
    unfold inV
    rw [List.any_eq_true]
    constructor
    · rintro ⟨y, hy, e⟩
      obtain ⟨s, hs, rfl⟩ := List.mem_map.mp hy
      rw [hx] at e
      exact ⟨s, hs, of_decide_eq_true e⟩
    · rintro ⟨s, hs, e⟩
      exact ⟨.str s, List.mem_map.mpr ⟨s, hs, rfl⟩, by rw [hx]; exact decide_eq_true e⟩
  cases x with
  | str t =>
    refine key fun s => ?_
    show (s == t) = _
    by_cases e : s = t
    · subst e
      simp
    · rw [decide_eq_false (fun z => e (by injection z with z; exact z.symm))]
      simpa using e
  | _ => first | exact key fun s => (by rw [decide_eq_false (fun z => nomatch z)]; rfl) | cases h
/-- the answer, where the comparisons lean on nothing -/
theorem in_pure {A : Around} {H : Hp} {s : Shared} {pins : List (Addr × Obj)} {σ : L2.St} {p : Addr} {ss : List Str} {v : Value} {Q : Value → Shared → Prop} (I : Inv X pins σ H s) (hp : H p = some (.lst (ss.map V.str)) ∨ SqT X.K H p (ss.map V.str))
    (he : ∀ (z : Str) (t : Tok), EqAt A.in1 s (.str z t) v false) (q : Q (.bool false) s) : wpAny (model X.prog X.w) A (compareOp .In v (.ref p)) Q X.xe s := by
  rcases hp with hp | hp
  · obtain ⟨its, r, pl, hz⟩ := I.list (SqL.of hp)
    refine in_listAt (fun _ => false) pl.isList (fun y hy => ?_) (by rw [any_false]; exact q)
    obtain ⟨z, t, rfl⟩ := str_item r y (by simpa using hy)
    exact he z t
  · obtain ⟨its, r, pl, hz⟩ := I.tuple hp
    refine in_tupleAt (fun _ => false) pl (fun y hy => ?_) (by rw [any_false]; exact q)
    obtain ⟨z, t, rfl⟩ := str_item r y (by simpa using hy)
    exact he z t
theorem inS_run (G : FnOk X.prog X.w X.K X.mg X.base CX0 n f fd ps (spEqT C)) (hc : EqC X.K C f) (hb : Binds X.K fd ps []) (hr : Room (n + 1) X.A) {pins : List (Addr × Obj)} {s : Shared} {σ : L2.St} {H : Hp} {x : V} {u : Value} {p : Addr} {ss : List Str} {Q : Value → Shared → Prop}
    (I : Inv X pins σ H s) (rx : RelV x u) (hp : H p = some (.lst (ss.map V.str)) ∨ SqT X.K H p (ss.map V.str)) (hv : Vl C H x) (q : ∀ r, (r = true ↔ ∃ s ∈ ss, x = .str s) → ∀ s', Inv X pins σ H s' → Q (.bool r) s') : wpAny (model X.prog X.w) X.A (compareOp .In u (.ref p)) Q X.xe s := by
  have hu : X.A.in1.units < cLine := hr.in1.units0
  have no : ∀ {a : Addr}, (false = true ↔ ∃ s ∈ ss, V.ref a = .str s) := fun {a} => ⟨fun z => (by cases z), fun ⟨s, _, z⟩ => (by cases z)⟩
  have flat : flatV x = true → wpAny (model X.prog X.w) X.A (compareOp .In u (.ref p)) Q X.xe s := fun fx => by
    have h := op_in_seq pins s σ H x (.ref p) u (.ref p) (fun v H' => ∃ r, v = .bl r ∧ H' = H ∧ (r = true ↔ ∃ s ∈ ss, x = .str s)) I rx rfl ⟨p, _, rfl, hp.imp (fun e => SqL.of e) id, fx, flat_strs ss, _, rfl, rfl, flat_in fx⟩
    refine wpAny_mono h (fun v s' z => ?_) fun _ _ e => e
    obtain ⟨y, H', I', ry, r, ey, eH, hr'⟩ := z
    subst ey eH
    cases ry
    exact q r hr' s' I'
  cases hv with
  | non => exact flat rfl
  | bl b => exact flat rfl
  | int i => exact flat rfl
  | str t _ => exact flat rfl
  | @lst a xs e =>
    cases (show u = Value.ref a from rx)
    obtain ⟨its, r, pl, hz⟩ := I.list (SqL.of e)
    exact in_pure I hp (fun z t => EqAt.str_list z t pl.isList hu) (q false no s I)
  | @tup a xs e =>
    cases (show u = Value.ref a from rx)
    obtain ⟨its, r, pl, hz⟩ := I.tuple (SqT.of e)
    exact in_pure I hp (fun z t => EqAt.str_tuple z t pl hu) (q false no s I)
  | @dk a kvs e =>
    cases (show u = Value.ref a from rx)
    obtain ⟨_, _, vs, _, o, es, ep, h1, h2, h3, _⟩ := (show ObjOk X.prog X.w H s.heap a (.dK kvs) from I.hok a _ e)
    exact in_pure I hp (fun z t => eqAt_str_dict z t h1 h2.1 h3 hu) (q false no s I)
  | @ins a dx fs e =>
    cases (show u = Value.ref a from rx)
    have turn : ∀ (z : Str) (t : Tok) (s1 : Shared) (E : Value → Shared → Prop), Inv X pins σ H s1 → wpAny (model X.prog X.w) X.A.in1 (eqBool (.str z t) (.ref a)) (fun r s' => r = false ∧ Inv X pins σ H s') X.xe s1 := fun z t s1 E I1 =>
      eq_str_ins G hc hb hr.in1 I1.env0.in1 I1 e fun s' I' => ⟨rfl, I'⟩
    rcases hp with hp | hp
    · obtain ⟨z, its, n', r, hl, e1⟩ := I.lstM hp
      refine in_here ⟨_, e1, rfl⟩ F.slot_list_contains F.entry_list_contains (F.args_list_contains_2 _ _) ?_
      refine list_containsI p (ss.map V.str).length (.ref a) (fun _ s' => Inv X pins σ H s') (fun i s1 I1 => ?_) (fun s1 I1 => ⟨false, rfl, q false no s1 I1⟩) I
      obtain ⟨z, its1, n1, r1, hl1, e2⟩ := I1.lstM hp
      refine ⟨its1.toArray, n1, e2, by rw [List.size_toArray, ← r1.length], fun h1 => ?_⟩
      obtain ⟨y, t, ey⟩ := str_item r1 its1.toArray[i] (by simp)
      rw [ey]
      exact turn y t s1 (fun _ _ => True) I1
    · obtain ⟨its, r, pl, hz⟩ := I.tuple hp
      obtain ⟨⟨cls, dd, data, sl⟩, ho, hc', n', hd⟩ := id pl
      simp only at hc' hd
      subst hc' hd
      refine in_here ⟨_, ho, rfl⟩ F.slot_tuple_contains F.entry_tuple_contains (F.args_tuple_contains_2 _ _) ?_
      refine tup_containsI p its.toArray n' dd sl (.ref a) (fun s' => Inv X pins σ H s') (fun y hy s1 I1 => ?_) (fun s1 I1 => ⟨false, rfl, q false no s1 I1⟩) ho I
      obtain ⟨z, t, ey⟩ := str_item r y (by simpa using hy)
      rw [ey]
      exact turn z t s1 (fun _ _ => True) I1
theorem op_inS (G : FnOk X.prog X.w X.K X.mg X.base CX0 n f fd ps (spEqT C)) (hc : EqC X.K C f) (hb : Binds X.K fd ps []) (hr : Room (n + 1) X.A) : OpR X (compareOp .In) (rInS X.K C false) := by
  intro pins s σ H x y u v Q I rx ry h
  obtain ⟨p, ss, rfl, hp, hv, q⟩ := h
  cases ry
  exact inS_run G hc hb hr I rx hp hv fun r hr' s' I' => ⟨.bl r, H, I', rfl, q r hr'⟩
end
end My

namespace My
open PySem L2
/-! ### the checks, asked of any value: the exact answer -/
theorem FnOk.or' {P : Program} {w : World} {K : PySem.W.Frag} {mg : Str → Option Value} {base : Heap} {CX : CXT} {n : Nat} {f : Addr} {fd : FuncData} {ps : List Str} {s1 s2 : Sp} (a : FnOk P w K mg base CX n f fd ps s1) (b : FnOk P w K mg base CX n f fd ps s2) :
    FnOk P w K mg base CX n f fd ps (fun vs H Q E => s1 vs H Q E ∨ s2 vs H Q E) :=
  ⟨fun vs H Q E h => h.elim (a.len vs H Q E) (b.len vs H Q E), fun A outer s H args us vs Q E r e h1 h2 h => h.elim (fun z => a.run A outer s H args us vs Q E r e h1 h2 z) (fun z => b.run A outer s H args us vs Q E r e h1 h2 z)⟩
structure IsB (K : PySem.W.Frag) (C : Addr) : Prop where
  c : Cls K C
  ha : PySem.W.findIn K (.ref C) "__class__" = some (some (.builtin "object.__class__"))
  hn : PySem.W.specialIn K (.builtin "object.__class__") "__get__" = some (some (.builtin "getset_descriptor.__get__"))
  ht : PySem.W.takesIn K (.builtin "object.__class__") = some true
  hm : PySem.W.mroIn K C (.type "object") = some true
  kT : PySem.W.kitOne K (.ref C) (.type "tuple") = some false
  kL : PySem.W.kitOne K (.ref C) (.type "list") = some false
  kS : PySem.W.kitOne K (.ref C) (.type "str") = some false
  kB : PySem.W.kitOne K (.ref C) (.type "bool") = some false
/-- a value is of a kind -/
def IsT (H : Hp) (v : V) : Prop := ∃ a xs, v = .ref a ∧ H a = some (.tup xs)
def IsLs (H : Hp) (v : V) : Prop := ∃ a xs, v = .ref a ∧ H a = some (.lst xs)
def IsSt (v : V) : Prop := ∃ s, v = .str s
def IsBo (v : V) : Prop := ∃ s, v = .bl s
theorem Vl.kinds {K : PySem.W.Frag} {C : Addr} {H : Hp} {v : V} (h : Vl C H v) (B : IsB K C) : ∃ (t : Value) (b1 b2 b3 b4 : Bool), TyX K H v t ∧ PySem.W.kitOne K t (.type "tuple") = some b1 ∧ PySem.W.kitOne K t (.type "list") = some b2 ∧ PySem.W.kitOne K t (.type "str") = some b3 ∧ PySem.W.kitOne K t (.type "bool") = some b4 ∧
    (b1 = true ↔ IsT H v) ∧ (b2 = true ↔ IsLs H v) ∧ (b3 = true ↔ IsSt v) ∧ (b4 = true ↔ IsBo v) := by
  have N : ∀ {P : Prop}, ¬ P → (false = true ↔ P) := fun h => ⟨fun z => (by cases z), fun z => absurd z h⟩
  have Y : ∀ {P : Prop}, P → (true = true ↔ P) := fun h => ⟨fun _ => h, fun _ => rfl⟩
  have nt : ∀ {a : Addr} {o : HO}, H a = some o → (∀ xs, o ≠ .tup xs) → ¬ IsT H (.ref a) := fun {a o} e n z => by
    obtain ⟨b, xs, e1, e2⟩ := z
    cases e1
    rw [e] at e2
    exact n xs (Option.some.inj e2)
  have nl : ∀ {a : Addr} {o : HO}, H a = some o → (∀ xs, o ≠ .lst xs) → ¬ IsLs H (.ref a) := fun {a o} e n z => by
    obtain ⟨b, xs, e1, e2⟩ := z
    cases e1
    rw [e] at e2
    exact n xs (Option.some.inj e2)
  have ns : ∀ {a : Addr}, ¬ IsSt (.ref a) := fun ⟨_, e⟩ => by cases e
  have nb : ∀ {a : Addr}, ¬ IsBo (.ref a) := fun ⟨_, e⟩ => by cases e
  cases h with
  | non => exact ⟨_, false, false, false, false, .base .non, kit_ty (by decide +kernel), kit_ty (by decide +kernel), kit_ty (by decide +kernel), kit_ty (by decide +kernel), N (fun ⟨_, _, e, _⟩ => by cases e), N (fun ⟨_, _, e, _⟩ => by cases e), N (fun ⟨_, e⟩ => by cases e), N (fun ⟨_, e⟩ => by cases e)⟩
  | bl b => exact ⟨_, false, false, false, true, .base (.bl b), kit_ty (by decide +kernel), kit_ty (by decide +kernel), kit_ty (by decide +kernel), kit_ty (by decide +kernel), N (fun ⟨_, _, e, _⟩ => by cases e), N (fun ⟨_, _, e, _⟩ => by cases e), N (fun ⟨_, e⟩ => by cases e), Y ⟨_, rfl⟩⟩
  | int i => exact ⟨_, false, false, false, false, .base (.int i), kit_ty (by decide +kernel), kit_ty (by decide +kernel), kit_ty (by decide +kernel), kit_ty (by decide +kernel), N (fun ⟨_, _, e, _⟩ => by cases e), N (fun ⟨_, _, e, _⟩ => by cases e), N (fun ⟨_, e⟩ => by cases e), N (fun ⟨_, e⟩ => by cases e)⟩
  | str s _ => exact ⟨_, false, false, true, false, .base (.str s), kit_ty (by decide +kernel), kit_ty (by decide +kernel), kit_ty (by decide +kernel), kit_ty (by decide +kernel), N (fun ⟨_, _, e, _⟩ => by cases e), N (fun ⟨_, _, e, _⟩ => by cases e), Y ⟨_, rfl⟩, N (fun ⟨_, e⟩ => by cases e)⟩
  | lst e => exact ⟨_, false, true, false, false, .base (.lst e), kit_ty (by decide +kernel), kit_ty (by decide +kernel), kit_ty (by decide +kernel), kit_ty (by decide +kernel), N (nt e fun _ z => by cases z), Y ⟨_, _, rfl, e⟩, N ns, N nb⟩
  | tup e => exact ⟨_, true, false, false, false, .base (.tup e), kit_ty (by decide +kernel), kit_ty (by decide +kernel), kit_ty (by decide +kernel), kit_ty (by decide +kernel), Y ⟨_, _, rfl, e⟩, N (nl e fun _ z => by cases z), N ns, N nb⟩
  | dk e => exact ⟨_, false, false, false, false, .base (.dK e), kit_ty (by decide +kernel), kit_ty (by decide +kernel), kit_ty (by decide +kernel), kit_ty (by decide +kernel), N (nt e fun _ z => by cases z), N (nl e fun _ z => by cases z), N ns, N nb⟩
  | ins e => exact ⟨_, false, false, false, false, .base (.ins e B.c B.ha B.hn B.ht B.hm), B.kT, B.kL, B.kS, B.kB, N (nt e fun _ z => by cases z), N (nl e fun _ z => by cases z), N ns, N nb⟩
theorem Vl.same {C : Addr} {H G : Hp} {v : V} (h : Vl C H v) (s : Same H G) : Vl C G v := by
  cases h with
  | non => exact .non
  | bl b => exact .bl b
  | int i => exact .int i
  | str t h => exact .str t h
  | lst e => exact .lst (s _ _ e)
  | tup e => exact .tup (s _ _ e)
  | dk e => exact .dk (s _ _ e)
  | ins e => exact .ins (s _ _ e)
theorem Vl.obj {C : Addr} {H : Hp} {a : Addr} (h : Vl C H (.ref a)) : ∃ o, H a = some o := by
  cases h with
  | lst e => exact ⟨_, e⟩
  | tup e => exact ⟨_, e⟩
  | dk e => exact ⟨_, e⟩
  | ins e => exact ⟨_, e⟩
/-- so far down: any values -/
def Vd (C : Addr) (H : Hp) : Nat → V → Prop
  | 0, v => Vl C H v
  | n + 1, v => Vl C H v ∧ ∀ a xs, v = .ref a → (H a = some (.tup xs) ∨ H a = some (.lst xs)) → ∀ x ∈ xs, Vd C H n x
theorem Vd.vl {C : Addr} {H : Hp} {n : Nat} {v : V} (h : Vd C H n v) : Vl C H v := by
  cases n with
  | zero => exact h
  | succ n => exact h.1
theorem Vd.same {C : Addr} {H G : Hp} (s : Same H G) : ∀ {n : Nat} {v : V}, Vd C H n v → Vd C G n v
  | 0, _, h => Vl.same h s
  | n + 1, v, h => ⟨h.1.same s, fun a xs e g x hx => by
    subst e
    obtain ⟨o, eo⟩ := h.1.obj
    have eo' := s _ _ eo
    refine Vd.same s (h.2 a xs rfl ?_ x hx)
    rcases g with g | g
    · rw [eo'] at g
      cases g
      exact .inl eo
    · rw [eo'] at g
      cases g
      exact .inr eo⟩
theorem Vd.item {C : Addr} {H : Hp} {n : Nat} {a : Addr} {xs : List V} {x : V} (h : Vd C H (n + 1) (.ref a)) (e : H a = some (.tup xs) ∨ H a = some (.lst xs)) (hx : x ∈ xs) : Vd C H n x := h.2 a xs rfl e x hx
def spIsNameX (C : Addr) : Sp := fun vs H Q _ => ∃ v : V, vs = [v] ∧ Vl C H v ∧ ∀ r H', Same H H' → (r = true ↔ ∃ s, v = .str s ∧ Nm s) → Q (.bl r) H'
def spHasLenX (C : Addr) : Sp := fun vs H Q _ => ∃ (v : V) (n : Int), vs = [v, .int n] ∧ Vl C H v ∧ ∀ r, (r = true ↔ ∃ t xs, v = .ref t ∧ H t = some (.tup xs) ∧ ((xs.length : Nat) : Int) = n) → Q (.bl r) H
def RightI (N : Nm5) (k : Pk) (H : Hp) (v : V) : Prop := ∃ d fp, ItemR N k d ∧ Df H d v fp
def spItemX (C : Addr) (N : Nm5) (k : Pk) : Sp := fun vs H Q _ => ∃ (v : V) (nd : Addr), vs = [v, .ref nd] ∧ Vd C H 4 v ∧ Wk N k H nd ∧ ∀ r H', Same H H' → (r = true ↔ RightI N k H v) → Q (.bl r) H'
section
variable {P : Program} {w : World} {K : PySem.W.Frag} {mg : Str → Option Value} {base : Heap} {tl : Tok} {aP aN aT aO aL aH aI C : Addr}
theorem abc_in (c : Nat) : c ∈ ("abcdefghijklmnopqrstuvwxyz" : Str).cps.toList ↔ 97 ≤ c ∧ c ≤ 122 := by
  have e : ("abcdefghijklmnopqrstuvwxyz" : Str).cps.toList = (List.range 26).map (97 + ·) := by decide +kernel
  rw [e, List.mem_map]
  constructor
  · rintro ⟨i, hi, rfl⟩
    have := List.mem_range.mp hi
    omega
  · rintro ⟨h1, h2⟩
    exact ⟨c - 97, List.mem_range.mpr (by omega), by omega⟩
theorem ok_is_nameX {f : Addr} {fd : FuncData} (D : DefT K mg "is_name" "is_name" s_is_name ["value"] f fd) (Z : Zs mg) (T : Tb K mg tl aP aN aT aO aL aH aI) (B : IsB K C) : FnOk P w K mg base CX0 1 f fd ["value"] (spIsNameX C) := by
  refine D.F.ok sc_is_name (fun vs H Q E h => ?_) (fun cdv A outer s H vs Q E hr h => ?_)
  · obtain ⟨z, rfl, _⟩ := h
    rfl
  obtain ⟨v, rfl, hv, q⟩ := h
  refine ⟨_, (pss_cons (ps_if (PW.pt (pw_or (pt_not (pt_val (pe_callB call_isi (by rfl) Z.isinstance (by decide +kernel) (pa_cons (pv 0) (pa_cons (pe_bltn (v := .ty "str") (by rfl) Z.str (by decide +kernel) rfl) pa_nil))))) (pw_or1 (pt_not (pt_chain op_le op_le pe_int (pe_callB call_len_str (by rfl) Z.len (by decide +kernel) (pa_cons (pv 0) pa_nil)) pe_int))))) (pss_one (ps_ret pe_bl)) pss_nil) (pss_one (ps_ret (pe_callB (cr_all rfl) (by rfl) Z.all (by decide +kernel) (pa_cons (pe_lc (own := [("letter", 1)]) (g := gName 1) rfl sc_is_name.nd  (pi_str (pv 0)) (blkOk_by (own := [("letter", 1)]) (N := ["value", "letter"]) (sc := defScope s_is_name) (by decide +kernel)) (fun _ _ _ _ _ => pg_name (i := 1) sc_is_name.nd rfl (Or.inl rfl)) (fun _ _ _ _ _ => pts_nil) (fun _ _ _ _ _ => (pe_cmpR op_in_sign (pv 1) (pe_glob (v := .str "abcdefghijklmnopqrstuvwxyz") rfl T.letters ⟨_, rfl⟩) (by rfl)))) pa_nil))))), ?_⟩
  obtain ⟨t, b1, b2, b3, b4, ty, _, _, k3, _, _, _, i3, _⟩ := hv.kinds B
  refine ⟨_, rfl, _, _, _, _, _, rfl, .ty _, ty, k3, _, rfl, ?_⟩
  cases b3 with
  | false => exact iteT (q false H (Same.refl H) ⟨fun z => (by cases z), fun ⟨s, e, _⟩ => i3.mpr ⟨s, e⟩⟩)
  | true =>
  obtain ⟨z, rfl⟩ := i3.mp rfl
  refine iteF ?_
  have hz : z.length ≤ 1000 := by
    cases hv with
    | str _ h => exact h
  have hl : z.length ≤ sizeLine := Nat.le_trans hz (by decide)
  have no : ∀ {p : Prop}, ¬ Nm z → (false = true ↔ ∃ s, V.str z = .str s ∧ Nm s) := fun h => ⟨fun z => (by cases z), fun ⟨s, e, hs⟩ => by
    cases e
    exact absurd hs h⟩
  refine ⟨_, rfl, z, rfl, hl, _, _, rfl, rfl, _, rfl, ?_⟩
  by_cases h1 : 1 ≤ z.length
  rotate_left
  · refine ifF (decide_eq_false (by omega)) ?_
    exact ⟨_, rfl, iteT (q false H (Same.refl H) (no (p := True) fun h => h1 h.1))⟩
  refine ifT (decide_eq_true (by omega)) ⟨_, _, rfl, rfl, ?_⟩
  refine ⟨_, rfl, ?_⟩
  by_cases h8 : z.length ≤ 8
  rotate_left
  · rw [decide_eq_false (show ¬ ((z.length : Nat) : Int) ≤ 8 by omega)]
    exact iteT (q false H (Same.refl H) (no (p := True) fun h => h8 h.2.1))
  rw [decide_eq_true (show ((z.length : Nat) : Int) ≤ 8 by omega)]
  refine iteF ?_
  refine ⟨_, rfl, z, rfl, fun dl hdl => ?_⟩
  refine lc_it (walk_str (z := z)) (fun i G => ∃ bs : List Bool, G dl = some (.lst (bs.map V.bl)) ∧ bs.length = i ∧ (∀ (j : Nat) (b : Bool), bs[j]? = some b → ∃ c, z.cps[j]? = some c ∧ (b = true ↔ 97 ≤ c ∧ c ≤ 122)) ∧ Same H G) ⟨[], upd_same, rfl, fun j b e => by simp at e, same_upd hdl⟩ (fun _ _ _ _ => trivial) ?_ ?_
  · rintro i x G H' hi ⟨bs, hG, hbl, hbs, sG⟩ ⟨rfl, c, hc', rfl⟩
    have hi8 : i < 8 := by
      have : z.cps.size = z.length := rfl
      omega
    refine ⟨rfl, _, rfl, c, _, rfl, rfl, _, hG, ?_, bs ++ [decide (c ∈ ("abcdefghijklmnopqrstuvwxyz" : Str).cps.toList)], ?_, by rw [List.length_append, hbl]; rfl, fun j b e => ?_, Same.put sG hdl⟩
    · rw [List.length_map, hbl]
      exact Nat.lt_of_lt_of_le (show i < 1000 by omega) (by decide)
    · rw [List.map_append]
      exact upd_same
    · by_cases hj : j < bs.length
      · rw [List.getElem?_append_left hj] at e
        exact hbs j b e
      · rw [List.getElem?_append_right (by omega)] at e
        cases hzj : j - bs.length with
        | zero =>
          rw [hzj] at e
          cases e
          have ej : j = i := by omega
          rw [ej]
          refine ⟨c, hc', ?_⟩
          rw [decide_eq_true_iff, abc_in]
        | succ m =>
          rw [hzj] at e
          cases e
  rintro G ⟨bs, hG, hbl, hbs, sG⟩
  refine ⟨dl, bs, rfl, .of hG, ?_⟩
  refine q _ G sG ?_
  rw [List.all_eq_true]
  constructor
  · intro h
    refine ⟨z, rfl, h1, h8, fun c hc => ?_⟩
    obtain ⟨j, hj, e⟩ := List.mem_iff_getElem.mp hc
    have hj' : j < z.cps.size := by simpa using hj
    have hjb : j < bs.length := by omega
    obtain ⟨c', e1, e2⟩ := hbs j bs[j] (List.getElem?_eq_getElem hjb)
    rw [Array.getElem?_eq_getElem hj'] at e1
    have e3 : c' = c := by
      rw [← e, ← Option.some.inj e1]
      exact (Array.getElem_toList hj').symm
    rw [← e3]
    exact e2.mp (h _ (List.getElem_mem hjb))
  · rintro ⟨s, e, hs⟩ b hb
    cases e
    obtain ⟨j, hj, e⟩ := List.mem_iff_getElem.mp hb
    obtain ⟨c', e1, e2⟩ := hbs j bs[j] (List.getElem?_eq_getElem hj)
    rw [e] at e2
    exact e2.mpr (hs.2.2 c' (Array.mem_toList_iff.mpr (Array.mem_of_getElem? e1)))
theorem ok_has_lengthX {f : Addr} {fd : FuncData} (D : DefT K mg "has_length" "has_length" s_has_length ["row", "many"] f fd) (Z : Zs mg) (B : IsB K C) : FnOk P w K mg base CX0 1 f fd ["row", "many"] (spHasLenX C) := by
  refine D.F.ok sc_has_length (fun vs H Q E h => ?_) (fun cdv A outer s H vs Q E hr h => ?_)
  · obtain ⟨v, n, rfl, _⟩ := h
    rfl
  obtain ⟨v, n, rfl, hv, q⟩ := h
  refine ⟨_, (pss_one (ps_ret (pe_and (pe_callB call_isi (by rfl) Z.isinstance (by decide +kernel) (pa_cons (pv 0) (pa_cons (pe_bltn (v := .ty "tuple") (by rfl) Z.tuple (by decide +kernel) rfl) pa_nil))) (pe_one (pe_cmpR op_eq (pe_callB call_len_seq (by rfl) Z.len (by decide +kernel) (pa_cons (pv 0) pa_nil)) (pv 1) (nomark _)))))), ?_⟩
  obtain ⟨t, b1, b2, b3, b4, ty, k1, _, _, _, i1, _⟩ := hv.kinds B
  refine ⟨_, rfl, _, _, _, _, _, rfl, .ty _, ty, k1, _, rfl, ?_⟩
  cases b1 with
  | false => exact iteF (q false ⟨fun z => (by cases z), fun ⟨t, xs, e, et, _⟩ => i1.mpr ⟨t, xs, e, et⟩⟩)
  | true =>
  obtain ⟨t, xs, rfl, ht⟩ := i1.mp rfl
  refine iteT ⟨_, rfl, t, xs, rfl, .inr (.of ht), _, rfl, rfl, q _ ?_⟩
  rw [decide_eq_true_iff]
  constructor
  · intro e
    exact ⟨t, xs, rfl, ht, by injection e⟩
  · rintro ⟨t', xs', e, et, en⟩
    cases e
    rw [ht] at et
    cases et
    rw [en]
theorem ok_is_stateX {f f1 f2 fE : Addr} {fd fd1 fd2 fdE : FuncData} {psE : List Str} (N : Nm5) (D : DefT K mg "is_state" "is_state" s_is_state ["row", "_"] f fd) (Z : Zs mg) (T : Tb K mg tl aP aN aT aO aL aH aI) (B : IsB K C) (GE : FnOk P w K mg base CX0 1 fE fdE psE (spEqT C)) (hc : EqC K C fE) (hb : Binds K fdE psE [])
    (D_has_length : DefT K mg "has_length" "has_length" s_has_length ["row", "many"] f1 fd1) (D_is_name : DefT K mg "is_name" "is_name" s_is_name ["value"] f2 fd2) :
    FnOk P w K mg base CX0 4 f fd ["row", "_"] (spItemX C N .ss) := by
  have G_has_length := ok_has_lengthX (P := P) (w := w) (base := base) D_has_length Z B
  have G_is_name := ok_is_nameX (P := P) (w := w) (base := base) D_is_name Z T B
  refine D.F.ok sc_is_state (fun vs H Q E h => ?_) (fun cdv A outer s H vs Q E hr h => ?_)
  · obtain ⟨v, nd, rfl, _⟩ := h
    rfl
  obtain ⟨v, nd, rfl, hv, _, q⟩ := h
  refine ⟨_, (pss_one (ps_ret (pe_and (pe_call G_has_length (hr.mono (by decide)) rfl D_has_length.m D_has_length.F.kp D_has_length.b .nil pass0 (pa_cons (pv 0) (pa_cons pe_int pa_nil))) (pe_and (pe_call G_is_name (hr.mono (by decide)) rfl D_is_name.m D_is_name.F.kp D_is_name.b .nil pass0 (pa_cons (pe_ix ix_tup (pv 0) pe_int (fun _ _ => rfl)) pa_nil)) (pe_one (pe_cmpR (op_inS GE hc hb (hr.mono (by decide))) (pe_ix ix_tup (pv 0) pe_int (fun _ _ => rfl)) (pe_glob (v := .ref aT) rfl T.traits rfl) (by rfl))))))), ?_⟩
  refine ⟨_, rfl, v, 2, rfl, hv.vl, fun r hr1 => ?_⟩
  refine ⟨_, rfl, ?_⟩
  have no : ∀ {H' : Hp}, Same H H' → ¬ RightI N .ss H v → Q (.bl false) H' := fun s n => q false _ s ⟨fun z => (by cases z), fun z => absurd z n⟩
  cases r with
  | false =>
    refine ifF rfl (no (Same.refl H) ?_)
    rintro ⟨d, fp, ⟨s, tr, rfl, _⟩, hD⟩
    obtain ⟨t, xs, e, ht, hl⟩ := hD
    have := hr1.mpr ⟨t, xs, e, ht, by rw [hl.len]; rfl⟩
    cases this
  | true =>
  obtain ⟨t, xs, rfl, ht, hn⟩ := hr1.mp rfl
  obtain ⟨x0, x1, rfl⟩ : ∃ x0 x1, xs = [x0, x1] := by
    match xs, hn with
    | [x0, x1], _ => exact ⟨x0, x1, rfl⟩
  have v0 := hv.item (.inl ht) (x := x0) (by simp)
  have v1 := hv.item (.inl ht) (x := x1) (by simp)
  refine ifT rfl ?_
  refine ⟨_, rfl, t, _, _, _, rfl, rfl, .of ht, atI_nat (j := 0) rfl, x0, rfl, v0.vl, fun r H1 s1 hr2 => ⟨_, rfl, ?_⟩⟩
  cases r with
  | false =>
    refine iteF (no s1 ?_)
    rintro ⟨d, fp, ⟨s, tr, rfl, hs, _⟩, hD⟩
    obtain ⟨t', xs', e, ht', x0', r0, g0, g1, rfl, rfl, ⟨rfl, rfl⟩, _⟩ := hD
    cases e
    rw [ht] at ht'
    cases ht'
    have := hr2.mpr ⟨s, rfl, hs⟩
    cases this
  | true =>
  obtain ⟨s, rfl, hs⟩ := hr2.mp rfl
  refine iteT ?_
  refine ⟨_, rfl, t, _, _, _, rfl, rfl, .of (s1 _ _ ht), atI_nat (j := 1) rfl, aT, pTraits, rfl, .inr (T.traits_.t _), (v1.same s1).vl, fun r hr3 => ?_⟩
  refine q r H1 s1 (hr3.trans ?_)
  have sub : ∀ x, x ∈ pTraits ↔ x ∈ traits := by
    intro x
    constructor
    · intro h
      have : ∀ x ∈ pTraits, x ∈ traits := by decide +kernel
      exact this x h
    · intro h
      have : ∀ x ∈ traits, x ∈ pTraits := by decide +kernel
      exact this x h
  constructor
  · rintro ⟨u, hu, rfl⟩
    exact ⟨.tuple [.str s, .str u], [], ⟨s, u, rfl, hs, (sub u).mp hu⟩, tD ht (.c (sD _) (.c (sD _) .n))⟩
  · rintro ⟨d, fp, ⟨s', tr, rfl, hs', htr⟩, hD⟩
    obtain ⟨t', xs', e, ht', x0', r0, g0, g1, rfl, rfl, _, x1', r1, g2, g3, rfl, rfl, ⟨rfl, rfl⟩, rfl, rfl⟩ := hD
    cases e
    rw [ht] at ht'
    cases ht'
    exact ⟨tr, (sub tr).mpr htr, rfl⟩
end
end My

namespace My
open PySem L2
def ShapeS (k : Pk) (bs : List PyData) (d : PyData) : Prop := match k with
  | .ms => (∃ s, d = .str s ∧ Nm s) ∧ ∀ z ∈ bs, ∃ t, z = .str t ∧ Nm t
  | k => Cut k.cut d ∧ (∀ z ∈ bs, Cut k.cut z ∧ True) ∧ (k = .ss → (∃ s t, d = .tuple [.str s, .str t]) ∧ ∀ z ∈ bs, z.canLay0 = true ∧ z.depth ≤ 1)
def first0 : List PyData → PyData → Bool
  | [], .tuple [_, .str t] => decide (t = "")
  | _, _ => true
def standB (k : Pk) (bs : List PyData) (d : PyData) : Bool := match k with
  | .ms => !(bs.any fun z => PyData.eqv z d)
  | .ss => first0 bs d && !((bs.map (cutD (Pk.cut .ss))).any fun z => PyData.eqv z (cutD (Pk.cut .ss) d))
  | .us => !((bs.map (cutD (Pk.cut .us))).any fun z => PyData.eqv z (cutD (Pk.cut .us) d))
  | .ks => !((bs.map (cutD (Pk.cut .ks))).any fun z => PyData.eqv z (cutD (Pk.cut .ks) d))
  | _ => true
def Few (k : Pk) : Prop := k = .ss ∨ k = .us ∨ k = .ks ∨ k = .ms
def spStandX (k : Pk) : Sp := fun vs H Q _ => ∃ (v : V) (d : PyData) (fp gp : List Addr) (l : Addr) (xs : List V) (bs : List PyData), vs = [.str k.nm, v, .ref l] ∧ Few k ∧ Df H d v fp ∧ H l = some (.lst xs) ∧ DfL H bs xs gp ∧ bs.length ≤ 30 ∧ ShapeS k bs d ∧ ∀ H', Same H H' → Q (.bl (standB k bs d)) H'
theorem ite_keep {b : Bool} {A B p : Prop} (hB : ¬p → B) (hA : b = true → (¬ p → B) → A) (hp : b = false → ¬p) : if b = true then A else B := by
  cases b with
  | false => exact hB (hp rfl)
  | true => exact hA rfl hB
section
variable {P : Program} {w : World} {K : PySem.W.Frag} {mg : Str → Option Value} {base : Heap} {tl : Tok} {aP aN aT aO aL aH aI : Addr} {it : Pk → Addr}
theorem ok_may_standX {f : Addr} {fd : FuncData} (D : DefT K mg "may_stand" "may_stand" s_may_stand ["part", "row", "before"] f fd) (Z : Zs mg) (T : Tb K mg tl aP aN aT aO aL aH aI) (Td' : Td K w aL aH aI it) :
    FnOk P w K mg base CX0 1 f fd ["part", "row", "before"] (fun vs H Q E => ∃ k, spStandX k vs H Q E) := by
  refine D.F.ok sc_may_stand (fun vs H Q E h => ?_) (fun cdv A outer s H vs Q E hr h => ?_)
  · obtain ⟨k, v, d, fp, gp, l, xs, bs, rfl, _⟩ := h
    rfl
  obtain ⟨k, v, d, fp, gp, l, xs, bs, rfl, few, hD, hl, hB, h30, hSt, q⟩ := h
  refine ⟨_, (pss_cons (ps_if (PW.pt (pw_and (pt_cmpR op_eq (pv 0) pe_str (nomark _)) (pw_and (pt_cmpR (op_eqD hr.units) (pv 2) (pe_lst pa_nil) (nomark _)) (pw_and1 (pt_cmpR op_ne (pe_ix ix_tup (pv 1) pe_int (fun _ _ => rfl)) pe_str (nomark _)))))) (pss_one (ps_ret pe_bl)) pss_nil) (pss_cons (ps_if (pt_cmpR op_eq (pv 0) pe_str (nomark _)) (pss_one (ps_ret (pe_cmpR (op_notInD (hu65 hr)) (pv 1) (pv 2) (by rfl)))) pss_nil) (pss_cons (ps_if (pt_cmpR op_eq (pv 0) pe_str (nomark _)) (pss_one (ps_ret pe_bl)) pss_nil) (pss_cons (ps_set (i := 3) sc_may_stand.nd rfl (Or.inr rfl) (pe_ix ix_kdict (pe_glob (v := .ref aH) rfl T.heads rfl) (pv 0) (fun _ _ => rfl))) (pss_one (ps_ret (pe_cmpR (op_notInD (hu65 hr)) (pe_slice sl_tup (pv 1) po_none (po_some (pv 3))) (pe_lc (own := [("other", 4)]) (g := gName 4) rfl sc_may_stand.nd  (pi_list (pv 2)) (blkOk_by (own := [("other", 4)]) (N := ["part", "row", "before", "many", "other"]) (sc := defScope s_may_stand) (by decide +kernel)) (fun _ _ _ _ _ => pg_name (i := 4) sc_may_stand.nd rfl (Or.inl rfl)) (fun _ _ _ _ _ => pts_nil) (fun _ _ _ _ _ => (pe_slice (sl_tupK (K := K) rfl) (pv 4) po_none (po_some (pv 3))))) (by rfl)))))))), ?_⟩
  cases k
  case ms =>
    obtain ⟨⟨s, rfl, hs⟩, hz⟩ := hSt
    have ev : v = .str s := hD.1
    subst ev
    refine ⟨_, rfl, rfl, _, rfl, ifF (by decide +kernel) (iteF ?_)⟩
    refine ⟨_, rfl, rfl, _, rfl, ifT (decide_eq_true rfl) ?_⟩
    refine ⟨_, rfl, _, rfl, .str s, bs, .str s, .lst (.of hl) (DfL.dp bs xs gp hB), shaped_of (n := 0) (strOk_nm hs) (Nat.le_refl _) (by decide), shaped_list (n := 0) (fun z hz' => ?_) (by decide), ?_⟩
    · obtain ⟨t, rfl, ht⟩ := hz z hz'
      exact ⟨strOk_nm ht, Nat.le_refl _⟩
    exact q H (Same.refl H)
  case us =>
    obtain ⟨t, ys, ss, rfl, ht, hn, htk, hcd, hss⟩ := hSt.1.at hD
    refine ⟨_, rfl, rfl, _, rfl, ifF (by decide +kernel) (iteF ?_)⟩
    refine ⟨_, rfl, rfl, _, rfl, ifF (by decide +kernel) ?_⟩
    refine ⟨_, rfl, rfl, _, rfl, ifF (by decide +kernel) ?_⟩
    refine ⟨_, rfl, aH, _, _, rfl, rfl, Td'.heads .us (fun z => nomatch z) (fun z => nomatch z), ?_⟩
    refine ⟨_, rfl, _, rfl, _, rfl, t, _, rfl, .of ht, notwhole hn, fun t2 ht2 => ?_⟩
    rw [cutTo _ _ (Nat.le_of_lt hn), htk]
    have s2 := (Same.refl H).trans (same_upd (o := .tup (ss.map V.str)) ht2)
    refine ⟨_, rfl, l, rfl, ⟨_, .of (s2 _ _ hl)⟩, fun dl hdl => ?_⟩
    have hxl := hB.len
    refine lc_it (walk_list (K := K) (a := l) (xs := xs)) (fun i G => ∃ acc : List V, G dl = some (.lst acc) ∧ acc.length = i ∧ DfL G ((bs.take i).map (cutD (Pk.cut .us))) acc [] ∧ Same _ G) ⟨[], upd_same, rfl, .n, same_upd hdl⟩ (fun _ G _ ⟨_, _, _, _, sG⟩ => .of (sG _ _ (s2 _ _ hl))) ?_ ?_
    · rintro i x G H' hi ⟨acc, hG, hal, hacc, sG⟩ ⟨rfl, hx⟩
      obtain ⟨d', f', hd', hDx, _⟩ := hB.at hx
      obtain ⟨t', ys', ss', rfl, ht', hn', htk', hcd', hss'⟩ := (hSt.2.1 d' (List.mem_of_getElem? hd')).1.at hDx
      have htG := sG _ _ (s2 _ _ ht')
      refine ⟨rfl, _, rfl, _, rfl, _, rfl, t', _, rfl, .of htG, notwhole hn', fun t3 ht3 => ?_⟩
      rw [cutTo _ _ (Nat.le_of_lt hn'), htk']
      refine ⟨acc, keep_new ht3 _ _ hG, lt1000 (by omega), acc ++ [.ref t3], upd_same, by rw [List.length_append, hal]; rfl, ?_, Same.put (sG.trans (same_upd ht3)) hdl⟩
      have et : bs.take (i + 1) = bs.take i ++ [d'] := by
        rw [List.take_succ, hd']
        rfl
      rw [et, List.map_append]
      refine ((hacc.same (same_upd ht3)).snoc (g := []) ?_).put (keep_new ht3 _ _ hG) (by simp)
      rw [hcd']
      exact tD upd_same (strs_df ss')
    rintro G ⟨acc, hG, hal, hacc, sG⟩
    rw [hxl, List.take_length] at hacc
    have hcut : Df G (cutD (Pk.cut .us) d) (.ref t2) [] := by
      rw [hcd]
      exact tD (sG _ _ upd_same) (strs_df ss)
    have hsh : Sh (cutD (Pk.cut .us) d) := by
      rw [hcd]
      exact sh_strs hss
    refine ⟨_, _, hcut.dp, .lst (.of hG) (hacc.dp), shaped_of hsh.1 hsh.2 (by decide), shaped_list (n := 1) (fun z hz => ?_) (by decide), ?_⟩
    · obtain ⟨z', hz', rfl⟩ := List.mem_map.mp hz
      obtain ⟨ss', r', e', hn', _, hs'⟩ := (hSt.2.1 z' hz').1
      have e2 : cutD (Pk.cut .us) z' = .tuple (ss'.map .str) := by
        rw [e', ← hn']
        show PyData.tuple ((ss'.map PyData.str ++ r').take ss'.length) = _
        have : (ss'.map PyData.str).length = ss'.length := List.length_map _
        rw [← this, List.take_left]
      rw [e2]
      exact sh_strs hs'
    exact q G (s2.trans sG)
  case ks =>
    obtain ⟨t, ys, ss, rfl, ht, hn, htk, hcd, hss⟩ := hSt.1.at hD
    refine ⟨_, rfl, rfl, _, rfl, ifF (by decide +kernel) (iteF ?_)⟩
    refine ⟨_, rfl, rfl, _, rfl, ifF (by decide +kernel) ?_⟩
    refine ⟨_, rfl, rfl, _, rfl, ifF (by decide +kernel) ?_⟩
    refine ⟨_, rfl, aH, _, _, rfl, rfl, Td'.heads .ks (fun z => nomatch z) (fun z => nomatch z), ?_⟩
    refine ⟨_, rfl, _, rfl, _, rfl, t, _, rfl, .of ht, notwhole hn, fun t2 ht2 => ?_⟩
    rw [cutTo _ _ (Nat.le_of_lt hn), htk]
    have s2 := (Same.refl H).trans (same_upd (o := .tup (ss.map V.str)) ht2)
    refine ⟨_, rfl, l, rfl, ⟨_, .of (s2 _ _ hl)⟩, fun dl hdl => ?_⟩
    have hxl := hB.len
    refine lc_it (walk_list (K := K) (a := l) (xs := xs)) (fun i G => ∃ acc : List V, G dl = some (.lst acc) ∧ acc.length = i ∧ DfL G ((bs.take i).map (cutD (Pk.cut .ks))) acc [] ∧ Same _ G) ⟨[], upd_same, rfl, .n, same_upd hdl⟩ (fun _ G _ ⟨_, _, _, _, sG⟩ => .of (sG _ _ (s2 _ _ hl))) ?_ ?_
    · rintro i x G H' hi ⟨acc, hG, hal, hacc, sG⟩ ⟨rfl, hx⟩
      obtain ⟨d', f', hd', hDx, _⟩ := hB.at hx
      obtain ⟨t', ys', ss', rfl, ht', hn', htk', hcd', hss'⟩ := (hSt.2.1 d' (List.mem_of_getElem? hd')).1.at hDx
      have htG := sG _ _ (s2 _ _ ht')
      refine ⟨rfl, _, rfl, _, rfl, _, rfl, t', _, rfl, .of htG, notwhole hn', fun t3 ht3 => ?_⟩
      rw [cutTo _ _ (Nat.le_of_lt hn'), htk']
      refine ⟨acc, keep_new ht3 _ _ hG, lt1000 (by omega), acc ++ [.ref t3], upd_same, by rw [List.length_append, hal]; rfl, ?_, Same.put (sG.trans (same_upd ht3)) hdl⟩
      have et : bs.take (i + 1) = bs.take i ++ [d'] := by
        rw [List.take_succ, hd']
        rfl
      rw [et, List.map_append]
      refine ((hacc.same (same_upd ht3)).snoc (g := []) ?_).put (keep_new ht3 _ _ hG) (by simp)
      rw [hcd']
      exact tD upd_same (strs_df ss')
    rintro G ⟨acc, hG, hal, hacc, sG⟩
    rw [hxl, List.take_length] at hacc
    have hcut : Df G (cutD (Pk.cut .ks) d) (.ref t2) [] := by
      rw [hcd]
      exact tD (sG _ _ upd_same) (strs_df ss)
    have hsh : Sh (cutD (Pk.cut .ks) d) := by
      rw [hcd]
      exact sh_strs hss
    refine ⟨_, _, hcut.dp, .lst (.of hG) (hacc.dp), shaped_of hsh.1 hsh.2 (by decide), shaped_list (n := 1) (fun z hz => ?_) (by decide), ?_⟩
    · obtain ⟨z', hz', rfl⟩ := List.mem_map.mp hz
      obtain ⟨ss', r', e', hn', _, hs'⟩ := (hSt.2.1 z' hz').1
      have e2 : cutD (Pk.cut .ks) z' = .tuple (ss'.map .str) := by
        rw [e', ← hn']
        show PyData.tuple ((ss'.map PyData.str ++ r').take ss'.length) = _
        have : (ss'.map PyData.str).length = ss'.length := List.length_map _
        rw [← this, List.take_left]
      rw [e2]
      exact sh_strs hs'
    exact q G (s2.trans sG)
  case ws => rcases few with h | h | h | h <;> cases h
  case as => rcases few with h | h | h | h <;> cases h
  case ts => rcases few with h | h | h | h <;> cases h
  case is => rcases few with h | h | h | h <;> cases h
  case bs => rcases few with h | h | h | h <;> cases h
  case ss =>
    obtain ⟨t, ys, ss, rfl, ht, hn, htk, hcd, hss⟩ := hSt.1.at hD
    refine ⟨_, rfl, rfl, _, rfl, ifT (by decide +kernel) ?_⟩
    refine ⟨_, rfl, sz 0, fun l0 h0 => ?_⟩
    have s0 := same_upd (o := .lst []) h0
    have hl0 := s0 _ _ hl
    have ht0 := s0 _ _ ht
    have hB0 := hB.same s0
    refine ⟨.list bs, .list [], .lst (.of hl0) (hB0.dp), .lst (.of upd_same) .nil, shaped_list (n := 1) (fun z hz => (hSt.2.2 rfl).2 z hz) (by decide), rfl, _, rfl, ?_⟩
    obtain ⟨⟨sn, st, ed⟩, hlay⟩ := hSt.2.2 rfl
    obtain ⟨t9, xs9, e9, ht9, hl9⟩ := (show Df H (.tuple [.str sn, .str st]) (.ref t) fp by rw [← ed]; exact hD)
    cases e9
    have exs : xs9 = ys := by
      rw [ht] at ht9
      cases ht9
      rfl
    subst exs
    have e4 : xs9 = [.str sn, .str st] := strs_v (ss := [sn, st]) hl9
    refine ite_keep (p := bs = [] ∧ st ≠ "") ?_ ?_ ?_
    rotate_left
    · intro e2 hB2
      have e3 : bs = [] := by
        cases bs with
        | nil => rfl
        | cons z r => cases e2
      subst e4
      refine ⟨_, rfl, t, _, 1, _, rfl, rfl, .of ht0, rfl, rfl, ?_⟩
      by_cases hst : st = ""
      · subst hst
        exact ⟨_, rfl, hB2 fun z => z.2 rfl⟩
      · refine ⟨_, rfl, ?_⟩
        refine ifT ?_ ?_
        · rw [decide_eq_false (fun z => hst (by injection z))]
          rfl
        have eS : standB .ss bs d = false := by
          show (first0 bs d && _) = false
          rw [e3, ed]
          show (decide (st = "") && _) = false
          rw [decide_eq_false hst]
          rfl
        have := q _ s0
        rw [eS] at this
        exact this
    · intro e2 z
      rw [z.1] at e2
      cases e2
    intro np
    have f0 : first0 bs d = true := by
      rw [ed]
      cases bs with
      | nil =>
        show decide (st = "") = true
        refine decide_eq_true ?_
        by_cases h : st = ""
        · exact h
        · exact absurd ⟨rfl, h⟩ np
      | cons z r => rfl
    have q : ∀ H', Same H H' → Q (.bl (!((bs.map (cutD (Pk.cut .ss))).any fun z => PyData.eqv z (cutD (Pk.cut .ss) d)))) H' := fun H' s => by
      have := q H' s
      have eS : standB .ss bs d = (first0 bs d && !((bs.map (cutD (Pk.cut .ss))).any fun z => PyData.eqv z (cutD (Pk.cut .ss) d))) := rfl
      rw [eS, f0] at this
      simpa using this
    refine iteF ?_
    refine ⟨_, rfl, rfl, _, rfl, ifF (by decide +kernel) ?_⟩
    refine ⟨_, rfl, rfl, _, rfl, ifF (by decide +kernel) ?_⟩
    refine ⟨_, rfl, aH, _, _, rfl, rfl, Td'.heads .ss (fun z => nomatch z) (fun z => nomatch z), ?_⟩
    refine ⟨_, rfl, _, rfl, _, rfl, t, _, rfl, .of ht0, notwhole hn, fun t2 ht2 => ?_⟩
    rw [cutTo _ _ (Nat.le_of_lt hn), htk]
    have s2 := s0.trans (same_upd (o := .tup (ss.map V.str)) ht2)
    refine ⟨_, rfl, l, rfl, ⟨_, .of (s2 _ _ hl)⟩, fun dl hdl => ?_⟩
    have hxl := hB.len
    refine lc_it (walk_list (K := K) (a := l) (xs := xs)) (fun i G => ∃ acc : List V, G dl = some (.lst acc) ∧ acc.length = i ∧ DfL G ((bs.take i).map (cutD (Pk.cut .ss))) acc [] ∧ Same _ G) ⟨[], upd_same, rfl, .n, same_upd hdl⟩ (fun _ G _ ⟨_, _, _, _, sG⟩ => .of (sG _ _ (s2 _ _ hl))) ?_ ?_
    · rintro i x G H' hi ⟨acc, hG, hal, hacc, sG⟩ ⟨rfl, hx⟩
      obtain ⟨d', f', hd', hDx, _⟩ := hB.at hx
      obtain ⟨t', ys', ss', rfl, ht', hn', htk', hcd', hss'⟩ := (hSt.2.1 d' (List.mem_of_getElem? hd')).1.at hDx
      have htG := sG _ _ (s2 _ _ ht')
      refine ⟨rfl, _, rfl, _, rfl, _, rfl, t', _, rfl, .of htG, notwhole hn', fun t3 ht3 => ?_⟩
      rw [cutTo _ _ (Nat.le_of_lt hn'), htk']
      refine ⟨acc, keep_new ht3 _ _ hG, lt1000 (by omega), acc ++ [.ref t3], upd_same, by rw [List.length_append, hal]; rfl, ?_, Same.put (sG.trans (same_upd ht3)) hdl⟩
      have et : bs.take (i + 1) = bs.take i ++ [d'] := by
        rw [List.take_succ, hd']
        rfl
      rw [et, List.map_append]
      refine ((hacc.same (same_upd ht3)).snoc (g := []) ?_).put (keep_new ht3 _ _ hG) (by simp)
      rw [hcd']
      exact tD upd_same (strs_df ss')
    rintro G ⟨acc, hG, hal, hacc, sG⟩
    rw [hxl, List.take_length] at hacc
    have hcut : Df G (cutD (Pk.cut .ss) d) (.ref t2) [] := by
      rw [hcd]
      exact tD (sG _ _ upd_same) (strs_df ss)
    have hsh : Sh (cutD (Pk.cut .ss) d) := by
      rw [hcd]
      exact sh_strs hss
    refine ⟨_, _, hcut.dp, .lst (.of hG) (hacc.dp), shaped_of hsh.1 hsh.2 (by decide), shaped_list (n := 1) (fun z hz => ?_) (by decide), ?_⟩
    · obtain ⟨z', hz', rfl⟩ := List.mem_map.mp hz
      obtain ⟨ss', r', e', hn', _, hs'⟩ := (hSt.2.1 z' hz').1
      have e2 : cutD (Pk.cut .ss) z' = .tuple (ss'.map .str) := by
        rw [e', ← hn']
        show PyData.tuple ((ss'.map PyData.str ++ r').take ss'.length) = _
        have : (ss'.map PyData.str).length = ss'.length := List.length_map _
        rw [← this, List.take_left]
      rw [e2]
      exact sh_strs hs'
    exact q G (s2.trans sG)
end
end My

namespace My
open PySem L2
/-! ### data told by a value: at most one -/
mutual
theorem Df.fn {H : Hp} : ∀ (d e : PyData) (v : V) (f g : List Addr), Df H d v f → Df H e v g → d = e
  | .none, e, v, f, g, h, k => by
    have ev : v = .non := h.1
    subst ev
    cases e with
    | none => rfl
    | bool b => cases k.1
    | int b => cases k.1
    | str b => cases k.1
    | list ds => obtain ⟨_, _, _, e, _⟩ := k; cases e
    | tuple ds => obtain ⟨_, _, e, _⟩ := k; cases e
    | dict _ => exact k.elim
  | .bool c, e, v, f, g, h, k => by
    have ev : v = .bl c := h.1
    subst ev
    cases e with
    | none => cases k.1
    | bool b => cases k.1; rfl
    | int b => cases k.1
    | str b => cases k.1
    | list ds => obtain ⟨_, _, _, e, _⟩ := k; cases e
    | tuple ds => obtain ⟨_, _, e, _⟩ := k; cases e
    | dict _ => exact k.elim
  | .int c, e, v, f, g, h, k => by
    have ev : v = .int c := h.1
    subst ev
    cases e with
    | none => cases k.1
    | bool b => cases k.1
    | int b => cases k.1; rfl
    | str b => cases k.1
    | list ds => obtain ⟨_, _, _, e, _⟩ := k; cases e
    | tuple ds => obtain ⟨_, _, e, _⟩ := k; cases e
    | dict _ => exact k.elim
  | .str c, e, v, f, g, h, k => by
    have ev : v = .str c := h.1
    subst ev
    cases e with
    | none => cases k.1
    | bool b => cases k.1
    | int b => cases k.1
    | str b => cases k.1; rfl
    | list ds => obtain ⟨_, _, _, e, _⟩ := k; cases e
    | tuple ds => obtain ⟨_, _, e, _⟩ := k; cases e
    | dict _ => exact k.elim
  | .list ds, e, v, f, g, h, k => by
    obtain ⟨a, xs, gp, e1, _, ha, hl⟩ := h
    subst e1
    cases e with
    | none => cases k.1
    | bool b => cases k.1
    | int b => cases k.1
    | str b => cases k.1
    | list es =>
      obtain ⟨a', xs', gp', e1', _, ha', hl'⟩ := k
      cases e1'
      rw [ha] at ha'
      cases ha'
      rw [DfL.fn ds es xs _ _ hl hl']
    | tuple es =>
      obtain ⟨a', xs', e1', ha', _⟩ := k
      cases e1'
      rw [ha] at ha'
      cases ha'
    | dict _ => exact k.elim
  | .tuple ds, e, v, f, g, h, k => by
    obtain ⟨a, xs, e1, ha, hl⟩ := h
    subst e1
    cases e with
    | none => cases k.1
    | bool b => cases k.1
    | int b => cases k.1
    | str b => cases k.1
    | list es =>
      obtain ⟨a', xs', gp', e1', _, ha', _⟩ := k
      cases e1'
      rw [ha] at ha'
      cases ha'
    | tuple es =>
      obtain ⟨a', xs', e1', ha', hl'⟩ := k
      cases e1'
      rw [ha] at ha'
      cases ha'
      rw [DfL.fn ds es xs _ _ hl hl']
    | dict _ => exact k.elim
  | .dict _, _, _, _, _, h, _ => h.elim
theorem DfL.fn {H : Hp} : ∀ (ds es : List PyData) (xs : List V) (f g : List Addr), DfL H ds xs f → DfL H es xs g → ds = es
  | [], es, xs, f, g, h, k => by
    have ex : xs = [] := h.1
    subst ex
    cases es with
    | nil => rfl
    | cons e es => obtain ⟨_, _, _, _, e, _⟩ := k; cases e
  | d :: ds, es, xs, f, g, h, k => by
    obtain ⟨x, r, f1, g1, e1, _, hx, hr⟩ := h
    subst e1
    cases es with
    | nil => cases k.1
    | cons e es =>
      obtain ⟨x', r', f2, g2, e2, _, hx', hr'⟩ := k
      cases e2
      rw [Df.fn d e x _ _ hx hx', DfL.fn ds es r _ _ hr hr']
end
mutual
/-- of a value that stood before -/
theorem Df.back {C : Addr} {H G : Hp} (s : Same H G) : ∀ (d : PyData) (v : V) (f : List Addr) (n : Nat), Df G d v f → Vd C H n v → d.depth ≤ n → Df H d v f
  | .none, _, _, _, h, _, _ => h
  | .bool _, _, _, _, h, _, _ => h
  | .int _, _, _, _, h, _, _ => h
  | .str _, _, _, _, h, _, _ => h
  | .list ds, v, f, n, h, hv, hn => by
    obtain ⟨a, xs, gp, e1, e2, ha, hl⟩ := h
    subst e1
    have hn' : PyData.depthAll ds + 1 ≤ n := hn
    obtain ⟨o, eo⟩ := hv.vl.obj
    have eG := s _ _ eo
    rw [ha] at eG
    cases eG
    cases n with
    | zero => omega
    | succ n => exact ⟨a, xs, gp, rfl, e2, eo, DfL.back s ds xs gp n hl (fun x hx => hv.item (.inr eo) hx) (by omega)⟩
  | .tuple ds, v, f, n, h, hv, hn => by
    obtain ⟨a, xs, e1, ha, hl⟩ := h
    subst e1
    have hn' : PyData.depthAll ds + 1 ≤ n := hn
    obtain ⟨o, eo⟩ := hv.vl.obj
    have eG := s _ _ eo
    rw [ha] at eG
    cases eG
    cases n with
    | zero => omega
    | succ n => exact ⟨a, xs, rfl, eo, DfL.back s ds xs f n hl (fun x hx => hv.item (.inl eo) hx) (by omega)⟩
  | .dict _, _, _, _, h, _, _ => h.elim
theorem DfL.back {C : Addr} {H G : Hp} (s : Same H G) : ∀ (ds : List PyData) (xs : List V) (f : List Addr) (n : Nat), DfL G ds xs f → (∀ x ∈ xs, Vd C H n x) → PyData.depthAll ds ≤ n → DfL H ds xs f
  | [], _, _, _, h, _, _ => h
  | d :: ds, xs, f, n, h, hv, hn => by
    obtain ⟨x, r, f1, g1, e1, e2, hx, hr⟩ := h
    subst e1
    have hn' : max d.depth (PyData.depthAll ds) ≤ n := hn
    exact ⟨x, r, f1, g1, rfl, e2, Df.back s d x f1 n hx (hv x List.mem_cons_self) (by omega), DfL.back s ds r g1 n hr (fun y hy => hv y (List.mem_cons_of_mem _ hy)) (by omega)⟩
end
theorem Few.dep {N : Nm5} {k : Pk} (f : Few k) {d : PyData} (h : ItemR N k d) : d.depth ≤ 1 := by
  have t2 : ∀ {a b : PyData}, a.depth ≤ 0 → b.depth ≤ 0 → (PyData.tuple [a, b]).depth ≤ 1 := fun {a b} h1 h2 => by
    show PyData.depthAll [a, b] + 1 ≤ 1
    have := deepAll_of (n := 0) (ds := [a, b]) (fun z hz => by
      rcases List.mem_cons.mp hz with rfl | hz
      · exact h1
      · rw [List.mem_singleton.mp hz]
        exact h2)
    omega
  rcases f with rfl | rfl | rfl | rfl
  · obtain ⟨s, t, rfl, _⟩ := h
    exact t2 (Nat.le_refl _) (Nat.le_refl _)
  · obtain ⟨s, t, rfl, _⟩ := h
    exact t2 (Nat.le_refl _) (Nat.le_refl _)
  · obtain ⟨s, t, rfl, _⟩ := h
    exact t2 (Nat.le_refl _) (Nat.le_refl _)
  · obtain ⟨s, rfl, _⟩ := h
    exact Nat.zero_le _
theorem RightI.back {C : Addr} {N : Nm5} {k : Pk} (f : Few k) {H G : Hp} (s : Same H G) {v : V} {n : Nat} (hv : Vd C H (n + 1) v) (h : RightI N k G v) : RightI N k H v := by
  obtain ⟨d, fp, hi, hd⟩ := h
  exact ⟨d, fp, hi, Df.back s d v fp (n + 1) hd hv (Nat.le_trans (f.dep hi) (by omega))⟩
theorem Few.shape1 {N : Nm5} {k : Pk} (f : Few k) (hk : k ≠ .ms) {d : PyData} (h : ItemR N k d) : Cut 1 d ∧ (k = .ss → (∃ s t, d = .tuple [.str s, .str t]) ∧ d.canLay0 = true ∧ d.depth ≤ 1) := by
  rcases f with rfl | rfl | rfl | rfl
  · obtain ⟨s, t, rfl, hs, ht⟩ := h
    refine ⟨⟨[s], [.str t], rfl, rfl, by simp, by simpa using hs⟩, fun _ => ⟨⟨s, t, rfl⟩, ?_⟩⟩
    refine sh_tup fun x hx => ?_
    rcases List.mem_cons.mp hx with rfl | hx
    · exact ⟨strOk_nm hs, Nat.le_refl _⟩
    · rw [List.mem_singleton.mp hx]
      have : ∀ t ∈ traits, PyData.strOk t = true := by decide +kernel
      exact ⟨this t ht, Nat.le_refl _⟩
  · obtain ⟨s, t, rfl, hs⟩ := h
    exact ⟨⟨[s], [.bool t], rfl, rfl, by simp, by simpa using hs⟩, nofun⟩
  · obtain ⟨s, t, rfl, hs⟩ := h
    exact ⟨⟨[s], [.bool t], rfl, rfl, by simp, by simpa using hs⟩, nofun⟩
  · exact absurd rfl hk
theorem Few.shape {N : Nm5} {k : Pk} (f : Few k) {bs : List PyData} {d : PyData} (h : ItemR N k d) (hb : ∀ z ∈ bs, ItemR N k z) : ShapeS k bs d := by
  by_cases hk : k = .ms
  · subst hk
    obtain ⟨s, rfl, hs⟩ := h
    refine ⟨⟨s, rfl, hs⟩, fun z hz => ?_⟩
    obtain ⟨t, rfl, ht⟩ := hb z hz
    exact ⟨t, rfl, ht⟩
  · have c1 := f.shape1 hk h
    have c2 := fun z hz => f.shape1 hk (hb z hz)
    rcases f with rfl | rfl | rfl | rfl
    · exact ⟨c1.1, fun z hz => ⟨(c2 z hz).1, trivial⟩, fun _ => ⟨(c1.2 rfl).1, fun z hz => ((c2 z hz).2 rfl).2⟩⟩
    · exact ⟨c1.1, fun z hz => ⟨(c2 z hz).1, trivial⟩, nofun⟩
    · exact ⟨c1.1, fun z hz => ⟨(c2 z hz).1, trivial⟩, nofun⟩
    · exact absurd rfl hk
/-- the first j items are right, and may stand -/
def GoodTo (N : Nm5) (k : Pk) (H : Hp) (xs : List V) (j : Nat) : Prop := ∃ ds fp, DfL H ds (xs.take j) fp ∧ (∀ d ∈ ds, ItemR N k d) ∧ ∀ (i : Nat) (d : PyData), ds[i]? = some d → standB k (ds.take i) d = true
def LenOk (k : Pk) (H : Hp) (v : V) : Prop := ∃ l xs, v = .ref l ∧ H l = some (.lst xs) ∧ k.lo ≤ xs.length ∧ xs.length ≤ k.hi
/-- the index of the first wrong item -/
def WI (N : Nm5) (k : Pk) (H : Hp) (v : V) : Option Int → Prop
  | none => ∃ l xs, v = .ref l ∧ H l = some (.lst xs) ∧ k.lo ≤ xs.length ∧ xs.length ≤ k.hi ∧ GoodTo N k H xs xs.length
  | some i => (¬ LenOk k H v ∧ i = -1) ∨ ∃ l xs, ∃ j : Nat, v = .ref l ∧ H l = some (.lst xs) ∧ k.lo ≤ xs.length ∧ xs.length ≤ k.hi ∧ i = (j : Int) ∧ j < xs.length ∧ GoodTo N k H xs j ∧ ¬ GoodTo N k H xs (j + 1)
def oI : Option Int → V
  | none => .non
  | some i => .int i
theorem GoodTo.zero {N : Nm5} {k : Pk} {H : Hp} {xs : List V} : GoodTo N k H xs 0 := ⟨[], [], by rw [List.take_zero]; exact .n, fun d hd => (by cases hd), fun i d e => (by simp at e)⟩
/-- one item more -/
theorem GoodTo.succ {N : Nm5} {k : Pk} {H : Hp} {xs : List V} {j : Nat} {x : V} (hx : xs[j]? = some x) : GoodTo N k H xs (j + 1) ↔ ∃ ds fp d f, DfL H ds (xs.take j) fp ∧ (∀ d ∈ ds, ItemR N k d) ∧ (∀ (i : Nat) (d : PyData), ds[i]? = some d → standB k (ds.take i) d = true) ∧ Df H d x f ∧ ItemR N k d ∧ standB k ds d = true := by
  have et : xs.take (j + 1) = xs.take j ++ [x] := by
    rw [List.take_succ, hx]
    rfl
  have hj : j < xs.length := (List.getElem?_eq_some_iff.mp hx).1
  constructor
  · rintro ⟨ds, fp, h1, h2, h3⟩
    rw [et] at h1
    have hl := h1.len
    have hlen : ds.length = j + 1 := by
      rw [← hl, List.length_append, List.length_take, List.length_singleton]
      omega
    obtain ⟨d, hd⟩ : ∃ d, ds[j]? = some d := ⟨_, List.getElem?_eq_getElem (by omega)⟩
    have ed : ds = ds.take j ++ [d] := by
      have := List.take_succ (l := ds) (i := j)
      rw [hd, List.take_of_length_le (show ds.length ≤ j + 1 by omega)] at this
      simpa using this
    rw [ed] at h1
    obtain ⟨ys, zs, f, g, e1, d1, d2, _⟩ := h1.split
    have ly := d1.len
    have hly : ys.length = (xs.take j).length := by
      rw [ly, List.length_take, List.length_take]
      omega
    obtain ⟨rfl, rfl⟩ := List.append_inj e1 hly.symm
    obtain ⟨x', r, f1, g1, e2, _, hx', _⟩ := d2
    cases e2
    exact ⟨ds.take j, f, d, f1, d1, fun z hz => h2 z (List.mem_of_mem_take hz), fun i z e => by
      have hi : i < j := by
        have := (List.getElem?_eq_some_iff.mp e).1
        rw [List.length_take] at this
        omega
      rw [List.getElem?_take_of_lt hi] at e
      have := h3 i z e
      rw [List.take_take, Nat.min_eq_left (by omega)]
      exact this, hx', h2 d (List.mem_of_getElem? hd), h3 j d hd⟩
  · rintro ⟨ds, fp, d, f, h1, h2, h3, h4, h5, h6⟩
    have hl := h1.len
    have hlen : ds.length = j := by
      rw [← hl, List.length_take]
      omega
    refine ⟨ds ++ [d], fp ++ f, by rw [et]; exact h1.snoc h4, fun z hz => ?_, fun i z e => ?_⟩
    · rcases List.mem_append.mp hz with h | h
      · exact h2 z h
      · rw [List.mem_singleton.mp h]
        exact h5
    · by_cases hi : i < ds.length
      · rw [List.getElem?_append_left hi] at e
        rw [List.take_append_of_le_length (by omega)]
        exact h3 i z e
      · rw [List.getElem?_append_right (by omega)] at e
        have ei : i = ds.length := by
          have := (List.getElem?_eq_some_iff.mp e).1
          rw [List.length_singleton] at this
          omega
        subst ei
        rw [Nat.sub_self] at e
        cases e
        rw [List.take_left]
        exact h6
theorem GoodTo.pred {N : Nm5} {k : Pk} {H : Hp} {xs : List V} {j : Nat} (hj : j < xs.length) (h : GoodTo N k H xs (j + 1)) : GoodTo N k H xs j := by
  obtain ⟨ds, fp, d, f, h1, h2, h3, _⟩ := (GoodTo.succ (List.getElem?_eq_getElem hj)).mp h
  exact ⟨ds, fp, h1, h2, h3⟩
theorem GoodTo.down {N : Nm5} {k : Pk} {H : Hp} {xs : List V} {j : Nat} : ∀ {i : Nat}, j ≤ i → i ≤ xs.length → GoodTo N k H xs i → GoodTo N k H xs j := by
  intro i
  induction i with
  | zero =>
    intro h _ g
    have e : j = 0 := by omega
    rw [e]
    exact g
  | succ i ih =>
    intro h hi g
    by_cases e : j = i + 1
    · rw [e]
      exact g
    · exact ih (by omega) (by omega) (g.pred (by omega))
theorem WI.uniq {N : Nm5} {k : Pk} {H : Hp} {v : V} {r r' : Option Int} (h : WI N k H v r) (h' : WI N k H v r') : r = r' := by
  have len : ∀ {l : Addr} {xs : List V}, v = .ref l → H l = some (.lst xs) → k.lo ≤ xs.length → xs.length ≤ k.hi → LenOk k H v := fun e1 e2 e3 e4 => ⟨_, _, e1, e2, e3, e4⟩
  cases r with
  | none =>
    obtain ⟨l, xs, rfl, e, h1, h2, g⟩ := h
    cases r' with
    | none => rfl
    | some i =>
      rcases h' with ⟨n, _⟩ | ⟨l', xs', j, e1, e2, _, _, _, hj, _, ng⟩
      · exact absurd (len rfl e h1 h2) n
      · cases e1
        rw [e] at e2
        cases e2
        exact absurd (g.down (by omega) (Nat.le_refl _)) ng
  | some i =>
    cases r' with
    | none =>
      obtain ⟨l, xs, rfl, e, h1, h2, g⟩ := h'
      rcases h with ⟨n, _⟩ | ⟨l', xs', j, e1, e2, _, _, _, hj, _, ng⟩
      · exact absurd (len rfl e h1 h2) n
      · cases e1
        rw [e] at e2
        cases e2
        exact absurd (g.down (by omega) (Nat.le_refl _)) ng
    | some i' =>
      rcases h with ⟨n, ei⟩ | ⟨l, xs, j, e1, e2, h1, h2, ei, hj, g, ng⟩
      · rcases h' with ⟨_, ei'⟩ | ⟨l', xs', j', e1', e2', h1', h2', _⟩
        · rw [ei, ei']
        · exact absurd (len e1' e2' h1' h2') n
      · rcases h' with ⟨n, _⟩ | ⟨l', xs', j', e1', e2', h1', h2', ei', hj', g', ng'⟩
        · exact absurd (len e1 e2 h1 h2) n
        · subst e1
          cases e1'
          rw [e2] at e2'
          cases e2'
          have : j = j' := by
            by_cases a : j < j'
            · exact absurd (g'.down (by omega) (by omega)) ng
            · by_cases b : j' < j
              · exact absurd (g.down (by omega) (by omega)) ng'
              · omega
          rw [ei, ei', this]
def spIndexX (C : Addr) (N : Nm5) (k : Pk) : Sp := fun vs H Q _ => ∃ (v : V) (nd : Addr), vs = [.str k.nm, v, .ref nd] ∧ Vd C H 5 v ∧ Wk N k H nd ∧ ∀ r H', Same H H' → WI N k H v r → Q (oI r) H'
section
variable {P : Program} {w : World} {K : PySem.W.Frag} {mg : Str → Option Value} {base : Heap} {tl : Tok} {aP aN aT aO aL aH aI C : Addr} {it : Pk → Addr}
theorem Wk.on' {N : Nm5} {k : Pk} {H G : Hp} {nd : Addr} (f : Few k) (h : Wk N k H nd) : Wk N k G nd := by
  rcases f with rfl | rfl | rfl | rfl <;> exact trivial
theorem ok_wrong_indexX {f f1 : Addr} {fd fd1 : FuncData} (N : Nm5) (k : Pk) (few : Few k) (B : IsB K C) (D : DefT K mg "wrong_index" "wrong_index" s_wrong_index ["part", "rows", "names"] f fd) (Z : Zs mg) (T : Tb K mg tl aP aN aT aO aL aH aI) (Td' : Td K w aL aH aI it)
    (D_may_stand : DefT K mg "may_stand" "may_stand" s_may_stand ["part", "row", "before"] f1 fd1) (hI : Held P w K mg base 4 (it k) (spItemX C N k)) :
    FnOk P w K mg base CX0 5 f fd ["part", "rows", "names"] (spIndexX C N k) := by
  have G_may_stand := ok_may_standX (P := P) (w := w) (base := base) D_may_stand Z T Td'
  refine D.F.ok sc_wrong_index (fun vs H Q E h => ?_) (fun cdv A outer s H vs Q E hr h => ?_)
  · obtain ⟨v, nd, rfl, _⟩ := h
    rfl
  obtain ⟨v, nd, rfl, hv, hW, q⟩ := h
  obtain ⟨fd5, ps5, F5, hk5, hb5⟩ := hI.ex
  obtain ⟨tL, hL, hLs⟩ := Td'.lengths k
  have h30 := k.hi30
  refine ⟨_, (pss_cons (ps_asg (pe_ix ix_kdict (pe_glob (v := .ref aL) rfl T.lengths rfl) (pv 0) (fun _ _ => rfl)) (pg_tup rfl (pgs_cons (pg_name (i := 3) sc_wrong_index.nd rfl (Or.inl rfl)) (pgs_cons (pg_name (i := 4) sc_wrong_index.nd rfl (Or.inl rfl)) pgs_nil)))) (pss_cons (ps_if (PW.pt (pw_or (pt_not (pt_val (pe_callB call_isi (by rfl) Z.isinstance (by decide +kernel) (pa_cons (pv 1) (pa_cons (pe_bltn (v := .ty "list") (by rfl) Z.list (by decide +kernel) rfl) pa_nil))))) (pw_or1 (pt_not (pt_chain op_le op_le (pv 3) (pe_callB call_len_seq (by rfl) Z.len (by decide +kernel) (pa_cons (pv 1) pa_nil)) (pv 4)))))) (pss_one (ps_ret (pe_un un_neg pe_int))) pss_nil) (pss_cons (ps_set (i := 5) sc_wrong_index.nd rfl (Or.inl rfl) (pe_ix ix_kdict (pe_glob (v := .ref aI) rfl T.items rfl) (pv 0) (fun _ _ => rfl))) (pss_cons (ps_for PassesOwn.never rfl (pi_enum (by rfl) Z.enumerate (pa_cons (pv 1) pa_nil)) (pg_tup rfl (pgs_cons (pg_name (i := 6) sc_wrong_index.nd rfl (Or.inl rfl)) (pgs_cons (pg_name (i := 7) sc_wrong_index.nd rfl (Or.inl rfl)) pgs_nil))) (pss_one (ps_if (PW.pt (pw_or (pt_not (pt_val (pe_callL (i := 5) F5 (hr.mono (by decide)) rfl (Or.inl rfl) hk5 hb5 .nil pass0 (pa_cons (pv 7) (pa_cons (pv 2) pa_nil))))) (pw_or1 (pt_not (pt_val (pe_call G_may_stand (hr.mono (by decide)) rfl D_may_stand.m D_may_stand.F.kp D_may_stand.b .nil pass0 (pa_cons (pv 0) (pa_cons (pv 7) (pa_cons (pe_slice sl_list (pv 1) po_none (po_some (pv 6))) pa_nil))))))))) (pss_one (ps_ret (pv 6))) pss_nil))) (pss_one (ps_ret pe_non)))))), ?_⟩
  refine ⟨_, rfl, aL, _, _, rfl, rfl, hL, tL, _, rfl, hLs.t _, rfl, _, _, rfl, _, _, rfl, rfl, ?_⟩
  obtain ⟨t, b1, b2, b3, b4, ty, _, k2, _, _, _, i2, _⟩ := hv.vl.kinds B
  refine ⟨_, rfl, _, _, _, _, _, rfl, .ty _, ty, k2, _, rfl, ?_⟩
  have bad : ¬ LenOk k H v → Q (.int (-1)) H := fun h => q (some (-1)) H (Same.refl H) (.inl ⟨h, rfl⟩)
  cases b2 with
  | false => exact iteT ⟨_, rfl, bad fun ⟨l, xs, e1, e2, _⟩ => by
      have := i2.mpr ⟨l, xs, e1, e2⟩
      cases this⟩
  | true =>
  obtain ⟨l, xs, rfl, hl⟩ := i2.mp rfl
  refine iteF ?_
  refine ⟨_, rfl, _, rfl, l, _, rfl, .inl (.of hl), _, _, rfl, rfl, _, rfl, ?_⟩
  have nolen : ¬ (k.lo ≤ xs.length ∧ xs.length ≤ k.hi) → ¬ LenOk k H (.ref l) := fun n ⟨l', xs', e1, e2, e3, e4⟩ => by
    cases e1
    rw [hl] at e2
    cases e2
    exact n ⟨e3, e4⟩
  by_cases h1 : k.lo ≤ xs.length
  rotate_left
  · refine ifF (decide_eq_false (by omega)) ?_
    exact ⟨_, rfl, iteT ⟨_, rfl, bad (nolen fun z => h1 z.1)⟩⟩
  refine ifT (decide_eq_true (by omega)) ⟨_, rfl, _, _, rfl, rfl, _, rfl, ?_⟩
  by_cases h2 : xs.length ≤ k.hi
  rotate_left
  · rw [decide_eq_false (show ¬ ((xs.length : Nat) : Int) ≤ (k.hi : Nat) by omega)]
    exact iteT ⟨_, rfl, bad (nolen fun z => h2 z.2)⟩
  rw [decide_eq_true (show ((xs.length : Nat) : Int) ≤ (k.hi : Nat) by omega)]
  refine iteF ?_
  refine ⟨_, rfl, aI, _, _, rfl, rfl, Td'.items k, ?_⟩
  refine ⟨_, rfl, l, xs, rfl, .of hl, for_it (walk_enum (K := K) (a := l) (xs := xs)) (fun i σ G => ∃ v6 v7 : Option V, σ = [some (.str k.nm), some (.ref l), some (.ref nd), some (.int (k.lo : Nat)), some (.int (k.hi : Nat)), some (.ref (it k)), v6, v7] ∧ Same H G ∧ GoodTo N k H xs i) ⟨_, _, rfl, Same.refl H, .zero⟩ (fun _ _ G _ ⟨_, _, _, sG, _⟩ => .of (sG _ _ hl)) ?_ ?_⟩
  · rintro i x σ G H' hi ⟨v6, v7, rfl, sG, hg⟩ ⟨T0, x0, x1, rfl, hT, rfl, e0, e1⟩
    cases e0
    have sT := sG.trans (same_upd (o := .tup [.int (i : Int), x1]) hT)
    have hvx : Vd C H 4 x1 := hv.item (.inr hl) (List.mem_of_getElem? e1)
    have hil : i < xs.length := (List.getElem?_eq_some_iff.mp e1).1
    have fail : ∀ {G' : Hp}, Same H G' → ¬ GoodTo N k H xs (i + 1) → Q (.int (i : Int)) G' := fun s n => q (some (i : Int)) _ s (.inr ⟨l, xs, i, rfl, hl, h1, h2, rfl, hil, hg, n⟩)
    refine ⟨T0, _, rfl, .of upd_same, rfl, _, _, rfl, _, _, rfl, rfl, ?_⟩
    refine ⟨rfl, _, rfl, _, rfl, x1, nd, rfl, hvx.same sT, hW.on' few, fun r H2 s2 hr1 => ⟨_, rfl, ?_⟩⟩
    cases r with
    | false =>
      refine iteT ⟨_, rfl, fail (sT.trans s2) fun g => ?_⟩
      obtain ⟨ds, fp, d, f, _, _, _, h4, h5, _⟩ := (GoodTo.succ e1).mp g
      have := hr1.mpr ⟨d, f, h5, h4.same sT⟩
      cases this
    | true =>
    obtain ⟨d, f', hit, hDx⟩ := RightI.back few sT hvx (hr1.mp rfl)
    refine iteF ?_
    have s12 := sT.trans s2
    refine ⟨_, rfl, _, rfl, _, rfl, _, rfl, _, rfl, l, _, rfl, .of (s12 _ _ hl), fun lc hlc => ?_⟩
    rw [cutTo _ i (by omega)]
    have sC := s12.trans (same_upd (o := .lst (xs.take i)) hlc)
    obtain ⟨ds, gp, hTk, hds, hst⟩ := hg
    have hlen : ds.length = i := by
      rw [← hTk.len, List.length_take]
      omega
    refine ⟨k, x1, d, f', gp, lc, _, ds, rfl, few, hDx.same sC, upd_same, hTk.same sC, by omega, few.shape hit hds, fun H3 s3 => ⟨_, rfl, ?_⟩⟩
    cases eb : standB k ds d with
    | false =>
      refine iteT ⟨_, rfl, fail (sC.trans s3) fun g => ?_⟩
      obtain ⟨ds', fp, d', f, h3, _, _, h4, _, h6⟩ := (GoodTo.succ e1).mp g
      have ed := Df.fn _ _ _ _ _ h4 hDx
      have eds := DfL.fn _ _ _ _ _ h3 hTk
      rw [ed, eds, eb] at h6
      cases h6
    | true =>
      refine iteF ⟨_, _, rfl, sC.trans s3, (GoodTo.succ e1).mpr ⟨ds, gp, d, f', hTk, hds, hst, hDx, hit, eb⟩⟩
  · rintro σ G ⟨_, _, rfl, sG, hg⟩
    exact q none G sG ⟨l, xs, rfl, hl, h1, h2, hg⟩
end
end My

namespace My
open PySem L2
theorem FnOk.ex {P : Program} {w : World} {K : PySem.W.Frag} {mg : Str → Option Value} {base : Heap} {CX : CXT} {n : Nat} {f : Addr} {fd : FuncData} {ps : List Str} {α : Type} {p : α → Prop} {s : α → Sp} (a : ∀ k, p k → FnOk P w K mg base CX n f fd ps (s k)) :
    FnOk P w K mg base CX n f fd ps (fun vs H Q E => ∃ k, p k ∧ s k vs H Q E) :=
  ⟨fun vs H Q E ⟨k, hk, h⟩ => (a k hk).len vs H Q E h, fun A outer s H args us vs Q E r e h1 h2 ⟨k, hk, h⟩ => (a k hk).run A outer s H args us vs Q E r e h1 h2 h⟩
theorem GoodTo.same {N : Nm5} {k : Pk} {H G : Hp} {xs : List V} {j : Nat} (s : Same H G) (h : GoodTo N k H xs j) : GoodTo N k G xs j := by
  obtain ⟨ds, fp, h1, h2, h3⟩ := h
  exact ⟨ds, fp, h1.same s, h2, h3⟩
theorem GoodTo.back {C : Addr} {N : Nm5} {k : Pk} (f : Few k) {H G : Hp} {xs : List V} {j : Nat} (s : Same H G) {l : Addr} (hv : Vd C H 5 (.ref l)) (hl : H l = some (.lst xs)) (h : GoodTo N k G xs j) : GoodTo N k H xs j := by
  obtain ⟨ds, fp, h1, h2, h3⟩ := h
  exact ⟨ds, fp, DfL.back s ds _ fp 4 h1 (fun x hx => hv.item (.inr hl) (List.mem_of_mem_take hx)) (deepAll_of fun d hd => Nat.le_trans (f.dep (h2 d hd)) (by omega)), h2, h3⟩
theorem WI.same {C : Addr} {N : Nm5} {k : Pk} (f : Few k) {H G : Hp} {v : V} {r : Option Int} (s : Same H G) (hv : Vd C H 5 v) (h : WI N k H v r) : WI N k G v r := by
  cases r with
  | none =>
    obtain ⟨l, xs, rfl, e, h1, h2, g⟩ := h
    exact ⟨l, xs, rfl, s _ _ e, h1, h2, g.same s⟩
  | some i =>
    rcases h with ⟨n, ei⟩ | ⟨l, xs, j, rfl, e2, h1, h2, ei, hj, g, ng⟩
    · refine .inl ⟨fun ⟨l, xs, e1, e2, e3, e4⟩ => n ?_, ei⟩
      subst e1
      obtain ⟨o, eo⟩ := hv.vl.obj
      have := s _ _ eo
      rw [e2] at this
      cases this
      exact ⟨l, xs, rfl, eo, e3, e4⟩
    · exact .inr ⟨l, xs, j, rfl, s _ _ e2, h1, h2, ei, hj, g.same s, fun z => ng (z.back f s hv e2)⟩
theorem IsLs.back {C : Addr} {H G : Hp} {v : V} (s : Same H G) (hv : Vl C H v) (h : IsLs G v) : IsLs H v := by
  obtain ⟨a, xs, rfl, e⟩ := h
  obtain ⟨o, eo⟩ := hv.obj
  have := s _ _ eo
  rw [e] at this
  cases this
  exact ⟨a, xs, rfl, eo⟩
def spIndexNo (C : Addr) : Sp := fun vs H Q _ => ∃ (k : Pk) (v : V) (nd : Addr), vs = [.str k.nm, v, .ref nd] ∧ Vl C H v ∧ ¬ IsLs H v ∧ Q (.int (-1)) H
/-- a part that is right -/
def FineP (b : RB) (k : Pk) (H : Hp) (v : V) : Prop := ∃ l xs gp, v = .ref l ∧ H l = some (.lst xs) ∧ DfL H (b.ds k) xs gp ∧ k.lo ≤ (b.ds k).length ∧ (b.ds k).length ≤ k.hi ∧ (∀ d ∈ b.ds k, ItemR b.N k d) ∧ (∀ (i : Nat) (d : PyData), (b.ds k)[i]? = some d → Stand k ((b.ds k).take i) d) ∧ HasNm k (b.ds k) (b.nms k)
/-- a part that is wrong, at i -/
def WrongP (C : Addr) (Ex : Pk → Prop) (b : RB) (k : Pk) (H : Hp) (v : V) (i : Int) : Prop := (Few k ∧ Ex k ∧ Vd C H 5 v ∧ WI b.N k H v (some i)) ∨ (Vl C H v ∧ ¬ IsLs H v ∧ i = -1)
theorem WrongP.same {C : Addr} {Ex : Pk → Prop} {b : RB} {k : Pk} {H G : Hp} {v : V} {i : Int} (s : Same H G) (h : WrongP C Ex b k H v i) : WrongP C Ex b k G v i := by
  rcases h with ⟨f, e, hv, hw⟩ | ⟨hv, n, ei⟩
  · exact .inl ⟨f, e, hv.same s, hw.same f s hv⟩
  · exact .inr ⟨hv.same s, fun z => n (z.back s hv), ei⟩
def spPartX (C : Addr) (Ex : Pk → Prop) (b : RB) : Sp := fun vs H Q _ => ∃ (tp : Addr) (vals : List V), vs = [.ref tp] ∧ H tp = some (.tup vals) ∧ vals.length = 9 ∧
  (((∀ (j : Nat) (k : Pk), allPk[j]? = some k → ∃ v, vals[j]? = some v ∧ FineP b k H v) ∧ ∀ H', Same H H' → Q .non H') ∨
   ∃ (j : Nat) (k : Pk) (v : V) (i : Int), allPk[j]? = some k ∧ vals[j]? = some v ∧ WrongP C Ex b k H v i ∧ (∀ (j' : Nat) (k' : Pk), j' < j → allPk[j']? = some k' → ∃ v', vals[j']? = some v' ∧ FineP b k' H v') ∧
     ∀ (H' : Hp) (t : Addr), Same H H' → H' t = some (.tup [.str k.nm, .int i]) → Q (.ref t) H')
section
variable {P : Program} {w : World} {K : PySem.W.Frag} {mg : Str → Option Value} {base : Heap} {tl : Tok} {aP aN aT aO aL aH aI C : Addr} {it : Pk → Addr}
theorem ok_wrong_indexNo {f : Addr} {fd : FuncData} (B : IsB K C) (D : DefT K mg "wrong_index" "wrong_index" s_wrong_index ["part", "rows", "names"] f fd) (Z : Zs mg) (T : Tb K mg tl aP aN aT aO aL aH aI) (Td' : Td K w aL aH aI it)
    {f1 : Addr} {fd1 : FuncData} (D_may_stand : DefT K mg "may_stand" "may_stand" s_may_stand ["part", "row", "before"] f1 fd1) (hI : ∀ k, ∃ sp, Held P w K mg base 4 (it k) sp) : FnOk P w K mg base CX0 5 f fd ["part", "rows", "names"] (spIndexNo C) := by
  have G_may_stand := ok_may_standX (P := P) (w := w) (base := base) D_may_stand Z T Td'
  refine D.F.ok sc_wrong_index (fun vs H Q E h => ?_) (fun cdv A outer s H vs Q E hr h => ?_)
  · obtain ⟨k, v, nd, rfl, _⟩ := h
    rfl
  obtain ⟨k, v, nd, rfl, hv, nl, q⟩ := h
  obtain ⟨sp, hIk⟩ := hI k
  obtain ⟨fd5, ps5, F5, hk5, hb5⟩ := hIk.ex
  obtain ⟨tL, hL, hLs⟩ := Td'.lengths k
  refine ⟨_, (pss_cons (ps_asg (pe_ix ix_kdict (pe_glob (v := .ref aL) rfl T.lengths rfl) (pv 0) (fun _ _ => rfl)) (pg_tup rfl (pgs_cons (pg_name (i := 3) sc_wrong_index.nd rfl (Or.inl rfl)) (pgs_cons (pg_name (i := 4) sc_wrong_index.nd rfl (Or.inl rfl)) pgs_nil)))) (pss_cons (ps_if (PW.pt (pw_or (pt_not (pt_val (pe_callB call_isi (by rfl) Z.isinstance (by decide +kernel) (pa_cons (pv 1) (pa_cons (pe_bltn (v := .ty "list") (by rfl) Z.list (by decide +kernel) rfl) pa_nil))))) (pw_or1 (pt_not (pt_chain op_le op_le (pv 3) (pe_callB call_len_seq (by rfl) Z.len (by decide +kernel) (pa_cons (pv 1) pa_nil)) (pv 4)))))) (pss_one (ps_ret (pe_un un_neg pe_int))) pss_nil) (pss_cons (ps_set (i := 5) sc_wrong_index.nd rfl (Or.inl rfl) (pe_ix ix_kdict (pe_glob (v := .ref aI) rfl T.items rfl) (pv 0) (fun _ _ => rfl))) (pss_cons (ps_for PassesOwn.never rfl (pi_enum (by rfl) Z.enumerate (pa_cons (pv 1) pa_nil)) (pg_tup rfl (pgs_cons (pg_name (i := 6) sc_wrong_index.nd rfl (Or.inl rfl)) (pgs_cons (pg_name (i := 7) sc_wrong_index.nd rfl (Or.inl rfl)) pgs_nil))) (pss_one (ps_if (PW.pt (pw_or (pt_not (pt_val (pe_callL (i := 5) F5 (hr.mono (by decide)) rfl (Or.inl rfl) hk5 hb5 .nil pass0 (pa_cons (pv 7) (pa_cons (pv 2) pa_nil))))) (pw_or1 (pt_not (pt_val (pe_call G_may_stand (hr.mono (by decide)) rfl D_may_stand.m D_may_stand.F.kp D_may_stand.b .nil pass0 (pa_cons (pv 0) (pa_cons (pv 7) (pa_cons (pe_slice sl_list (pv 1) po_none (po_some (pv 6))) pa_nil))))))))) (pss_one (ps_ret (pv 6))) pss_nil))) (pss_one (ps_ret pe_non)))))), ?_⟩
  refine ⟨_, rfl, aL, _, _, rfl, rfl, hL, tL, _, rfl, hLs.t _, rfl, _, _, rfl, _, _, rfl, rfl, ?_⟩
  obtain ⟨t, b1, b2, b3, b4, ty, _, k2, _, _, _, i2, _⟩ := hv.kinds B
  refine ⟨_, rfl, _, _, _, _, _, rfl, .ty _, ty, k2, _, rfl, ?_⟩
  cases b2 with
  | false => exact iteT ⟨_, rfl, q⟩
  | true => exact absurd (i2.mp rfl) nl
theorem ok_wrong_partX {Ex : Pk → Prop} {f f1 f2 f3 : Addr} {fd fd1 fd2 fd3 : FuncData} (b : RB) (hN : NOk b.N) (B : IsB K C) (D : DefT K mg "wrong_part" "wrong_part" s_wrong_part ["parts"] f fd) (Z : Zs mg) (T : Tb K mg tl aP aN aT aO aL aH aI) (Td' : Td K w aL aH aI it)
    (D_may_stand : DefT K mg "may_stand" "may_stand" s_may_stand ["part", "row", "before"] f1 fd1) (D_wrong_index : DefT K mg "wrong_index" "wrong_index" s_wrong_index ["part", "rows", "names"] f2 fd2) (D_names_in : DefT K mg "names_in" "names_in" s_names_in ["part", "rows"] f3 fd3)
    (hI : ∀ N, NOk N → ∀ k, Held P w K mg base 4 (it k) (spItem (ItemR N k) (Wk N k))) (hX : ∀ k, Few k ∧ Ex k → Held P w K mg base 4 (it k) (spItemX C b.N k)) :
    FnOk P w K mg base CX0 6 f fd ["parts"] (spPartX C Ex b) := by
  have G_names_in := ok_names_in (P := P) (w := w) (base := base) D_names_in Z T
  refine D.F.ok sc_wrong_part (fun vs H Q E h => ?_) (fun cdv A outer s H vs Q E hr h => ?_)
  · obtain ⟨tp, vals, rfl, _⟩ := h
    rfl
  obtain ⟨tp, vals, rfl, ht, h9, q⟩ := h
  have G1 := ok_wrong_index (P := P) (w := w) (base := base) b.N D_wrong_index Z T Td' D_may_stand (hI b.N hN)
  have G2 := FnOk.ex (s := spIndexX C b.N) (p := fun k => Few k ∧ Ex k) fun k hk => ok_wrong_indexX (P := P) (w := w) (base := base) b.N k hk.1 B D_wrong_index Z T Td' D_may_stand (hX k hk)
  have G3 := ok_wrong_indexNo (P := P) (w := w) (base := base) B D_wrong_index Z T Td' D_may_stand fun k => ⟨_, hI b.N hN k⟩
  have G_wrong_index := FnOk.or' G1 (FnOk.or' G2 G3)
  refine ⟨_, (pss_cons (ps_set (i := 1) sc_wrong_part.nd rfl (Or.inl rfl) (pe_dnewK)) (pss_cons (ps_for PassesOwn.never rfl (RZ.pi_zipA (by rfl) Z.zip (pa_cons (pe_glob (v := .ref aP) rfl T.parts rfl) (pa_cons (pv 0) pa_nil))) (pg_tup rfl (pgs_cons (pg_name (i := 2) sc_wrong_part.nd rfl (Or.inl rfl)) (pgs_cons (pg_name (i := 3) sc_wrong_part.nd rfl (Or.inl rfl)) pgs_nil))) (pss_cons (ps_set (i := 4) sc_wrong_part.nd rfl (Or.inl rfl) (pe_call G_wrong_index (hr.mono (by decide)) rfl D_wrong_index.m D_wrong_index.F.kp D_wrong_index.b .nil pass0 (pa_cons (pv 2) (pa_cons (pv 3) (pa_cons (pv 1) pa_nil))))) (pss_cons (ps_if (pt_cmpR op_notN (pv 4) pe_non (nomark _)) (pss_one (ps_ret (pe_tup (pa_cons (pv 2) (pa_cons (pv 4) pa_nil))))) pss_nil) (pss_one (ps_asg (pe_call G_names_in (hr.mono (by decide)) rfl D_names_in.m D_names_in.F.kp D_names_in.b .nil pass0 (pa_cons (pv 2) (pa_cons (pv 3) pa_nil))) (pg_sub (pv 1) (pv 2) (set_dict (hu_of hr)))))))) (pss_one (ps_ret pe_non)))), ?_⟩
  refine fun nd hnd => ?_
  have s0 := same_upd (o := .dK []) hnd
  -- how many parts are gone through
  have fine : ∃ n ≤ 9, (∀ (j : Nat) (k : Pk), j < n → allPk[j]? = some k → ∃ v, vals[j]? = some v ∧ FineP b k H v) ∧ ((n = 9 ∧ ∀ H', Same H H' → Q .non H') ∨ ∃ (k : Pk) (v : V) (i : Int), allPk[n]? = some k ∧ vals[n]? = some v ∧ WrongP C Ex b k H v i ∧
      ∀ (H' : Hp) (t : Addr), Same H H' → H' t = some (.tup [.str k.nm, .int i]) → Q (.ref t) H') := by
    rcases q with ⟨h1, h2⟩ | ⟨j, k, v, i, e1, e2, hw, h1, h2⟩
    · exact ⟨9, by omega, fun j k _ e => h1 j k e, .inl ⟨rfl, h2⟩⟩
    · have : j < 9 := (List.getElem?_eq_some_iff.mp e1).1
      exact ⟨j, by omega, h1, .inr ⟨k, v, i, e1, e2, hw, h2⟩⟩
  obtain ⟨n, hn9, hfine, hend⟩ := fine
  refine ⟨_, rfl, aP, tp, pParts.map V.str, vals, rfl, .inr ⟨T.parts_.t _, .of (s0 _ _ ht), ?_⟩⟩
  refine RZ.for_zipT (by rw [h9]; rfl) (fun i σ G => i ≤ n ∧ ∃ (v2 v3 v4 : Option V) (kvs : List (Key × V)), σ = [some (.ref tp), some (.ref nd), v2, v3, v4] ∧ Same H G ∧ G nd = some (.dK kvs) ∧ kvs.length ≤ i ∧ Told b i kvs G)
    ⟨Nat.zero_le _, _, _, _, [], rfl, s0, upd_same, Nat.le_refl _, fun _ _ h _ => absurd h (Nat.not_lt_zero _)⟩ (fun i σ G ⟨_, _, _, _, _, _, sG, _⟩ => ⟨T.parts_.t _, .of (sG _ _ ht)⟩) ?_ ?_
  · rintro i x y T0 σ G hx hy ⟨hin, v2, v3, v4, kvs, rfl, sG, hnG, hlen, hTo⟩ hT
    rw [pParts_eq] at hx
    obtain ⟨z, rfl, hz⟩ := str_at hx
    rw [List.getElem?_map] at hz
    obtain ⟨k, hk, rfl⟩ := Option.map_eq_some_iff.mp hz
    have i9 : i < 9 := (List.getElem?_eq_some_iff.mp hk).1
    have sT := sG.trans (same_upd (o := .tup [.str k.nm, y]) hT)
    have sGT := same_upd (H := G) (o := .tup [.str k.nm, y]) hT
    have hTT : Told b i kvs (upd G T0 (.tup [.str k.nm, y])) := fun j q hj hq => by
      obtain ⟨l0, h1, h2⟩ := hTo j q hj hq
      exact ⟨l0, h1, sGT _ _ h2⟩
    refine ⟨T0, _, rfl, .of upd_same, rfl, _, _, rfl, _, _, rfl, rfl, ?_⟩
    by_cases hil : i < n
    · obtain ⟨v, hv, l, xs, gp, rfl, hl, hDk, flo, fhi, fit, fst, fnm⟩ := hfine i k hil hk
      rw [hy] at hv
      cases hv
      refine ⟨_, rfl, _, rfl, _, rfl, .inl ⟨k, l, xs, b.ds k, gp, nd, rfl, sT _ _ hl, hDk.same sT, flo, fhi, fit, fst, hTT.wk (sGT _ _ hnG) hk, fun H2 s2 => ?_⟩⟩
      refine ⟨_, rfl, rfl, _, rfl, ifF (by decide +kernel) ?_⟩
      have sT2 := sT.trans s2
      have sG2 := sGT.trans s2
      refine ⟨_, rfl, _, rfl, k, l, xs, b.ds k, gp, b.nms k, rfl, sT2 _ _ hl, hDk.same sT2, Nat.le_trans fhi k.hi30, fnm, fun l' G3 s3 e3 n3 => ?_⟩
      have sG3 := sG2.trans s3
      refine ⟨_, rfl, _, rfl, nd, _, rfl, DPut.k (k := Sum.inr k.nm) (sG3 _ _ hnG) (lt1000 (by omega)), ?_⟩
      refine ⟨by omega, _, _, _, _, rfl, Same.put (sT2.trans s3) hnd, upd_same, Nat.le_trans putK_len (by omega), fun j q hj hq => ?_⟩
      by_cases ej : j = i
      · subst ej
        rw [hk] at hq
        cases hq
        refine ⟨l', by rw [valV_put, if_pos rfl], ?_⟩
        rw [upd_ne (ne_of e3 (sG3 _ _ hnG) (by intro z; cases z))]
        exact e3
      · obtain ⟨l0, h1, h2⟩ := hTo j q (by omega) hq
        have h3 := sG3 _ _ h2
        refine ⟨l0, ?_, ?_⟩
        · rw [valV_put, if_neg (fun z => nm_inj hk hq (fun w => ej w.symm) (Sum.inr.inj z))]
          exact h1
        · rw [upd_ne (ne_of h3 (sG3 _ _ hnG) (by intro z; cases z))]
          exact h3
    · have ein : i = n := by omega
      subst ein
      rcases hend with ⟨e9, _⟩ | ⟨k', v, r, ek, ev, hw, qt⟩
      · omega
      rw [hk] at ek
      cases ek
      rw [hy] at ev
      cases ev
      have hend : ∀ G2, Same (upd G T0 (.tup [.str k.nm, y])) G2 → ∀ t, G2 t = none → Q (.ref t) (upd G2 t (.tup [.str k.nm, .int r])) := fun G2 s2 t ht2 => qt _ t ((sT.trans s2).trans (same_upd ht2)) upd_same
      rcases hw.same sT with ⟨few, hex, hvd, hwi⟩ | ⟨hvl, nl, er⟩
      · refine ⟨_, rfl, _, rfl, _, rfl, .inr (.inl ⟨k, ⟨few, hex⟩, y, nd, rfl, hvd, hTT.wk (sGT _ _ hnG) hk, fun r' H2 s2 hwi' => ?_⟩)⟩
        have er := WI.uniq hwi' hwi
        subst er
        refine ⟨_, rfl, rfl, _, rfl, ifT rfl ?_⟩
        exact ⟨_, rfl, _, rfl, sz 2, fun t ht2 => hend H2 s2 t ht2⟩
      · subst er
        refine ⟨_, rfl, _, rfl, _, rfl, .inr (.inr ⟨k, y, nd, rfl, hvl, nl, ?_⟩)⟩
        refine ⟨_, rfl, rfl, _, rfl, ifT rfl ?_⟩
        exact ⟨_, rfl, _, rfl, sz 2, fun t ht2 => hend _ (Same.refl _) t ht2⟩
  · rintro σ G ⟨hin, v2, v3, v4, kvs, rfl, sG, _⟩
    have e9 : n = 9 := by
      have : (pParts.map V.str).length = 9 := rfl
      omega
    rcases hend with ⟨_, h⟩ | ⟨k', v, r, ek, _⟩
    · exact h G sG
    · subst e9
      cases ek
end
end My

namespace My
open PySem L2
abbrev s_NoBook__init_ : Stmt := inClass (top 2) 0
theorem sc_NoBook__init_ : FnScope ["self", "part", "index"] ["self", "part", "index"] (defScope s_NoBook__init_) := ⟨rfl, rfl, rfl, by decide +kernel, rfl, by decide +kernel, by decide +kernel⟩
/-! ### an error without fields, made by a call without arguments -/
theorem pmk_bare {X : Cx} {C : Addr} {bmB : List Value} {B newId initId : String} {x : Str} {p pos : Pos} (F : ExcBaseFacts B newId initId bmB) (q : PySem.W.excIn X.K C bmB newId = true) (gC : X.mg x = some (.ref C))
    (kC : PySem.W.keepIn X.K (.ref C) = true) (r : Raises X (.ref C)) (hg : Gl X x) (hdb : (x == ("__debug__" : Str)) = false := by decide) : PMk X (.Call (.Name x p) [] [] pos) (fun _ H Q => Q (.ref C) none H) := by
  intro pins s σ H Q I h
  obtain ⟨_, _, _, _, _, _, _, _, _, _, _, _, _, _, _, _, _, hC, hN, hni, T⟩ := exc_obj I.kIn q
  exact wpAny_Call_Name_kw (ld_glob I hg gC (PySem.W.callWith_K0 I.kIn kC (wpAny_call_exc_subT F T hC hN hni (fun h' e hm => mk_of I hm r h (I.hok.gone hm.new)) (Nat.zero_le _))) hdb)
/-- what the written part says of a class without fields -/
structure PlX (K : PySem.W.Frag) (mg : Str → Option Value) (x : Str) (C : Addr) : Prop where
  g : mg x = some (.ref C)
  e : PySem.W.excIn K C [.type "ValueError", .type "Exception", .type "BaseException", .type "object"] "ValueError.__new__" = true
  k : PySem.W.keepIn K (.ref C) = true
  s : PySem.W.subIn K (.ref C) (.type "BaseException") = some true
  t : PySem.W.typeIn K (.ref C) = some (.type "type")
theorem pmk_pl {X : Cx} {C : Addr} {x : Str} {p pos : Pos} (T : PlX X.K X.mg x C) (hg : Gl X x) (hdb : (x == ("__debug__" : Str)) = false := by decide) : PMk X (.Call (.Name x p) [] [] pos) (fun _ H Q => Q (.ref C) none H) :=
  pmk_bare PySem.F.excBase_ValueError T.e T.g T.k (raises_own T.s T.t) hg hdb
/-- what the written part says of a class with fields -/
structure FlX (K : PySem.W.Frag) (mg : Str → Option Value) (x qual : Str) (st : Stmt) (ps : List Str) (C fI : Addr) (fdI : FuncData) : Prop where
  g : mg x = some (.ref C)
  o : OexC K C
  i : PySem.W.findIn K (.ref C) "__init__" = some (some (.ref fI))
  ti : PySem.W.typeIn K (.ref fI) = some (.type "function")
  F : Fun K "__init__" qual st fI fdI
  b : Binds K fdI ps []
def spI1 (K : PySem.W.Frag) (C : Addr) (f : Str) : Sp := fun vs H Q _ => ∃ (a : Addr) (v : V), vs = [.ref a, v] ∧ OexC K C ∧ PySem.W.findIn K (.ref C) f = some none ∧ H a = some (exo a C none) ∧
  ∀ dx, H dx = none → dx ≠ a → Q .non (upd (upd H dx (exd dx [(f, v)])) a (exo a C (some dx)))
def spI2 (K : PySem.W.Frag) (C : Addr) (f g : Str) : Sp := fun vs H Q _ => ∃ (a : Addr) (v u : V), vs = [.ref a, v, u] ∧ OexC K C ∧ PySem.W.findIn K (.ref C) f = some none ∧ PySem.W.findIn K (.ref C) g = some none ∧ H a = some (exo a C none) ∧
  ∀ dx, H dx = none → dx ≠ a → Q .non (upd (upd (upd H dx (exd dx [(f, v)])) a (exo a C (some dx))) dx (exd dx [(g, u), (f, v)]))
section
variable {P : Program} {w : World} {K : PySem.W.Frag} {mg : Str → Option Value} {base : Heap}
theorem ok_NoBook {C f : Addr} {fd : FuncData} (F : Fun K "__init__" "NoBook.__init__" s_NoBook__init_ f fd) : FnOk P w K mg base CX0 1 f fd ["self", "part", "index"] (spI2 K C "part" "index") := by
  refine F.ok sc_NoBook__init_ (fun vs H Q E h => ?_) (fun cdv A outer s H vs Q E hr h => ?_)
  · obtain ⟨a, v, u, rfl, _⟩ := h
    rfl
  obtain ⟨a, v, u, rfl, T, hf, hg, ha, q⟩ := h
  refine ⟨_, (pss_cons (ps_ost (pv 0) (pv 1)) (pss_one (ps_ost (pv 0) (pv 2)))), ?_⟩
  refine ⟨_, rfl, _, rfl, a, C, rfl, T, hf, .inl ⟨ha, fun dx hdx ne => ?_⟩⟩
  refine ⟨_, rfl, _, rfl, a, C, rfl, T, hg, .inr ⟨dx, _, upd_same, (by rw [upd_ne ne]; exact upd_same), (by show 1 ≤ 900; decide), ?_⟩⟩
  exact q dx hdx ne
end
end My

namespace My
open PySem PySem.Spec PyProof.Rows L2
/-! ### isinstance of the error that a suite holds, whether it has fields or not -/
/-- what the class at D must say -/
structure IsX (K : PySem.W.Frag) (D : Addr) : Prop where
  cl : (PySem.W.clsIn K D).isSome = true
  ga : PySem.W.findIn K (.ref D) "__getattribute__" = some (some (.builtin "BaseException.__getattribute__"))
  gg : PySem.W.findIn K (.ref D) "__getattr__" = some none
  ex : PySem.W.subIn K (.ref D) (.type "BaseException") = some true
  ca : PySem.W.findIn K (.ref D) "__class__" = some (some (.builtin "object.__class__"))
  cn : PySem.W.specialIn K (.builtin "object.__class__") "__get__" = some (some (.builtin "getset_descriptor.__get__"))
  ct : PySem.W.takesIn K (.builtin "object.__class__") = some true
  cm : PySem.W.mroIn K D (.type "object") = some true
/-- the error's own dict, if it has one, is tracked -/
def DOk (H : Hp) (d : Option Addr) : Prop := d = none ∨ ∃ x fs, d = some x ∧ H x = some (.xd fs)
def rIsX (K : PySem.W.Frag) (a : Addr) (cls : Value) (d : Option Addr) : List V → Hp → VK → Prop := fun xs H Q => ∃ (D : Addr) (c : V) (cv : Value) (b : Bool), cls = .ref D ∧ IsX K D ∧ DOk H d ∧ xs = [.ref a, c] ∧ ClsV c cv ∧ PySem.W.kitOne K (.ref D) cv = some b ∧ Q (.bl b) H
theorem inst_of {X : Cx} {pins : List (Addr × Obj)} {σ : L2.St} {H : Hp} {s : Shared} {a D : Addr} {oe : Obj} {d : Option Addr} (I : Inv X pins σ H s) (ho : s.heap.get? a = some oe) (hz : Zc (.ref D) d oe) (hf : ∃ vs, oe.data = .fields vs) (hd : DOk H d) : ∃ od, PySem.W.InstAt s.heap a oe D od := by
  obtain ⟨oc, odx, odt, osl⟩ := oe
  obtain ⟨e1, e2⟩ := hz
  obtain ⟨vs, e3⟩ := hf
  dsimp only at e1 e2 e3
  subst e1 e2 e3
  rcases hd with e | ⟨x, fs, e, hx⟩
  · subst e
    exact ⟨none, ho, rfl, rfl, trivial⟩
  · subst e
    obtain ⟨_, ⟨od, _, _, hg, _⟩, _⟩ := (show ObjOk X.prog X.w H s.heap x (.xd fs) from I.hok x _ hx)
    exact ⟨some od, ho, rfl, rfl, hg⟩
theorem call_isX {X : Cx} {K : PySem.W.Frag} (hK : X.K = K) {a : Addr} {cls : Value} {d : Option Addr} {oe : Obj} {pn : List (Addr × Obj)} (hz : Zc cls d oe) (hf : ∃ vs, oe.data = .fields vs) : CallR (X.suite a ((a, oe) :: pn)) (.builtin "isinstance") (rIsX K a cls d) := by
  subst hK
  intro pins s σ H xs us Q I r h
  obtain ⟨D, c, cv, b, rfl, T, hd, rfl, hc, e, q⟩ := h
  obtain ⟨u1, u2, rfl, r1, r2⟩ := vals2 r
  have e2 := hc.eq r2
  subst e2
  cases (show u1 = Value.ref a from r1)
  obtain ⟨ho, _⟩ := I.pin (a, oe) (List.mem_append.mpr (.inl List.mem_cons_self))
  obtain ⟨od, J⟩ := inst_of I ho hz hf hd
  exact PySem.W.kia_one (PySem.W.kitx_exc T.cl T.ga T.gg T.ex T.ca T.cn T.ct T.cm) I.kIn J e (fun z => nomatch z) fun tk => ⟨.bl b, H, I.tok tk, rfl, q⟩
/-! ### several clauses, with names or without -/
/-- a clause: the class, the slot of its name (if it has one), its suite -/
structure Cl where
  c : Value
  i : Option Nat
  ts : Addr → Value → Option Addr → TS
def drop' (i : Option Nat) (σ : L2.St) : L2.St := match i with
  | some i => σ.set i none
  | none => σ
def put' (i : Option Nat) (a : Addr) (σ : L2.St) : L2.St := match i with
  | some i => σ.set i (some (.ref a))
  | none => σ
def behind (i : Option Nat) (D : Ends) : Ends := { nx := fun σ H => D.nx (drop' i σ) H, rt := D.rt, bk := fun σ H => D.bk (drop' i σ) H, ct := fun σ H => D.ct (drop' i σ) H }
/-- what the clauses wish, one behind the other -/
def wCls (K : PySem.W.Frag) (Wout : WX) (D : Ends) : List Cl → WX
  | [] => Wout
  | k :: r => fun cls d σ H => ∃ b, PySem.W.exmOne K cls k.c = some b ∧ (b = true → ∀ a, H a = none → k.ts a cls d (behind k.i D) (put' k.i a σ) H) ∧ (b = false → wCls K Wout D r cls d σ H)
inductive ClsOk (X : Cx) : List ExceptHandler → List Cl → Prop
  | nil : ClsOk X [] []
  | bare {x : Str} {c : Value} {ts : Addr → Value → Option Addr → TS} {s0 : Stmt} {ss : List Stmt} {np hp : Pos} {hs : List ExceptHandler} {l : List Cl} (hc : Names X x c)
      (hb : ∀ (a : Addr) (oe : Obj) (cls : Value) (d : Option Addr) (pn : List (Addr × Obj)), Zc cls d oe → (∃ vs, oe.data = .fields vs) → PSs (X.suite a ((a, oe) :: pn)) (s0 :: ss) (ts a cls d)) (r : ClsOk X hs l) :
      ClsOk X (.ExceptHandler (some (.Name x np)) none (s0 :: ss) hp :: hs) (⟨c, none, ts⟩ :: l)
  | named {x n : Str} {c : Value} {i : Nat} {ts : Addr → Value → Option Addr → TS} {s0 : Stmt} {ss : List Stmt} {np hp : Pos} {hs : List ExceptHandler} {l : List Cl} (hc : Names X x c) (hN : X.N.Nodup) (hi : X.N[i]? = some n) (hn : X.env.kindOf n = some .local)
      (hb : ∀ (a : Addr) (oe : Obj) (cls : Value) (d : Option Addr) (pn : List (Addr × Obj)), Zc cls d oe → (∃ vs, oe.data = .fields vs) → PSs (X.suite a ((a, oe) :: pn)) (s0 :: ss) (ts a cls d)) (r : ClsOk X hs l) :
      ClsOk X (.ExceptHandler (some (.Name x np)) (some n) (s0 :: ss) hp :: hs) (⟨c, some i, ts⟩ :: l)
section
variable {X : Cx} {pins : List (Addr × Obj)} {σ : L2.St} {H : Hp} {a : Addr} {cls : Value} {d : Option Addr}
/-- an error that is in flight in this frame's try -/
structure Fly (X : Cx) (pins : List (Addr × Obj)) (σ : L2.St) (H : Hp) (a : Addr) (cls : Value) (d : Option Addr) (B : Heap) (s0 s : Shared) : Prop where
  I : Inv X pins σ H s0
  nb : ∀ b o, s0.heap.get? b = some o → b ∉ frs X.stack → B.get? b = some o
  up : s0.heap.UpToSlots s.heap
  fl : HandSPX.FlyingZ B (X.env :: X.outer) a (Zc cls d) s.heap
  na : H a = none
  os : s.os = s0.os
  ag : AllBare s.gens
variable {B : Heap} {s0 s : Shared}
theorem Fly.inv (F : Fly X pins σ H a cls d B s0 s) : Inv X pins σ H s := F.I.landed F.nb F.fl.1 F.up F.os F.ag
theorem Fly.to {h' : Heap} (F : Fly X pins σ H a cls d B s0 s) (fl' : HandSPX.FlyingZ B (X.env :: X.outer) a (Zc cls d) h') (u : s.heap.UpToSlots h') : Fly X pins σ H a cls d B s0 { s with heap := h' } := ⟨F.I, F.nb, F.up.trans u, fl', F.na, F.os, F.ag⟩
/-- the error is no frame of ours -/
theorem Fly.nf (F : Fly X pins σ H a cls d B s0 s) : a ∉ frs (X.env :: X.outer) := fun hm => by
  obtain ⟨_, _, ff, oe, vs, _, _, _, he, _, hd, _⟩ := F.fl
  obtain ⟨_, o', e', hnf⟩ := ff.mem hm
  rw [he] at e'
  cases e'
  exact hnf _ hd
theorem Fly.nL (F : Fly X pins σ H a cls d B s0 s) (hf : X.env.frame = some X.env.locals) : a ≠ X.env.locals := fun z => F.nf (List.mem_filterMap.mpr ⟨X.env, List.mem_cons_self, by rw [hf, z]⟩)
theorem Fly.nS (F : Fly X pins σ H a cls d B s0 s) : a ∉ X.fs := fun hm => by
  obtain ⟨e, he, q⟩ := List.mem_filterMap.mp hm
  exact F.nf (List.mem_filterMap.mpr ⟨e, List.mem_cons_of_mem _ he, q⟩)
theorem Fly.suite (F : Fly X pins σ H a cls d B s0 s) (hf : X.env.frame = some X.env.locals) : ∃ oe, Zc cls d oe ∧ (∃ vs, oe.data = .fields vs) ∧ s.heap.get? a = some oe ∧ Inv (X.suite a ((a, oe) :: (X.pn ++ pins))) [] σ H s := by
  obtain ⟨oe, vs, he, hz, hd⟩ := F.fl.there
  exact ⟨oe, hz, ⟨vs, hd⟩, he, F.inv.suite he hd F.na (F.nL hf) F.nS⟩
/-- the name in a clause's head is read -/
theorem name_read {x : Str} {c : Value} {np : Pos} {oe : Obj} {Q : Value → Shared → Prop} {E : Value → Shared → Prop} (hc : Names X x c) (S : Inv (X.suite a ((a, oe) :: (X.pn ++ pins))) [] σ H s) (q : Q c s) : wpAny (model X.prog X.w) (X.A.mark (some (.ref a))) (eval (.Name x np) X.env) Q E s := by
  obtain ⟨hg, hdb, hm | ⟨hm, hv, hn⟩⟩ := hc
  · exact ld_glob (X := X.suite a ((a, oe) :: (X.pn ++ pins))) S hg hm q hdb
  · exact ld_blt (X := X.suite a ((a, oe) :: (X.pn ++ pins))) S hg hm hv q hn hdb
/-- one clause after the other -/
theorem cls_run {D : Ends} {Wout : WX} (hs : X.stack = X.env :: X.outer) (hf : X.env.frame = some X.env.locals) (tk : Takes X Wout) : ∀ {hds : List ExceptHandler} {l : List Cl}, ClsOk X hds l → ∀ {s : Shared}, Fly X pins σ H a cls d B s0 s → wCls X.K Wout D l cls d σ H →
    wpAny (model X.prog X.w) X.A (handleBy (.ref a) X.env hds) (SP X pins D) X.xe s := by
  intro hds l k
  induction k with
  | nil =>
    intro s F w
    refine wpAny_handleBy_nil ?_
    obtain ⟨_, _, _, oe, vs, T, oT, ts, he, hz, hd, h1, _⟩ := id F.fl
    unfold PySem.passOn
    refine wpAny_bind (wpAny_field he hd h1 ?_)
    rw [if_neg (show ¬ ((Value.ref T == Value.none) = true) from by simp)]
    have out : wpAny (model X.prog X.w) X.A (setFlight (.ref a) X.env.frame) (fun _ s4 => wpAny (model X.prog X.w) X.A (throw (.ref a) : Sem Flow) (SP X pins D) X.xe s4) X.xe s := by
      rw [hf]
      exact HandSPX.setFlight_upZ F.fl fun h4 hh u4 => wpAny_throw (tk _ _ ⟨a, B, s0, pins, σ, H, cls, d, rfl, F.I, F.nb, F.up.trans u4, .inr (.inr (by rw [hs]; exact hh)), F.na, F.os, F.ag, w⟩)
    first
      | exact wpAny_bind (wpAny_pure (wpAny_bind out))
      | exact wpAny_bind out
  | @bare x c ts b0 ss np hp hds' l' hc hb r ih =>
    intro s F w
    obtain ⟨b, hb1, yes, no⟩ := w
    obtain ⟨oe, hz, hd, he, S⟩ := F.suite hf
    refine wpAny_handleBy_cons (codeAny_handlers_test ?_) (by intro q; cases q)
    have look : PySem.W.Looks (model X.prog X.w) s.heap (typeOf (.ref a)) cls := fun A Q E s' k q => wpAny_typeOf_ref (k _ _ he) (by rw [hz.1]; exact q)
    refine name_read hc S ((PySem.W.exm_one (M := model X.prog X.w) F.inv.kIn look hb1).here ?_)
    cases b with
    | false => exact ih F (no rfl)
    | true =>
      refine codeAny_handlers_suite (HandSPX.lands_againZ F.fl fun h4 fl4 u4 => ?_)
      have F4 := F.to fl4 u4
      obtain ⟨oe4, hz4, hd4, he4, S4⟩ := F4.suite hf
      refine wpAny_mono ((hb a oe4 cls d (X.pn ++ pins) hz4 hd4).run [] _ _ H _ S4 (yes rfl a F.na)) (fun f s6 e => ?_) (fun _ _ z => False.elim z)
      cases f with
      | ret u =>
        obtain ⟨v6, t6, H6, S6, r6, q6⟩ := e
        exact ⟨v6, t6, H6, S6.unsuite F.I.ok, r6, q6⟩
      | next =>
        obtain ⟨t6, H6, S6, q6⟩ := e
        exact ⟨t6, H6, S6.unsuite F.I.ok, q6⟩
      | brk =>
        obtain ⟨t6, H6, S6, q6⟩ := e
        exact ⟨t6, H6, S6.unsuite F.I.ok, q6⟩
      | cont =>
        obtain ⟨t6, H6, S6, q6⟩ := e
        exact ⟨t6, H6, S6.unsuite F.I.ok, q6⟩
  | @named x n c i ts b0 ss np hp hds' l' hc hN hi hn hb r ih =>
    intro s F w
    obtain ⟨b, hb1, yes, no⟩ := w
    obtain ⟨oe, hz, hd, he, S⟩ := F.suite hf
    refine wpAny_handleBy_cons (codeAny_handlers_test ?_) (by intro q; cases q)
    have look : PySem.W.Looks (model X.prog X.w) s.heap (typeOf (.ref a)) cls := fun A Q E s' k q => wpAny_typeOf_ref (k _ _ he) (by rw [hz.1]; exact q)
    refine name_read hc S ((PySem.W.exm_one (M := model X.prog X.w) F.inv.kIn look hb1).here ?_)
    cases b with
    | false => exact ih F (no rfl)
    | true =>
      refine codeAny_handlers_suite_as (HandSPX.lands_againZ F.fl fun h4 fl4 u4 => ?_)
      have F4 := F.to fl4 u4
      obtain ⟨oe4, hz4, hd4, he4, S4⟩ := F4.suite hf
      refine store_ok (X := X.suite a ((a, oe4) :: (X.pn ++ pins))) (v := .ref a) S4 hN hi (.inl hn) rfl (fun s5 S5 => ?_) (.inr hn)
      refine wpAny_mono ((hb a oe4 cls d (X.pn ++ pins) hz4 hd4).run [] s5 _ H _ S5 (yes rfl a F.na)) (fun f s6 e => ?_) (fun _ _ z => False.elim z)
      cases f with
      | ret u =>
        obtain ⟨v6, t6, H6, S6, r6, q6⟩ := e
        exact gone_ok (S6.unsuite F.I.ok) hN hi hn fun s7 J7 => ⟨v6, _, H6, J7, r6, q6⟩
      | next =>
        obtain ⟨t6, H6, S6, q6⟩ := e
        exact gone_ok (S6.unsuite F.I.ok) hN hi hn fun s7 J7 => ⟨_, H6, J7, q6⟩
      | brk =>
        obtain ⟨t6, H6, S6, q6⟩ := e
        exact gone_ok (S6.unsuite F.I.ok) hN hi hn fun s7 J7 => ⟨_, H6, J7, q6⟩
      | cont =>
        obtain ⟨t6, H6, S6, q6⟩ := e
        exact gone_ok (S6.unsuite F.I.ok) hN hi hn fun s7 J7 => ⟨_, H6, J7, q6⟩
end
/-- try: body, and a list of except clauses -/
theorem ps_try_cls {X : Cx} {body : List Stmt} {h0 : ExceptHandler} {hds : List ExceptHandler} {l : List Cl} {pos : Pos} {tb : WX → TS} {Wout : WX} (hs : X.stack = X.env :: X.outer) (hf : X.env.frame = some X.env.locals) (tk : Takes X Wout)
    (hb : ∀ (W : WX) (pn : List (Addr × Obj)) (xe : Value → Shared → Prop), Takes (X.tr pn xe) W → PassesOwn (model X.prog X.w) X.A X.env xe → PSs (X.tr pn xe) body (tb W))
    (hk : ClsOk X (h0 :: hds) l) : PS X (.Try body (h0 :: hds) [] [] pos) (fun D σ H => tb (wCls X.K Wout D l) D σ H) := by
  refine ⟨fun pins s σ H D I h => ?_⟩
  have ok := I.ok
  have fr : X.A.frames = some (X.env :: X.outer) := by rw [ok.frames, hs]
  refine wpAny_Try_except ?_
  refine wpAny_mono ((hb (wCls X.K Wout D l) (X.pn ++ pins) _ ?_ PassesOwn.looking).run [] s σ H D (I.toTry _) h) (fun f s1 e => ?_) (fun e s1 he => he)
  · intro u s' xx
    obtain ⟨a, B, sI, pins', σ', H', cls, d, rfl, J', nb, up, sky, na, os, ag, w⟩ := xx
    have J : Inv X pins σ' H' sI := J'.ofTry ok
    show wpAny (model X.prog X.w) X.A (noteFrame (.ref a) X.env) _ _ _
    refine Sky.land Zc.steady fr hf (by rw [← hs]; exact sky) fun h3 fl3 up3 => ?_
    exact cls_run hs hf tk hk (s := { s' with heap := h3 }) ⟨J, nb, up.trans up3, fl3, na, os, ag⟩ w
  · cases f with
    | ret u =>
      obtain ⟨v, t, G, J, r, q⟩ := e
      exact ⟨v, t, G, J.ofTry ok, r, q⟩
    | next =>
      obtain ⟨t, G, J, q⟩ := e
      exact wpAny_execs_nil ⟨t, G, J.ofTry ok, q⟩
    | brk =>
      obtain ⟨t, G, J, q⟩ := e
      exact ⟨t, G, J.ofTry ok, q⟩
    | cont =>
      obtain ⟨t, G, J, q⟩ := e
      exact ⟨t, G, J.ofTry ok, q⟩
end My

namespace My
open PySem L2
structure NBk (K : PySem.W.Frag) (mg : Str → Option Value) (CN fI : Addr) (fdI : FuncData) : Prop where
  x0 : FlX K mg "NoBook" "NoBook.__init__" s_NoBook__init_ ["self", "part", "index"] CN fI fdI
  np : PySem.W.findIn K (.ref CN) "part" = some none
  ni : PySem.W.findIn K (.ref CN) "index" = some none
theorem FnOk.cx0 {P : Program} {w : World} {K : PySem.W.Frag} {mg : Str → Option Value} {base : Heap} {CX : CXT} {n : Nat} {f : Addr} {fd : FuncData} {ps : List Str} {sp : Sp} (F : FnOk P w K mg base CX0 n f fd ps sp) : FnOk P w K mg base CX n f fd ps sp :=
  ⟨F.len, fun A outer s H args us vs Q E hr he hb hv hs => codeAny_mono (F.run A outer s H args us vs Q E hr he hb hv hs) fun r s' h => by
    cases r with
    | error e => exact (show False from h).elim
    | ok fl => cases fl <;> exact h⟩
/-- a book that is refused -/
def spInitBad (CN C : Addr) (Ex : Pk → Prop) : Sp := fun vs H _ E => ∃ (H0 : Hp) (p dx : Addr) (b : RB) (v0 v1 v2 v3 v4 v5 v6 v7 v8 : V), vs = [.ref p, v0, v1, v2, v3, v4, v5, v6, v7, v8] ∧ Same H0 H ∧ H p = some (.ins C dx []) ∧ NOk b.N ∧
  ∃ (j : Nat) (k : Pk) (v : V) (i : Int), allPk[j]? = some k ∧ [v0, v1, v2, v3, v4, v5, v6, v7, v8][j]? = some v ∧ WrongP C Ex b k H0 v i ∧ (∀ (j' : Nat) (k' : Pk), j' < j → allPk[j']? = some k' → ∃ v', [v0, v1, v2, v3, v4, v5, v6, v7, v8][j']? = some v' ∧ FineP b k' H0 v') ∧
    ∀ (dx : Addr) (H' : Hp), Same H0 H' → H' dx = some (.xd [("index", .int i), ("part", .str k.nm)]) → E (.ref CN) (some dx) H'
theorem FineP.same {b : RB} {k : Pk} {H G : Hp} {v : V} (s : Same H G) (h : FineP b k H v) : FineP b k G v := by
  obtain ⟨l, xs, gp, e, hl, hd, r⟩ := h
  exact ⟨l, xs, gp, e, s _ _ hl, hd.same s, r⟩
section
variable {P : Program} {w : World} {K : PySem.W.Frag} {mg : Str → Option Value} {base : Heap} {tl : Tok} {aP aN aT aO aL aH aI C CN : Addr} {it : Pk → Addr}
theorem ok_initBad {Ex : Pk → Prop} {f f1 f2 f3 f4 f5 fN : Addr} {fd fd1 fd2 fd3 fd4 fd5 fdN : FuncData} (F : Fun K "__init__" "Book.__init__" s_Book__init_ f fd) (Z : Zs mg) (BB : IsB K C) (ER : NBk K mg CN fN fdN) (T : Tb K mg tl aP aN aT aO aL aH aI) (Td' : Td K w aL aH aI it)
    (D_copied_tasks : DefT K mg "copied_tasks" "copied_tasks" s_copied_tasks ["tasks"] f1 fd1) (D_wrong_part : DefT K mg "wrong_part" "wrong_part" s_wrong_part ["parts"] f2 fd2) (D_may_stand : DefT K mg "may_stand" "may_stand" s_may_stand ["part", "row", "before"] f3 fd3)
    (D_wrong_index : DefT K mg "wrong_index" "wrong_index" s_wrong_index ["part", "rows", "names"] f4 fd4) (D_names_in : DefT K mg "names_in" "names_in" s_names_in ["part", "rows"] f5 fd5) (hI : ∀ N, NOk N → ∀ k, Held P w K mg base 4 (it k) (spItem (ItemR N k) (Wk N k)))
    (hX : ∀ N k, Few k ∧ Ex k → Held P w K mg base 4 (it k) (spItemX C N k)) :
    FnOk P w K mg base (L2.CX P w) 7 f fd ["self", "states", "ups", "downs", "marks", "wishes", "answers", "tasks", "idles", "busies"] (spInitBad CN C Ex) := by
  have G_copied_tasks := ok_copied (P := P) (w := w) (base := base) D_copied_tasks Z
  have G_wrong_part := FnOk.ex (s := spPartX C Ex) (p := fun b => NOk b.N) fun b hb => ok_wrong_partX (P := P) (w := w) (base := base) b hb BB D_wrong_part Z T Td' D_may_stand D_wrong_index D_names_in hI (hX b.N)
  refine F.okX sc_Book__init_ (fun vs H Q E h => ?_) (fun cdv A outer s H vs Q E hr h => ?_)
  · obtain ⟨H0, p, dx, b, v0, v1, v2, v3, v4, v5, v6, v7, v8, rfl, _⟩ := h
    rfl
  obtain ⟨H0, p, dx, b, v0, v1, v2, v3, v4, v5, v6, v7, v8, rfl, s0, hp, hb, j, k, v, i, ek, ev, hw, hfine, q⟩ := h
  refine ⟨_, (pss_cons (ps_set (i := 10) sc_Book__init_.nd rfl (Or.inl rfl) (pe_call G_wrong_part (hr.mono (by decide)) rfl D_wrong_part.m D_wrong_part.F.kp D_wrong_part.b .nil pass0 (pa_cons (pe_tup (pa_cons (pv 1) (pa_cons (pv 2) (pa_cons (pv 3) (pa_cons (pv 4) (pa_cons (pv 5) (pa_cons (pv 6) (pa_cons (pv 7) (pa_cons (pv 8) (pa_cons (pv 9) pa_nil)))))))))) pa_nil))) (pss_cons (ps_if (pt_cmpR op_notN (pv 10) pe_non (nomark _)) (pss_one (ps_raise (W := fun cls d _ H => E cls d H) rfl (takes_of rfl rfl rfl rfl) (pmk_oex ER.x0.o ER.x0.i ER.x0.ti (ok_NoBook (C := CN) ER.x0.F) (hr.mono (by decide)) ER.x0.b .nil pass0 rfl ER.x0.g (pa_cons (pe_ix ix_tup (pv 10) pe_int (fun _ _ => rfl)) (pa_cons (pe_ix ix_tup (pv 10) pe_int (fun _ _ => rfl)) pa_nil))))) pss_nil) (pss_cons (ps_fld (pv 0) (pe_callTy call_list_of (by rfl) Z.list (by decide +kernel) (pa_cons (pv 1) pa_nil)) rfl) (pss_cons (ps_fld (pv 0) (pe_callTy call_list_of (by rfl) Z.list (by decide +kernel) (pa_cons (pv 2) pa_nil)) rfl) (pss_cons (ps_fld (pv 0) (pe_callTy call_list_of (by rfl) Z.list (by decide +kernel) (pa_cons (pv 3) pa_nil)) rfl) (pss_cons (ps_fld (pv 0) (pe_callTy call_list_of (by rfl) Z.list (by decide +kernel) (pa_cons (pv 4) pa_nil)) rfl) (pss_cons (ps_fld (pv 0) (pe_callTy call_list_of (by rfl) Z.list (by decide +kernel) (pa_cons (pv 5) pa_nil)) rfl) (pss_cons (ps_fld (pv 0) (pe_callTy call_list_of (by rfl) Z.list (by decide +kernel) (pa_cons (pv 6) pa_nil)) rfl) (pss_cons (ps_fld (pv 0) (pe_call G_copied_tasks (hr.mono (by decide)) rfl D_copied_tasks.m D_copied_tasks.F.kp D_copied_tasks.b .nil pass0 (pa_cons (pv 7) pa_nil)) rfl) (pss_cons (ps_fld (pv 0) (pe_callTy call_list_of (by rfl) Z.list (by decide +kernel) (pa_cons (pv 8) pa_nil)) rfl) (pss_cons (ps_fld (pv 0) (pe_callTy call_list_of (by rfl) Z.list (by decide +kernel) (pa_cons (pv 9) pa_nil)) rfl) (pss_one (ps_fld (pv 0) (pe_tup (pa_cons (pe_fld (pv 0) rfl) (pa_cons (pe_fld (pv 0) rfl) (pa_cons (pe_fld (pv 0) rfl) (pa_cons (pe_fld (pv 0) rfl) (pa_cons (pe_fld (pv 0) rfl) (pa_cons (pe_fld (pv 0) rfl) (pa_cons (pe_fld (pv 0) rfl) (pa_cons (pe_fld (pv 0) rfl) (pa_cons (pe_fld (pv 0) rfl) pa_nil)))))))))) rfl))))))))))))), ?_⟩
  refine ⟨_, rfl, _, rfl, _, rfl, _, rfl, _, rfl, _, rfl, _, rfl, _, rfl, _, rfl, sz 9, fun t0 ht0 => ?_⟩
  have sA := same_upd (o := .tup [v0, v1, v2, v3, v4, v5, v6, v7, v8]) ht0
  have sz := s0.trans sA
  refine ⟨b, hb, t0, _, rfl, upd_same, rfl, .inr ⟨j, k, v, i, ek, ev, hw.same sz, fun j' k' h1 h2 => ?_, fun H1 t1 s1 ht1 => ?_⟩⟩
  · obtain ⟨v', e', f'⟩ := hfine j' k' h1 h2
    exact ⟨v', e', f'.same sz⟩
  refine ⟨_, rfl, rfl, _, rfl, ifT rfl ?_⟩
  refine ⟨_, rfl, t1, _, _, _, rfl, rfl, .of ht1, atI_nat (j := 0) rfl, _, rfl, t1, _, _, _, rfl, rfl, .of ht1, atI_nat (j := 1) rfl, by show 2 ≤ 1000; decide, fun a ha => ?_⟩
  refine ⟨a, .str k.nm, .int i, rfl, ER.x0.o, ER.np, ER.ni, upd_same, fun dx hdx ne => ⟨rfl, dx, _, ?_, upd_same, ?_, ?_⟩⟩
  · rw [upd_ne (Ne.symm ne)]
    exact upd_same
  · rw [upd_ne ne] at hdx
    exact hdx
  · rw [upd_ne ne] at hdx
    refine q dx _ ((sz.trans s1).trans fun b o e => ?_) upd_same
    have nb : b ≠ dx := ne_of_none e hdx
    have na : b ≠ a := ne_of_none e ha
    rw [upd_ne nb, del_ne na, upd_ne nb, upd_ne na, upd_ne nb, upd_ne na]
    exact e
end
end My

namespace My
open PySem L2
/-! ### any value, all the way down; none of its objects is among S -/
def Vs (S : List Addr) (C : Addr) (H : Hp) : Nat → V → Prop
  | 0, v => Vl C H v ∧ ∀ a, v = .ref a → a ∉ S
  | n + 1, v => (Vl C H v ∧ ∀ a, v = .ref a → a ∉ S) ∧ ∀ a xs, v = .ref a → (H a = some (.tup xs) ∨ H a = some (.lst xs)) → ∀ x ∈ xs, Vs S C H n x
def VS (S : List Addr) (C : Addr) (H : Hp) (v : V) : Prop := ∀ n, Vs S C H n v
theorem Vs.vd {S : List Addr} {C : Addr} {H : Hp} : ∀ {n : Nat} {v : V}, Vs S C H n v → Vd C H n v
  | 0, _, h => h.1
  | n + 1, _, h => ⟨h.1.1, fun a xs e g x hx => Vs.vd (h.2 a xs e g x hx)⟩
theorem Vs.hd {S : List Addr} {C : Addr} {H : Hp} {n : Nat} {v : V} (h : Vs S C H n v) : Vl C H v ∧ ∀ a, v = .ref a → a ∉ S := by
  cases n with
  | zero => exact h
  | succ n => exact h.1
theorem VS.vd {S : List Addr} {C : Addr} {H : Hp} {v : V} (h : VS S C H v) (n : Nat) : Vd C H n v := (h n).vd
theorem VS.vl {S : List Addr} {C : Addr} {H : Hp} {v : V} (h : VS S C H v) : Vl C H v := (h 0).1
theorem VS.item {S : List Addr} {C : Addr} {H : Hp} {a : Addr} {xs : List V} (h : VS S C H (.ref a)) (e : H a = some (.tup xs) ∨ H a = some (.lst xs)) : ∀ x ∈ xs, VS S C H x := fun x hx n => (h (n + 1)).2 a xs rfl e x hx
theorem Vl.keep {S : List Addr} {C : Addr} {H G : Hp} {v : V} (k : ∀ a o, a ∉ S → H a = some o → G a = some o) (h : Vl C H v) (n : ∀ a, v = .ref a → a ∉ S) : Vl C G v := by
  cases h with
  | non => exact .non
  | bl b => exact .bl b
  | int i => exact .int i
  | str t h => exact .str t h
  | lst e => exact .lst (k _ _ (n _ rfl) e)
  | tup e => exact .tup (k _ _ (n _ rfl) e)
  | dk e => exact .dk (k _ _ (n _ rfl) e)
  | ins e => exact .ins (k _ _ (n _ rfl) e)
theorem Vs.keep {S : List Addr} {C : Addr} {H G : Hp} (k : ∀ a o, a ∉ S → H a = some o → G a = some o) : ∀ {n : Nat} {v : V}, Vs S C H n v → Vs S C G n v
  | 0, _, h => ⟨h.1.keep k h.2, h.2⟩
  | n + 1, v, h => ⟨⟨h.1.1.keep k h.1.2, h.1.2⟩, fun a xs e g x hx => by
    subst e
    obtain ⟨o, eo⟩ := h.1.1.obj
    have eG := k _ _ (h.1.2 a rfl) eo
    refine Vs.keep k (h.2 a xs rfl ?_ x hx)
    rcases g with g | g
    · rw [eG] at g
      cases g
      exact .inl eo
    · rw [eG] at g
      cases g
      exact .inr eo⟩
theorem VS.keep {S : List Addr} {C : Addr} {H G : Hp} (k : ∀ a o, a ∉ S → H a = some o → G a = some o) {v : V} (h : VS S C H v) : VS S C G v := fun n => (h n).keep k
theorem VS.same {S : List Addr} {C : Addr} {H G : Hp} (s : Same H G) {v : V} (h : VS S C H v) : VS S C G v := h.keep fun a o _ e => s a o e
theorem VS.kp {S : List Addr} {C p : Addr} {H G : Hp} (hp : p ∈ S) (k : Kp p H G) {v : V} (h : VS S C H v) : VS S C G v := h.keep fun a o n e => k.keep a o (fun z => n (by rw [z]; exact hp)) e
theorem Vs.add {S : List Addr} {C l : Addr} {H : Hp} (hl : H l = none) : ∀ {n : Nat} {v : V}, Vs S C H n v → Vs (l :: S) C H n v := by
  have one : ∀ {v : V}, (Vl C H v ∧ ∀ a, v = .ref a → a ∉ S) → Vl C H v ∧ ∀ a, v = .ref a → a ∉ l :: S := fun {v} h => ⟨h.1, fun a e m => by
    subst e
    obtain ⟨o, eo⟩ := h.1.obj
    rcases List.mem_cons.mp m with z | z
    · rw [z, hl] at eo
      cases eo
    · exact h.2 a rfl z⟩
  intro n
  induction n with
  | zero => exact fun {v} h => one h
  | succ n ih => exact fun {v} h => ⟨one h.1, fun a xs e g x hx => ih (h.2 a xs e g x hx)⟩
theorem VS.add {S : List Addr} {C l : Addr} {H : Hp} (hl : H l = none) {v : V} (h : VS S C H v) : VS (l :: S) C H v := fun n => (h n).add hl
theorem Vs.sub {S S' : List Addr} {C : Addr} {H : Hp} (s : ∀ a ∈ S', a ∈ S) : ∀ {n : Nat} {v : V}, Vs S C H n v → Vs S' C H n v
  | 0, _, h => ⟨h.1, fun a e m => h.2 a e (s a m)⟩
  | n + 1, _, h => ⟨⟨h.1.1, fun a e m => h.1.2 a e (s a m)⟩, fun a xs e g x hx => Vs.sub s (h.2 a xs e g x hx)⟩
theorem VS.sub {S S' : List Addr} {C : Addr} {H : Hp} (s : ∀ a ∈ S', a ∈ S) {v : V} (h : VS S C H v) : VS S' C H v := fun n => (h n).sub s
section
variable {S : List Addr} {C : Addr} {H : Hp}
theorem VS.flat {v : V} (h : Vl C H v) (n : ∀ a, v ≠ .ref a) : VS S C H v := fun m => by
  cases m with
  | zero => exact ⟨h, fun a e => absurd e (n a)⟩
  | succ m => exact ⟨⟨h, fun a e => absurd e (n a)⟩, fun a xs e => absurd e (n a)⟩
theorem VS.non : VS S C H .non := .flat .non (fun _ e => by cases e)
theorem VS.bl (b : Bool) : VS S C H (.bl b) := .flat (.bl b) (fun _ e => by cases e)
theorem VS.int (i : Int) : VS S C H (.int i) := .flat (.int i) (fun _ e => by cases e)
theorem VS.str {t : Str} (h : t.length ≤ 1000) : VS S C H (.str t) := .flat (.str t h) (fun _ e => by cases e)
theorem VS.tup {a : Addr} {xs : List V} (e : H a = some (.tup xs)) (n : a ∉ S) (h : ∀ x ∈ xs, VS S C H x) : VS S C H (.ref a) := fun m => by
  have hd : Vl C H (.ref a) ∧ ∀ b, V.ref a = .ref b → b ∉ S := ⟨.tup e, fun b z => by cases z; exact n⟩
  cases m with
  | zero => exact hd
  | succ m => exact ⟨hd, fun b ys z g x hx => by
    cases z
    rw [e] at g
    rcases g with g | g
    · cases g
      exact h x hx m
    · cases g⟩
theorem VS.lst {a : Addr} {xs : List V} (e : H a = some (.lst xs)) (n : a ∉ S) (h : ∀ x ∈ xs, VS S C H x) : VS S C H (.ref a) := fun m => by
  have hd : Vl C H (.ref a) ∧ ∀ b, V.ref a = .ref b → b ∉ S := ⟨.lst e, fun b z => by cases z; exact n⟩
  cases m with
  | zero => exact hd
  | succ m => exact ⟨hd, fun b ys z g x hx => by
    cases z
    rw [e] at g
    rcases g with g | g
    · cases g
    · cases g
      exact h x hx m⟩
theorem VS.dk {a : Addr} {kvs : List (Key × V)} (e : H a = some (.dK kvs)) (n : a ∉ S) : VS S C H (.ref a) := fun m => by
  have hd : Vl C H (.ref a) ∧ ∀ b, V.ref a = .ref b → b ∉ S := ⟨.dk e, fun b z => by cases z; exact n⟩
  cases m with
  | zero => exact hd
  | succ m => exact ⟨hd, fun b ys z g x hx => by
    cases z
    rw [e] at g
    rcases g with g | g <;> cases g⟩
theorem VS.ins {a dx : Addr} {fs : List (Str × V)} (e : H a = some (.ins C dx fs)) (n : a ∉ S) : VS S C H (.ref a) := fun m => by
  have hd : Vl C H (.ref a) ∧ ∀ b, V.ref a = .ref b → b ∉ S := ⟨.ins e, fun b z => by cases z; exact n⟩
  cases m with
  | zero => exact hd
  | succ m => exact ⟨hd, fun b ys z g x hx => by
    cases z
    rw [e] at g
    rcases g with g | g <;> cases g⟩
end
theorem nof {S : List Addr} {H : Hp} (hS : ∀ a ∈ S, ∃ o, H a = some o) {a : Addr} (h : H a = none) : a ∉ S := fun m => by
  obtain ⟨o, e⟩ := hS a m
  rw [h] at e
  cases e
/-! ### the written book -/
def nb0 : Nm5 := ⟨["a", "b"], ["u"], ["d"], ["m"], ["t"]⟩
def bk0 : RB := ⟨nb0, [.tuple [.str "a", .str ""], .tuple [.str "b", .str "hr"]], [.tuple [.str "u", .bool true]], [.tuple [.str "d", .bool false]], [], [], [.tuple [.str "t", .list [.tuple [.str "m", .none]], .list [.str "m"], .list [.str "m"], .str "m", .none, .str "none"]], [], []⟩
theorem nm_of {s : Str} (h : 1 ≤ s.length ∧ s.length ≤ 8 ∧ ∀ c ∈ s.cps.toList, 97 ≤ c ∧ c ≤ 122) : Nm s := h
theorem nb0_ok : NOk nb0 := ⟨by decide, by decide, by decide, by decide, by decide, by decide, by decide, by decide, by decide, by decide,
  ⟨by decide +kernel, fun s hs => by
    rcases List.mem_cons.mp hs with rfl | hs
    · exact nm_of (by decide +kernel)
    · rw [List.mem_singleton.mp hs]
      exact nm_of (by decide +kernel)⟩,
  ⟨by decide +kernel, fun s hs => by rw [List.mem_singleton.mp hs]; exact nm_of (by decide +kernel)⟩, ⟨by decide +kernel, fun s hs => by rw [List.mem_singleton.mp hs]; exact nm_of (by decide +kernel)⟩,
  ⟨by decide +kernel, fun s hs => by rw [List.mem_singleton.mp hs]; exact nm_of (by decide +kernel)⟩, ⟨by decide +kernel, fun s hs => by rw [List.mem_singleton.mp hs]; exact nm_of (by decide +kernel)⟩⟩
theorem bk0_ok : bk0.Ok := ⟨nb0_ok, ⟨rfl, fun i d e => by
    match i, e with
    | 0, e => cases e; exact ⟨"a", "", rfl, rfl, by decide +kernel, fun _ => rfl⟩
    | 1, e => cases e; exact ⟨"b", "hr", rfl, rfl, by decide +kernel, fun z => by cases z⟩⟩,
  ⟨rfl, fun i d e => by
    match i, e with
    | 0, e => cases e; exact ⟨"u", true, rfl, rfl⟩⟩,
  ⟨rfl, fun i d e => by
    match i, e with
    | 0, e => cases e; exact ⟨"d", false, rfl, rfl⟩⟩,
  ⟨Nat.zero_le _, fun d hd => by cases hd⟩, ⟨Nat.zero_le _, fun d hd => (by cases hd), List.Pairwise.nil⟩,
  ⟨rfl, fun i d e => by
    match i, e with
    | 0, e =>
      cases e
      refine ⟨"t", rfl, [.tuple [.str "m", .none]], ["m"], ["m"], "m", none, "none", rfl, rfl, fun c hc => ?_, by simp, by simp, fun q hq => ?_, rfl, fun q hq => ?_, ?_, fun s z => (by cases z), by decide +kernel⟩
      · rw [List.mem_singleton.mp hc]
        exact ⟨"m", none, rfl, by show ("m" : Str) ∈ (["m"] : List Str); simp, fun s z => by cases z⟩
      · rw [List.mem_singleton.mp hq]
        show ("m" : Str) ∈ (["m"] : List Str)
        simp
      · rw [List.mem_singleton.mp hq]
        show ("m" : Str) ∈ (["m"] : List Str)
        simp
      · show ("m" : Str) ∈ (["m"] : List Str)
        simp⟩,
  ⟨Nat.zero_le _, fun d hd => (by cases hd), List.Pairwise.nil⟩, ⟨Nat.zero_le _, fun d hd => (by cases hd), List.Pairwise.nil⟩⟩
end My

namespace My
open PySem L2
abbrev s_l_thing : Stmt := top 43
theorem sc_l_thing : FnScope ["_law_script", "_law_pool_here", "_law_names_here", "_law_word_here", "_law_number", "_law_things", "_law_deep", "_law_made", "_law_k"] ["_law_script", "_law_pool_here", "_law_names_here"] (defScope s_l_thing) := ⟨rfl, rfl, rfl, by decide +kernel, rfl, by decide +kernel, by decide +kernel⟩
def Lv (S : List Addr) (H : Hp) : Prop := ∀ a ∈ S, ∃ o, H a = some o
theorem Lv.same {S : List Addr} {H G : Hp} (h : Lv S H) (s : Same H G) : Lv S G := fun a m => by
  obtain ⟨o, e⟩ := h a m
  exact ⟨o, s _ _ e⟩
theorem Lv.kp {S : List Addr} {p : Addr} {H G : Hp} (h : Lv S H) (k : Kp p H G) : Lv S G := fun a m => by
  by_cases e : a = p
  · subst e
    obtain ⟨_, _, _, _, _, e⟩ := k.pool
    exact ⟨_, e⟩
  · obtain ⟨o, ho⟩ := h a m
    exact ⟨o, k.keep _ _ e ho⟩
theorem atH {p : Addr} {H G : Hp} {P : Hp → Prop} (k : Kp p H G) (h : P H) : P H := h
/-- a tuple in it is short -/
def TL (H : Hp) (v : V) : Prop := ∀ t xs, v = .ref t → H t = some (.tup xs) → xs.length ≤ 3
theorem TL.flat {H : Hp} {v : V} (h : ∀ a, v ≠ .ref a) : TL H v := fun t xs e _ => absurd e (h t)
theorem TL.ref {H : Hp} {a : Addr} {o : HO} (e : H a = some o) (h : ∀ xs, o = .tup xs → xs.length ≤ 3) : TL H (.ref a) := fun t xs z et => by
  cases z
  rw [e] at et
  exact h xs (Option.some.inj et)
theorem TL.back {H G : Hp} {v : V} (k : ∀ t, v = .ref t → ∃ o, H t = some o ∧ G t = some o) (h : TL H v) : TL G v := fun t xs e et => by
  obtain ⟨o, h1, h2⟩ := k t e
  rw [et] at h2
  cases h2
  exact h t xs e h1
/-- a heap with room for more: what is alive, what was made -/
structure Mk1 (S : List Addr) (C : Addr) (H : Hp) (xs : List V) : Prop where
  lv : Lv S H
  all : ∀ x ∈ xs, VS S C H x
theorem Mk1.same {S : List Addr} {C : Addr} {H G : Hp} {xs : List V} (h : Mk1 S C H xs) (s : Same H G) : Mk1 S C G xs := ⟨h.lv.same s, fun x hx => (h.all x hx).same s⟩
/-- a new list or tuple of values that are there -/
theorem Mk1.tup {S : List Addr} {C t : Addr} {H : Hp} {xs ys : List V} (h : Mk1 S C H xs) (ht : H t = none) (hy : ∀ y ∈ ys, VS S C H y) : Mk1 S C (upd H t (.tup ys)) (.ref t :: xs) := by
  have s := same_upd (o := .tup ys) ht
  exact ⟨h.lv.same s, fun x hx => by
    rcases List.mem_cons.mp hx with e | e
    · rw [e]
      exact VS.tup upd_same (nof h.lv ht) fun y m => (hy y m).same s
    · exact (h.all x e).same s⟩
theorem Mk1.lst {S : List Addr} {C t : Addr} {H : Hp} {xs ys : List V} (h : Mk1 S C H xs) (ht : H t = none) (hy : ∀ y ∈ ys, VS S C H y) : Mk1 S C (upd H t (.lst ys)) (.ref t :: xs) := by
  have s := same_upd (o := .lst ys) ht
  exact ⟨h.lv.same s, fun x hx => by
    rcases List.mem_cons.mp hx with e | e
    · rw [e]
      exact VS.lst upd_same (nof h.lv ht) fun y m => (hy y m).same s
    · exact (h.all x e).same s⟩
theorem Mk1.dk {S : List Addr} {C t : Addr} {H : Hp} {xs : List V} {kvs : List (Key × V)} (h : Mk1 S C H xs) (ht : H t = none) : Mk1 S C (upd H t (.dK kvs)) (.ref t :: xs) := by
  have s := same_upd (o := .dK kvs) ht
  exact ⟨h.lv.same s, fun x hx => by
    rcases List.mem_cons.mp hx with e | e
    · rw [e]
      exact VS.dk upd_same (nof h.lv ht)
    · exact (h.all x e).same s⟩
theorem allc {p : V → Prop} {x : V} {xs : List V} (h : p x) (r : ∀ y ∈ xs, p y) : ∀ y ∈ x :: xs, p y := fun y hy => by
  rcases List.mem_cons.mp hy with e | e
  · rw [e]
    exact h
  · exact r y e
theorem alln {p : V → Prop} : ∀ y ∈ ([] : List V), p y := fun y hy => by cases hy
theorem alla {p : V → Prop} {xs ys : List V} (h : ∀ y ∈ xs, p y) (r : ∀ y ∈ ys, p y) : ∀ y ∈ xs ++ ys, p y := fun y hy => by
  rcases List.mem_append.mp hy with e | e
  · exact h y e
  · exact r y e
def spThing (K : PySem.W.Frag) (C : Addr) : Sp := fun vs H Q _ => ∃ (a p ln : Addr) (ns : List Int) (nms : List Str), vs = [.ref a, .ref p, .ref ln] ∧ Scr K H a p ns ∧ Pool H p ∧ ln ≠ p ∧ H ln = some (.lst (nms.map V.str)) ∧ nms.length ≤ 100 ∧ (∀ s ∈ nms, s.length ≤ 1000) ∧
  ∀ (v : V) (H' : Hp), Kp p H H' → (∀ S, Lv S H → VS S C H' v) → TL H' v → Q v H'
theorem cutS_len (w : Str) (n : Nat) : (cutS w none (some (n : Int))).length ≤ w.length := by
  rw [str_len, str_len w]
  show (((w.cps.toList.drop 0).take (HT.sIx w.length w.length (some ((n : Nat) : Int)) - 0))).length ≤ _
  rw [List.drop_zero, List.length_take]
  exact Nat.min_le_right _ _
section
variable {P : Program} {w : World} {K : PySem.W.Frag} {mg : Str → Option Value} {base : Heap} {C : Addr}
theorem ok_thing {f fD fO fW fI : Addr} {fd fdD fdO fdW fdI : FuncData} (D : DefT K mg "_law_thing" "_law_thing" s_l_thing ["_law_script", "_law_pool_here", "_law_names_here"] f fd) (Z : Zs mg) (D_l_draw : DefT K mg "_law_draw" "_law_draw" s_l_draw ["_law_script", "_law_pool_here", "_law_limit"] fD fdD)
    (D_l_one : DefT K mg "_law_one" "_law_one" s_l_one ["_law_script", "_law_pool_here", "_law_row"] fO fdO) (D_l_word : DefT K mg "_law_word" "_law_word" s_l_word ["_law_script", "_law_pool_here"] fW fdW) (MB : Mk K C fI) (GI : FnOk P w K mg base CX0 7 fI fdI ["self", "states", "ups", "downs", "marks", "wishes", "answers", "tasks", "idles", "busies"] (spInit C)) (mC : mg "Book" = some (.ref C)) (bI : Binds K fdI ["self", "states", "ups", "downs", "marks", "wishes", "answers", "tasks", "idles", "busies"] []) :
    FnOk P w K mg base CX0 10 f fd ["_law_script", "_law_pool_here", "_law_names_here"] (spThing K C) := by
  have G_l_draw := ok_draw (P := P) (w := w) (base := base) D_l_draw Z
  have G_l_one := ok_one (P := P) (w := w) (base := base) D_l_one Z D_l_draw
  have G_l_word := ok_word (P := P) (w := w) (base := base) D_l_word Z D_l_draw
  refine D.F.ok sc_l_thing (fun vs H Q E h => ?_) (fun cdv A outer s H vs Q E hr h => ?_)
  · obtain ⟨a, p, ln, ns, nms, rfl, _⟩ := h
    rfl
  obtain ⟨a, p, ln, ns, nms, rfl, hS, hP, nlp, hln, hn100, hn1000, q⟩ := h
  refine ⟨_, (pss_cons (ps_set (i := 3) sc_l_thing.nd rfl (Or.inl rfl) (pe_call G_l_word (hr.mono (by decide)) rfl D_l_word.m D_l_word.F.kp D_l_word.b .nil pass0 (pa_cons (pv 0) (pa_cons (pv 1) pa_nil)))) (pss_cons (ps_set (i := 4) sc_l_thing.nd rfl (Or.inl rfl) (pe_op op_sub (pe_call G_l_draw (hr.mono (by decide)) rfl D_l_draw.m D_l_draw.F.kp D_l_draw.b .nil pass0 (pa_cons (pv 0) (pa_cons (pv 1) (pa_cons pe_int pa_nil)))) pe_int)) (pss_cons (ps_set (i := 5) sc_l_thing.nd rfl (Or.inl rfl) (pe_lst (pa_cons pe_non (pa_cons pe_bl (pa_cons pe_bl (pa_cons pe_int (pa_cons pe_int (pa_cons (pe_un un_neg pe_int) (pa_cons (pv 4) (pa_cons (pe_op op_add (pe_op op_mul (pv 4) (pe_op op_pow pe_int pe_int)) pe_int) (pa_cons pe_str (pa_cons pe_str (pa_cons (pv 3) (pa_cons (pe_op op_add_str (pv 3) pe_str) (pa_cons (pe_op op_add_str (pv 3) pe_str) pa_nil))))))))))))))) (pss_cons (ps_set (i := 5) sc_l_thing.nd rfl (Or.inl rfl) (pe_op op_cat (pv 5) (pe_lst (pa_cons (pe_op op_add_str (pe_slice sl_str (pv 3) po_none (po_some pe_int)) pe_str) (pa_cons (pe_op op_add_str (pe_slice sl_str (pv 3) po_none (po_some pe_int)) pe_str) (pa_cons pe_str (pa_cons pe_str (pa_cons (pe_lst pa_nil) (pa_cons (pe_lst (pa_cons (pv 3) pa_nil)) (pa_cons (pe_tup pa_nil) (pa_cons (pe_tup (pa_cons (pv 3) pa_nil)) (pa_cons (pe_tup (pa_cons (pv 3) (pa_cons pe_bl pa_nil))) (pa_cons (pe_lst (pa_cons (pe_tup (pa_cons (pv 3) (pa_cons pe_str pa_nil))) pa_nil)) pa_nil))))))))))))) (pss_cons (ps_set (i := 6) sc_l_thing.nd rfl (Or.inl rfl) (pe_tup (pa_cons (pv 3) pa_nil))) (pss_cons (ps_set (i := 7) sc_l_thing.nd rfl (Or.inl rfl) (pe_make MB GI (hr.mono (by decide)) rfl mC bI .nil pass0 (pa_cons (pe_lst (pa_cons (pe_tup (pa_cons pe_str (pa_cons pe_str pa_nil))) (pa_cons (pe_tup (pa_cons pe_str (pa_cons pe_str pa_nil))) pa_nil))) (pa_cons (pe_lst (pa_cons (pe_tup (pa_cons pe_str (pa_cons pe_bl pa_nil))) pa_nil)) (pa_cons (pe_lst (pa_cons (pe_tup (pa_cons pe_str (pa_cons pe_bl pa_nil))) pa_nil)) (pa_cons (pe_lst (pa_cons pe_str pa_nil)) (pa_cons (pe_lst pa_nil) (pa_cons (pe_lst pa_nil) (pa_cons (pe_lst (pa_cons (pe_tup (pa_cons pe_str (pa_cons (pe_lst (pa_cons (pe_tup (pa_cons pe_str (pa_cons pe_non pa_nil))) pa_nil)) (pa_cons (pe_lst (pa_cons pe_str pa_nil)) (pa_cons (pe_lst (pa_cons pe_str pa_nil)) (pa_cons pe_str (pa_cons pe_non (pa_cons pe_str pa_nil)))))))) pa_nil)) (pa_cons (pe_lst pa_nil) (pa_cons (pe_lst pa_nil) pa_nil))))))))))) (pss_cons (ps_for PassesOwn.never rfl (pi_range1 rfl Z.range (pa_cons pe_int pa_nil)) (pg_name (i := 8) sc_l_thing.nd rfl (Or.inl rfl)) (pss_one (ps_set (i := 6) sc_l_thing.nd rfl (Or.inl rfl) (pe_lst (pa_cons (pe_tup (pa_cons (pv 6) (pa_cons (pv 8) pa_nil))) pa_nil))))) (pss_cons (ps_set (i := 5) sc_l_thing.nd rfl (Or.inl rfl) (pe_op op_cat (pv 5) (pe_lst (pa_cons pe_dnewK (pa_cons (pe_disp (pps_cons (pv 3) pe_non pps_nil) rfl rfl (by simp) (by decide)) (pa_cons (pe_tup (pa_cons (pv 3) (pa_cons pe_str (pa_cons (pv 3) pa_nil)))) (pa_cons (pe_lst (pa_cons (pe_lst (pa_cons (pe_lst (pa_cons (pv 3) pa_nil)) pa_nil)) pa_nil)) (pa_cons (pe_tup (pa_cons (pv 3) (pa_cons (pv 3) (pa_cons pe_non pa_nil)))) (pa_cons (pe_op op_pow pe_int pe_int) (pa_cons pe_str (pa_cons (pe_lst (pa_cons pe_non pa_nil)) (pa_cons (pv 6) (pa_cons (pv 7) (pa_cons (pe_lst (pa_cons (pv 7) pa_nil)) pa_nil)))))))))))))) (pss_one (ps_ret (pe_call G_l_one (hr.mono (by decide)) rfl D_l_one.m D_l_one.F.kp D_l_one.b .nil pass0 (pa_cons (pv 0) (pa_cons (pv 1) (pa_cons (pe_op op_cat (pe_op op_cat (pv 5) (pv 2)) (pv 2)) pa_nil)))))))))))))), ?_⟩
  refine ⟨_, rfl, _, rfl, a, p, ns, rfl, hS, hP, fun z H1 hz k1 => ?_⟩
  refine ⟨_, rfl, _, rfl, a, p, ns, _, rfl, hS.on k1, k1.pool, by decide, by decide, fun r H2 r0 r1 k2 => ?_⟩
  refine ⟨_, _, rfl, rfl, ?_⟩
  have k12 := k1.trans k2
  have hz8 : z.length ≤ 8 := hz.2.1
  have szs : ∀ {n : Nat}, n ≤ 1000 → n ≤ sizeLine := fun h => Nat.le_trans h (by decide)
  -- the first things
  refine ⟨_, rfl, _, rfl, _, rfl, _, _, rfl, rfl, ⟨by decide, by decide, by decide⟩, _, _, rfl, rfl, .inl ⟨by omega, by omega⟩, _, _, rfl, rfl, _, rfl, _, rfl, _, _, rfl, rfl, szs (by show z.length + 8 ≤ 1000; omega), _, rfl, _, _, rfl, rfl, szs (by show z.length + 1 ≤ 1000; omega), sz 13, fun l1 hl1 => ?_⟩
  have all : ∀ (S : List Addr), Lv S H → p ∈ S → Mk1 S C H2 [] := fun S hL hp => ⟨(hL.kp k12), alln⟩
  have sl1 := same_upd (o := .lst [.non, .bl true, .bl false, .int 0, .int 1, .int (-1), .int (r - 500001), .int ((r - 500001) * 10 ^ (30 : Int).toNat + 1), .str "", .str "-", .str z, .str (z ++ "aaaaaaaa"), .str (z ++ " ")]) hl1
  refine ⟨_, rfl, _, rfl, _, rfl, z, rfl, szs (by omega), _, _, rfl, rfl, szs (by have := cutS_len z 4; show (cutS z none (some 4)).length + 1 ≤ 1000; have e : (cutS z none (some 4)).length ≤ z.length := this; omega), _, rfl, _, rfl, z, rfl, szs (by omega), _, _, rfl, rfl, szs (by have := cutS_len z 4; show (cutS z none (some 4)).length + 1 ≤ 1000; have e : (cutS z none (some 4)).length ≤ z.length := this; omega), Nat.zero_le _, fun o1 ho1 => ?_⟩
  have so1 := same_upd (o := .lst []) ho1
  refine ⟨_, rfl, sz 1, fun o2 ho2 => ?_⟩
  have so2 := same_upd (o := .lst [.str z]) ho2
  refine ⟨Nat.zero_le _, fun o3 ho3 => ?_⟩
  have so3 := same_upd (o := .tup []) ho3
  refine ⟨_, rfl, sz 1, fun o4 ho4 => ?_⟩
  have so4 := same_upd (o := .tup [.str z]) ho4
  refine ⟨_, rfl, sz 2, fun o5 ho5 => ?_⟩
  have so5 := same_upd (o := .tup [.str z, .bl true]) ho5
  refine ⟨_, rfl, sz 2, fun o6 ho6 => ?_⟩
  have so6 := same_upd (o := .tup [.str z, .str ""]) ho6
  refine ⟨sz 1, fun o7 ho7 => ?_⟩
  have so7 := same_upd (o := .lst [.ref o6]) ho7
  refine ⟨sz 10, fun l2 hl2 => ?_⟩
  have sl2 := same_upd (o := .lst [.str (cutS z none (some 4) ++ "A"), .str (cutS z none (some 4) ++ "1"), .str "none", .str "asker", .ref o1, .ref o2, .ref o3, .ref o4, .ref o5, .ref o7]) hl2
  refine ⟨l1, l2, _, _, rfl, rfl, ((((((((so1.trans so2).trans so3).trans so4).trans so5).trans so6).trans so7).trans sl2) _ _ upd_same), upd_same, sz 23, fun l3 hl3 => ?_⟩
  have sl3 := same_upd (o := .lst ([.non, .bl true, .bl false, .int 0, .int 1, .int (-1), .int (r - 500001), .int ((r - 500001) * 10 ^ (30 : Int).toNat + 1), .str "", .str "-", .str z, .str (z ++ "aaaaaaaa"), .str (z ++ " ")] ++ [.str (cutS z none (some 4) ++ "A"), .str (cutS z none (some 4) ++ "1"), .str "none", .str "asker", .ref o1, .ref o2, .ref o3, .ref o4, .ref o5, .ref o7])) hl3
  refine ⟨_, rfl, sz 1, fun o8 ho8 => ?_⟩
  have so8 := same_upd (o := .tup [.str z]) ho8
  refine ⟨sz 2, fun q1 hq1 => ?_⟩
  have sq1 := same_upd (o := .tup [.str "a", .str ""]) hq1
  refine ⟨sz 2, fun q2 hq2 => ?_⟩
  have sq2 := same_upd (o := .tup [.str "b", .str "hr"]) hq2
  refine ⟨sz 2, fun q3 hq3 => ?_⟩
  have sq3 := same_upd (o := .lst [.ref q1, .ref q2]) hq3
  refine ⟨sz 2, fun q4 hq4 => ?_⟩
  have sq4 := same_upd (o := .tup [.str "u", .bl true]) hq4
  refine ⟨sz 1, fun q5 hq5 => ?_⟩
  have sq5 := same_upd (o := .lst [.ref q4]) hq5
  refine ⟨sz 2, fun q6 hq6 => ?_⟩
  have sq6 := same_upd (o := .tup [.str "d", .bl false]) hq6
  refine ⟨sz 1, fun q7 hq7 => ?_⟩
  have sq7 := same_upd (o := .lst [.ref q6]) hq7
  refine ⟨sz 1, fun q8 hq8 => ?_⟩
  have sq8 := same_upd (o := .lst [.str "m"]) hq8
  refine ⟨Nat.zero_le _, fun q9 hq9 => ?_⟩
  have sq9 := same_upd (o := .lst []) hq9
  refine ⟨Nat.zero_le _, fun q10 hq10 => ?_⟩
  have sq10 := same_upd (o := .lst []) hq10
  refine ⟨sz 2, fun q11 hq11 => ?_⟩
  have sq11 := same_upd (o := .tup [.str "m", .non]) hq11
  refine ⟨sz 1, fun q12 hq12 => ?_⟩
  have sq12 := same_upd (o := .lst [.ref q11]) hq12
  refine ⟨sz 1, fun q13 hq13 => ?_⟩
  have sq13 := same_upd (o := .lst [.str "m"]) hq13
  refine ⟨sz 1, fun q14 hq14 => ?_⟩
  have sq14 := same_upd (o := .lst [.str "m"]) hq14
  refine ⟨sz 7, fun q15 hq15 => ?_⟩
  have sq15 := same_upd (o := .tup [.str "t", .ref q12, .ref q13, .ref q14, .str "m", .non, .str "none"]) hq15
  refine ⟨sz 1, fun q16 hq16 => ?_⟩
  have sq16 := same_upd (o := .lst [.ref q15]) hq16
  refine ⟨Nat.zero_le _, fun q17 hq17 => ?_⟩
  have sq17 := same_upd (o := .lst []) hq17
  refine ⟨Nat.zero_le _, fun q18 hq18 => ?_⟩
  have sq18 := same_upd (o := .lst []) hq18
  have eq1 := ((((((((((((((((sq2.trans sq3).trans sq4).trans sq5).trans sq6).trans sq7).trans sq8).trans sq9).trans sq10).trans sq11).trans sq12).trans sq13).trans sq14).trans sq15).trans sq16).trans sq17).trans sq18) _ _ upd_same
  have eq2 := (((((((((((((((sq3.trans sq4).trans sq5).trans sq6).trans sq7).trans sq8).trans sq9).trans sq10).trans sq11).trans sq12).trans sq13).trans sq14).trans sq15).trans sq16).trans sq17).trans sq18) _ _ upd_same
  have eq3 := ((((((((((((((sq4.trans sq5).trans sq6).trans sq7).trans sq8).trans sq9).trans sq10).trans sq11).trans sq12).trans sq13).trans sq14).trans sq15).trans sq16).trans sq17).trans sq18) _ _ upd_same
  have eq4 := (((((((((((((sq5.trans sq6).trans sq7).trans sq8).trans sq9).trans sq10).trans sq11).trans sq12).trans sq13).trans sq14).trans sq15).trans sq16).trans sq17).trans sq18) _ _ upd_same
  have eq5 := ((((((((((((sq6.trans sq7).trans sq8).trans sq9).trans sq10).trans sq11).trans sq12).trans sq13).trans sq14).trans sq15).trans sq16).trans sq17).trans sq18) _ _ upd_same
  have eq6 := (((((((((((sq7.trans sq8).trans sq9).trans sq10).trans sq11).trans sq12).trans sq13).trans sq14).trans sq15).trans sq16).trans sq17).trans sq18) _ _ upd_same
  have eq7 := ((((((((((sq8.trans sq9).trans sq10).trans sq11).trans sq12).trans sq13).trans sq14).trans sq15).trans sq16).trans sq17).trans sq18) _ _ upd_same
  have eq8 := (((((((((sq9.trans sq10).trans sq11).trans sq12).trans sq13).trans sq14).trans sq15).trans sq16).trans sq17).trans sq18) _ _ upd_same
  have eq9 := ((((((((sq10.trans sq11).trans sq12).trans sq13).trans sq14).trans sq15).trans sq16).trans sq17).trans sq18) _ _ upd_same
  have eq10 := (((((((sq11.trans sq12).trans sq13).trans sq14).trans sq15).trans sq16).trans sq17).trans sq18) _ _ upd_same
  have eq11 := ((((((sq12.trans sq13).trans sq14).trans sq15).trans sq16).trans sq17).trans sq18) _ _ upd_same
  have eq12 := (((((sq13.trans sq14).trans sq15).trans sq16).trans sq17).trans sq18) _ _ upd_same
  have eq13 := ((((sq14.trans sq15).trans sq16).trans sq17).trans sq18) _ _ upd_same
  have eq14 := (((sq15.trans sq16).trans sq17).trans sq18) _ _ upd_same
  have eq15 := ((sq16.trans sq17).trans sq18) _ _ upd_same
  have eq16 := (sq17.trans sq18) _ _ upd_same
  have eq17 := sq18 _ _ upd_same
  intro x dx nx ndx nex
  have sx : Same _ (upd (upd _ dx (.own x)) x (.ins C dx [])) := fun b o e => by
    rw [upd_ne (ne_of_none e nx), upd_ne (ne_of_none e ndx)]
    exact e
  refine ⟨_, x, dx, bk0, lsOf q3 q5 q7 q8 q9 q10 q16 q17 q18, rfl, sx, nx, upd_same, fun k => ?_, bk0_ok, fun G fpb sG hB hf => ⟨rfl, ?_⟩⟩
  · cases k
    case ss => exact ⟨_, _, eq3, .c (tD eq1 (.c (sD _) (.c (sD _) .n))) (.c (tD eq2 (.c (sD _) (.c (sD _) .n))) .n)⟩
    case us => exact ⟨_, _, eq5, .c (tD eq4 (.c (sD _) (.c (bD _) .n))) .n⟩
    case ks => exact ⟨_, _, eq7, .c (tD eq6 (.c (sD _) (.c (bD _) .n))) .n⟩
    case ms => exact ⟨_, _, eq8, .c (sD _) .n⟩
    case ws => exact ⟨_, _, eq9, .n⟩
    case as => exact ⟨_, _, eq10, .n⟩
    case ts => exact ⟨_, _, eq16, ⟨_, _, [q12, q13, q14], [], rfl, rfl, tD eq15 ⟨_, _, [], _, rfl, rfl, sD _, _, _, [q12], [q13, q14], rfl, rfl, ⟨q12, _, [], rfl, rfl, eq12, .c (tD eq11 (.c (sD _) (.c ⟨rfl, rfl⟩ .n))) .n⟩, _, _, [q13], [q14], rfl, rfl, ⟨q13, _, [], rfl, rfl, eq13, .c (sD _) .n⟩, _, _, [q14], [], rfl, rfl, ⟨q14, _, [], rfl, rfl, eq14, .c (sD _) .n⟩, .c (sD _) (.c ⟨rfl, rfl⟩ (.c (sD _) .n))⟩, .n⟩⟩
    case is => exact ⟨_, _, eq17, .n⟩
    case bs => exact ⟨_, _, upd_same, .n⟩
  obtain ⟨_, dxB, tpB, lsB, eB, _⟩ := id hB
  have sH := (((((((((((((((((((((((((((((sl1.trans so1).trans so2).trans so3).trans so4).trans so5).trans so6).trans so7).trans sl2).trans sl3).trans so8).trans sq1).trans sq2).trans sq3).trans sq4).trans sq5).trans sq6).trans sq7).trans sq8).trans sq9).trans sq10).trans sq11).trans sq12).trans sq13).trans sq14).trans sq15).trans sq16).trans sq17).trans sq18).trans sG)
  refine ⟨_, rfl, by decide, by decide, ?_⟩
  refine for_range (lo := 0) (n := 12) (fun i σ J => ∃ (dv : V) (v8 : Option V), σ = [some (.ref a), some (.ref p), some (.ref ln), some (.str z), some (.int (r - 500001)), some (.ref l3), some dv, some (.ref x), v8] ∧ Same G J ∧ (∀ S, Lv S H → p ∈ S → VS S C J dv) ∧ TL J dv ∧ ∃ o ao, dv = .ref ao ∧ J ao = some o) ⟨_, _, rfl, Same.refl G, fun S hL hp => ?_, TL.ref ((((((((((((((((((((sq1.trans sq2).trans sq3).trans sq4).trans sq5).trans sq6).trans sq7).trans sq8).trans sq9).trans sq10).trans sq11).trans sq12).trans sq13).trans sq14).trans sq15).trans sq16).trans sq17).trans sq18).trans sG) _ _ upd_same)) (fun xs z => by cases z; show 1 ≤ 3; decide), _, _, rfl, (((((((((((((((((((sq1.trans sq2).trans sq3).trans sq4).trans sq5).trans sq6).trans sq7).trans sq8).trans sq9).trans sq10).trans sq11).trans sq12).trans sq13).trans sq14).trans sq15).trans sq16).trans sq17).trans sq18).trans sG) _ _ upd_same)⟩ ?_ ?_
  · exact VS.tup (((((((((((((((((((sq1.trans sq2).trans sq3).trans sq4).trans sq5).trans sq6).trans sq7).trans sq8).trans sq9).trans sq10).trans sq11).trans sq12).trans sq13).trans sq14).trans sq15).trans sq16).trans sq17).trans sq18).trans sG) _ _ upd_same) (nof (Lv.same (hL.kp k12) (((((((((sl1.trans so1).trans so2).trans so3).trans so4).trans so5).trans so6).trans so7).trans sl2).trans sl3)) ho8) (allc (VS.str (by omega)) alln)
  · rintro i σ J hi ⟨dv, v8, rfl, sJ, hd, _⟩
    refine ⟨_, rfl, _, rfl, sz 2, fun ta hta => ?_⟩
    have sa := same_upd (o := .tup [dv, .int (0 + (i : Int))]) hta
    refine ⟨sz 1, fun la hla => ?_⟩
    have sb := same_upd (o := .lst [.ref ta]) hla
    refine ⟨_, _, rfl, (sJ.trans sa).trans sb, fun S hL hp => ?_, TL.ref upd_same (fun xs z => by cases z), _, _, rfl, upd_same⟩
    have hLJ : Lv S J := Lv.same (hL.kp k12) (sH.trans sJ)
    exact VS.lst upd_same (nof (hLJ.same sa) hla) (allc (VS.tup (sb _ _ upd_same) (nof hLJ hta) (allc ((hd S hL hp).same (sa.trans sb)) (allc (VS.int _) alln))) alln)
  rintro σ J ⟨dv, v8, rfl, sJ, hd, hdl, dob, dad, rfl, hdo⟩
  refine ⟨_, rfl, fun o9 ho9 => ?_⟩
  have so9 := same_upd (o := .dK []) ho9
  refine fun o10 ho10 => ⟨_, rfl, upd_same, [(Sum.inr z, .non)], rfl, (by show 1 ≤ 15; decide), ?_⟩
  have so10 := Same.put (o := .dK (mergeK [] [(Sum.inr z, .non)])) (same_upd (o := .dK []) ho10) ho10
  refine ⟨_, rfl, _, rfl, sz 3, fun o11 ho11 => ?_⟩
  have so11 := same_upd (o := .tup [.str z, .str "hr", .str z]) ho11
  refine ⟨_, rfl, sz 1, fun o12 ho12 => ?_⟩
  have so12 := same_upd (o := .lst [.str z]) ho12
  refine ⟨sz 1, fun o13 ho13 => ?_⟩
  have so13 := same_upd (o := .lst [.ref o12]) ho13
  refine ⟨sz 1, fun o14 ho14 => ?_⟩
  have so14 := same_upd (o := .lst [.ref o13]) ho14
  refine ⟨_, rfl, _, rfl, sz 3, fun o15 ho15 => ?_⟩
  have so15 := same_upd (o := .tup [.str z, .str z, .non]) ho15
  refine ⟨_, _, rfl, rfl, ⟨by decide, by decide, by decide⟩, sz 1, fun o16 ho16 => ?_⟩
  have so16 := same_upd (o := .lst [.non]) ho16
  refine ⟨_, rfl, _, rfl, _, rfl, sz 1, fun o17 ho17 => ?_⟩
  have so17 := same_upd (o := .lst [.ref x]) ho17
  refine ⟨sz 11, fun l4 hl4 => ?_⟩
  have sl4 := same_upd (o := .lst [.ref o9, .ref o10, .ref o11, .ref o14, .ref o15, .int (10 ^ (60 : Int).toNat), .str "hr\nw", .ref o16, .ref dad, .ref x, .ref o17]) hl4
  refine ⟨l3, l4, _, _, rfl, rfl, (((((((((((((((((((((((((((((((so8.trans sq1).trans sq2).trans sq3).trans sq4).trans sq5).trans sq6).trans sq7).trans sq8).trans sq9).trans sq10).trans sq11).trans sq12).trans sq13).trans sq14).trans sq15).trans sq16).trans sq17).trans sq18).trans sG).trans sJ).trans so9).trans so10).trans so11).trans so12).trans so13).trans so14).trans so15).trans so16).trans so17).trans sl4) _ _ upd_same), upd_same, sz 34, fun l5 hl5 => ?_⟩
  have sl5 := same_upd (o := .lst (([.non, .bl true, .bl false, .int 0, .int 1, .int (-1), .int (r - 500001), .int ((r - 500001) * 10 ^ (30 : Int).toNat + 1), .str "", .str "-", .str z, .str (z ++ "aaaaaaaa"), .str (z ++ " ")] ++ [.str (cutS z none (some 4) ++ "A"), .str (cutS z none (some 4) ++ "1"), .str "none", .str "asker", .ref o1, .ref o2, .ref o3, .ref o4, .ref o5, .ref o7]) ++ [.ref o9, .ref o10, .ref o11, .ref o14, .ref o15, .int (10 ^ (60 : Int).toNat), .str "hr\nw", .ref o16, .ref dad, .ref x, .ref o17])) hl5
  have hlnF := ((((((((((((((((((((((((((((((((((((((((((sl1.trans so1).trans so2).trans so3).trans so4).trans so5).trans so6).trans so7).trans sl2).trans sl3).trans so8).trans sq1).trans sq2).trans sq3).trans sq4).trans sq5).trans sq6).trans sq7).trans sq8).trans sq9).trans sq10).trans sq11).trans sq12).trans sq13).trans sq14).trans sq15).trans sq16).trans sq17).trans sq18).trans sG).trans sJ).trans so9).trans so10).trans so11).trans so12).trans so13).trans so14).trans so15).trans so16).trans so17).trans sl4).trans sl5)) _ _ (k12.keep _ _ nlp hln)
  have lnm : (nms.map V.str).length = nms.length := List.length_map _
  refine ⟨_, rfl, _, rfl, _, rfl, _, rfl, l5, ln, _, _, rfl, rfl, upd_same, hlnF, szs (by show 34 + (nms.map V.str).length ≤ 1000; omega), fun l6 hl6 => ?_⟩
  have sl6 := same_upd (o := .lst ((([.non, .bl true, .bl false, .int 0, .int 1, .int (-1), .int (r - 500001), .int ((r - 500001) * 10 ^ (30 : Int).toNat + 1), .str "", .str "-", .str z, .str (z ++ "aaaaaaaa"), .str (z ++ " ")] ++ [.str (cutS z none (some 4) ++ "A"), .str (cutS z none (some 4) ++ "1"), .str "none", .str "asker", .ref o1, .ref o2, .ref o3, .ref o4, .ref o5, .ref o7]) ++ [.ref o9, .ref o10, .ref o11, .ref o14, .ref o15, .int (10 ^ (60 : Int).toNat), .str "hr\nw", .ref o16, .ref dad, .ref x, .ref o17]) ++ nms.map V.str)) hl6
  refine ⟨_, rfl, l6, ln, _, _, rfl, rfl, upd_same, sl6 _ _ hlnF, szs (by rw [List.length_append]; show 34 + (nms.map V.str).length + (nms.map V.str).length ≤ 1000; omega), fun l7 hl7 => ?_⟩
  have sl7 := same_upd (o := .lst (((([.non, .bl true, .bl false, .int 0, .int 1, .int (-1), .int (r - 500001), .int ((r - 500001) * 10 ^ (30 : Int).toNat + 1), .str "", .str "-", .str z, .str (z ++ "aaaaaaaa"), .str (z ++ " ")] ++ [.str (cutS z none (some 4) ++ "A"), .str (cutS z none (some 4) ++ "1"), .str "none", .str "asker", .ref o1, .ref o2, .ref o3, .ref o4, .ref o5, .ref o7]) ++ [.ref o9, .ref o10, .ref o11, .ref o14, .ref o15, .int (10 ^ (60 : Int).toNat), .str "hr\nw", .ref o16, .ref dad, .ref x, .ref o17]) ++ nms.map V.str) ++ nms.map V.str)) hl7
  have sF := (((((((((((((((((((((((((((((((((((((((((((sl1.trans so1).trans so2).trans so3).trans so4).trans so5).trans so6).trans so7).trans sl2).trans sl3).trans so8).trans sq1).trans sq2).trans sq3).trans sq4).trans sq5).trans sq6).trans sq7).trans sq8).trans sq9).trans sq10).trans sq11).trans sq12).trans sq13).trans sq14).trans sq15).trans sq16).trans sq17).trans sq18).trans sG).trans sJ).trans so9).trans so10).trans so11).trans so12).trans so13).trans so14).trans so15).trans so16).trans so17).trans sl4).trans sl5).trans sl6).trans sl7)
  have kF : Kp p H _ := ⟨fun b o n e => sF b o (k12.keep b o n e), by
    obtain ⟨x0, x1, x2, x3, h0, e⟩ := k12.pool
    exact ⟨x0, x1, x2, x3, h0, sF _ _ e⟩⟩
  have n7 : l7 ≠ p := fun zz => by
    obtain ⟨_, _, _, _, _, e⟩ := k12.pool
    have := (((((((((((((((((((((((((((((((((((((((((((sl1.trans so1).trans so2).trans so3).trans so4).trans so5).trans so6).trans so7).trans sl2).trans sl3).trans so8).trans sq1).trans sq2).trans sq3).trans sq4).trans sq5).trans sq6).trans sq7).trans sq8).trans sq9).trans sq10).trans sq11).trans sq12).trans sq13).trans sq14).trans sq15).trans sq16).trans sq17).trans sq18).trans sG).trans sJ).trans so9).trans so10).trans so11).trans so12).trans so13).trans so14).trans so15).trans so16).trans so17).trans sl4).trans sl5).trans sl6)) _ _ e
    rw [← zz, hl7] at this
    cases this
  refine ⟨a, p, l7, ns, _, rfl, hS.on kF, .of upd_same n7, kF.pool, by rw [List.length_append, List.length_append]; show 0 < 34 + (nms.map V.str).length + (nms.map V.str).length; omega, by rw [List.length_append, List.length_append]; show 34 + (nms.map V.str).length + (nms.map V.str).length < 1073741824; omega, fun i v HG hv k3 => ?_⟩
  have key := atH (P := fun J => ∀ S, Lv S H → VS (p :: S) C J v) k3 (by
  intro S hL
  have hLp : Lv (p :: S) H := fun b m => by
    rcases List.mem_cons.mp m with zz | zz
    · obtain ⟨_, _, _, _, _, e⟩ := hP
      rw [zz]
      exact ⟨_, e⟩
    · exact hL b zz
  have hL2 := hLp.kp k12
  have pin : p ∈ p :: S := List.mem_cons_self
  have nmsV : ∀ {J : Hp}, ∀ y ∈ nms.map V.str, VS (p :: S) C J y := fun {J} y hy => by
    obtain ⟨s, hs, rfl⟩ := List.mem_map.mp hy
    exact VS.str (hn1000 s hs)
  exact alla (alla (alla (alla (allc VS.non (allc (VS.bl _) (allc (VS.bl _) (allc (VS.int _) (allc (VS.int _) (allc (VS.int _) (allc (VS.int _) (allc (VS.int _) (allc (VS.str (by decide)) (allc (VS.str (by decide)) (allc (VS.str (by omega)) (allc (VS.str (by rw [cat_len]; show z.length + 8 ≤ 1000; omega)) (allc (VS.str (by rw [cat_len]; show z.length + 1 ≤ 1000; omega)) alln))))))))))))) (allc (VS.str (by rw [cat_len]; have e : (cutS z none (some (4 : Int))).length ≤ z.length := cutS_len z 4; show (cutS z none (some 4)).length + 1 ≤ 1000; omega)) (allc (VS.str (by rw [cat_len]; have e : (cutS z none (some (4 : Int))).length ≤ z.length := cutS_len z 4; show (cutS z none (some 4)).length + 1 ≤ 1000; omega)) (allc (VS.str (by decide)) (allc (VS.str (by decide)) (allc (VS.lst ((((((((((((((((((((((((((((((((((((((((((so2.trans so3).trans so4).trans so5).trans so6).trans so7).trans sl2).trans sl3).trans so8).trans sq1).trans sq2).trans sq3).trans sq4).trans sq5).trans sq6).trans sq7).trans sq8).trans sq9).trans sq10).trans sq11).trans sq12).trans sq13).trans sq14).trans sq15).trans sq16).trans sq17).trans sq18).trans sG).trans sJ).trans so9).trans so10).trans so11).trans so12).trans so13).trans so14).trans so15).trans so16).trans so17).trans sl4).trans sl5).trans sl6).trans sl7) _ _ upd_same) (nof (hL2.same sl1) ho1) alln) (allc (VS.lst (((((((((((((((((((((((((((((((((((((((((so3.trans so4).trans so5).trans so6).trans so7).trans sl2).trans sl3).trans so8).trans sq1).trans sq2).trans sq3).trans sq4).trans sq5).trans sq6).trans sq7).trans sq8).trans sq9).trans sq10).trans sq11).trans sq12).trans sq13).trans sq14).trans sq15).trans sq16).trans sq17).trans sq18).trans sG).trans sJ).trans so9).trans so10).trans so11).trans so12).trans so13).trans so14).trans so15).trans so16).trans so17).trans sl4).trans sl5).trans sl6).trans sl7) _ _ upd_same) (nof (hL2.same (sl1.trans so1)) ho2) (allc (VS.str (by omega)) alln)) (allc (VS.tup ((((((((((((((((((((((((((((((((((((((((so4.trans so5).trans so6).trans so7).trans sl2).trans sl3).trans so8).trans sq1).trans sq2).trans sq3).trans sq4).trans sq5).trans sq6).trans sq7).trans sq8).trans sq9).trans sq10).trans sq11).trans sq12).trans sq13).trans sq14).trans sq15).trans sq16).trans sq17).trans sq18).trans sG).trans sJ).trans so9).trans so10).trans so11).trans so12).trans so13).trans so14).trans so15).trans so16).trans so17).trans sl4).trans sl5).trans sl6).trans sl7) _ _ upd_same) (nof (hL2.same ((sl1.trans so1).trans so2)) ho3) alln) (allc (VS.tup (((((((((((((((((((((((((((((((((((((((so5.trans so6).trans so7).trans sl2).trans sl3).trans so8).trans sq1).trans sq2).trans sq3).trans sq4).trans sq5).trans sq6).trans sq7).trans sq8).trans sq9).trans sq10).trans sq11).trans sq12).trans sq13).trans sq14).trans sq15).trans sq16).trans sq17).trans sq18).trans sG).trans sJ).trans so9).trans so10).trans so11).trans so12).trans so13).trans so14).trans so15).trans so16).trans so17).trans sl4).trans sl5).trans sl6).trans sl7) _ _ upd_same) (nof (hL2.same (((sl1.trans so1).trans so2).trans so3)) ho4) (allc (VS.str (by omega)) alln)) (allc (VS.tup ((((((((((((((((((((((((((((((((((((((so6.trans so7).trans sl2).trans sl3).trans so8).trans sq1).trans sq2).trans sq3).trans sq4).trans sq5).trans sq6).trans sq7).trans sq8).trans sq9).trans sq10).trans sq11).trans sq12).trans sq13).trans sq14).trans sq15).trans sq16).trans sq17).trans sq18).trans sG).trans sJ).trans so9).trans so10).trans so11).trans so12).trans so13).trans so14).trans so15).trans so16).trans so17).trans sl4).trans sl5).trans sl6).trans sl7) _ _ upd_same) (nof (hL2.same ((((sl1.trans so1).trans so2).trans so3).trans so4)) ho5) (allc (VS.str (by omega)) (allc (VS.bl _) alln))) (allc (VS.lst ((((((((((((((((((((((((((((((((((((sl2.trans sl3).trans so8).trans sq1).trans sq2).trans sq3).trans sq4).trans sq5).trans sq6).trans sq7).trans sq8).trans sq9).trans sq10).trans sq11).trans sq12).trans sq13).trans sq14).trans sq15).trans sq16).trans sq17).trans sq18).trans sG).trans sJ).trans so9).trans so10).trans so11).trans so12).trans so13).trans so14).trans so15).trans so16).trans so17).trans sl4).trans sl5).trans sl6).trans sl7) _ _ upd_same) (nof (hL2.same ((((((sl1.trans so1).trans so2).trans so3).trans so4).trans so5).trans so6)) ho7) (allc (VS.tup (((((((((((((((((((((((((((((((((((((so7.trans sl2).trans sl3).trans so8).trans sq1).trans sq2).trans sq3).trans sq4).trans sq5).trans sq6).trans sq7).trans sq8).trans sq9).trans sq10).trans sq11).trans sq12).trans sq13).trans sq14).trans sq15).trans sq16).trans sq17).trans sq18).trans sG).trans sJ).trans so9).trans so10).trans so11).trans so12).trans so13).trans so14).trans so15).trans so16).trans so17).trans sl4).trans sl5).trans sl6).trans sl7) _ _ upd_same) (nof (hL2.same (((((sl1.trans so1).trans so2).trans so3).trans so4).trans so5)) ho6) (allc (VS.str (by omega)) (allc (VS.str (by decide)) alln))) alln)) alln))))))))))) (allc (VS.dk ((((((((((((so10.trans so11).trans so12).trans so13).trans so14).trans so15).trans so16).trans so17).trans sl4).trans sl5).trans sl6).trans sl7) _ _ upd_same) (nof (hL2.same ((((((((((((((((((((((((((((((sl1.trans so1).trans so2).trans so3).trans so4).trans so5).trans so6).trans so7).trans sl2).trans sl3).trans so8).trans sq1).trans sq2).trans sq3).trans sq4).trans sq5).trans sq6).trans sq7).trans sq8).trans sq9).trans sq10).trans sq11).trans sq12).trans sq13).trans sq14).trans sq15).trans sq16).trans sq17).trans sq18).trans sG).trans sJ)) ho9)) (allc (VS.dk (((((((((((so11.trans so12).trans so13).trans so14).trans so15).trans so16).trans so17).trans sl4).trans sl5).trans sl6).trans sl7) _ _ upd_same) (nof (hL2.same (((((((((((((((((((((((((((((((sl1.trans so1).trans so2).trans so3).trans so4).trans so5).trans so6).trans so7).trans sl2).trans sl3).trans so8).trans sq1).trans sq2).trans sq3).trans sq4).trans sq5).trans sq6).trans sq7).trans sq8).trans sq9).trans sq10).trans sq11).trans sq12).trans sq13).trans sq14).trans sq15).trans sq16).trans sq17).trans sq18).trans sG).trans sJ).trans so9)) ho10)) (allc (VS.tup ((((((((((so12.trans so13).trans so14).trans so15).trans so16).trans so17).trans sl4).trans sl5).trans sl6).trans sl7) _ _ upd_same) (nof (hL2.same ((((((((((((((((((((((((((((((((sl1.trans so1).trans so2).trans so3).trans so4).trans so5).trans so6).trans so7).trans sl2).trans sl3).trans so8).trans sq1).trans sq2).trans sq3).trans sq4).trans sq5).trans sq6).trans sq7).trans sq8).trans sq9).trans sq10).trans sq11).trans sq12).trans sq13).trans sq14).trans sq15).trans sq16).trans sq17).trans sq18).trans sG).trans sJ).trans so9).trans so10)) ho11) (allc (VS.str (by omega)) (allc (VS.str (by decide)) (allc (VS.str (by omega)) alln)))) (allc (VS.lst (((((((so15.trans so16).trans so17).trans sl4).trans sl5).trans sl6).trans sl7) _ _ upd_same) (nof (hL2.same (((((((((((((((((((((((((((((((((((sl1.trans so1).trans so2).trans so3).trans so4).trans so5).trans so6).trans so7).trans sl2).trans sl3).trans so8).trans sq1).trans sq2).trans sq3).trans sq4).trans sq5).trans sq6).trans sq7).trans sq8).trans sq9).trans sq10).trans sq11).trans sq12).trans sq13).trans sq14).trans sq15).trans sq16).trans sq17).trans sq18).trans sG).trans sJ).trans so9).trans so10).trans so11).trans so12).trans so13)) ho14) (allc (VS.lst ((((((((so14.trans so15).trans so16).trans so17).trans sl4).trans sl5).trans sl6).trans sl7) _ _ upd_same) (nof (hL2.same ((((((((((((((((((((((((((((((((((sl1.trans so1).trans so2).trans so3).trans so4).trans so5).trans so6).trans so7).trans sl2).trans sl3).trans so8).trans sq1).trans sq2).trans sq3).trans sq4).trans sq5).trans sq6).trans sq7).trans sq8).trans sq9).trans sq10).trans sq11).trans sq12).trans sq13).trans sq14).trans sq15).trans sq16).trans sq17).trans sq18).trans sG).trans sJ).trans so9).trans so10).trans so11).trans so12)) ho13) (allc (VS.lst (((((((((so13.trans so14).trans so15).trans so16).trans so17).trans sl4).trans sl5).trans sl6).trans sl7) _ _ upd_same) (nof (hL2.same (((((((((((((((((((((((((((((((((sl1.trans so1).trans so2).trans so3).trans so4).trans so5).trans so6).trans so7).trans sl2).trans sl3).trans so8).trans sq1).trans sq2).trans sq3).trans sq4).trans sq5).trans sq6).trans sq7).trans sq8).trans sq9).trans sq10).trans sq11).trans sq12).trans sq13).trans sq14).trans sq15).trans sq16).trans sq17).trans sq18).trans sG).trans sJ).trans so9).trans so10).trans so11)) ho12) (allc (VS.str (by omega)) alln)) alln)) alln)) (allc (VS.tup ((((((so16.trans so17).trans sl4).trans sl5).trans sl6).trans sl7) _ _ upd_same) (nof (hL2.same ((((((((((((((((((((((((((((((((((((sl1.trans so1).trans so2).trans so3).trans so4).trans so5).trans so6).trans so7).trans sl2).trans sl3).trans so8).trans sq1).trans sq2).trans sq3).trans sq4).trans sq5).trans sq6).trans sq7).trans sq8).trans sq9).trans sq10).trans sq11).trans sq12).trans sq13).trans sq14).trans sq15).trans sq16).trans sq17).trans sq18).trans sG).trans sJ).trans so9).trans so10).trans so11).trans so12).trans so13).trans so14)) ho15) (allc (VS.str (by omega)) (allc (VS.str (by omega)) (allc VS.non alln)))) (allc (VS.int _) (allc (VS.str (by decide)) (allc (VS.lst (((((so17.trans sl4).trans sl5).trans sl6).trans sl7) _ _ upd_same) (nof (hL2.same (((((((((((((((((((((((((((((((((((((sl1.trans so1).trans so2).trans so3).trans so4).trans so5).trans so6).trans so7).trans sl2).trans sl3).trans so8).trans sq1).trans sq2).trans sq3).trans sq4).trans sq5).trans sq6).trans sq7).trans sq8).trans sq9).trans sq10).trans sq11).trans sq12).trans sq13).trans sq14).trans sq15).trans sq16).trans sq17).trans sq18).trans sG).trans sJ).trans so9).trans so10).trans so11).trans so12).trans so13).trans so14).trans so15)) ho16) (allc VS.non alln)) (allc ((hd _ hLp pin).same ((((((((((((so9.trans so10).trans so11).trans so12).trans so13).trans so14).trans so15).trans so16).trans so17).trans sl4).trans sl5).trans sl6).trans sl7)) (allc (VS.ins ((((((((((((((sJ.trans so9).trans so10).trans so11).trans so12).trans so13).trans so14).trans so15).trans so16).trans so17).trans sl4).trans sl5).trans sl6).trans sl7) _ _ eB) (nof (hL2.same ((((((((((((((((((((((((((((sl1.trans so1).trans so2).trans so3).trans so4).trans so5).trans so6).trans so7).trans sl2).trans sl3).trans so8).trans sq1).trans sq2).trans sq3).trans sq4).trans sq5).trans sq6).trans sq7).trans sq8).trans sq9).trans sq10).trans sq11).trans sq12).trans sq13).trans sq14).trans sq15).trans sq16).trans sq17).trans sq18)) nx)) (allc (VS.lst ((((sl4.trans sl5).trans sl6).trans sl7) _ _ upd_same) (nof (hL2.same ((((((((((((((((((((((((((((((((((((((sl1.trans so1).trans so2).trans so3).trans so4).trans so5).trans so6).trans so7).trans sl2).trans sl3).trans so8).trans sq1).trans sq2).trans sq3).trans sq4).trans sq5).trans sq6).trans sq7).trans sq8).trans sq9).trans sq10).trans sq11).trans sq12).trans sq13).trans sq14).trans sq15).trans sq16).trans sq17).trans sq18).trans sG).trans sJ).trans so9).trans so10).trans so11).trans so12).trans so13).trans so14).trans so15).trans so16)) ho17) (allc (VS.ins ((((((((((((((sJ.trans so9).trans so10).trans so11).trans so12).trans so13).trans so14).trans so15).trans so16).trans so17).trans sl4).trans sl5).trans sl6).trans sl7) _ _ eB) (nof (hL2.same ((((((((((((((((((((((((((((sl1.trans so1).trans so2).trans so3).trans so4).trans so5).trans so6).trans so7).trans sl2).trans sl3).trans so8).trans sq1).trans sq2).trans sq3).trans sq4).trans sq5).trans sq6).trans sq7).trans sq8).trans sq9).trans sq10).trans sq11).trans sq12).trans sq13).trans sq14).trans sq15).trans sq16).trans sq17).trans sq18)) nx)) alln)) alln)))))))))))) nmsV) nmsV v (List.mem_of_getElem? hv))
  have keyT := atH (P := fun J => TL J v) k3 (by
    have nmsT : ∀ {J : Hp}, ∀ y ∈ nms.map V.str, TL J y := fun {J} y hy => by
      obtain ⟨s, hs, rfl⟩ := List.mem_map.mp hy
      exact TL.flat fun _ zz => by cases zz
    exact alla (alla (alla (alla (allc (TL.flat fun _ zz => by cases zz) (allc (TL.flat fun _ zz => by cases zz) (allc (TL.flat fun _ zz => by cases zz) (allc (TL.flat fun _ zz => by cases zz) (allc (TL.flat fun _ zz => by cases zz) (allc (TL.flat fun _ zz => by cases zz) (allc (TL.flat fun _ zz => by cases zz) (allc (TL.flat fun _ zz => by cases zz) (allc (TL.flat fun _ zz => by cases zz) (allc (TL.flat fun _ zz => by cases zz) (allc (TL.flat fun _ zz => by cases zz) (allc (TL.flat fun _ zz => by cases zz) (allc (TL.flat fun _ zz => by cases zz) alln))))))))))))) (allc (TL.flat fun _ zz => by cases zz) (allc (TL.flat fun _ zz => by cases zz) (allc (TL.flat fun _ zz => by cases zz) (allc (TL.flat fun _ zz => by cases zz) (allc (TL.ref ((((((((((((((((((((((((((((((((((((((((((so2.trans so3).trans so4).trans so5).trans so6).trans so7).trans sl2).trans sl3).trans so8).trans sq1).trans sq2).trans sq3).trans sq4).trans sq5).trans sq6).trans sq7).trans sq8).trans sq9).trans sq10).trans sq11).trans sq12).trans sq13).trans sq14).trans sq15).trans sq16).trans sq17).trans sq18).trans sG).trans sJ).trans so9).trans so10).trans so11).trans so12).trans so13).trans so14).trans so15).trans so16).trans so17).trans sl4).trans sl5).trans sl6).trans sl7) _ _ upd_same) (fun xs zz => by cases zz)) (allc (TL.ref (((((((((((((((((((((((((((((((((((((((((so3.trans so4).trans so5).trans so6).trans so7).trans sl2).trans sl3).trans so8).trans sq1).trans sq2).trans sq3).trans sq4).trans sq5).trans sq6).trans sq7).trans sq8).trans sq9).trans sq10).trans sq11).trans sq12).trans sq13).trans sq14).trans sq15).trans sq16).trans sq17).trans sq18).trans sG).trans sJ).trans so9).trans so10).trans so11).trans so12).trans so13).trans so14).trans so15).trans so16).trans so17).trans sl4).trans sl5).trans sl6).trans sl7) _ _ upd_same) (fun xs zz => by cases zz)) (allc (TL.ref ((((((((((((((((((((((((((((((((((((((((so4.trans so5).trans so6).trans so7).trans sl2).trans sl3).trans so8).trans sq1).trans sq2).trans sq3).trans sq4).trans sq5).trans sq6).trans sq7).trans sq8).trans sq9).trans sq10).trans sq11).trans sq12).trans sq13).trans sq14).trans sq15).trans sq16).trans sq17).trans sq18).trans sG).trans sJ).trans so9).trans so10).trans so11).trans so12).trans so13).trans so14).trans so15).trans so16).trans so17).trans sl4).trans sl5).trans sl6).trans sl7) _ _ upd_same) (fun xs zz => by cases zz; show 0 ≤ 3; decide)) (allc (TL.ref (((((((((((((((((((((((((((((((((((((((so5.trans so6).trans so7).trans sl2).trans sl3).trans so8).trans sq1).trans sq2).trans sq3).trans sq4).trans sq5).trans sq6).trans sq7).trans sq8).trans sq9).trans sq10).trans sq11).trans sq12).trans sq13).trans sq14).trans sq15).trans sq16).trans sq17).trans sq18).trans sG).trans sJ).trans so9).trans so10).trans so11).trans so12).trans so13).trans so14).trans so15).trans so16).trans so17).trans sl4).trans sl5).trans sl6).trans sl7) _ _ upd_same) (fun xs zz => by cases zz; show 1 ≤ 3; decide)) (allc (TL.ref ((((((((((((((((((((((((((((((((((((((so6.trans so7).trans sl2).trans sl3).trans so8).trans sq1).trans sq2).trans sq3).trans sq4).trans sq5).trans sq6).trans sq7).trans sq8).trans sq9).trans sq10).trans sq11).trans sq12).trans sq13).trans sq14).trans sq15).trans sq16).trans sq17).trans sq18).trans sG).trans sJ).trans so9).trans so10).trans so11).trans so12).trans so13).trans so14).trans so15).trans so16).trans so17).trans sl4).trans sl5).trans sl6).trans sl7) _ _ upd_same) (fun xs zz => by cases zz; show 2 ≤ 3; decide)) (allc (TL.ref ((((((((((((((((((((((((((((((((((((sl2.trans sl3).trans so8).trans sq1).trans sq2).trans sq3).trans sq4).trans sq5).trans sq6).trans sq7).trans sq8).trans sq9).trans sq10).trans sq11).trans sq12).trans sq13).trans sq14).trans sq15).trans sq16).trans sq17).trans sq18).trans sG).trans sJ).trans so9).trans so10).trans so11).trans so12).trans so13).trans so14).trans so15).trans so16).trans so17).trans sl4).trans sl5).trans sl6).trans sl7) _ _ upd_same) (fun xs zz => by cases zz)) alln))))))))))) (allc (TL.ref ((((((((((((so10.trans so11).trans so12).trans so13).trans so14).trans so15).trans so16).trans so17).trans sl4).trans sl5).trans sl6).trans sl7) _ _ upd_same) (fun xs zz => by cases zz)) (allc (TL.ref (((((((((((so11.trans so12).trans so13).trans so14).trans so15).trans so16).trans so17).trans sl4).trans sl5).trans sl6).trans sl7) _ _ upd_same) (fun xs zz => by cases zz)) (allc (TL.ref ((((((((((so12.trans so13).trans so14).trans so15).trans so16).trans so17).trans sl4).trans sl5).trans sl6).trans sl7) _ _ upd_same) (fun xs zz => by cases zz; show 3 ≤ 3; decide)) (allc (TL.ref (((((((so15.trans so16).trans so17).trans sl4).trans sl5).trans sl6).trans sl7) _ _ upd_same) (fun xs zz => by cases zz)) (allc (TL.ref ((((((so16.trans so17).trans sl4).trans sl5).trans sl6).trans sl7) _ _ upd_same) (fun xs zz => by cases zz; show 3 ≤ 3; decide)) (allc (TL.flat fun _ zz => by cases zz) (allc (TL.flat fun _ zz => by cases zz) (allc (TL.ref (((((so17.trans sl4).trans sl5).trans sl6).trans sl7) _ _ upd_same) (fun xs zz => by cases zz)) (allc (hdl.back fun t zz => ⟨_, by cases zz; exact hdo, by cases zz; exact ((((((((((((so9.trans so10).trans so11).trans so12).trans so13).trans so14).trans so15).trans so16).trans so17).trans sl4).trans sl5).trans sl6).trans sl7) _ _ hdo⟩) (allc (TL.ref ((((((((((((((sJ.trans so9).trans so10).trans so11).trans so12).trans so13).trans so14).trans so15).trans so16).trans so17).trans sl4).trans sl5).trans sl6).trans sl7) _ _ eB) (fun xs zz => by cases zz)) (allc (TL.ref ((((sl4.trans sl5).trans sl6).trans sl7) _ _ upd_same) (fun xs zz => by cases zz)) alln)))))))))))) nmsT) nmsT v (List.mem_of_getElem? hv))
  refine q v HG (kF.trans k3) (fun S hL => VS.sub (S := p :: S) (fun b m => List.mem_cons_of_mem _ m) (VS.kp List.mem_cons_self k3 (key S hL))) ?_
  refine keyT.back fun t zz => ?_
  subst zz
  have hvl := key [] (fun b m => by cases m)
  obtain ⟨o, eo⟩ := hvl.vl.obj
  exact ⟨o, eo, k3.keep _ _ (fun zz => (hvl 0).2 t rfl (by rw [zz]; simp)) eo⟩
end
end My

namespace My
open PySem L2
abbrev s_l_is_name : Stmt := top 44
abbrev s_l_spoiled : Stmt := top 45
theorem sc_l_is_name : FnScope ["_law_thing_here", "_law_letter"] ["_law_thing_here"] (defScope s_l_is_name) := ⟨rfl, rfl, rfl, by decide +kernel, rfl, by decide +kernel, by decide +kernel⟩
theorem sc_l_spoiled : FnScope ["_law_script", "_law_pool_here", "_law_row", "_law_names_here", "_law_kind", "_law_thing_here", "_law_at"] ["_law_script", "_law_pool_here", "_law_row", "_law_names_here"] (defScope s_l_spoiled) := ⟨rfl, rfl, rfl, by decide +kernel, rfl, by decide +kernel, by decide +kernel⟩
/-- a tuple of so many at most -/
def TLn (n : Nat) (H : Hp) (v : V) : Prop := ∀ t xs, v = .ref t → H t = some (.tup xs) → xs.length ≤ n
def spSpoiled (K : PySem.W.Frag) (C : Addr) : Sp := fun vs H Q _ => ∃ (a p t ln : Addr) (ns : List Int) (nms : List Str) (xs : List V) (n : Nat), vs = [.ref a, .ref p, .ref t, .ref ln] ∧ Scr K H a p ns ∧ Pool H p ∧ ln ≠ p ∧ H ln = some (.lst (nms.map V.str)) ∧ nms.length ≤ 100 ∧ (∀ s ∈ nms, s.length ≤ 1000) ∧
  H t = some (.tup xs) ∧ xs ≠ [] ∧ xs.length ≤ n ∧ 3 ≤ n ∧ n ≤ 100 ∧ ∀ (v : V) (H' : Hp), Kp p H H' → (∀ S, Lv S H → p ∈ S → VS S C H (.ref t) → VS S C H' v) → TLn (n + 1) H' v → Q v H'
def spIsNameL (C : Addr) : Sp := fun vs H Q _ => ∃ v : V, vs = [v] ∧ Vl C H v ∧ ∀ r, (r = true ↔ ∃ s, v = .str s ∧ Nm s) → Q (.bl r) H
theorem cut_sub {xs : List V} {lo hi : Option Int} : ∀ y ∈ cutV xs lo hi, y ∈ xs := fun y h => by
  unfold cutV at h
  exact List.mem_of_mem_drop (List.mem_of_mem_take h)
theorem cut_len {xs : List V} {lo hi : Option Int} : (cutV xs lo hi).length ≤ xs.length := by
  unfold cutV
  rw [List.length_take, List.length_drop]
  omega
/-- a slice of a tuple: the tuple itself, or a new one -/
def rSlB (K : PySem.W.Frag) : V → Option Int → Option Int → Hp → VK → Prop := fun x lo hi H Q => ∃ a xs, x = .ref a ∧ H a = some (.tup xs) ∧ ∀ b H', Same H H' → H' b = some (.tup (cutV xs lo hi)) → (∀ S, Lv S H → a ∉ S → b ∉ S) → Q (.ref b) H'
theorem sl_tupB {X : Cx} : SlR X (rSlB X.K) := by
  intro pins s σ H x v vl vu lo hi sl Q I rx hs pl pu h
  obtain ⟨a, xs, rfl, ha, q⟩ := h
  refine sl_tupA pins s σ H _ v vl vu lo hi sl Q I rx hs pl pu ⟨a, xs, rfl, .of ha, fun hw => ?_, fun _ b hb => q b _ (same_upd hb) upd_same fun S hL _ => nof hL hb⟩
  refine q a H (Same.refl H) ?_ (fun S _ n => n)
  have : cutV xs lo hi = xs := by
    unfold cutV
    rw [hw.1, hw.2, List.drop_zero, Nat.sub_zero, List.take_length]
  rw [this]
  exact ha
def rCatB (K : PySem.W.Frag) : R2 := fun x y H Q => ∃ a b xs ys, x = .ref a ∧ y = .ref b ∧ H a = some (.tup xs) ∧ H b = some (.tup ys) ∧ xs.length + ys.length ≤ sizeLine ∧ ∀ c H', Same H H' → H' c = some (.tup (xs ++ ys)) → (∀ S, Lv S H → a ∉ S → b ∉ S → c ∉ S) → Q (.ref c) H'
theorem op_catB {X : Cx} : OpR X (binaryOp .Add) (rCatB X.K) := by
  intro pins s σ H x y v u Q I rx ry h
  obtain ⟨a, b, xs, ys, rfl, rfl, ha, hb, hz, q⟩ := h
  refine op_catA pins s σ H _ _ v u Q I rx ry ⟨a, b, xs, ys, rfl, rfl, .of ha, .of hb, hz, fun e => ?_, fun _ e => ?_, fun _ _ c hc => q c _ (same_upd hc) upd_same fun S hL _ _ => nof hL hc⟩
  · exact q b H (Same.refl H) (by rw [e]; exact hb) fun S _ _ n => n
  · exact q a H (Same.refl H) (by rw [e, List.append_nil]; exact ha) fun S _ n _ => n
section
variable {P : Program} {w : World} {K : PySem.W.Frag} {mg : Str → Option Value} {base : Heap} {C : Addr}
theorem ok_is_nameL {f : Addr} {fd : FuncData} (D : DefT K mg "_law_is_name" "_law_is_name" s_l_is_name ["_law_thing_here"] f fd) (Z : Zs mg) (B : IsB K C) : FnOk P w K mg base CX0 1 f fd ["_law_thing_here"] (spIsNameL C) := by
  refine D.F.ok sc_l_is_name (fun vs H Q E h => ?_) (fun cdv A outer s H vs Q E hr h => ?_)
  · obtain ⟨v, rfl, _⟩ := h
    rfl
  obtain ⟨v, rfl, hv, q⟩ := h
  refine ⟨_, (pss_cons (ps_if (PW.pt (pw_or (pt_not (pt_val (pe_callB call_isi (by rfl) Z.isinstance (by decide +kernel) (pa_cons (pv 0) (pa_cons (pe_bltn (v := .ty "str") (by rfl) Z.str (by decide +kernel) rfl) pa_nil))))) (pw_or (pt_cmpR op_lt (pe_callB call_len_str (by rfl) Z.len (by decide +kernel) (pa_cons (pv 0) pa_nil)) pe_int (nomark _)) (pw_or1 (pt_cmpR op_gt (pe_callB call_len_str (by rfl) Z.len (by decide +kernel) (pa_cons (pv 0) pa_nil)) pe_int (nomark _)))))) (pss_one (ps_ret pe_bl)) pss_nil) (pss_cons (ps_for PassesOwn.never rfl (pi_str (pv 0)) (pg_name (i := 1) sc_l_is_name.nd rfl (Or.inl rfl)) (pss_one (ps_if (pt_cmpR op_notIn_sign (pv 1) pe_str (by rfl)) (pss_one (ps_ret pe_bl)) pss_nil))) (pss_one (ps_ret pe_bl)))), ?_⟩
  obtain ⟨t, b1, b2, b3, b4, ty, _, _, k3, _, _, _, i3, _⟩ := hv.kinds B
  refine ⟨_, rfl, _, _, _, _, _, rfl, .ty _, ty, k3, _, rfl, ?_⟩
  cases b3 with
  | false => exact iteT (q false ⟨fun z => (by cases z), fun ⟨s, e, _⟩ => i3.mpr ⟨s, e⟩⟩)
  | true =>
  obtain ⟨z, rfl⟩ := i3.mp rfl
  refine iteF ?_
  have hz : z.length ≤ 1000 := by
    cases hv with
    | str _ h => exact h
  have hl : z.length ≤ sizeLine := Nat.le_trans hz (by decide)
  have no : ¬ Nm z → (false = true ↔ ∃ s, V.str z = .str s ∧ Nm s) := fun h => ⟨fun z => (by cases z), fun ⟨s, e, hs⟩ => by
    cases e
    exact absurd hs h⟩
  refine ⟨_, rfl, z, rfl, hl, _, _, rfl, rfl, _, rfl, ?_⟩
  by_cases h1 : z.length < 1
  · rw [decide_eq_true (show ((z.length : Nat) : Int) < 1 by omega)]
    exact iteT (q false (no fun h => by have := h.1; omega))
  rw [decide_eq_false (show ¬ ((z.length : Nat) : Int) < 1 by omega)]
  refine iteF ⟨_, rfl, z, rfl, hl, _, _, rfl, rfl, _, rfl, ?_⟩
  by_cases h8 : z.length ≤ 8
  rotate_left
  · rw [decide_eq_true (show ((z.length : Nat) : Int) > 8 by omega)]
    exact iteT (q false (no fun h => h8 h.2.1))
  rw [decide_eq_false (show ¬ ((z.length : Nat) : Int) > 8 by omega)]
  refine iteF ?_
  refine ⟨_, rfl, z, rfl, ?_⟩
  refine for_it (walk_str (z := z)) (fun i σ G => ∃ v1 : Option V, σ = [some (.str z), v1] ∧ G = H ∧ ∀ (j : Nat) (c : Nat), j < i → z.cps[j]? = some c → 97 ≤ c ∧ c ≤ 122) ⟨_, rfl, rfl, fun j c h => absurd h (Nat.not_lt_zero _)⟩ (fun _ _ _ _ _ => trivial) ?_ ?_
  · rintro i x σ G H' hi ⟨v1, rfl, rfl, hall⟩ ⟨rfl, c, hc', rfl⟩
    refine ⟨_, rfl, c, _, rfl, rfl, _, rfl, ?_⟩
    by_cases hin : c ∈ ("abcdefghijklmnopqrstuvwxyz" : Str).cps.toList
    · rw [decide_eq_true hin]
      refine iteF ⟨_, rfl, rfl, fun j c' hj e => ?_⟩
      by_cases ej : j = i
      · subst ej
        rw [hc'] at e
        cases e
        exact (abc_in c).mp hin
      · exact hall j c' (by omega) e
    · rw [decide_eq_false hin]
      refine iteT (q false (no fun h => hin ((abc_in c).mpr (h.2.2 c (Array.mem_toList_iff.mpr (Array.mem_of_getElem? hc'))))))
  · rintro σ G ⟨v1, rfl, rfl, hall⟩
    refine q true ⟨fun _ => ⟨z, rfl, by omega, h8, fun c hc => ?_⟩, fun _ => rfl⟩
    obtain ⟨j, hj, e⟩ := List.mem_iff_getElem.mp hc
    have hj' : j < z.cps.size := by simpa using hj
    refine hall j c hj' ?_
    rw [Array.getElem?_eq_getElem hj', ← e]
    exact congrArg some (Array.getElem_toList hj').symm
theorem ok_spoiled {f fD fO fW fI fT : Addr} {fd fdD fdO fdW fdI fdT : FuncData} (D : DefT K mg "_law_spoiled" "_law_spoiled" s_l_spoiled ["_law_script", "_law_pool_here", "_law_row", "_law_names_here"] f fd) (Z : Zs mg) (D_l_thing : DefT K mg "_law_thing" "_law_thing" s_l_thing ["_law_script", "_law_pool_here", "_law_names_here"] fT fdT) (D_l_draw : DefT K mg "_law_draw" "_law_draw" s_l_draw ["_law_script", "_law_pool_here", "_law_limit"] fD fdD)
    (D_l_one : DefT K mg "_law_one" "_law_one" s_l_one ["_law_script", "_law_pool_here", "_law_row"] fO fdO) (D_l_word : DefT K mg "_law_word" "_law_word" s_l_word ["_law_script", "_law_pool_here"] fW fdW) (MB : Mk K C fI) (GI : FnOk P w K mg base CX0 7 fI fdI ["self", "states", "ups", "downs", "marks", "wishes", "answers", "tasks", "idles", "busies"] (spInit C)) (mC : mg "Book" = some (.ref C)) (bI : Binds K fdI ["self", "states", "ups", "downs", "marks", "wishes", "answers", "tasks", "idles", "busies"] []) :
    FnOk P w K mg base CX0 11 f fd ["_law_script", "_law_pool_here", "_law_row", "_law_names_here"] (spSpoiled K C) := by
  have G_l_draw := ok_draw (P := P) (w := w) (base := base) D_l_draw Z
  have G_l_thing := ok_thing (P := P) (w := w) (base := base) D_l_thing Z D_l_draw D_l_one D_l_word MB GI mC bI
  refine D.F.ok sc_l_spoiled (fun vs H Q E h => ?_) (fun cdv A outer s H vs Q E hr h => ?_)
  · obtain ⟨a, p, t, ln, ns, nms, xs, n, rfl, _⟩ := h
    rfl
  obtain ⟨a, p, t, ln, ns, nms, xs, n, rfl, hS, hP, nlp, hln, hn100, hn1000, ht, hx0, hxn, n3, n100, q⟩ := h
  have szs : ∀ {n : Nat}, n ≤ 1000 → n ≤ sizeLine := fun h => Nat.le_trans h (by decide)
  have hxp : 0 < xs.length := List.length_pos_iff.mpr hx0
  refine ⟨_, (pss_cons (ps_set (i := 4) sc_l_spoiled.nd rfl (Or.inl rfl) (pe_call G_l_draw (hr.mono (by decide)) rfl D_l_draw.m D_l_draw.F.kp D_l_draw.b .nil pass0 (pa_cons (pv 0) (pa_cons (pv 1) (pa_cons pe_int pa_nil))))) (pss_cons (ps_set (i := 5) sc_l_spoiled.nd rfl (Or.inl rfl) (pe_call G_l_thing (hr.mono (by decide)) rfl D_l_thing.m D_l_thing.F.kp D_l_thing.b .nil pass0 (pa_cons (pv 0) (pa_cons (pv 1) (pa_cons (pv 3) pa_nil))))) (pss_cons (ps_if (pt_cmpR op_eq (pv 4) pe_int (nomark _)) (pss_one (ps_ret (pv 5))) pss_nil) (pss_cons (ps_if (pt_cmpR op_eq (pv 4) pe_int (nomark _)) (pss_one (ps_ret (pe_slice sl_tupA (pv 2) po_none (po_some (pe_un un_neg pe_int))))) pss_nil) (pss_cons (ps_if (pt_cmpR op_eq (pv 4) pe_int (nomark _)) (pss_one (ps_ret (pe_op op_catA (pv 2) (pe_tup (pa_cons (pv 5) pa_nil))))) pss_nil) (pss_cons (ps_if (pt_cmpR op_eq (pv 4) pe_int (nomark _)) (pss_one (ps_ret (pe_callTy call_list_of (by rfl) Z.list (by decide +kernel) (pa_cons (pv 2) pa_nil)))) pss_nil) (pss_cons (ps_set (i := 6) sc_l_spoiled.nd rfl (Or.inl rfl) (pe_call G_l_draw (hr.mono (by decide)) rfl D_l_draw.m D_l_draw.F.kp D_l_draw.b .nil pass0 (pa_cons (pv 0) (pa_cons (pv 1) (pa_cons (pe_callB call_len_seq (by rfl) Z.len (by decide +kernel) (pa_cons (pv 2) pa_nil)) pa_nil))))) (pss_one (ps_ret (pe_op op_catB (pe_op op_catB (pe_slice sl_tupB (pv 2) po_none (po_some (pv 6))) (pe_tup (pa_cons (pv 5) pa_nil))) (pe_slice sl_tupB (pv 2) (po_some (pe_op op_add (pv 6) pe_int)) po_none))))))))))), ?_⟩
  refine ⟨_, rfl, _, rfl, a, p, ns, _, rfl, hS, hP, by decide, by decide, fun kd H1 _ _ k1 => ?_⟩
  have hln1 := k1.keep _ _ nlp hln
  refine ⟨_, rfl, _, rfl, _, rfl, a, p, ln, ns, nms, rfl, hS.on k1, k1.pool, nlp, hln1, hn100, hn1000, fun v H2 k2 hv hvt => ?_⟩
  have k12 := k1.trans k2
  have ht2 := k12.tup hP ht
  have tl : ∀ {m : Nat} {ys : List V} {G : Hp} {b : Addr}, G b = some (.tup ys) → ys.length ≤ m → TLn m G (.ref b) := fun e h t xs z et => by
    cases z
    rw [e] at et
    cases et
    exact h
  refine ⟨_, rfl, rfl, _, rfl, ite2 (fun _ => ?_) (fun _ => ?_)⟩
  · exact ⟨_, rfl, q v H2 k12 (fun S hL hp _ => hv S (hL.kp k1)) fun t xs e et => Nat.le_trans (hvt t xs e et) (by omega)⟩
  have row : ∀ S, Lv S H → p ∈ S → VS S C H (.ref t) → VS S C H2 (.ref t) := fun S hL hp h => h.kp hp k12
  refine ⟨_, rfl, rfl, _, rfl, ite2 (fun _ => ?_) (fun _ => ?_)⟩
  · -- one item less
    refine ⟨_, rfl, _, rfl, _, rfl, t, xs, rfl, .of ht2, fun _ => q _ H2 k12 row (tl ht2 (by omega)), fun _ t2 h2 => ?_⟩
    refine q _ _ (k12.new h2) (fun S hL hp h => VS.tup upd_same (nof (hL.kp k12) h2) fun y hy => ((row S hL hp h).item (.inl ht2) y (cut_sub y hy)).same (same_upd h2)) (tl upd_same (Nat.le_trans cut_len (by omega)))
  refine ⟨_, rfl, rfl, _, rfl, ite2 (fun _ => ?_) (fun _ => ?_)⟩
  · -- one item more
    refine ⟨_, rfl, _, rfl, sz 1, fun t2 h2 => ?_⟩
    have s2 := same_upd (o := .tup [v]) h2
    refine ⟨t, t2, xs, [v], rfl, rfl, .of (s2 _ _ ht2), .of upd_same, szs (by show xs.length + 1 ≤ 1000; omega), fun e => absurd e hx0, fun _ e => (by cases e), fun _ _ t3 h3 => ?_⟩
    have k3 := (k12.new (o := .tup [v]) h2).new (o := .tup (xs ++ [v])) h3
    refine q _ _ k3 (fun S hL hp h => VS.tup upd_same (nof (hL.kp (k12.new (o := .tup [v]) h2)) h3) fun y hy => ?_) (tl upd_same (by rw [List.length_append]; show xs.length + 1 ≤ n + 1; omega))
    have s23 := s2.trans (same_upd (o := .tup (xs ++ [v])) h3)
    rcases List.mem_append.mp hy with m | m
    · exact ((row S hL hp h).item (.inl ht2) y m).same s23
    · rw [List.mem_singleton.mp m]
      exact (hv S (hL.kp k1)).same s23
  refine ⟨_, rfl, rfl, _, rfl, ite2 (fun _ => ?_) (fun _ => ?_)⟩
  · -- as a list
    refine ⟨_, rfl, t, xs, rfl, .inr (.of ht2), fun l h2 => ?_⟩
    refine q _ _ (k12.new h2) (fun S hL hp h => VS.lst upd_same (nof (hL.kp k12) h2) fun y hy => ((row S hL hp h).item (.inl ht2) y hy).same (same_upd h2)) (fun t' xs' e et => ?_)
    cases e
    rw [upd_same] at et
    cases et
  -- another value at a place
  refine ⟨_, rfl, _, rfl, _, rfl, t, _, rfl, .inr (.of ht2), a, p, ns, _, rfl, hS.on k12, k2.pool, by omega, by omega, fun r H3 r0 r1 k3 => ?_⟩
  have k13 := k12.trans k3
  have ht3 := k13.tup hP ht
  have row3 : ∀ S, Lv S H → p ∈ S → VS S C H (.ref t) → ∀ y ∈ xs, VS S C H3 y := fun S hL hp h => (h.kp hp k13).item (.inl ht3)
  have v3 : ∀ S, Lv S H → p ∈ S → VS S C H3 v := fun S hL hp => (hv S (hL.kp k1)).kp hp k3
  obtain ⟨i, hi, rfl⟩ : ∃ n : Nat, n < xs.length ∧ r = (n : Int) := ⟨r.toNat, by omega, by omega⟩
  refine ⟨_, rfl, _, rfl, _, rfl, t, xs, rfl, ht3, fun b1 G1 s1 e1 n1 => ?_⟩
  refine ⟨_, rfl, sz 1, fun b2 h2 => ?_⟩
  have s2 := same_upd (o := .tup [v]) h2
  have l1 : (cutV xs none (some (i : Int))).length ≤ i := by
    unfold cutV
    rw [HT.sIx_nat, List.length_take]
    show min (min i xs.length - 0) _ ≤ i
    omega
  refine ⟨b1, b2, _, _, rfl, rfl, s2 _ _ e1, upd_same, szs (by show (cutV xs none (some (i : Int))).length + 1 ≤ 1000; omega), fun b3 G3 s3 e3 n3' => ?_⟩
  have s13 := s1.trans (s2.trans s3)
  refine ⟨_, rfl, _, rfl, _, _, rfl, rfl, _, rfl, t, xs, rfl, s13 _ _ ht3, fun b4 G4 s4 e4 n4 => ?_⟩
  have l4 : (cutV xs (some ((i : Int) + 1)) none).length + (i + 1) ≤ xs.length := by
    have ei : ((i : Int) + 1) = ((i + 1 : Nat) : Int) := by omega
    unfold cutV
    rw [ei, HT.sIx_nat, HT.sIx_none, List.length_take, List.length_drop]
    have : min (i + 1) xs.length = i + 1 := by omega
    rw [this]
    omega
  have l3 : (cutV xs none (some (i : Int)) ++ [v]).length ≤ i + 1 := by
    rw [List.length_append]
    show (cutV xs none (some (i : Int))).length + 1 ≤ i + 1
    omega
  refine ⟨b3, b4, _, _, rfl, rfl, s4 _ _ e3, e4, szs (by omega), fun b5 G5 s5 e5 n5 => ?_⟩
  have s15 := s13.trans (s4.trans s5)
  have s14 := s13.trans s4
  refine q _ G5 ⟨fun b o n e => s15 b o (k13.keep b o n e), by
    obtain ⟨y0, y1, y2, y3, h0, e⟩ := k13.pool
    exact ⟨y0, y1, y2, y3, h0, s15 _ _ e⟩⟩ (fun S hL hp h => ?_) (tl e5 (by rw [List.length_append]; omega))
  have hL3 := hL.kp k13
  have tS : t ∉ S := (h 0).2 t rfl
  have a1 := n1 S hL3 tS
  have a2 := nof (hL3.same s1) h2
  have a3 := n3' S (hL3.same (s1.trans s2)) a1 a2
  have a4 := n4 S (hL3.same s13) tS
  have a5 := n5 S (hL3.same s14) a3 a4
  refine VS.tup e5 a5 fun y hy => ?_
  have cs : ∀ y ∈ xs, VS S C G5 y := fun y m => (row3 S hL hp h y m).same s15
  rcases List.mem_append.mp hy with m | m
  · rcases List.mem_append.mp m with m | m
    · exact cs y (cut_sub y m)
    · rw [List.mem_singleton.mp m]
      exact (v3 S hL hp).same s15
  · exact cs y (cut_sub y m)
end
end My

namespace My
open PySem L2
abbrev s_l_same : Stmt := top 46
theorem sc_l_same : FnScope ["_law_told", "_law_due_here", "_law_k"] ["_law_told", "_law_due_here"] (defScope s_l_same) := ⟨rfl, rfl, rfl, by decide +kernel, rfl, by decide +kernel, by decide +kernel⟩
mutual
def Dt (H : Hp) : PyData → V → Prop
  | .none, v => v = .non
  | .bool b, v => v = .bl b
  | .int i, v => v = .int i
  | .str s, v => v = .str s
  | .list ds, v => ∃ a xs, v = .ref a ∧ H a = some (.lst xs) ∧ DtL H ds xs
  | .tuple ds, v => ∃ a xs, v = .ref a ∧ H a = some (.tup xs) ∧ DtL H ds xs
  | .dict _, _ => False
def DtL (H : Hp) : List PyData → List V → Prop
  | [], xs => xs = []
  | d :: ds, xs => ∃ x r, xs = x :: r ∧ Dt H d x ∧ DtL H ds r
end
mutual
theorem Df.dt {H : Hp} : ∀ (d : PyData) (v : V) (fp : List Addr), Df H d v fp → Dt H d v
  | .none, _, _, h => h.1
  | .bool _, _, _, h => h.1
  | .int _, _, _, h => h.1
  | .str _, _, _, h => h.1
  | .list ds, v, fp, h => by
    obtain ⟨a, xs, gp, e, ef, ha, hl⟩ := h
    exact ⟨a, xs, e, ha, DfL.dt ds xs gp hl⟩
  | .tuple ds, v, fp, h => by
    obtain ⟨a, xs, e, ha, hl⟩ := h
    exact ⟨a, xs, e, ha, DfL.dt ds xs fp hl⟩
  | .dict _, _, _, h => h.elim
theorem DfL.dt {H : Hp} : ∀ (ds : List PyData) (xs : List V) (fp : List Addr), DfL H ds xs fp → DtL H ds xs
  | [], xs, _, h => h.1
  | d :: ds, xs, fp, h => by
    obtain ⟨x, r, f, g, e, ef, hx, hr⟩ := h
    exact ⟨x, r, e, Df.dt d x f hx, DfL.dt ds r g hr⟩
end
theorem DtL.len {H : Hp} : ∀ {ds : List PyData} {xs : List V}, DtL H ds xs → xs.length = ds.length
  | [], xs, h => by
    have e : xs = [] := h
    rw [e]
    rfl
  | d :: ds, _, h => by
    obtain ⟨x, r, rfl, _, hr⟩ := h
    show r.length + 1 = ds.length + 1
    rw [DtL.len hr]
theorem DtL.get {H : Hp} : ∀ {ds : List PyData} {xs : List V} {i : Nat} {d : PyData}, DtL H ds xs → ds[i]? = some d → ∃ x, xs[i]? = some x ∧ Dt H d x
  | [], _, _, _, _, e => by simp at e
  | d :: ds, _, 0, _, h, e => by
    obtain ⟨x, r, rfl, hx, _⟩ := h
    simp at e
    subst e
    exact ⟨x, rfl, hx⟩
  | d :: ds, _, i + 1, _, h, e => by
    obtain ⟨x, r, rfl, _, hr⟩ := h
    obtain ⟨y, h1, h2⟩ := DtL.get (i := i) hr (by simpa using e)
    exact ⟨y, by simpa using h1, h2⟩
/-- no longer than 1000, no deeper than n -/
def okd : Nat → PyData → Prop
  | _, .none => True
  | _, .bool _ => True
  | _, .int _ => True
  | _, .str _ => True
  | n + 1, .list ds => ds.length ≤ 1000 ∧ ∀ d ∈ ds, okd n d
  | n + 1, .tuple ds => ds.length ≤ 1000 ∧ ∀ d ∈ ds, okd n d
  | 0, .list _ => False
  | 0, .tuple _ => False
  | _, .dict _ => False
theorem okd_str {n : Nat} {s : Str} : okd n (.str s) := by cases n <;> trivial
theorem okd_bool {n : Nat} {s : Bool} : okd n (.bool s) := by cases n <;> trivial
theorem okd_oN {n : Nat} {o : Option Str} : okd n (oN o) := by cases o <;> cases n <;> trivial
theorem okd_strs {n : Nat} {ss : List Str} (h : ss.length ≤ 1000) : okd (n + 1) (.list (ss.map .str)) := ⟨by rw [List.length_map]; exact h, fun d hd => by
  obtain ⟨s, _, rfl⟩ := List.mem_map.mp hd
  exact okd_str⟩
theorem okd_item {N : Nm5} (hN : NOk N) {k : Pk} {d : PyData} (h : ItemR N k d) : okd 3 d := by
  cases k
  case ss =>
    obtain ⟨s, t, rfl, _⟩ := h
    exact ⟨by simp, by simp [okd_str]⟩
  case us =>
    obtain ⟨s, t, rfl, _⟩ := h
    exact ⟨by simp, by simp [okd_str, okd_bool]⟩
  case ks =>
    obtain ⟨s, t, rfl, _⟩ := h
    exact ⟨by simp, by simp [okd_str, okd_bool]⟩
  case ms =>
    obtain ⟨s, rfl, _⟩ := h
    exact okd_str
  case ws =>
    obtain ⟨a, b, u, rfl, _⟩ := h
    exact ⟨by simp, by simp [okd_str, okd_oN]⟩
  case as =>
    obtain ⟨a, k, b, u, rfl, _⟩ := h
    exact ⟨by simp, by simp [okd_str, okd_oN]⟩
  case ts =>
    obtain ⟨nm, _, cs, qs, es, m, k, o, rfl, hcl, hcs, hqn, hqd, hqs, hel, hes, hm, hk, ho⟩ := h
    have b6 := hN.mk6
    have q6 : qs.length ≤ 6 := Nat.le_trans (nodup_le hqd hqs) b6
    have hc : okd 2 (.list cs) := ⟨by omega, fun c hc => by
      obtain ⟨m, k, rfl, _⟩ := hcs c hc
      exact ⟨by simp, by simp [okd_str, okd_oN]⟩⟩
    have hq : okd 2 (.list (qs.map .str)) := okd_strs (by omega)
    have he : okd 2 (.list (es.map .str)) := okd_strs (by omega)
    refine ⟨by show 7 ≤ 1000; decide, fun d hd => ?_⟩
    rcases List.mem_cons.mp hd with rfl | hd
    · exact okd_str
    rcases List.mem_cons.mp hd with rfl | hd
    · exact hc
    rcases List.mem_cons.mp hd with rfl | hd
    · exact hq
    rcases List.mem_cons.mp hd with rfl | hd
    · exact he
    rcases List.mem_cons.mp hd with rfl | hd
    · exact okd_str
    rcases List.mem_cons.mp hd with rfl | hd
    · exact okd_oN
    rw [List.mem_singleton.mp hd]
    exact okd_str
  case is =>
    rcases h with ⟨m, u, t, rfl, _⟩ | ⟨m, u, n, k, f, rfl, _⟩
    · exact ⟨by simp, by simp [okd_str]⟩
    · exact ⟨by show 5 ≤ 1000; decide, by simp [okd_str, okd_oN, okd_bool]⟩
  case bs =>
    obtain ⟨t, m, u, n, k, f, rfl, _⟩ := h
    exact ⟨by show 6 ≤ 1000; decide, by simp [okd_str, okd_oN, okd_bool]⟩
theorem RB.Ok.okd {b : RB} (ok : b.Ok) : okd 5 (.list b.parts) := ⟨by show 9 ≤ 1000; decide, fun d hd => by
  rw [RB.parts_eq] at hd
  obtain ⟨k, _, rfl⟩ := List.mem_map.mp hd
  obtain ⟨_, hhi, hit, _⟩ := ok.fact k
  exact ⟨Nat.le_trans hhi (Nat.le_trans k.hi30 (by decide)), fun d hd => okd_item ok.n (hit d hd)⟩⟩
def spSame (n : Nat) : Sp := fun vs H Q _ => ∃ (t u : V) (d : PyData), vs = [t, u] ∧ Dt H d t ∧ Dt H d u ∧ okd n d ∧ Q (.bl true) H
section
variable {P : Program} {w : World} {K : PySem.W.Frag} {mg : Str → Option Value} {base : Heap}
theorem none_left {f : Addr} {fd : FuncData} : FnOk P w K mg base CX0 0 f fd ["_law_told", "_law_due_here"] (fun _ _ _ _ => False) := ⟨fun vs H Q E h => h.elim, fun A outer s H args us vs Q E _ _ _ _ h => h.elim⟩
theorem same_step {f : Addr} {fd : FuncData} {n : Nat} {sp : Sp} (D_l_same : DefT K mg "_law_same" "_law_same" s_l_same ["_law_told", "_law_due_here"] f fd) (Z : Zs mg)
    (G_l_same : FnOk P w K mg base CX0 n f fd ["_law_told", "_law_due_here"] sp) (hsp : ∀ m, n = m + 1 → sp = spSame m) : FnOk P w K mg base CX0 (n + 1) f fd ["_law_told", "_law_due_here"] (spSame n) := by
  refine D_l_same.F.ok sc_l_same (fun vs H Q E h => ?_) (fun cdv A outer s H vs Q E hr h => ?_)
  · obtain ⟨t, u, d, rfl, _⟩ := h
    rfl
  obtain ⟨t, u, d, rfl, ht, hu, hd, q⟩ := h
  refine ⟨_, (pss_cons (ps_if (pt_cmpR op_isN (pv 1) pe_non (nomark _)) (pss_one (ps_ret (pe_cmpR op_isN (pv 0) pe_non (nomark _)))) pss_nil) (pss_cons (ps_if (pt_val (pe_callB call_isi (by rfl) Z.isinstance (by decide +kernel) (pa_cons (pv 1) (pa_cons (pe_bltn (v := .ty "bool") (by rfl) Z.bool (by decide +kernel) rfl) pa_nil)))) (pss_one (ps_ret (pe_and (pe_callB call_isi (by rfl) Z.isinstance (by decide +kernel) (pa_cons (pv 0) (pa_cons (pe_bltn (v := .ty "bool") (by rfl) Z.bool (by decide +kernel) rfl) pa_nil))) (pe_one (pe_cmpR op_eq (pv 0) (pv 1) (nomark _)))))) pss_nil) (pss_cons (ps_if (pt_val (pe_callB call_isi (by rfl) Z.isinstance (by decide +kernel) (pa_cons (pv 1) (pa_cons (pe_bltn (v := .ty "str") (by rfl) Z.str (by decide +kernel) rfl) pa_nil)))) (pss_one (ps_ret (pe_and (pe_callB call_isi (by rfl) Z.isinstance (by decide +kernel) (pa_cons (pv 0) (pa_cons (pe_bltn (v := .ty "str") (by rfl) Z.str (by decide +kernel) rfl) pa_nil))) (pe_one (pe_cmpR op_eq (pv 0) (pv 1) (nomark _)))))) pss_nil) (pss_cons (ps_if (pt_val (pe_callB call_isi (by rfl) Z.isinstance (by decide +kernel) (pa_cons (pv 1) (pa_cons (pe_bltn (v := .ty "int") (by rfl) Z.int (by decide +kernel) rfl) pa_nil)))) (pss_one (ps_ret (pe_and (pe_callB call_isi (by rfl) Z.isinstance (by decide +kernel) (pa_cons (pv 0) (pa_cons (pe_bltn (v := .ty "int") (by rfl) Z.int (by decide +kernel) rfl) pa_nil))) (pe_and (pe_not (pe_callB call_isi (by rfl) Z.isinstance (by decide +kernel) (pa_cons (pv 0) (pa_cons (pe_bltn (v := .ty "bool") (by rfl) Z.bool (by decide +kernel) rfl) pa_nil)))) (pe_one (pe_cmpR op_eq (pv 0) (pv 1) (nomark _))))))) pss_nil) (pss_cons (ps_if (PW.pt (pw_or (PW.pt (pw_and (pt_val (pe_callB call_isi (by rfl) Z.isinstance (by decide +kernel) (pa_cons (pv 1) (pa_cons (pe_bltn (v := .ty "tuple") (by rfl) Z.tuple (by decide +kernel) rfl) pa_nil)))) (pw_and1 (pt_not (pt_val (pe_callB call_isi (by rfl) Z.isinstance (by decide +kernel) (pa_cons (pv 0) (pa_cons (pe_bltn (v := .ty "tuple") (by rfl) Z.tuple (by decide +kernel) rfl) pa_nil)))))))) (pw_or1 (PW.pt (pw_and (pt_val (pe_callB call_isi (by rfl) Z.isinstance (by decide +kernel) (pa_cons (pv 1) (pa_cons (pe_bltn (v := .ty "list") (by rfl) Z.list (by decide +kernel) rfl) pa_nil)))) (pw_and1 (pt_not (pt_val (pe_callB call_isi (by rfl) Z.isinstance (by decide +kernel) (pa_cons (pv 0) (pa_cons (pe_bltn (v := .ty "list") (by rfl) Z.list (by decide +kernel) rfl) pa_nil))))))))))) (pss_one (ps_ret pe_bl)) pss_nil) (pss_cons (ps_if (pt_cmpR op_ne (pe_callB call_len_seq (by rfl) Z.len (by decide +kernel) (pa_cons (pv 0) pa_nil)) (pe_callB call_len_seq (by rfl) Z.len (by decide +kernel) (pa_cons (pv 1) pa_nil)) (nomark _)) (pss_one (ps_ret pe_bl)) pss_nil) (pss_cons (ps_for PassesOwn.never rfl (pi_range1 rfl Z.range (pa_cons (pe_callB call_len_seq (by rfl) Z.len (by decide +kernel) (pa_cons (pv 1) pa_nil)) pa_nil)) (pg_name (i := 2) sc_l_same.nd rfl (Or.inl rfl)) (pss_one (ps_if (pt_not (pt_val (pe_call G_l_same hr rfl D_l_same.m D_l_same.F.kp D_l_same.b .nil pass0 (pa_cons (pe_ix ix_seq (pv 0) (pv 2) (fun _ _ => rfl)) (pa_cons (pe_ix ix_seq (pv 1) (pv 2) (fun _ _ => rfl)) pa_nil))))) (pss_one (ps_ret pe_bl)) pss_nil))) (pss_one (ps_ret pe_bl))))))))), ?_⟩
  cases d with
  | none =>
    have et : t = .non := ht
    have eu : u = .non := hu
    subst et eu
    refine ⟨_, rfl, rfl, _, rfl, iteT ?_⟩
    exact ⟨_, rfl, rfl, q⟩
  | bool b =>
    have et : t = .bl b := ht
    have eu : u = .bl b := hu
    subst et eu
    refine ⟨_, rfl, rfl, _, rfl, iteF ?_⟩
    have ty : TyX K H (.bl b) (.type "bool") := .base (.bl b)
    refine ⟨_, rfl, _, _, _, _, _, rfl, .ty _, ty, kit_ty (r := true) (by decide +kernel), _, rfl, iteT ?_⟩
    refine ⟨_, rfl, _, _, _, _, _, rfl, .ty _, ty, kit_ty (r := true) (by decide +kernel), _, rfl, iteT ?_⟩
    refine ⟨_, rfl, _, rfl, rfl, ?_⟩
    rw [decide_eq_true rfl]
    exact q
  | str x =>
    have et : t = .str x := ht
    have eu : u = .str x := hu
    subst et eu
    refine ⟨_, rfl, rfl, _, rfl, iteF ?_⟩
    have ty : TyX K H (.str x) (.type "str") := .base (.str x)
    refine ⟨_, rfl, _, _, _, _, _, rfl, .ty _, ty, kit_ty (r := false) (by decide +kernel), _, rfl, iteF ?_⟩
    refine ⟨_, rfl, _, _, _, _, _, rfl, .ty _, ty, kit_ty (r := true) (by decide +kernel), _, rfl, iteT ?_⟩
    refine ⟨_, rfl, _, _, _, _, _, rfl, .ty _, ty, kit_ty (r := true) (by decide +kernel), _, rfl, iteT ?_⟩
    refine ⟨_, rfl, _, rfl, rfl, ?_⟩
    rw [decide_eq_true rfl]
    exact q
  | int i =>
    have et : t = .int i := ht
    have eu : u = .int i := hu
    subst et eu
    refine ⟨_, rfl, rfl, _, rfl, iteF ?_⟩
    have ty : TyX K H (.int i) (.type "int") := .base (.int i)
    refine ⟨_, rfl, _, _, _, _, _, rfl, .ty _, ty, kit_ty (r := false) (by decide +kernel), _, rfl, iteF ?_⟩
    refine ⟨_, rfl, _, _, _, _, _, rfl, .ty _, ty, kit_ty (r := false) (by decide +kernel), _, rfl, iteF ?_⟩
    refine ⟨_, rfl, _, _, _, _, _, rfl, .ty _, ty, kit_ty (r := true) (by decide +kernel), _, rfl, iteT ?_⟩
    refine ⟨_, rfl, _, _, _, _, _, rfl, .ty _, ty, kit_ty (r := true) (by decide +kernel), _, rfl, iteT ?_⟩
    refine ⟨_, rfl, _, _, _, _, _, rfl, .ty _, ty, kit_ty (r := false) (by decide +kernel), _, rfl, _, rfl, iteT ?_⟩
    refine ⟨_, rfl, _, rfl, rfl, ?_⟩
    rw [decide_eq_true rfl]
    exact q
  | list ds =>
    obtain ⟨a, xs, rfl, ha, hl⟩ := ht
    obtain ⟨b, ys, rfl, hb, gl⟩ := hu
    refine ⟨_, rfl, rfl, _, rfl, iteF ?_⟩
    have ty : TyX K H (.ref a) (.type "list") := .base (.lst ha)
    have tz : TyX K H (.ref b) (.type "list") := .base (.lst hb)
    refine ⟨_, rfl, _, _, _, _, _, rfl, .ty _, tz, kit_ty (r := false) (by decide +kernel), _, rfl, iteF ?_⟩
    refine ⟨_, rfl, _, _, _, _, _, rfl, .ty _, tz, kit_ty (r := false) (by decide +kernel), _, rfl, iteF ?_⟩
    refine ⟨_, rfl, _, _, _, _, _, rfl, .ty _, tz, kit_ty (r := false) (by decide +kernel), _, rfl, iteF ?_⟩
    refine ⟨_, rfl, _, _, _, _, _, rfl, .ty _, tz, kit_ty (r := false) (by decide +kernel), _, rfl, iteF (iteF ?_)⟩
    refine ⟨_, rfl, _, _, _, _, _, rfl, .ty _, tz, kit_ty (r := true) (by decide +kernel), _, rfl, iteT ?_⟩
    refine ⟨_, rfl, _, _, _, _, _, rfl, .ty _, ty, kit_ty (r := true) (by decide +kernel), _, rfl, iteF ?_⟩
    cases n with
    | zero => exact hd.elim
    | succ n =>
      have hsp' := hsp n rfl
      subst hsp'
      obtain ⟨hd1, hd2⟩ := hd
      have lx := hl.len
      have ly := gl.len
      have l0 : ¬ (V.int ((xs.length : Nat) : Int) ≠ V.int ((ys.length : Nat) : Int)) := fun z => z (by rw [lx, ly])
      -- if len(told) != len(due)
      refine ⟨_, rfl, a, xs, rfl, .inl (SqL.of ha), _, rfl, b, ys, rfl, .inl (SqL.of hb), rfl, _, rfl, ?_⟩
      rw [lx, ly]
      refine iteNS rfl ?_
      -- for k in range(len(due))
      refine ⟨_, rfl, b, ys, rfl, .inl (SqL.of hb), _, rfl, by omega, by omega, ?_⟩
      have en : ((ys.length : Nat) : Int).toNat = ys.length := by omega
      rw [en]
      refine for_range (fun i σ H' => i ≤ ys.length ∧ H' = H ∧ ∃ v, σ = [some (.ref a), some (.ref b), v]) ⟨Nat.zero_le _, rfl, none, rfl⟩ ?_ ?_
      · rintro i σ H' hi ⟨_, rfl, v, rfl⟩
        have hi2 : i < ds.length := by omega
        obtain ⟨x, hx, dx⟩ := hl.get (List.getElem?_eq_getElem hi2)
        obtain ⟨y, hy, dy⟩ := gl.get (List.getElem?_eq_getElem hi2)
        have e : (0 : Int) + (i : Int) = ((i : Nat) : Int) := by omega
        rw [e]
        refine ⟨_, rfl, _, rfl, .inl ⟨a, xs, _, x, rfl, rfl, SqL.of ha, atI_nat hx, _, rfl, _, rfl, .inl ⟨b, ys, _, y, rfl, rfl, SqL.of hb, atI_nat hy, ?_⟩⟩⟩
        refine ⟨x, y, ds[i], rfl, dx, dy, hd2 _ (List.getElem_mem hi2), _, rfl, iteF ?_⟩
        exact ⟨hi, rfl, _, rfl⟩
      · rintro σ H' ⟨_, rfl, v, rfl⟩
        exact q
  | tuple ds =>
    obtain ⟨a, xs, rfl, ha, hl⟩ := ht
    obtain ⟨b, ys, rfl, hb, gl⟩ := hu
    refine ⟨_, rfl, rfl, _, rfl, iteF ?_⟩
    have ty : TyX K H (.ref a) (.type "tuple") := .base (.tup ha)
    have tz : TyX K H (.ref b) (.type "tuple") := .base (.tup hb)
    refine ⟨_, rfl, _, _, _, _, _, rfl, .ty _, tz, kit_ty (r := false) (by decide +kernel), _, rfl, iteF ?_⟩
    refine ⟨_, rfl, _, _, _, _, _, rfl, .ty _, tz, kit_ty (r := false) (by decide +kernel), _, rfl, iteF ?_⟩
    refine ⟨_, rfl, _, _, _, _, _, rfl, .ty _, tz, kit_ty (r := false) (by decide +kernel), _, rfl, iteF ?_⟩
    refine ⟨_, rfl, _, _, _, _, _, rfl, .ty _, tz, kit_ty (r := true) (by decide +kernel), _, rfl, iteT ?_⟩
    refine ⟨_, rfl, _, _, _, _, _, rfl, .ty _, ty, kit_ty (r := true) (by decide +kernel), _, rfl, iteF ?_⟩
    refine ⟨_, rfl, _, _, _, _, _, rfl, .ty _, tz, kit_ty (r := false) (by decide +kernel), _, rfl, iteF (iteF ?_)⟩
    cases n with
    | zero => exact hd.elim
    | succ n =>
      have hsp' := hsp n rfl
      subst hsp'
      obtain ⟨hd1, hd2⟩ := hd
      have lx := hl.len
      have ly := gl.len
      have l0 : ¬ (V.int ((xs.length : Nat) : Int) ≠ V.int ((ys.length : Nat) : Int)) := fun z => z (by rw [lx, ly])
      -- if len(told) != len(due)
      refine ⟨_, rfl, a, xs, rfl, .inr (SqT.of ha), _, rfl, b, ys, rfl, .inr (SqT.of hb), rfl, _, rfl, ?_⟩
      rw [lx, ly]
      refine iteNS rfl ?_
      -- for k in range(len(due))
      refine ⟨_, rfl, b, ys, rfl, .inr (SqT.of hb), _, rfl, by omega, by omega, ?_⟩
      have en : ((ys.length : Nat) : Int).toNat = ys.length := by omega
      rw [en]
      refine for_range (fun i σ H' => i ≤ ys.length ∧ H' = H ∧ ∃ v, σ = [some (.ref a), some (.ref b), v]) ⟨Nat.zero_le _, rfl, none, rfl⟩ ?_ ?_
      · rintro i σ H' hi ⟨_, rfl, v, rfl⟩
        have hi2 : i < ds.length := by omega
        obtain ⟨x, hx, dx⟩ := hl.get (List.getElem?_eq_getElem hi2)
        obtain ⟨y, hy, dy⟩ := gl.get (List.getElem?_eq_getElem hi2)
        have e : (0 : Int) + (i : Int) = ((i : Nat) : Int) := by omega
        rw [e]
        refine ⟨_, rfl, _, rfl, .inr (.inl ⟨a, xs, _, x, rfl, rfl, SqT.of ha, atI_nat hx, _, rfl, _, rfl, .inr (.inl ⟨b, ys, _, y, rfl, rfl, SqT.of hb, atI_nat hy, ?_⟩)⟩)⟩
        refine ⟨x, y, ds[i], rfl, dx, dy, hd2 _ (List.getElem_mem hi2), _, rfl, iteF ?_⟩
        exact ⟨hi, rfl, _, rfl⟩
      · rintro σ H' ⟨_, rfl, v, rfl⟩
        exact q
  | dict _ => exact ht.elim
theorem ok_same {f : Addr} {fd : FuncData} (D : DefT K mg "_law_same" "_law_same" s_l_same ["_law_told", "_law_due_here"] f fd) (Z : Zs mg) : ∀ n : Nat, FnOk P w K mg base CX0 (n + 1) f fd ["_law_told", "_law_due_here"] (spSame n)
  | 0 => same_step D Z (none_left) fun m h => by omega
  | n + 1 => same_step D Z (ok_same D Z n) fun m h => by
    have e : n = m := by omega
    rw [e]
end
end My

namespace My
open PySem PySem.Spec PyProof.Rows L2
/-! ### a call of a class that may raise, inside a try -/
def tMakeS (C : Addr) (sp : Sp) (dvs : List V) (E : L2.St → XK) (t : TA) : TE := fun σ H Q => t σ H fun vs H1 => ∀ x dx, H1 x = none → H1 dx = none → dx ≠ x →
  sp (.ref x :: (vs ++ dvs)) (upd (upd H1 dx (.own x)) x (.ins C dx [])) (fun v H2 => v = .non ∧ Q (.ref x) H2) (E σ)
section
variable {X : Cx} {CX : CXT} {k : Nat} {f C : Addr} {fd : FuncData} {ps : List Str} {sp : Sp} {E : L2.St → XK} {x : Str} {p pos : Pos} {e : Expr} {es : List Expr} {t : TA} {dvs : List V} {ds : List Value}
theorem run_makeS {pins : List (Addr × Obj)} {σ : L2.St} {H : Hp} {s : Shared} {Q : VK} {us : List Value} {vs : List V} (M : Mk X.K C f) (F : FnOk X.prog X.w X.K X.mg X.base CX k f fd ps sp) (hr : Room (k + 1) X.A) (hb : Binds X.K fd ps ds) (hd : Vals dvs ds)
    (hx : ∀ σ, PassesAt CX X σ (E σ)) (I : Inv X pins σ H s) (r : Vals vs us)
    (h : ∀ x dx, H x = none → H dx = none → dx ≠ x → sp (.ref x :: (vs ++ dvs)) (upd (upd H dx (.own x)) x (.ins C dx [])) (fun v H2 => v = .non ∧ Q (.ref x) H2) (E σ)) :
    wpAny (model X.prog X.w) X.A (call (.ref C) us) (EP X pins σ Q) X.xe s := by
  have hq := h (s.heap.objs.size + 1) s.heap.objs.size (I.hok.fresh (Nat.le_succ _)) (I.hok.fresh (Nat.le_refl _)) (Nat.ne_of_lt (Nat.lt_succ_self _))
  have I2 := Inv.made (C := C) I
  have r2 : Vals (V.ref (s.heap.objs.size + 1) :: (vs ++ dvs)) (Value.ref (s.heap.objs.size + 1) :: (us ++ ds)) := .cons rfl (r.append hd)
  have hl : (Value.ref (s.heap.objs.size + 1) :: us ++ ds).length = ps.length := by
    have e := r2.length
    rw [F.len _ _ _ _ hq] at e
    exact e.symm
  refine wpAny_call (make_map (f := f) I.kIn M.makes M.init (beq_iff_eq.mp M.fn) (codeAny_mono (F.run _ X.stack _ _ ⟨Value.ref (s.heap.objs.size + 1) :: us, []⟩ (Value.ref (s.heap.objs.size + 1) :: (us ++ ds)) _ _ (E σ) (hr.make C us [])
    (I2.env0.make C us []) (hb _ (Value.ref (s.heap.objs.size + 1) :: us) I2.kIn hl) r2 hq) fun r s' hq' => ?_))
  cases r with
  | error e => exact hx σ pins _ _ e s' I2 hq'
  | ok fl =>
    cases fl with
    | ret u =>
      obtain ⟨v, H', I3, rv, ev, q3⟩ := I2.after hq'
      subst ev
      exact ⟨rv, ⟨V.ref (s.heap.objs.size + 1), H', I3, rfl, q3⟩⟩
    | next => exact False.elim hq'
    | brk => exact False.elim hq'
    | cont => exact False.elim hq'
theorem pe_makeS (M : Mk X.K C f) (F : FnOk X.prog X.w X.K X.mg X.base CX k f fd ps sp) (hr : Room (k + 1) X.A) (hg : Gl X x) (hm : X.mg x = some (.ref C)) (hb : Binds X.K fd ps ds) (hd : Vals dvs ds) (hx : ∀ σ, PassesAt CX X σ (E σ))
    (ha : PA X (e :: es) t) (hdb : (x == ("__debug__" : Str)) = false := by decide) (he : starEach (e :: es) X.env = (false, eval e X.env) :: starEach es X.env := by rfl) (hpl : (backTo pos (starEach es X.env)).any (·.1) = false := by rfl) :
    PE X (.Call (.Name x p) (e :: es) [] pos) (tMakeS C sp dvs E t) := by
  refine ⟨fun pins s σ H Q I h => ?_⟩
  refine wpAny_Call_Name_kw (ld_glob I hg hm ?_ hdb)
  refine PySem.W.callWith_K (h₀ := X.base) I.ok.mod.kin M.kp (thn (ha.run pos pins s σ H _ I h) fun us s1 ⟨vs, H1, I1, r, q⟩ => ⟨I1.kIn, ?_⟩) he hpl
  exact run_makeS M F hr hb hd hx I1 r q
end
/-! ### != of a value and itself, or a copy -/
def Itm (x : V) : Prop := (∃ a, x = .ref a) ∨ flatB x = true
inductive SameV (H : Hp) : V → V → Prop where
  | lst {l m : Addr} {xs : List V} (e : H l = some (.lst xs)) (e' : H m = some (.lst xs)) (h : ∀ x ∈ xs, Itm x) : SameV H (.ref l) (.ref m)
  | tup {t : Addr} {xs : List V} (e : H t = some (.tup xs)) (h : ∀ x ∈ xs, Itm x) : SameV H (.ref t) (.ref t)
  | dk {a : Addr} (e : H a = some (.dK [])) : SameV H (.ref a) (.ref a)
  | non : SameV H .non .non
  | bl (b : Bool) : SameV H (.bl b) (.bl b)
  | int (i : Int) : SameV H (.int i) (.int i)
  | str (s : Str) : SameV H (.str s) (.str s)
def rNeS : R2 := fun x y H Q => SameV H x y ∧ Q (.bl false) H
theorem itm_at {A : Around} {s : Shared} {x : V} {u v : Value} (h : Itm x) (r : RelV x u) (r' : RelV x v) : SeqAt.EqAt A s u v true := by
  rcases h with ⟨a, rfl⟩ | h
  · cases (show u = Value.ref a from r)
    cases (show v = Value.ref a from r')
    exact SeqAt.EqAt.same _
  · exact eqAt_same r r' h
theorem itms_at {A : Around} {s : Shared} {xs : List V} {us ws : List Value} (h : ∀ x ∈ xs, Itm x) (r1 : Vals xs us) (r2 : Vals xs ws) (j : Nat) (h1 : j < us.length) (h2 : j < ws.length) : SeqAt.EqAt A s us[j] ws[j] true := by
  have hx : j < xs.length := by rw [r1.length]; exact h1
  obtain ⟨u, hu, ru⟩ := r1.get (List.getElem?_eq_getElem hx)
  obtain ⟨v, hv, rv⟩ := r2.get (List.getElem?_eq_getElem hx)
  rw [List.getElem?_eq_getElem h1] at hu
  rw [List.getElem?_eq_getElem h2] at hv
  rw [Option.some.inj hu, Option.some.inj hv]
  exact itm_at (h _ (List.getElem_mem hx)) ru rv
theorem op_neS {X : Cx} (hu : X.A.units < cLine) : OpR X (compareOp .NotEq) rNeS := by
  intro pins s σ H x y v u Q I rx ry h
  obtain ⟨h, q⟩ := h
  have all : ∀ n : Nat, ((List.range n).all fun _ => true) = true := fun n => List.all_eq_true.mpr fun _ _ => rfl
  cases h with
  | @lst l m xs e e' hi =>
    cases (show v = Value.ref l from rx)
    cases (show u = Value.ref m from ry)
    obtain ⟨us, r1, p1, _⟩ := I.list (.of e)
    obtain ⟨ws, r2, p2, _⟩ := I.list (.of e')
    have hsz : us.toArray.size = ws.toArray.size := by
      rw [List.size_toArray, List.size_toArray, ← r1.length, ← r2.length]
    have k := SeqAt.RcNeAt.lists (A := X.A) (e := fun _ => true) p1.isList p2.isList hsz hu (fun j h1 h2 => by
      have := itms_at (A := X.A.in1) (s := s) hi r1 r2 j (by simpa using h1) (by simpa using h2)
      simpa using this)
    rw [all] at k
    exact k _ _ _ _ ⟨.bl false, H, I, rfl, q⟩
  | @tup t xs e hi =>
    cases (show v = Value.ref t from rx)
    cases (show u = Value.ref t from ry)
    obtain ⟨us, r1, p1, _⟩ := I.tuple (.of e)
    obtain ⟨o, eo, hc, n, hd⟩ := p1
    have k := SeqAt.RcNeAt.tuples (A := X.A) (s := s) (l := t) (b := t) (items := us.toArray) (items2 := us.toArray) (e := fun _ => true) ⟨o, eo, hc, n, hd⟩ ⟨o, eo, hc, n, hd⟩ hu (fun j h1 h2 => by
      have := itms_at (A := X.A.in1) (s := s) hi r1 r1 j (by simpa using h1) (by simpa using h2)
      simpa using this)
    rw [all] at k
    have e : (!(true && us.toArray.size == us.toArray.size)) = false := by simp
    rw [e] at k
    exact k _ _ _ _ ⟨.bl false, H, I, rfl, q⟩
  | @dk a e =>
    cases (show v = Value.ref a from rx)
    cases (show u = Value.ref a from ry)
    obtain ⟨_, ya, va, ra, da⟩ := (show ObjOk X.prog X.w H s.heap a (.dK []) from I.hok a _ e)
    have ev : va = [] := by
      cases ra
      rfl
    subst ev
    exact PySem.W.keq_ne (knd := mixKind X.prog X.w) (r := true) ya ya da da hu (fun _ => .nil) ⟨.bl false, H, I, rfl, q⟩
  | non =>
    cases (show v = Value.none from rx)
    cases (show u = Value.none from ry)
    exact SeqAt.RcNeAt.none_none _ _ _ _ ⟨.bl false, H, I, rfl, q⟩
  | bl b =>
    cases (show v = Value.bool b from rx)
    cases (show u = Value.bool b from ry)
    have k := SeqAt.RcNeAt.bool_bool (A := X.A) (s := s) b b
    rw [beq_self_eq_true] at k
    exact k _ _ _ _ ⟨.bl false, H, I, rfl, q⟩
  | int i =>
    obtain ⟨t, rfl⟩ := (show ∃ t, v = Value.int i t from rx)
    obtain ⟨t', rfl⟩ := (show ∃ t, u = Value.int i t from ry)
    have k := SeqAt.RcNeAt.int_int (A := X.A) (s := s) i t i t'
    rw [beq_self_eq_true] at k
    exact k _ _ _ _ ⟨.bl false, H, I, rfl, q⟩
  | str i =>
    obtain ⟨t, rfl⟩ := (show ∃ t, v = Value.str i t from rx)
    obtain ⟨t', rfl⟩ := (show ∃ t, u = Value.str i t from ry)
    have k := SeqAt.RcNeAt.str_str (A := X.A) (s := s) i t i t'
    rw [beq_self_eq_true] at k
    exact k _ _ _ _ ⟨.bl false, H, I, rfl, q⟩
end My

namespace My
open PySem L2
section
variable {P : Program} {w : World} {K : PySem.W.Frag} {mg : Str → Option Value} {base : Heap} {tl : Tok} {aP aN aT aO aL aH aI C : Addr}
theorem ok_is_letterX {f f1 f2 : Addr} {fd fd1 fd2 : FuncData} (N : Nm5) (D : DefT K mg "is_letter" "is_letter" s_is_letter ["row", "_"] f fd) (Z : Zs mg) (T : Tb K mg tl aP aN aT aO aL aH aI) (B : IsB K C)
    (D_has_length : DefT K mg "has_length" "has_length" s_has_length ["row", "many"] f1 fd1) (D_is_name : DefT K mg "is_name" "is_name" s_is_name ["value"] f2 fd2) :
    FnOk P w K mg base CX0 4 f fd ["row", "_"] (spItemX C N .us) := by
  have G_has_length := ok_has_lengthX (P := P) (w := w) (base := base) D_has_length Z B
  have G_is_name := ok_is_nameX (P := P) (w := w) (base := base) D_is_name Z T B
  refine D.F.ok sc_is_letter (fun vs H Q E h => ?_) (fun cdv A outer s H vs Q E hr h => ?_)
  · obtain ⟨v, nd, rfl, _⟩ := h
    rfl
  obtain ⟨v, nd, rfl, hv, _, q⟩ := h
  refine ⟨_, (pss_one (ps_ret (pe_and (pe_call G_has_length (hr.mono (by decide)) rfl D_has_length.m D_has_length.F.kp D_has_length.b .nil pass0 (pa_cons (pv 0) (pa_cons pe_int pa_nil))) (pe_and (pe_call G_is_name (hr.mono (by decide)) rfl D_is_name.m D_is_name.F.kp D_is_name.b .nil pass0 (pa_cons (pe_ix ix_tup (pv 0) pe_int (fun _ _ => rfl)) pa_nil)) (pe_one (pe_callB call_isi (by rfl) Z.isinstance (by decide +kernel) (pa_cons (pe_ix ix_tup (pv 0) pe_int (fun _ _ => rfl)) (pa_cons (pe_bltn (v := .ty "bool") (by rfl) Z.bool (by decide +kernel) rfl) pa_nil)))))))), ?_⟩
  refine ⟨_, rfl, v, 2, rfl, hv.vl, fun r hr1 => ?_⟩
  refine ⟨_, rfl, ?_⟩
  have no : ∀ {H' : Hp}, Same H H' → ¬ RightI N .us H v → Q (.bl false) H' := fun s n => q false _ s ⟨fun z => (by cases z), fun z => absurd z n⟩
  cases r with
  | false =>
    refine ifF rfl (no (Same.refl H) ?_)
    rintro ⟨d, fp, ⟨s, tr, rfl, _⟩, hD⟩
    obtain ⟨t, xs, e, ht, hl⟩ := hD
    have := hr1.mpr ⟨t, xs, e, ht, by rw [hl.len]; rfl⟩
    cases this
  | true =>
  obtain ⟨t, xs, rfl, ht, hn⟩ := hr1.mp rfl
  obtain ⟨x0, x1, rfl⟩ : ∃ x0 x1, xs = [x0, x1] := by
    match xs, hn with
    | [x0, x1], _ => exact ⟨x0, x1, rfl⟩
  have v0 := hv.item (.inl ht) (x := x0) (by simp)
  have v1 := hv.item (.inl ht) (x := x1) (by simp)
  refine ifT rfl ?_
  refine ⟨_, rfl, t, _, _, _, rfl, rfl, .of ht, atI_nat (j := 0) rfl, x0, rfl, v0.vl, fun r H1 s1 hr2 => ⟨_, rfl, ?_⟩⟩
  cases r with
  | false =>
    refine iteF (no s1 ?_)
    rintro ⟨d, fp, ⟨s, tr, rfl, hs⟩, hD⟩
    obtain ⟨t', xs', e, ht', x0', r0, g0, g1, rfl, rfl, ⟨rfl, rfl⟩, _⟩ := hD
    cases e
    rw [ht] at ht'
    cases ht'
    have := hr2.mpr ⟨s, rfl, hs⟩
    cases this
  | true =>
  obtain ⟨s, rfl, hs⟩ := hr2.mp rfl
  refine iteT ?_
  obtain ⟨ty, b1, b2, b3, b4, tyx, _, _, _, k4, _, _, _, i4⟩ := (v1.same s1).vl.kinds B
  refine ⟨_, rfl, t, _, _, _, rfl, rfl, .of (s1 _ _ ht), atI_nat (j := 1) rfl, _, _, _, _, _, rfl, .ty _, tyx, k4, ?_⟩
  refine q b4 H1 s1 (i4.trans ?_)
  constructor
  · rintro ⟨b, rfl⟩
    exact ⟨.tuple [.str s, .bool b], [], ⟨s, b, rfl, hs⟩, tD ht (.c (sD _) (.c (bD _) .n))⟩
  · rintro ⟨d, fp, ⟨s', b, rfl, hs'⟩, hD⟩
    obtain ⟨t', xs', e, ht', x0', r0, g0, g1, rfl, rfl, _, x1', r1, g2, g3, rfl, rfl, ⟨rfl, rfl⟩, rfl, rfl⟩ := hD
    cases e
    rw [ht] at ht'
    cases ht'
    exact ⟨b, rfl⟩
theorem ok_is_markX {f f2 : Addr} {fd fd2 : FuncData} (N : Nm5) (D : DefT K mg "is_mark" "is_mark" s_is_mark ["row", "_"] f fd) (Z : Zs mg) (T : Tb K mg tl aP aN aT aO aL aH aI) (B : IsB K C) (D_is_name : DefT K mg "is_name" "is_name" s_is_name ["value"] f2 fd2) :
    FnOk P w K mg base CX0 4 f fd ["row", "_"] (spItemX C N .ms) := by
  have G_is_name := ok_is_nameX (P := P) (w := w) (base := base) D_is_name Z T B
  refine D.F.ok sc_is_mark (fun vs H Q E h => ?_) (fun cdv A outer s H vs Q E hr h => ?_)
  · obtain ⟨v, nd, rfl, _⟩ := h
    rfl
  obtain ⟨v, nd, rfl, hv, _, q⟩ := h
  refine ⟨_, (pss_one (ps_ret (pe_call G_is_name (hr.mono (by decide)) rfl D_is_name.m D_is_name.F.kp D_is_name.b .nil pass0 (pa_cons (pv 0) pa_nil)))), ?_⟩
  refine ⟨_, rfl, v, rfl, hv.vl, fun r H1 s1 hr1 => q r H1 s1 (hr1.trans ?_)⟩
  constructor
  · rintro ⟨s, rfl, hs⟩
    exact ⟨.str s, [], ⟨s, rfl, hs⟩, sD s⟩
  · rintro ⟨d, fp, ⟨s, rfl, hs⟩, hD⟩
    exact ⟨s, hD.1, hs⟩
end
end My

namespace My
open PySem L2
abbrev s_l_kinds_fault : Stmt := top 49
theorem sc_l_kinds_fault : FnScope ["_law_rows", "_law_taken", "_law_index", "_law_row"] ["_law_rows"] (defScope s_l_kinds_fault) := ⟨rfl, rfl, rfl, by decide +kernel, rfl, by decide +kernel, by decide +kernel⟩
def rowL (p : Str × Bool) : PyData := .tuple [.str p.1, .bool p.2]
theorem any_rowsL {s : Str} : ∀ ps : List (Str × Bool), ((ps.map rowL).map (cutD 1)).any (fun z => PyData.eqv z (.tuple [.str s])) = decide (s ∈ ps.map Prod.fst)
  | [] => by
    rw [decide_eq_false (by simp)]
    rfl
  | p :: ps => by
    have ih := any_rowsL (s := s) ps
    rw [List.map_cons, List.map_cons, List.any_cons, ih]
    have e : PyData.eqv (cutD 1 (rowL p)) (.tuple [.str s]) = decide (p.1 = s) := by
      show PyData.eqv (.tuple [.str p.1]) (.tuple [.str s]) = _
      by_cases h : p.1 = s
      · simp [PyData.eqv, PyData.eqvAll, h]
      · simp [PyData.eqv, PyData.eqvAll, h]
    rw [e, List.map_cons]
    by_cases h : p.1 = s
    · rw [decide_eq_true h, decide_eq_true (show s ∈ p.1 :: ps.map Prod.fst by simp [h])]
      rfl
    · rw [decide_eq_false h, Bool.false_or]
      have h' : ¬ s = p.1 := fun z => h z.symm
      by_cases m : s ∈ ps.map Prod.fst
      · rw [decide_eq_true m, decide_eq_true (List.mem_cons_of_mem _ m)]
      · rw [decide_eq_false m, decide_eq_false (fun z => (List.mem_cons.mp z).elim h' m)]
theorem stand_rowL {s : Str} {t : Bool} {ps : List (Str × Bool)} : standB .us (ps.map rowL) (rowL (s, t)) = true ↔ s ∉ ps.map Prod.fst := by
  show (!(((ps.map rowL).map (cutD 1)).any fun z => PyData.eqv z (.tuple [.str s]))) = true ↔ _
  rw [any_rowsL, Bool.not_eq_true', decide_eq_false_iff_not]
/-- the first i rows are right -/
structure DueL (H : Hp) (xs : List V) (i : Nat) (ps : List (Str × Bool)) : Prop where
  d : DfL H (ps.map rowL) (xs.take i) []
  r : ∀ p ∈ ps, Nm p.1
  s : ∀ (j : Nat) (d : PyData), (ps.map rowL)[j]? = some d → standB .us ((ps.map rowL).take j) d = true
theorem DueL.items {H : Hp} {xs : List V} {i : Nat} {ps : List (Str × Bool)} (N : Nm5) (h : DueL H xs i ps) : ∀ d ∈ ps.map rowL, ItemR N .us d := fun d m => by
  obtain ⟨p, hp, rfl⟩ := List.mem_map.mp m
  exact ⟨p.1, p.2, rfl, h.r p hp⟩
theorem DueL.good {H : Hp} {xs : List V} {i : Nat} {ps : List (Str × Bool)} (N : Nm5) (h : DueL H xs i ps) : GoodTo N .us H xs i := ⟨_, [], h.d, h.items N, h.s⟩
theorem DueL.next {H : Hp} {xs : List V} {i : Nat} {ps : List (Str × Bool)} {x : V} {N : Nm5} (h : DueL H xs i ps) (hx : xs[i]? = some x) (g : GoodTo N .us H xs (i + 1)) : ∃ (a : Addr) (s : Str) (t : Bool), x = .ref a ∧ H a = some (.tup [.str s, .bl t]) ∧ Nm s ∧ s ∉ ps.map Prod.fst := by
  obtain ⟨ds, fp, d, f, h1, _, _, hD, ⟨s, t, rfl, hs⟩, hst⟩ := (GoodTo.succ hx).mp g
  rw [DfL.fn ds (ps.map rowL) _ _ _ h1 h.d] at hst
  obtain ⟨a, ys, rfl, ha, x0, r0, f0, g0, rfl, _, ⟨rfl, _⟩, x1, r1, f1, g1, rfl, _, ⟨rfl, _⟩, rfl, _⟩ := hD
  exact ⟨a, s, t, rfl, ha, hs, stand_rowL.mp hst⟩
theorem DueL.more {H : Hp} {xs : List V} {i : Nat} {ps : List (Str × Bool)} {a : Addr} {s : Str} {t : Bool} (h : DueL H xs i ps) (hx : xs[i]? = some (.ref a)) (ha : H a = some (.tup [.str s, .bl t])) (hs : Nm s) (c2 : s ∉ ps.map Prod.fst) : DueL H xs (i + 1) (ps ++ [(s, t)]) := by
  have g : GoodTo ⟨[], [], [], [], []⟩ .us H xs (i + 1) := (GoodTo.succ hx).mpr ⟨_, _, rowL (s, t), [], h.d, h.items _, h.s, tD ha (.c (sD _) (.c (bD _) .n)), ⟨s, t, rfl, hs⟩, stand_rowL.mpr c2⟩
  have et : xs.take (i + 1) = xs.take i ++ [.ref a] := by
    rw [List.take_succ, hx]
    rfl
  have e : (ps ++ [(s, t)]).map rowL = ps.map rowL ++ [rowL (s, t)] := by rw [List.map_append]; rfl
  refine ⟨by rw [et, e]; exact h.d.snoc (tD ha (.c (sD _) (.c (bD _) .n))), fun p m => ?_, fun j d ej => ?_⟩
  · rcases List.mem_append.mp m with m | m
    · exact h.r p m
    · rw [List.mem_singleton.mp m]
      exact hs
  · rw [e] at ej ⊢
    by_cases hj : j < (ps.map rowL).length
    · rw [List.getElem?_append_left hj] at ej
      rw [List.take_append_of_le_length (by omega)]
      exact h.s j d ej
    · rw [List.getElem?_append_right (by omega)] at ej
      have ei : j = (ps.map rowL).length := by
        have := (List.getElem?_eq_some_iff.mp ej).1
        rw [List.length_singleton] at this
        omega
      subst ei
      rw [Nat.sub_self] at ej
      cases ej
      rw [List.take_left]
      exact stand_rowL.mpr c2
def spKf (C : Addr) : Sp := fun vs H Q _ => ∃ (N : Nm5) (v : V), vs = [v] ∧ Vd C H 5 v ∧ (∀ l xs, v = .ref l → H l = some (.lst xs) → xs.length ≤ 100) ∧ ∀ r H', Same H H' → WI N .us H v r → Q (oI r) H'
section
variable {P : Program} {w : World} {K : PySem.W.Frag} {mg : Str → Option Value} {base : Heap} {C : Addr}
theorem ok_kf {f fI : Addr} {fd fdI : FuncData} (D : DefT K mg "_law_kinds_fault" "_law_kinds_fault" s_l_kinds_fault ["_law_rows"] f fd) (Z : Zs mg) (B : IsB K C) (D_l_is_name : DefT K mg "_law_is_name" "_law_is_name" s_l_is_name ["_law_thing_here"] fI fdI) : FnOk P w K mg base CX0 2 f fd ["_law_rows"] (spKf C) := by
  have G_l_is_name := ok_is_nameL (P := P) (w := w) (base := base) D_l_is_name Z B
  refine D.F.ok sc_l_kinds_fault (fun vs H Q E h => ?_) (fun cdv A outer s H vs Q E hr h => ?_)
  · obtain ⟨N, v, rfl, _⟩ := h
    rfl
  obtain ⟨N, v, rfl, hv, hlen, q⟩ := h
  refine ⟨_, (pss_cons (ps_if (PW.pt (pw_or (pt_not (pt_val (pe_callB call_isi (by rfl) Z.isinstance (by decide +kernel) (pa_cons (pv 0) (pa_cons (pe_bltn (v := .ty "list") (by rfl) Z.list (by decide +kernel) rfl) pa_nil))))) (pw_or (pt_cmpR op_lt (pe_callB call_len_seq (by rfl) Z.len (by decide +kernel) (pa_cons (pv 0) pa_nil)) pe_int (nomark _)) (pw_or1 (pt_cmpR op_gt (pe_callB call_len_seq (by rfl) Z.len (by decide +kernel) (pa_cons (pv 0) pa_nil)) pe_int (nomark _)))))) (pss_one (ps_ret (pe_un un_neg pe_int))) pss_nil) (pss_cons (ps_set (i := 1) sc_l_kinds_fault.nd rfl (Or.inl rfl) (pe_lst pa_nil)) (pss_cons (ps_for PassesOwn.never rfl (pi_range1 rfl Z.range (pa_cons (pe_callB call_len_seq (by rfl) Z.len (by decide +kernel) (pa_cons (pv 0) pa_nil)) pa_nil)) (pg_name (i := 2) sc_l_kinds_fault.nd rfl (Or.inl rfl)) (pss_cons (ps_set (i := 3) sc_l_kinds_fault.nd rfl (Or.inl rfl) (pe_ix ix_list (pv 0) (pv 2) (fun _ _ => rfl))) (pss_cons (ps_if (PW.pt (pw_or (pt_not (pt_val (pe_callB call_isi (by rfl) Z.isinstance (by decide +kernel) (pa_cons (pv 3) (pa_cons (pe_bltn (v := .ty "tuple") (by rfl) Z.tuple (by decide +kernel) rfl) pa_nil))))) (pw_or (pt_cmpR op_ne (pe_callB call_len_seq (by rfl) Z.len (by decide +kernel) (pa_cons (pv 3) pa_nil)) pe_int (nomark _)) (pw_or (pt_not (pt_val (pe_call G_l_is_name (hr.mono (by decide)) rfl D_l_is_name.m D_l_is_name.F.kp D_l_is_name.b .nil pass0 (pa_cons (pe_ix ix_tup (pv 3) pe_int (fun _ _ => rfl)) pa_nil)))) (pw_or1 (pt_not (pt_val (pe_callB call_isi (by rfl) Z.isinstance (by decide +kernel) (pa_cons (pe_ix ix_tup (pv 3) pe_int (fun _ _ => rfl)) (pa_cons (pe_bltn (v := .ty "bool") (by rfl) Z.bool (by decide +kernel) rfl) pa_nil)))))))))) (pss_one (ps_ret (pv 2))) pss_nil) (pss_cons (ps_if (pt_cmpR op_in_seq (pe_ix ix_tup (pv 3) pe_int (fun _ _ => rfl)) (pv 1) (by rfl)) (pss_one (ps_ret (pv 2))) pss_nil) (pss_one (ps_expr (pe_bm PySem.F.plainAttrs_list PySem.F.slot_list_append PySem.F.type_list_append mt_append (pv 1) (pa_cons (pe_ix ix_tup (pv 3) pe_int (fun _ _ => rfl)) pa_nil)))))))) (pss_one (ps_ret pe_non))))), ?_⟩
  have len : ∀ {l : Addr} {xs : List V}, v = .ref l → H l = some (.lst xs) → ¬ (1 ≤ xs.length ∧ xs.length ≤ 5) → ¬ LenOk .us H v := fun {l xs} e1 e2 n ⟨l', xs', e1', e2', h1, h2⟩ => by
    rw [e1] at e1'
    cases e1'
    rw [e2] at e2'
    cases e2'
    exact n ⟨h1, h2⟩
  obtain ⟨ty, b1, b2, b3, b4, tyx, _, k2, _, _, _, i2, _⟩ := hv.vl.kinds B
  refine ⟨_, rfl, _, _, _, _, _, rfl, .ty _, tyx, k2, _, rfl, ?_⟩
  cases b2 with
  | false =>
    exact iteT ⟨_, rfl, q (some (-1)) H (Same.refl H) (.inl ⟨fun ⟨l, xs, e1, e2, _⟩ => (by have := i2.mpr ⟨l, xs, e1, e2⟩; cases this), rfl⟩)⟩
  | true =>
  obtain ⟨l, xs, rfl, hl⟩ := i2.mp rfl
  have hle := hlen l xs rfl hl
  refine iteF ⟨_, rfl, l, _, rfl, .inl (.of hl), _, _, rfl, rfl, _, rfl, ?_⟩
  by_cases h2 : 1 ≤ xs.length
  rotate_left
  · rw [decide_eq_true (show ((xs.length : Nat) : Int) < 1 by omega)]
    exact iteT ⟨_, rfl, q (some (-1)) H (Same.refl H) (.inl ⟨len rfl hl (by omega), rfl⟩)⟩
  rw [decide_eq_false (show ¬ ((xs.length : Nat) : Int) < 1 by omega)]
  refine iteF ⟨_, rfl, l, _, rfl, .inl (.of hl), _, _, rfl, rfl, _, rfl, ?_⟩
  by_cases h7 : xs.length ≤ 5
  rotate_left
  · rw [decide_eq_true (show ((xs.length : Nat) : Int) > 5 by omega)]
    exact iteT ⟨_, rfl, q (some (-1)) H (Same.refl H) (.inl ⟨len rfl hl (by omega), rfl⟩)⟩
  rw [decide_eq_false (show ¬ ((xs.length : Nat) : Int) > 5 by omega)]
  refine iteF ⟨Nat.zero_le _, fun tk htk => ?_⟩
  have s0 := same_upd (o := .lst []) htk
  refine ⟨_, rfl, l, xs, rfl, .inl (.of (s0 _ _ hl)), _, rfl, by omega, by omega, ?_⟩
  have en : ((xs.length : Nat) : Int).toNat = xs.length := by omega
  rw [en]
  refine for_range (fun i σ G => i ≤ xs.length ∧ ∃ (v2 v3 : Option V) (ps : List (Str × Bool)), σ = [some (.ref l), some (.ref tk), v2, v3] ∧ ps.length = i ∧ DueL H xs i ps ∧ G tk = some (.lst ((ps.map Prod.fst).map V.str)) ∧ Same H G)
    ⟨Nat.zero_le _, _, _, [], rfl, rfl, ⟨(by rw [List.take_zero]; exact .n), fun p m => (by cases m), fun j d e => (by simp at e)⟩, upd_same, s0⟩ ?_ ?_
  · rintro i σ G hi ⟨_, v2, v3, ps, rfl, hpl, hI, htk2, sG⟩
    have hi2 : i < xs.length := by omega
    have e : (0 : Int) + (i : Int) = ((i : Nat) : Int) := by omega
    rw [e]
    obtain ⟨x, hx⟩ : ∃ x, xs[i]? = some x := ⟨_, List.getElem?_eq_getElem hi2⟩
    have vx := hv.item (.inr hl) (List.mem_of_getElem? hx)
    have bad : ∀ {G' : Hp}, Same H G' → ¬ GoodTo N .us H xs (i + 1) → Q (.int (i : Int)) G' := fun sG' ng => q (some (i : Int)) _ sG' (.inr ⟨l, xs, i, rfl, hl, h2, h7, rfl, hi2, hI.good N, ng⟩)
    refine ⟨_, rfl, _, rfl, l, xs, _, _, rfl, rfl, .of (sG _ _ hl), atI_nat hx, ?_⟩
    obtain ⟨ty, b1, b2, b3, b4, tyx, k1, _, _, _, i1, _⟩ := (vx.vl.same sG).kinds B
    refine ⟨_, rfl, _, _, _, _, _, rfl, .ty _, tyx, k1, _, rfl, ?_⟩
    cases b1 with
    | false =>
      refine iteT ⟨_, rfl, bad sG fun g => ?_⟩
      obtain ⟨a, s, t, rfl, ha, _⟩ := hI.next hx g
      have := i1.mpr ⟨a, _, rfl, sG _ _ ha⟩
      cases this
    | true =>
    obtain ⟨t, row, rfl, ht⟩ := i1.mp rfl
    have htH : H t = some (.tup row) := by
      obtain ⟨o, eo⟩ := vx.vl.obj
      have := sG _ _ eo
      rw [ht] at this
      cases this
      exact eo
    have at' : ∀ {a : Addr} {s : Str} {u : Bool}, V.ref t = V.ref a → H a = some (.tup [.str s, .bl u]) → row = [.str s, .bl u] := fun {a s u} e1 e2 => by
      cases e1
      rw [htH] at e2
      cases e2
      rfl
    refine iteF ⟨_, rfl, t, _, rfl, .inr (.of ht), rfl, _, rfl, ?_⟩
    by_cases hn : row.length = 2
    rotate_left
    · rw [decide_eq_false (show ¬ V.int ((row.length : Nat) : Int) = V.int 2 from fun z => hn (by injection z with z; omega))]
      refine iteT ⟨_, rfl, bad sG fun g => ?_⟩
      obtain ⟨a, s, u, e1, ha, _⟩ := hI.next hx g
      rw [at' e1 ha] at hn
      exact hn rfl
    obtain ⟨x0, x1, rfl⟩ : ∃ x0 x1, row = [x0, x1] := by
      match row, hn with
      | [x0, x1], _ => exact ⟨x0, x1, rfl⟩
    have v0 := (vx.item (.inl htH) (x := x0) (by simp)).same sG
    have v1 := (vx.item (.inl htH) (x := x1) (by simp)).same sG
    rw [decide_eq_true (show V.int (([x0, x1].length : Nat) : Int) = V.int 2 from rfl)]
    refine iteF ⟨_, rfl, t, _, _, _, rfl, rfl, .of ht, atI_nat (j := 0) rfl, x0, rfl, v0.vl, fun r hr1 => ⟨_, rfl, ?_⟩⟩
    cases r with
    | false =>
      refine iteT ⟨_, rfl, bad sG fun g => ?_⟩
      obtain ⟨a, s, u, e1, ha, hs, _⟩ := hI.next hx g
      have e := at' e1 ha
      injection e with e _
      have := hr1.mpr ⟨s, e, hs⟩
      cases this
    | true =>
    obtain ⟨s, rfl, hs⟩ := hr1.mp rfl
    obtain ⟨ty, b1, b2, b3, b4, tyx, _, _, _, k4, _, _, _, i4⟩ := v1.vl.kinds B
    refine iteF ⟨_, rfl, t, _, _, _, rfl, rfl, .of ht, atI_nat (j := 1) rfl, _, _, _, _, _, rfl, .ty _, tyx, k4, _, rfl, ?_⟩
    cases b4 with
    | false =>
      refine iteT ⟨_, rfl, bad sG fun g => ?_⟩
      obtain ⟨a, s, u, e1, ha, hs, _⟩ := hI.next hx g
      have e := at' e1 ha
      injection e with _ e
      injection e with e _
      have := i4.mpr ⟨u, e⟩
      cases this
    | true =>
    obtain ⟨u, rfl⟩ := i4.mp rfl
    refine iteF ⟨_, rfl, t, _, _, _, rfl, rfl, .of ht, atI_nat (j := 0) rfl, _, rfl, tk, _, rfl, .inl (.of htk2), rfl, flat_strs _, _, rfl, ?_⟩
    rw [in_strs]
    by_cases hin : s ∈ ps.map Prod.fst
    · rw [decide_eq_true hin]
      refine iteT ⟨_, rfl, bad sG fun g => ?_⟩
      obtain ⟨a, s', u', e1, ha, _, nin⟩ := hI.next hx g
      cases at' e1 ha
      exact nin hin
    rw [decide_eq_false hin]
    refine iteF ?_
    have l1000 : ((ps.map Prod.fst).map V.str).length < sizeLine := by
      rw [List.length_map, List.length_map]
      exact Nat.lt_of_lt_of_le (show ps.length < 1000 by omega) (by decide)
    have len1 : (ps ++ [(s, u)]).length = i + 1 := by
      rw [List.length_append, hpl]
      rfl
    have put1 : upd G tk (.lst ((ps.map Prod.fst).map V.str ++ [.str s])) tk = some (.lst (((ps ++ [(s, u)]).map Prod.fst).map V.str)) := by
      rw [upd_same, List.map_append, List.map_append]
      rfl
    exact ⟨_, rfl, .inl ⟨rfl, _, SqL.of htk2⟩, _, rfl, t, _, _, _, rfl, rfl, .of ht, atI_nat (j := 0) rfl, tk, _, _, rfl, rfl, htk2, l1000, hi2, _, _, ps ++ [(s, u)], rfl, len1, hI.more hx htH hs hin, put1, Same.put sG htk⟩
  · rintro σ G ⟨_, v2, v3, ps, rfl, hpl, hI, htk2, sG⟩
    exact q none G sG ⟨l, xs, rfl, hl, h2, h7, hI.good N⟩
end
end My

namespace My
open PySem L2
abbrev s_l_kinds : Stmt := top 47
theorem sc_l_kinds : FnScope ["_law_script", "_law_pool_here", "_law_names_here", "_law_rows", "_law_kind", "_law_at", "_law_name_here"] ["_law_script", "_law_pool_here"] (defScope s_l_kinds) := ⟨rfl, rfl, rfl, by decide +kernel, rfl, by decide +kernel, by decide +kernel⟩
theorem ixn_nat {n k : Nat} (h : k < n) : ixN n (k : Int) = some k := by
  unfold ixN
  rw [if_pos (by omega), if_pos (by omega)]
  simp
/-- a list, a tuple, an empty dict or no object -/
def Made (H : Hp) (v : V) : Prop := ∀ a, v = .ref a → (∃ xs, H a = some (.lst xs)) ∨ (∃ xs, H a = some (.tup xs)) ∨ H a = some (.dK [])
def spDrawn (K : PySem.W.Frag) (C : Addr) : Sp := fun vs H Q _ => ∃ (a p : Addr) (ns : List Int), vs = [.ref a, .ref p] ∧ Scr K H a p ns ∧ Pool H p ∧ ∀ (v : V) (H' : Hp), Kp p H H' → VS [p] C H' v → (∀ l xs, v = .ref l → H' l = some (.lst xs) → xs.length ≤ 30) → Q v H'
theorem TLn.tup {n : Nat} {H : Hp} {t : Addr} {xs : List V} (e : H t = some (.tup xs)) (h : xs.length ≤ n) : TLn n H (.ref t) := fun t' xs' z et => by
  cases z
  rw [e] at et
  cases et
  exact h
section
variable {P : Program} {w : World} {K : PySem.W.Frag} {mg : Str → Option Value} {base : Heap} {C : Addr}
theorem ok_kinds {f fD fO fW fN fNs fY fT fI : Addr} {fd fdD fdO fdW fdN fdNs fdY fdT fdI : FuncData} (D : DefT K mg "_law_kinds" "_law_kinds" s_l_kinds ["_law_script", "_law_pool_here"] f fd) (Z : Zs mg) (B : IsB K C) (D_l_draw : DefT K mg "_law_draw" "_law_draw" s_l_draw ["_law_script", "_law_pool_here", "_law_limit"] fD fdD)
    (D_l_one : DefT K mg "_law_one" "_law_one" s_l_one ["_law_script", "_law_pool_here", "_law_row"] fO fdO) (D_l_word : DefT K mg "_law_word" "_law_word" s_l_word ["_law_script", "_law_pool_here"] fW fdW) (D_l_name : DefT K mg "_law_name" "_law_name" s_l_name ["_law_script", "_law_pool_here", "_law_taken", "_law_others"] fN fdN) (D_l_names : DefT K mg "_law_names" "_law_names" s_l_names ["_law_script", "_law_pool_here", "_law_size", "_law_others"] fNs fdNs)
    (D_l_spoiled : DefT K mg "_law_spoiled" "_law_spoiled" s_l_spoiled ["_law_script", "_law_pool_here", "_law_row", "_law_names_here"] fY fdY) (D_l_thing : DefT K mg "_law_thing" "_law_thing" s_l_thing ["_law_script", "_law_pool_here", "_law_names_here"] fT fdT)
    (MB : Mk K C fI) (GI : FnOk P w K mg base CX0 7 fI fdI ["self", "states", "ups", "downs", "marks", "wishes", "answers", "tasks", "idles", "busies"] (spInit C)) (mC : mg "Book" = some (.ref C)) (bI : Binds K fdI ["self", "states", "ups", "downs", "marks", "wishes", "answers", "tasks", "idles", "busies"] []) : FnOk P w K mg base CX0 12 f fd ["_law_script", "_law_pool_here"] (spDrawn K C) := by
  have G_l_draw := ok_draw (P := P) (w := w) (base := base) D_l_draw Z
  have G_l_one := ok_one (P := P) (w := w) (base := base) D_l_one Z D_l_draw
  have G_l_names := ok_names (P := P) (w := w) (base := base) D_l_names Z D_l_draw D_l_one D_l_word D_l_name
  have G_l_spoiled := ok_spoiled (P := P) (w := w) (base := base) D_l_spoiled Z D_l_thing D_l_draw D_l_one D_l_word MB GI mC bI
  refine D.F.ok sc_l_kinds (fun vs H Q E h => ?_) (fun cdv A outer s H vs Q E hr h => ?_)
  · obtain ⟨a, p, ns, rfl, _⟩ := h
    rfl
  obtain ⟨a, p, ns, rfl, hS, hP, q⟩ := h
  have k0 := Kp.refl hP
  refine ⟨_, (pss_cons (ps_set (i := 2) sc_l_kinds.nd rfl (Or.inl rfl) (pe_call G_l_names (hr.mono (by decide)) rfl D_l_names.m D_l_names.F.kp D_l_names.b .nil pass0 (pa_cons (pv 0) (pa_cons (pv 1) (pa_cons (pe_op op_add pe_int (pe_call G_l_draw (hr.mono (by decide)) rfl D_l_draw.m D_l_draw.F.kp D_l_draw.b .nil pass0 (pa_cons (pv 0) (pa_cons (pv 1) (pa_cons pe_int pa_nil))))) (pa_cons (pe_lst pa_nil) pa_nil)))))) (pss_cons (ps_setLc (i := 3) (own := [("_law_name_here", 6)]) (g := gName 6) rfl sc_l_kinds.nd rfl rfl (sw_true rfl rfl rfl (by decide +kernel)) (pi_list (pv 2)) (blkOk_by (own := [("_law_name_here", 6)]) (N := ["_law_script", "_law_pool_here", "_law_names_here", "_law_rows", "_law_kind", "_law_at", "_law_name_here"]) (sc := defScope s_l_kinds) (by decide +kernel)) (fun _ _ _ _ _ => pg_name (i := 6) sc_l_kinds.nd rfl (Or.inl rfl)) (fun _ _ _ _ _ => pts_nil) (fun _ _ _ _ _ => (pe_tup (pa_cons (pv 6) (pa_cons (pe_cmpR op_eq (pe_call G_l_draw (hr.mono (by decide)) rfl D_l_draw.m D_l_draw.F.kp D_l_draw.b .nil pass0 (pa_cons (pv 0) (pa_cons (pv 1) (pa_cons pe_int pa_nil)))) pe_int (nomark _)) pa_nil))))) (pss_cons (ps_set (i := 4) sc_l_kinds.nd rfl (Or.inl rfl) (pe_call G_l_draw (hr.mono (by decide)) rfl D_l_draw.m D_l_draw.F.kp D_l_draw.b .nil pass0 (pa_cons (pv 0) (pa_cons (pv 1) (pa_cons pe_int pa_nil))))) (pss_cons (ps_set (i := 5) sc_l_kinds.nd rfl (Or.inl rfl) (pe_call G_l_draw (hr.mono (by decide)) rfl D_l_draw.m D_l_draw.F.kp D_l_draw.b .nil pass0 (pa_cons (pv 0) (pa_cons (pv 1) (pa_cons (pe_callB call_len_seq (by rfl) Z.len (by decide +kernel) (pa_cons (pv 3) pa_nil)) pa_nil))))) (pss_cons (ps_if (pt_cmpR op_eq (pv 4) pe_int (nomark _)) (pss_one (ps_asg (pe_call G_l_spoiled (hr.mono (by decide)) rfl D_l_spoiled.m D_l_spoiled.F.kp D_l_spoiled.b .nil pass0 (pa_cons (pv 0) (pa_cons (pv 1) (pa_cons (pe_ix ix_list (pv 3) (pv 5) (fun _ _ => rfl)) (pa_cons (pv 2) pa_nil))))) (pg_sub (pv 3) (pv 5) set_list))) (pss_one (ps_if (pt_cmpR op_eq (pv 4) pe_int (nomark _)) (pss_one (ps_asg (pe_tup (pa_cons (pe_call G_l_one (hr.mono (by decide)) rfl D_l_one.m D_l_one.F.kp D_l_one.b .nil pass0 (pa_cons (pv 0) (pa_cons (pv 1) (pa_cons (pv 2) pa_nil)))) (pa_cons pe_bl pa_nil))) (pg_sub (pv 3) (pv 5) set_list))) (pss_one (ps_if (pt_cmpR op_eq (pv 4) pe_int (nomark _)) (pss_one (ps_asg (pe_tup (pa_cons (pe_ix ix_list (pv 2) (pv 5) (fun _ _ => rfl)) (pa_cons (pe_call G_l_one (hr.mono (by decide)) rfl D_l_one.m D_l_one.F.kp D_l_one.b .nil pass0 (pa_cons (pv 0) (pa_cons (pv 1) (pa_cons (pe_lst (pa_cons pe_int (pa_cons pe_int (pa_cons pe_non (pa_cons pe_str (pa_cons pe_str (pa_cons (pe_lst pa_nil) pa_nil))))))) pa_nil)))) pa_nil))) (pg_sub (pv 3) (pv 5) set_list))) (pss_one (ps_if (pt_cmpR op_eq (pv 4) pe_int (nomark _)) (pss_one (ps_set (i := 3) sc_l_kinds.nd rfl (Or.inl rfl) (pe_op op_cat (pe_slice sl_list (pv 3) po_none (po_some (pv 5))) (pe_lc (own := [("_law_name_here", 6)]) (g := gName 6) rfl sc_l_kinds.nd  (pi_list (pv 2)) (blkOk_by (own := [("_law_name_here", 6)]) (N := ["_law_script", "_law_pool_here", "_law_names_here", "_law_rows", "_law_kind", "_law_at", "_law_name_here"]) (sc := defScope s_l_kinds) (by decide +kernel)) (fun _ _ _ _ _ => pg_name (i := 6) sc_l_kinds.nd rfl (Or.inl rfl)) (fun _ _ _ _ _ => pts_nil) (fun _ _ _ _ _ => (pe_tup (pa_cons (pe_op op_add_str (pv 6) pe_str) (pa_cons pe_bl pa_nil)))))))) (pss_one (ps_if (PW.pt (pw_and (pt_cmpR op_eq (pv 4) pe_int (nomark _)) (pw_and1 (pt_cmpR op_eq (pv 5) pe_int (nomark _))))) (pss_one (ps_ret (pe_call G_l_one (hr.mono (by decide)) rfl D_l_one.m D_l_one.F.kp D_l_one.b .nil pass0 (pa_cons (pv 0) (pa_cons (pv 1) (pa_cons (pe_lst (pa_cons (pe_lst pa_nil) (pa_cons (pe_callTy call_tuple_of (by rfl) Z.tuple (by decide +kernel) (pa_cons (pv 3) pa_nil)) (pa_cons pe_non (pa_cons pe_str (pa_cons pe_dnewK (pa_cons pe_int pa_nil))))))) pa_nil)))))) pss_nil))))))))) (pss_one (ps_ret (pv 3)))))))), ?_⟩
  refine ⟨_, rfl, _, rfl, _, rfl, _, rfl, a, p, ns, _, rfl, hS, hP, by decide, by decide, fun r H1 r0 r1 k1 => ?_⟩
  obtain ⟨n0, rfl⟩ : ∃ n : Nat, r = (n : Int) := ⟨r.toNat, by omega⟩
  refine ⟨_, _, rfl, rfl, sz 0, fun o ho => ?_⟩
  have ko := k1.new (o := .lst []) ho
  refine ⟨a, p, o, ns, 1 + n0, [], (by rw [Int.natCast_add] <;> rfl), hS.on ko, ko.pool, .of upd_same (k1.ne ho), by decide, fun s hs => (by cases hs), by omega, fun ln nms H2 hnl _ hnm fln eln k2 => ?_⟩
  have j2 := ko.trans k2
  have nlp : ln ≠ p := ko.ne fln
  have hp2 : ∃ o, H2 p = some o := by
    obtain ⟨_, _, _, _, _, e⟩ := k2.pool
    exact ⟨_, e⟩
  -- rows
  refine ⟨_, rfl, ln, rfl, ⟨_, .of eln⟩, fun dl hdl => ?_⟩
  have ndp := j2.ne hdl
  have ndn : dl ≠ ln := fun z => by
    rw [z, eln] at hdl
    cases hdl
  let S := [p, ln, dl]
  have inp : p ∈ S := by simp [S]
  have inl : ln ∈ S := by simp [S]
  have ind : dl ∈ S := by simp [S]
  have lv : ∀ {G : Hp}, Pool G p → (∃ o, G ln = some o) → (∃ o, G dl = some o) → Lv S G := fun hp h1 h2 b m => by
    rcases List.mem_cons.mp m with e | m
    · obtain ⟨_, _, _, _, _, e'⟩ := hp
      rw [e]
      exact ⟨_, e'⟩
    · rcases List.mem_cons.mp m with e | m
      · rw [e]
        exact h1
      · rw [List.mem_singleton.mp m]
        exact h2
  have kd := (Kp.refl k2.pool).new (o := .lst []) hdl
  refine lc_it (walk_list (K := K) (a := ln) (xs := nms.map V.str)) (fun i G => ∃ xs : List V, G dl = some (.lst xs) ∧ xs.length = i ∧ (∀ x ∈ xs, VS S C G x ∧ ∃ t u, x = .ref t ∧ G t = some (.tup u) ∧ u.length = 2) ∧ Kp p H2 G)
    ⟨[], upd_same, rfl, fun x hx => (by cases hx), kd⟩ (fun _ G _ ⟨_, _, _, _, kG⟩ => .of (kG.keep _ _ nlp eln)) ?_ ?_
  · rintro i x G H' hi ⟨xs, hG, hxl, hx, kG⟩ ⟨rfl, hxi⟩
    obtain ⟨s, rfl, hs⟩ := str_of hxi
    have kk := j2.trans kG
    refine ⟨rfl, _, rfl, _, rfl, _, rfl, a, p, ns, _, rfl, hS.on kk, kG.pool, by decide, by decide, fun r G3 _ _ k3 => ⟨rfl, ?_⟩⟩
    generalize decide (V.int r = V.int 1) = fl
    refine ⟨sz 2, fun t ht => ?_⟩
    have k4 := (kG.trans k3).new (o := .tup [.str s, .bl fl]) ht
    have hG3 := k3.keep _ _ ndp hG
    have s4 := same_upd (o := .tup [.str s, .bl fl]) ht
    have ntd : t ≠ dl := fun z => by
      rw [z, hG3] at ht
      cases ht
    have h1000 : xs.length < sizeLine := Nat.lt_of_lt_of_le (show xs.length < 1000 by rw [hxl]; have : (nms.map V.str).length = nms.length := List.length_map _; omega) (by decide)
    have keepS : ∀ b o, b ∉ S → H' b = some o → upd (upd G3 t (.tup [.str s, .bl fl])) dl (.lst (xs ++ [.ref t])) b = some o := fun b o nb e => by
      rw [upd_ne (fun z => nb (by rw [z]; exact ind))]
      exact s4 _ _ (k3.keep b o (fun z => nb (by rw [z]; exact inp)) e)
    refine ⟨xs, s4 _ _ hG3, h1000, xs ++ [.ref t], upd_same, by rw [List.length_append, hxl]; rfl, fun x hx' => ?_, k4.put hdl ndp⟩
    rcases List.mem_append.mp hx' with m | m
    · obtain ⟨hv, t', u', e1, e2, e3⟩ := hx x m
      have tk := keepS t' _ (by
        subst e1
        exact (hv 0).2 t' rfl) e2
      exact ⟨hv.keep keepS, t', u', e1, tk, e3⟩
    · rw [List.mem_singleton.mp m]
      have et : upd (upd G3 t (.tup [.str s, .bl fl])) dl (.lst (xs ++ [.ref t])) t = some (.tup [.str s, .bl fl]) := by
        rw [upd_ne ntd]
        exact upd_same
      have lvG : Lv S G3 := lv k3.pool ⟨_, k3.keep _ _ nlp (kG.keep _ _ nlp eln)⟩ ⟨_, hG3⟩
      exact ⟨VS.tup et (nof lvG ht) (allc (VS.str (by have := (hnm s hs).2.1; omega)) (allc (VS.bl _) alln)), t, _, rfl, et, rfl⟩
  rintro G1 ⟨xs, hG1, hxl, hx, kG1⟩
  have hnx : (nms.map V.str).length = nms.length := List.length_map _
  -- the draws
  refine ⟨_, rfl, _, rfl, a, p, ns, _, rfl, hS.on (j2.trans kG1), kG1.pool, by decide, by decide, fun kd1 G2 _ _ k2' => ?_⟩
  have kG2 := kG1.trans k2'
  have hG2 := k2'.keep _ _ ndp hG1
  refine ⟨_, rfl, _, rfl, _, rfl, dl, _, rfl, .inl (.of hG2), a, p, ns, _, rfl, hS.on (j2.trans kG2), kG2.pool, by omega, by omega, fun r3 G3 r30 r31 k3 => ?_⟩
  obtain ⟨j, hj, rfl⟩ : ∃ j : Nat, j < xs.length ∧ r3 = (j : Int) := ⟨r3.toNat, by omega, by omega⟩
  have k23 := k2'.trans k3
  have kG3 := kG1.trans k23
  have hG3 := k23.keep _ _ ndp hG1
  have hL3 : G3 ln = some (.lst (nms.map V.str)) := kG3.keep _ _ nlp eln
  have keep3 : ∀ b o, b ∉ S → G1 b = some o → G3 b = some o := fun b o nb e => k23.keep b o (fun z => nb (by rw [z]; exact inp)) e
  have hx3 : ∀ x ∈ xs, VS S C G3 x ∧ ∃ t u, x = .ref t ∧ G3 t = some (.tup u) ∧ u.length = 2 := fun x m => by
    obtain ⟨hv, t', u', e1, e2, e3⟩ := hx x m
    exact ⟨hv.keep keep3, t', u', e1, keep3 t' _ (by subst e1; exact (hv 0).2 t' rfl) e2, e3⟩
  -- the end: what is told
  have fin : ∀ (G : Hp) (l : Addr) (ys : List V), Kp p H2 G → l ≠ p → G l = some (.lst ys) → ys.length ≤ 30 → (∀ x ∈ ys, VS [p] C G x) → Q (.ref l) G := fun G l ys kG np e hl hv => by
    refine q _ G (j2.trans kG) (VS.lst e (by simpa using np) hv) fun l' zs z e' => ?_
    cases z
    rw [e] at e'
    cases e'
    exact hl
  have sub : ∀ {G : Hp} {x : V}, VS S C G x → VS [p] C G x := fun h => h.sub (fun b hb => by
    rw [List.mem_singleton.mp hb]
    exact inp)
  have hxj : xs[j]? = some xs[j] := List.getElem?_eq_getElem hj
  have lv3 : ∀ {G5 : Hp}, Kp p G3 G5 → Lv S G5 := fun k5 => lv k5.pool ⟨_, k5.keep _ _ nlp hL3⟩ ⟨_, k5.keep _ _ ndp hG3⟩
  have put : ∀ (G5 : Hp) (v : V), Kp p G3 G5 → VS S C G5 v → Q (.ref dl) (upd G5 dl (.lst (xs.set j v))) := fun G5 v k5 hv => by
    refine fin _ dl _ ((kG3.trans k5).put hdl ndp) ndp upd_same (by rw [List.length_set]; omega) fun x m => sub ?_
    have kp5 : ∀ b o, b ∉ S → G5 b = some o → upd G5 dl (.lst (xs.set j v)) b = some o := fun b o nb e => by
      rw [upd_ne (fun z => nb (by rw [z]; exact ind))]
      exact e
    rcases List.mem_or_eq_of_mem_set m with m | m
    · exact ((hx3 x m).1.keep fun b o nb e => k5.keep b o (fun z => nb (by rw [z]; exact inp)) e).keep kp5
    · rw [m]
      exact hv.keep kp5
  have hS3 := hS.on (j2.trans kG3)
  refine ⟨_, rfl, rfl, _, rfl, ite2 (fun _ => ?_) (fun _ => ?_)⟩
  · obtain ⟨hvj, t, row, et, htr, hrl⟩ := hx3 xs[j] (List.getElem_mem hj)
    rw [et] at hxj hvj
    refine ⟨_, rfl, _, rfl, _, rfl, _, rfl, dl, _, _, _, rfl, rfl, .of hG3, atI_nat hxj, _, rfl, a, p, t, ln, ns, nms, row, 3, rfl, hS3, k3.pool, nlp, hL3, by omega, fun s hs => by have := (hnm s hs).2.1; omega, htr, fun z => (by rw [z] at hrl; cases hrl), by omega, by omega, by omega, fun v G5 k5 hv _ => ?_⟩
    refine ⟨_, rfl, _, rfl, dl, _, _, j, rfl, rfl, k5.keep _ _ ndp hG3, ixn_nat hj, ?_⟩
    exact ⟨_, rfl, put _ _ k5 (hv S (lv3 (Kp.refl k3.pool)) inp hvj)⟩
  refine ⟨_, rfl, rfl, _, rfl, ite2 (fun _ => ?_) (fun _ => ?_)⟩
  · refine ⟨_, rfl, _, rfl, _, rfl, a, p, ln, ns, _, rfl, hS3, .of hL3 nlp, k3.pool, by omega, by omega, fun jj y G5 hy k5 => ?_⟩
    obtain ⟨s, rfl, hs⟩ := str_of hy
    refine ⟨sz 2, fun t2 h2 => ?_⟩
    have k6 := k5.new (o := .tup [.str s, .bl true]) h2
    refine ⟨_, rfl, _, rfl, dl, _, _, j, rfl, rfl, k6.keep _ _ ndp hG3, ixn_nat hj, ?_⟩
    exact ⟨_, rfl, put _ _ k6 (VS.tup upd_same (nof (lv3 k5) h2) (allc (VS.str (by have := (hnm s hs).2.1; omega)) (allc (VS.bl _) alln)))⟩
  refine ⟨_, rfl, rfl, _, rfl, ite2 (fun _ => ?_) (fun _ => ?_)⟩
  · obtain ⟨s, hs⟩ : ∃ s, nms[j]? = some s := ⟨_, List.getElem?_eq_getElem (by omega)⟩
    have hsj : (nms.map V.str)[j]? = some (.str s) := by rw [List.getElem?_map, hs]; rfl
    refine ⟨_, rfl, _, rfl, ln, _, _, _, rfl, rfl, .of hL3, atI_nat hsj, _, rfl, _, rfl, Nat.zero_le _, fun e0 he0 => ⟨sz 6, fun l6 h6 => ?_⟩⟩
    have s0 := same_upd (o := .lst []) he0
    have k5 := ((Kp.refl k3.pool).new (o := .lst []) he0).new (o := .lst [.int 0, .int 1, .non, .str "yes", .str "", .ref e0]) h6
    have s6 := same_upd (o := .lst [.int 0, .int 1, .non, .str "yes", .str "", .ref e0]) h6
    have e0' := s6 _ _ (upd_same (H := G3) (a := e0) (o := .lst []))
    have n0 : e0 ∉ S := nof (lv3 (Kp.refl k3.pool)) he0
    refine ⟨a, p, l6, ns, _, rfl, hS3.on k5, .of upd_same (((Kp.refl k3.pool).new (o := .lst []) he0).ne h6), k5.pool, (by show 0 < 6; decide), (by show 6 < 1073741824; decide), fun jj y G5 hy k6 => ?_⟩
    have hy2 : VS S C G5 y := VS.kp inp k6 (by
      match jj, hy with
      | 0, hy => cases hy; exact VS.int _
      | 1, hy => cases hy; exact VS.int _
      | 2, hy => cases hy; exact VS.non
      | 3, hy => cases hy; exact VS.str (by decide)
      | 4, hy => cases hy; exact VS.str (by decide)
      | 5, hy => cases hy; exact VS.lst e0' n0 alln)
    refine ⟨sz 2, fun t2 h2 => ?_⟩
    have k56 := k5.trans k6
    have k7 := k56.new (o := .tup [.str s, y]) h2
    have s7 := same_upd (o := .tup [.str s, y]) h2
    refine ⟨_, rfl, _, rfl, dl, _, _, j, rfl, rfl, k7.keep _ _ ndp hG3, ixn_nat hj, ?_⟩
    exact ⟨_, rfl, put _ _ k7 (VS.tup upd_same (nof (lv3 k56) h2) (allc (VS.str (by have := (hnm s (List.mem_of_getElem? hs)).2.1; omega)) (allc (hy2.same s7) alln)))⟩
  refine ⟨_, rfl, rfl, _, rfl, ite2 (fun _ => ?_) (fun _ => ?_)⟩
  · refine ⟨_, rfl, _, rfl, _, rfl, dl, _, rfl, .of hG3, fun b1 hb1 => ?_⟩
    have hys : ∀ y ∈ cutV xs none (some (j : Int)), VS [p] C G3 y := fun y m => sub (hx3 y (cut_sub y m)).1
    have hyl : (cutV xs none (some (j : Int))).length ≤ xs.length := cut_len
    generalize cutV xs none (some (j : Int)) = ys at hys hyl ⊢
    have kb := (Kp.refl k3.pool).new (o := .lst ys) hb1
    have sb := same_upd (o := .lst ys) hb1
    refine ⟨_, rfl, ln, rfl, ⟨_, .of (sb _ _ hL3)⟩, fun c hc => ?_⟩
    have ncp := kb.ne hc
    have kc := (Kp.refl kb.pool).new (o := .lst []) hc
    refine lc_it (walk_list (K := K) (a := ln) (xs := nms.map V.str)) (fun i G => ∃ zs : List V, G c = some (.lst zs) ∧ zs.length = i ∧ (∀ x ∈ zs, ∃ t u, x = .ref t ∧ G t = some (.tup [.str u, .bl false]) ∧ u.length ≤ 1000 ∧ t ≠ p) ∧ Kp p (upd G3 b1 (.lst ys)) G)
      ⟨[], upd_same, rfl, fun x hx => (by cases hx), kc⟩ (fun _ G _ ⟨_, _, _, _, kG⟩ => .of (kG.keep _ _ nlp (sb _ _ hL3))) ?_ ?_
    · rintro i x G H' hi ⟨zs, hG, hzl, hz, kG⟩ ⟨rfl, hxi⟩
      obtain ⟨s, rfl, hs⟩ := str_of hxi
      have hl8 := (hnm s hs).2.1
      have hlq : (s ++ ("q" : Str)).length ≤ 1000 := by
        rw [cat_len]
        exact Nat.le_trans (show s.length + 1 ≤ 1000 by omega) (Nat.le_refl _)
      refine ⟨rfl, _, rfl, _, _, rfl, rfl, Nat.le_trans (show s.length + 1 ≤ 1000 by omega) (by decide), sz 2, fun t ht => ?_⟩
      have s4 := same_upd (o := .tup [.str (s ++ ("q" : Str)), .bl false]) ht
      have k4 := kG.new (o := .tup [.str (s ++ ("q" : Str)), .bl false]) ht
      have ntc : t ≠ c := fun z => by
        rw [z, hG] at ht
        cases ht
      have ntp : t ≠ p := kG.ne ht
      have h1000 : zs.length < sizeLine := Nat.lt_of_lt_of_le (show zs.length < 1000 by rw [hzl]; omega) (by decide)
      refine ⟨zs, s4 _ _ hG, h1000, zs ++ [.ref t], upd_same, by rw [List.length_append, hzl]; rfl, fun x hx' => ?_, k4.put hc ncp⟩
      rcases List.mem_append.mp hx' with m | m
      · obtain ⟨t', u, e1, e2, e3, e4⟩ := hz x m
        refine ⟨t', u, e1, ?_, e3, e4⟩
        rw [upd_ne (fun z => by rw [z, hG] at e2; cases e2)]
        exact s4 _ _ e2
      · refine ⟨t, _, List.mem_singleton.mp m, ?_, hlq, ntp⟩
        rw [upd_ne ntc]
        exact upd_same
    rintro G5 ⟨zs, hG5, hzl, hz, kG5⟩
    have hb5 := kG5.keep _ _ (fun z => by
      obtain ⟨_, _, _, _, _, e⟩ := k3.pool
      rw [z, e] at hb1
      cases hb1) (upd_same (H := G3) (a := b1) (o := .lst ys))
    refine ⟨b1, c, ys, zs, rfl, rfl, hb5, hG5, Nat.le_trans (show ys.length + zs.length ≤ 1000 by rw [hzl]; omega) (by decide), fun l9 h9 => ⟨_, rfl, ?_⟩⟩
    have k9 := ((kb.trans kG5).new (o := .lst (ys ++ zs)) h9)
    have s9 := same_upd (o := .lst (ys ++ zs)) h9
    refine fin _ l9 _ (kG3.trans k9) ((kb.trans kG5).ne h9) upd_same (by rw [List.length_append, hzl]; omega) (alla (fun x m => (hys x m).kp (by simp) k9) fun x m => ?_)
    obtain ⟨t', u, e1, e2, e3, e4⟩ := hz x m
    rw [e1]
    exact VS.tup (s9 _ _ e2) (by simpa using e4) (allc (VS.str e3) (allc (VS.bl _) alln))
  · refine ⟨_, rfl, rfl, _, rfl, ?_⟩
    have back : Q (.ref dl) G3 := fin G3 dl xs kG3 ndp hG3 (by omega) fun x m => sub (hx3 x m).1
    generalize decide (V.int kd1 = V.int 4) = c4
    cases c4 with
    | false => exact iteF (iteF ⟨_, rfl, back⟩)
    | true =>
    refine iteT ⟨_, rfl, rfl, _, rfl, ite2 (fun _ => ?_) (fun _ => ⟨_, rfl, back⟩)⟩
    refine ⟨_, rfl, _, rfl, Nat.zero_le _, fun e0 he0 => ⟨_, rfl, dl, _, rfl, .inl ⟨.of (same_upd he0 _ _ hG3), fun t1 h1 => fun d1 hd1 => ⟨sz 6, fun l6 h6 => ?_⟩⟩⟩⟩
    have s0 := same_upd (o := .lst []) he0
    have s1 := same_upd (o := .tup xs) h1
    have s2 := same_upd (o := .dK []) hd1
    have s6 := same_upd (o := .lst [.ref e0, .ref t1, .non, .str "ups", .ref d1, .int 0]) h6
    have ka := (Kp.refl k3.pool).new (o := .lst []) he0
    have kb := ka.new (o := .tup xs) h1
    have kc := kb.new (o := .dK []) hd1
    have k5 := kc.new (o := .lst [.ref e0, .ref t1, .non, .str "ups", .ref d1, .int 0]) h6
    refine ⟨a, p, l6, ns, _, rfl, hS3.on k5, .of upd_same (kc.ne h6), k5.pool, (by show 0 < 6; decide), (by show 6 < 1073741824; decide), fun jj y G5 hy k6 => ?_⟩
    have f0 := (s1.trans (s2.trans s6)) _ _ (upd_same (H := G3) (a := e0) (o := .lst []))
    have f1 := (s2.trans s6) _ _ (upd_same (H := upd G3 e0 (.lst [])) (a := t1) (o := .tup xs))
    have f2 := s6 _ _ (upd_same (H := upd (upd G3 e0 (.lst [])) t1 (.tup xs)) (a := d1) (o := .dK []))
    have np0 : e0 ∉ [p] := by simpa using (Kp.refl k3.pool).ne he0
    have np1 : t1 ∉ [p] := by simpa using ka.ne h1
    have np2 : d1 ∉ [p] := by simpa using kb.ne hd1
    have hxs := fun x (m : x ∈ xs) => (sub (hx3 x m).1).same (s0.trans (s1.trans (s2.trans s6)))
    have key := atH (P := fun J => VS [p] C J y ∧ ∀ l zs, y = .ref l → J l = some (.lst zs) → zs.length ≤ 30) k6 (by
      match jj, hy with
      | 0, hy => cases hy; exact ⟨VS.lst f0 np0 alln, fun l zs z e => by cases z; rw [f0] at e; cases e; exact Nat.zero_le _⟩
      | 1, hy => cases hy; exact ⟨VS.tup f1 np1 hxs, fun l zs z e => by cases z; rw [f1] at e; cases e⟩
      | 2, hy => cases hy; exact ⟨VS.non, fun l zs z _ => by cases z⟩
      | 3, hy => cases hy; exact ⟨VS.str (by decide), fun l zs z _ => by cases z⟩
      | 4, hy => cases hy; exact ⟨VS.dk f2 np2, fun l zs z e => by cases z; rw [f2] at e; cases e⟩
      | 5, hy => cases hy; exact ⟨VS.int _, fun l zs z _ => by cases z⟩)
    refine q y G5 ((j2.trans kG3).trans (k5.trans k6)) (key.1.kp (by simp) k6) fun l zs z e => ?_
    subst z
    obtain ⟨o, eo⟩ := key.1.vl.obj
    have := k6.keep _ _ (fun z => (key.1 0).2 l rfl (by rw [z]; simp)) eo
    rw [e] at this
    cases this
    exact key.2 l zs rfl eo
end
end My

namespace My
open PySem L2
abbrev s_l_marks : Stmt := top 48
theorem sc_l_marks : FnScope ["_law_script", "_law_pool_here", "_law_names_here", "_law_rows", "_law_kind", "_law_at"] ["_law_script", "_law_pool_here"] (defScope s_l_marks) := ⟨rfl, rfl, rfl, by decide +kernel, rfl, by decide +kernel, by decide +kernel⟩
section
variable {P : Program} {w : World} {K : PySem.W.Frag} {mg : Str → Option Value} {base : Heap} {C : Addr}
theorem ok_marks {f fD fO fW fN fNs fT fI : Addr} {fd fdD fdO fdW fdN fdNs fdT fdI : FuncData} (D : DefT K mg "_law_marks" "_law_marks" s_l_marks ["_law_script", "_law_pool_here"] f fd) (Z : Zs mg) (B : IsB K C) (D_l_draw : DefT K mg "_law_draw" "_law_draw" s_l_draw ["_law_script", "_law_pool_here", "_law_limit"] fD fdD)
    (D_l_one : DefT K mg "_law_one" "_law_one" s_l_one ["_law_script", "_law_pool_here", "_law_row"] fO fdO) (D_l_word : DefT K mg "_law_word" "_law_word" s_l_word ["_law_script", "_law_pool_here"] fW fdW) (D_l_name : DefT K mg "_law_name" "_law_name" s_l_name ["_law_script", "_law_pool_here", "_law_taken", "_law_others"] fN fdN) (D_l_names : DefT K mg "_law_names" "_law_names" s_l_names ["_law_script", "_law_pool_here", "_law_size", "_law_others"] fNs fdNs)
    (D_l_thing : DefT K mg "_law_thing" "_law_thing" s_l_thing ["_law_script", "_law_pool_here", "_law_names_here"] fT fdT)
    (MB : Mk K C fI) (GI : FnOk P w K mg base CX0 7 fI fdI ["self", "states", "ups", "downs", "marks", "wishes", "answers", "tasks", "idles", "busies"] (spInit C)) (mC : mg "Book" = some (.ref C)) (bI : Binds K fdI ["self", "states", "ups", "downs", "marks", "wishes", "answers", "tasks", "idles", "busies"] []) : FnOk P w K mg base CX0 12 f fd ["_law_script", "_law_pool_here"] (spDrawn K C) := by
  have G_l_draw := ok_draw (P := P) (w := w) (base := base) D_l_draw Z
  have G_l_one := ok_one (P := P) (w := w) (base := base) D_l_one Z D_l_draw
  have G_l_names := ok_names (P := P) (w := w) (base := base) D_l_names Z D_l_draw D_l_one D_l_word D_l_name
  have G_l_thing := ok_thing (P := P) (w := w) (base := base) D_l_thing Z D_l_draw D_l_one D_l_word MB GI mC bI
  refine D.F.ok sc_l_marks (fun vs H Q E h => ?_) (fun cdv A outer s H vs Q E hr h => ?_)
  · obtain ⟨a, p, ns, rfl, _⟩ := h
    rfl
  obtain ⟨a, p, ns, rfl, hS, hP, q⟩ := h
  have k0 := Kp.refl hP
  refine ⟨_, (pss_cons (ps_set (i := 2) sc_l_marks.nd rfl (Or.inl rfl) (pe_call G_l_names (hr.mono (by decide)) rfl D_l_names.m D_l_names.F.kp D_l_names.b .nil pass0 (pa_cons (pv 0) (pa_cons (pv 1) (pa_cons (pe_op op_add pe_int (pe_call G_l_draw (hr.mono (by decide)) rfl D_l_draw.m D_l_draw.F.kp D_l_draw.b .nil pass0 (pa_cons (pv 0) (pa_cons (pv 1) (pa_cons pe_int pa_nil))))) (pa_cons (pe_lst pa_nil) pa_nil)))))) (pss_cons (ps_set (i := 3) sc_l_marks.nd rfl (Or.inl rfl) (pe_callTy call_list_of (by rfl) Z.list (by decide +kernel) (pa_cons (pv 2) pa_nil))) (pss_cons (ps_set (i := 4) sc_l_marks.nd rfl (Or.inl rfl) (pe_call G_l_draw (hr.mono (by decide)) rfl D_l_draw.m D_l_draw.F.kp D_l_draw.b .nil pass0 (pa_cons (pv 0) (pa_cons (pv 1) (pa_cons pe_int pa_nil))))) (pss_cons (ps_set (i := 5) sc_l_marks.nd rfl (Or.inl rfl) (pe_call G_l_draw (hr.mono (by decide)) rfl D_l_draw.m D_l_draw.F.kp D_l_draw.b .nil pass0 (pa_cons (pv 0) (pa_cons (pv 1) (pa_cons (pe_callB call_len_seq (by rfl) Z.len (by decide +kernel) (pa_cons (pv 3) pa_nil)) pa_nil))))) (pss_cons (ps_if (pt_cmpR op_eq (pv 4) pe_int (nomark _)) (pss_one (ps_asg (pe_call G_l_thing (hr.mono (by decide)) rfl D_l_thing.m D_l_thing.F.kp D_l_thing.b .nil pass0 (pa_cons (pv 0) (pa_cons (pv 1) (pa_cons (pv 2) pa_nil)))) (pg_sub (pv 3) (pv 5) set_list))) (pss_one (ps_if (pt_cmpR op_eq (pv 4) pe_int (nomark _)) (pss_one (ps_expr (pe_bm PySem.F.plainAttrs_list PySem.F.slot_list_insert PySem.F.type_list_insert mt_insert (pv 3) (pa_cons (pv 5) (pa_cons (pe_call G_l_one (hr.mono (by decide)) rfl D_l_one.m D_l_one.F.kp D_l_one.b .nil pass0 (pa_cons (pv 0) (pa_cons (pv 1) (pa_cons (pv 2) pa_nil)))) pa_nil))))) (pss_one (ps_if (pt_cmpR op_eq (pv 4) pe_int (nomark _)) (pss_one (ps_set (i := 3) sc_l_marks.nd rfl (Or.inl rfl) (pe_op op_cat (pv 3) (pe_call G_l_names (hr.mono (by decide)) rfl D_l_names.m D_l_names.F.kp D_l_names.b .nil pass0 (pa_cons (pv 0) (pa_cons (pv 1) (pa_cons (pe_op op_add pe_int (pe_call G_l_draw (hr.mono (by decide)) rfl D_l_draw.m D_l_draw.F.kp D_l_draw.b .nil pass0 (pa_cons (pv 0) (pa_cons (pv 1) (pa_cons pe_int pa_nil))))) (pa_cons (pe_lst pa_nil) pa_nil)))))))) (pss_one (ps_if (PW.pt (pw_and (pt_cmpR op_eq (pv 4) pe_int (nomark _)) (pw_and1 (pt_cmpR op_eq (pv 5) pe_int (nomark _))))) (pss_one (ps_ret (pe_call G_l_one (hr.mono (by decide)) rfl D_l_one.m D_l_one.F.kp D_l_one.b .nil pass0 (pa_cons (pv 0) (pa_cons (pv 1) (pa_cons (pe_lst (pa_cons (pe_lst pa_nil) (pa_cons (pe_callTy call_tuple_of (by rfl) Z.tuple (by decide +kernel) (pa_cons (pv 3) pa_nil)) (pa_cons pe_non (pa_cons pe_str (pa_cons pe_dnewK (pa_cons pe_bl pa_nil))))))) pa_nil)))))) pss_nil))))))) (pss_one (ps_ret (pv 3)))))))), ?_⟩
  refine ⟨_, rfl, _, rfl, _, rfl, _, rfl, a, p, ns, _, rfl, hS, hP, by decide, by decide, fun r H1 r0 r1 k1 => ?_⟩
  obtain ⟨n0, rfl⟩ : ∃ n : Nat, r = (n : Int) := ⟨r.toNat, by omega⟩
  refine ⟨_, _, rfl, rfl, sz 0, fun o ho => ?_⟩
  have ko := k1.new (o := .lst []) ho
  refine ⟨a, p, o, ns, 1 + n0, [], (by rw [Int.natCast_add] <;> rfl), hS.on ko, ko.pool, .of upd_same (k1.ne ho), by decide, fun s hs => (by cases hs), by omega, fun ln nms H2 hnl _ hnm fln eln k2 => ?_⟩
  have j2 := ko.trans k2
  have nlp : ln ≠ p := ko.ne fln
  have hp2 : ∃ o, H2 p = some o := by
    obtain ⟨_, _, _, _, _, e⟩ := k2.pool
    exact ⟨_, e⟩
  -- rows
  refine ⟨_, rfl, ln, _, rfl, .inl (.of eln), fun dl hdl => ?_⟩
  have ndp := j2.ne hdl
  have ndn : dl ≠ ln := fun z => by
    rw [z, eln] at hdl
    cases hdl
  let S := [p, ln, dl]
  have inp : p ∈ S := by simp [S]
  have ind : dl ∈ S := by simp [S]
  have lv : ∀ {G : Hp}, Pool G p → (∃ o, G ln = some o) → (∃ o, G dl = some o) → Lv S G := fun hp h1 h2 b m => by
    rcases List.mem_cons.mp m with e | m
    · obtain ⟨_, _, _, _, _, e'⟩ := hp
      rw [e]
      exact ⟨_, e'⟩
    · rcases List.mem_cons.mp m with e | m
      · rw [e]
        exact h1
      · rw [List.mem_singleton.mp m]
        exact h2
  have hnx : (nms.map V.str).length = nms.length := List.length_map _
  have hnv : ∀ {S' : List Addr} {G : Hp}, ∀ x ∈ nms.map V.str, VS S' C G x := fun x m => by
    obtain ⟨s, hs, rfl⟩ := List.mem_map.mp m
    exact VS.str (by have := (hnm s hs).2.1; omega)
  have kd := (Kp.refl k2.pool).new (o := .lst (nms.map V.str)) hdl
  have hG1 := upd_same (H := H2) (a := dl) (o := .lst (nms.map V.str))
  -- the draws
  refine ⟨_, rfl, _, rfl, a, p, ns, _, rfl, hS.on (j2.trans kd), kd.pool, by decide, by decide, fun kd1 G2 _ _ k2' => ?_⟩
  have kG2 := kd.trans k2'
  have hG2 := k2'.keep _ _ ndp hG1
  refine ⟨_, rfl, _, rfl, _, rfl, dl, _, rfl, .inl (.of hG2), a, p, ns, _, rfl, hS.on (j2.trans kG2), kG2.pool, by omega, by omega, fun r3 G3 r30 r31 k3 => ?_⟩
  obtain ⟨j, hj, rfl⟩ : ∃ j : Nat, j < nms.length ∧ r3 = (j : Int) := ⟨r3.toNat, by omega, by omega⟩
  have kG3 := kG2.trans k3
  have hG3 := k3.keep _ _ ndp hG2
  have hL3 : G3 ln = some (.lst (nms.map V.str)) := kG3.keep _ _ nlp eln
  have fin : ∀ (G : Hp) (l : Addr) (ys : List V), Kp p H2 G → l ≠ p → G l = some (.lst ys) → ys.length ≤ 30 → (∀ x ∈ ys, VS [p] C G x) → Q (.ref l) G := fun G l ys kG np e hl hv => by
    refine q _ G (j2.trans kG) (VS.lst e (by simpa using np) hv) fun l' zs z e' => ?_
    cases z
    rw [e] at e'
    cases e'
    exact hl
  have sub : ∀ {G : Hp} {x : V}, VS S C G x → VS [p] C G x := fun h => h.sub (fun b hb => by
    rw [List.mem_singleton.mp hb]
    exact inp)
  have lv3 : ∀ {G5 : Hp}, Kp p G3 G5 → Lv S G5 := fun k5 => lv k5.pool ⟨_, k5.keep _ _ nlp hL3⟩ ⟨_, k5.keep _ _ ndp hG3⟩
  have hS3 := hS.on (j2.trans kG3)
  have l1000 : (nms.map V.str).length < sizeLine := Nat.lt_of_lt_of_le (show (nms.map V.str).length < 1000 by omega) (by decide)
  refine ⟨_, rfl, rfl, _, rfl, ite2 (fun _ => ?_) (fun _ => ?_)⟩
  · refine ⟨_, rfl, _, rfl, _, rfl, a, p, ln, ns, nms, rfl, hS3, k3.pool, nlp, hL3, by omega, fun s hs => by have := (hnm s hs).2.1; omega, fun v G5 k5 hv _ => ?_⟩
    refine ⟨_, rfl, _, rfl, dl, _, _, j, rfl, rfl, k5.keep _ _ ndp hG3, ixn_nat (by omega), ?_⟩
    refine ⟨_, rfl, fin _ dl _ ((kG3.trans k5).put hdl ndp) ndp upd_same (by rw [List.length_set]; omega) fun x m => ?_⟩
    have kp5 : ∀ b o, b ∉ S → G5 b = some o → upd G5 dl (.lst ((nms.map V.str).set j v)) b = some o := fun b o nb e => by
      rw [upd_ne (fun z => nb (by rw [z]; exact ind))]
      exact e
    rcases List.mem_or_eq_of_mem_set m with m | m
    · exact hnv x m
    · rw [m]
      exact sub ((hv S (lv3 (Kp.refl k3.pool))).keep kp5)
  refine ⟨_, rfl, rfl, _, rfl, ite2 (fun _ => ?_) (fun _ => ?_)⟩
  · refine ⟨_, rfl, .inl ⟨rfl, _, SqL.of hG3⟩, _, rfl, _, rfl, _, rfl, _, rfl, a, p, ln, ns, _, rfl, hS3, .of hL3 nlp, k3.pool, by omega, by omega, fun jj y G5 hy k5 => ?_⟩
    obtain ⟨s, rfl, hs⟩ := str_of hy
    refine ⟨dl, _, _, _, rfl, rfl, k5.keep _ _ ndp hG3, l1000, by omega, by omega, _, rfl, ?_⟩
    refine fin _ dl _ ((kG3.trans k5).put hdl ndp) ndp upd_same ?_ (alla (alla (fun x m => hnv x (List.mem_of_mem_take m)) (allc (VS.str (by have := (hnm s hs).2.1; omega)) alln)) fun x m => hnv x (List.mem_of_mem_drop m))
    rw [List.length_append, List.length_append, List.length_take, List.length_drop, List.length_singleton]
    omega
  refine ⟨_, rfl, rfl, _, rfl, ite2 (fun _ => ?_) (fun _ => ?_)⟩
  · refine ⟨_, rfl, _, rfl, _, rfl, _, rfl, _, rfl, a, p, ns, _, rfl, hS3, k3.pool, by decide, by decide, fun r H4 r0 r1 k4 => ?_⟩
    obtain ⟨n1, rfl⟩ : ∃ n : Nat, r = (n : Int) := ⟨r.toNat, by omega⟩
    refine ⟨_, _, rfl, rfl, sz 0, fun o2 ho2 => ?_⟩
    have ko2 := k4.new (o := .lst []) ho2
    refine ⟨a, p, o2, ns, 1 + n1, [], (by rw [Int.natCast_add] <;> rfl), hS3.on ko2, ko2.pool, .of upd_same (k4.ne ho2), by decide, fun s hs => (by cases hs), by omega, fun l2 nms2 H5 hnl2 _ hnm2 fl2 el2 k5 => ?_⟩
    have k45 := ko2.trans k5
    have hx2 : (nms2.map V.str).length = nms2.length := List.length_map _
    refine ⟨dl, l2, _, _, rfl, rfl, k45.keep _ _ ndp hG3, el2, Nat.le_trans (show (nms.map V.str).length + (nms2.map V.str).length ≤ 1000 by omega) (by decide), fun l9 h9 => ⟨_, rfl, ?_⟩⟩
    have k9 := k45.new (o := .lst (nms.map V.str ++ nms2.map V.str)) h9
    refine fin _ l9 _ (kG3.trans k9) (k45.ne h9) upd_same (by rw [List.length_append]; omega) (alla hnv fun x m => ?_)
    obtain ⟨s, hs, rfl⟩ := List.mem_map.mp m
    exact VS.str (by have := (hnm2 s hs).2.1; omega)
  · refine ⟨_, rfl, rfl, _, rfl, ?_⟩
    have back : Q (.ref dl) G3 := fin G3 dl _ kG3 ndp hG3 (by omega) hnv
    generalize decide (V.int kd1 = V.int 3) = c4
    cases c4 with
    | false => exact iteF (iteF ⟨_, rfl, back⟩)
    | true =>
    refine iteT ⟨_, rfl, rfl, _, rfl, ite2 (fun _ => ?_) (fun _ => ⟨_, rfl, back⟩)⟩
    refine ⟨_, rfl, _, rfl, Nat.zero_le _, fun e0 he0 => ⟨_, rfl, dl, _, rfl, .inl ⟨.of (same_upd he0 _ _ hG3), fun t1 h1 => fun d1 hd1 => ⟨sz 6, fun l6 h6 => ?_⟩⟩⟩⟩
    have s0 := same_upd (o := .lst []) he0
    have s1 := same_upd (o := .tup (nms.map V.str)) h1
    have s2 := same_upd (o := .dK []) hd1
    have s6 := same_upd (o := .lst [.ref e0, .ref t1, .non, .str "out", .ref d1, .bl true]) h6
    have ka := (Kp.refl k3.pool).new (o := .lst []) he0
    have kb := ka.new (o := .tup (nms.map V.str)) h1
    have kc := kb.new (o := .dK []) hd1
    have k5 := kc.new (o := .lst [.ref e0, .ref t1, .non, .str "out", .ref d1, .bl true]) h6
    refine ⟨a, p, l6, ns, _, rfl, hS3.on k5, .of upd_same (kc.ne h6), k5.pool, (by show 0 < 6; decide), (by show 6 < 1073741824; decide), fun jj y G5 hy k6 => ?_⟩
    have f0 := (s1.trans (s2.trans s6)) _ _ (upd_same (H := G3) (a := e0) (o := .lst []))
    have f1 := (s2.trans s6) _ _ (upd_same (H := upd G3 e0 (.lst [])) (a := t1) (o := .tup (nms.map V.str)))
    have f2 := s6 _ _ (upd_same (H := upd (upd G3 e0 (.lst [])) t1 (.tup (nms.map V.str))) (a := d1) (o := .dK []))
    have np0 : e0 ∉ [p] := by simpa using (Kp.refl k3.pool).ne he0
    have np1 : t1 ∉ [p] := by simpa using ka.ne h1
    have np2 : d1 ∉ [p] := by simpa using kb.ne hd1
    have key := atH (P := fun J => VS [p] C J y ∧ ∀ l zs, y = .ref l → J l = some (.lst zs) → zs.length ≤ 30) k6 (by
      match jj, hy with
      | 0, hy => cases hy; exact ⟨VS.lst f0 np0 alln, fun l zs z e => by cases z; rw [f0] at e; cases e; exact Nat.zero_le _⟩
      | 1, hy => cases hy; exact ⟨VS.tup f1 np1 hnv, fun l zs z e => by cases z; rw [f1] at e; cases e⟩
      | 2, hy => cases hy; exact ⟨VS.non, fun l zs z _ => by cases z⟩
      | 3, hy => cases hy; exact ⟨VS.str (by decide), fun l zs z _ => by cases z⟩
      | 4, hy => cases hy; exact ⟨VS.dk f2 np2, fun l zs z e => by cases z; rw [f2] at e; cases e⟩
      | 5, hy => cases hy; exact ⟨VS.bl _, fun l zs z _ => by cases z⟩)
    refine q y G5 ((j2.trans kG3).trans (k5.trans k6)) (key.1.kp (by simp) k6) fun l zs z e => ?_
    subst z
    obtain ⟨o, eo⟩ := key.1.vl.obj
    have := k6.keep _ _ (fun z => (key.1 0).2 l rfl (by rw [z]; simp)) eo
    rw [e] at this
    cases this
    exact key.2 l zs rfl eo
end
end My

namespace My
open PySem L2
abbrev s_l_marks_fault : Stmt := top 50
theorem sc_l_marks_fault : FnScope ["_law_rows", "_law_index"] ["_law_rows"] (defScope s_l_marks_fault) := ⟨rfl, rfl, rfl, by decide +kernel, rfl, by decide +kernel, by decide +kernel⟩
theorem any_strs {s : Str} : ∀ ss : List Str, (ss.map PyData.str).any (fun z => PyData.eqv z (.str s)) = decide (s ∈ ss)
  | [] => by
    rw [decide_eq_false (by simp)]
    rfl
  | t :: ss => by
    have ih := any_strs (s := s) ss
    rw [List.map_cons, List.any_cons, ih]
    have e : PyData.eqv (.str t) (.str s) = decide (t = s) := by
      by_cases h : t = s
      · simp [PyData.eqv, h]
      · simp [PyData.eqv, h]
    rw [e]
    by_cases h : t = s
    · rw [decide_eq_true h, decide_eq_true (show s ∈ t :: ss by simp [h])]
      rfl
    · rw [decide_eq_false h, Bool.false_or]
      have h' : ¬ s = t := fun z => h z.symm
      by_cases m : s ∈ ss
      · rw [decide_eq_true m, decide_eq_true (List.mem_cons_of_mem _ m)]
      · rw [decide_eq_false m, decide_eq_false (fun z => (List.mem_cons.mp z).elim h' m)]
theorem stand_str {s : Str} {ss : List Str} : standB .ms (ss.map PyData.str) (.str s) = true ↔ s ∉ ss := by
  show (!((ss.map PyData.str).any fun z => PyData.eqv z (.str s))) = true ↔ _
  rw [any_strs, Bool.not_eq_true', decide_eq_false_iff_not]
/-- the first i marks are right -/
structure DueM (xs : List V) (i : Nat) (ss : List Str) : Prop where
  d : xs.take i = ss.map V.str
  r : ∀ s ∈ ss, Nm s
  s : ss.Nodup
theorem dfl_strs {H : Hp} : ∀ ss : List Str, DfL H (ss.map PyData.str) (ss.map V.str) []
  | [] => .n
  | _ :: ss => .c (sD _) (dfl_strs ss)
theorem dfl_strs_v {H : Hp} : ∀ {ss : List Str} {xs : List V} {fp : List Addr}, DfL H (ss.map PyData.str) xs fp → xs = ss.map V.str
  | [], xs, fp, h => h.1
  | s :: ss, xs, fp, h => by
    obtain ⟨x, r, f, g, rfl, _, ⟨rfl, _⟩, hr⟩ := h
    rw [dfl_strs_v hr]
    rfl
theorem DueM.stand {xs : List V} {i : Nat} {ss : List Str} (h : DueM xs i ss) : ∀ (j : Nat) (d : PyData), (ss.map PyData.str)[j]? = some d → standB .ms ((ss.map PyData.str).take j) d = true := fun j d e => by
  rw [List.getElem?_map] at e
  obtain ⟨s, hs, rfl⟩ := Option.map_eq_some_iff.mp e
  rw [← List.map_take]
  refine stand_str.mpr fun m => ?_
  obtain ⟨i', e'⟩ := List.mem_iff_getElem?.mp m
  have hlt : i' < j := by
    have := (List.getElem?_eq_some_iff.mp e').1
    rw [List.length_take] at this
    omega
  rw [List.getElem?_take_of_lt hlt] at e'
  obtain ⟨h1, e1⟩ := List.getElem?_eq_some_iff.mp e'
  obtain ⟨h2, e2⟩ := List.getElem?_eq_some_iff.mp hs
  exact List.pairwise_iff_getElem.mp h.s i' j h1 h2 hlt (by rw [e1, e2])
theorem DueM.good {H : Hp} {xs : List V} {i : Nat} {ss : List Str} (N : Nm5) (h : DueM xs i ss) : GoodTo N .ms H xs i := ⟨ss.map PyData.str, [], by rw [h.d]; exact dfl_strs ss, fun d m => by
  obtain ⟨s, hs, rfl⟩ := List.mem_map.mp m
  exact ⟨s, rfl, h.r s hs⟩, h.stand⟩
theorem DueM.next {H : Hp} {xs : List V} {i : Nat} {ss : List Str} {x : V} {N : Nm5} (h : DueM xs i ss) (hx : xs[i]? = some x) (g : GoodTo N .ms H xs (i + 1)) : ∃ s : Str, x = .str s ∧ Nm s ∧ s ∉ ss := by
  obtain ⟨ds, fp, d, f, h1, _, _, hD, ⟨s, rfl, hs⟩, hst⟩ := (GoodTo.succ hx).mp g
  rw [h.d] at h1
  rw [DfL.fn ds (ss.map PyData.str) _ _ _ h1 (dfl_strs ss)] at hst
  exact ⟨s, hD.1, hs, stand_str.mp hst⟩
theorem DueM.more {xs : List V} {i : Nat} {ss : List Str} {s : Str} (h : DueM xs i ss) (hx : xs[i]? = some (.str s)) (hs : Nm s) (c : s ∉ ss) : DueM xs (i + 1) (ss ++ [s]) := by
  refine ⟨?_, fun z m => ?_, ?_⟩
  · rw [List.take_succ, hx, h.d, List.map_append]
    rfl
  · rcases List.mem_append.mp m with m | m
    · exact h.r z m
    · rw [List.mem_singleton.mp m]
      exact hs
  · rw [List.nodup_append]
    exact ⟨h.s, by simp, fun x hx y hy e => by
      rw [List.mem_singleton.mp hy] at e
      exact c (e ▸ hx)⟩
def spMf (C : Addr) : Sp := fun vs H Q _ => ∃ (N : Nm5) (v : V), vs = [v] ∧ Vd C H 5 v ∧ (∀ l xs, v = .ref l → H l = some (.lst xs) → xs.length ≤ 100) ∧ ∀ r H', Same H H' → WI N .ms H v r → Q (oI r) H'
section
variable {P : Program} {w : World} {K : PySem.W.Frag} {mg : Str → Option Value} {base : Heap} {C : Addr}
theorem ok_mf {f fI : Addr} {fd fdI : FuncData} (D : DefT K mg "_law_marks_fault" "_law_marks_fault" s_l_marks_fault ["_law_rows"] f fd) (Z : Zs mg) (B : IsB K C) (D_l_is_name : DefT K mg "_law_is_name" "_law_is_name" s_l_is_name ["_law_thing_here"] fI fdI) : FnOk P w K mg base CX0 2 f fd ["_law_rows"] (spMf C) := by
  have G_l_is_name := ok_is_nameL (P := P) (w := w) (base := base) D_l_is_name Z B
  refine D.F.ok sc_l_marks_fault (fun vs H Q E h => ?_) (fun cdv A outer s H vs Q E hr h => ?_)
  · obtain ⟨N, v, rfl, _⟩ := h
    rfl
  obtain ⟨N, v, rfl, hv, hlen, q⟩ := h
  refine ⟨_, (pss_cons (ps_if (PW.pt (pw_or (pt_not (pt_val (pe_callB call_isi (by rfl) Z.isinstance (by decide +kernel) (pa_cons (pv 0) (pa_cons (pe_bltn (v := .ty "list") (by rfl) Z.list (by decide +kernel) rfl) pa_nil))))) (pw_or (pt_cmpR op_lt (pe_callB call_len_seq (by rfl) Z.len (by decide +kernel) (pa_cons (pv 0) pa_nil)) pe_int (nomark _)) (pw_or1 (pt_cmpR op_gt (pe_callB call_len_seq (by rfl) Z.len (by decide +kernel) (pa_cons (pv 0) pa_nil)) pe_int (nomark _)))))) (pss_one (ps_ret (pe_un un_neg pe_int))) pss_nil) (pss_cons (ps_for PassesOwn.never rfl (pi_range1 rfl Z.range (pa_cons (pe_callB call_len_seq (by rfl) Z.len (by decide +kernel) (pa_cons (pv 0) pa_nil)) pa_nil)) (pg_name (i := 1) sc_l_marks_fault.nd rfl (Or.inl rfl)) (pss_one (ps_if (PW.pt (pw_or (pt_not (pt_val (pe_call G_l_is_name (hr.mono (by decide)) rfl D_l_is_name.m D_l_is_name.F.kp D_l_is_name.b .nil pass0 (pa_cons (pe_ix ix_list (pv 0) (pv 1) (fun _ _ => rfl)) pa_nil)))) (pw_or1 (pt_cmpR op_in_seq (pe_ix ix_list (pv 0) (pv 1) (fun _ _ => rfl)) (pe_slice sl_list (pv 0) po_none (po_some (pv 1))) (by rfl))))) (pss_one (ps_ret (pv 1))) pss_nil))) (pss_one (ps_ret pe_non)))), ?_⟩
  have len : ∀ {l : Addr} {xs : List V}, v = .ref l → H l = some (.lst xs) → ¬ (1 ≤ xs.length ∧ xs.length ≤ 6) → ¬ LenOk .ms H v := fun {l xs} e1 e2 n ⟨l', xs', e1', e2', h1, h2⟩ => by
    rw [e1] at e1'
    cases e1'
    rw [e2] at e2'
    cases e2'
    exact n ⟨h1, h2⟩
  obtain ⟨ty, b1, b2, b3, b4, tyx, _, k2, _, _, _, i2, _⟩ := hv.vl.kinds B
  refine ⟨_, rfl, _, _, _, _, _, rfl, .ty _, tyx, k2, _, rfl, ?_⟩
  cases b2 with
  | false =>
    exact iteT ⟨_, rfl, q (some (-1)) H (Same.refl H) (.inl ⟨fun ⟨l, xs, e1, e2, _⟩ => (by have := i2.mpr ⟨l, xs, e1, e2⟩; cases this), rfl⟩)⟩
  | true =>
  obtain ⟨l, xs, rfl, hl⟩ := i2.mp rfl
  have hle := hlen l xs rfl hl
  refine iteF ⟨_, rfl, l, _, rfl, .inl (.of hl), _, _, rfl, rfl, _, rfl, ?_⟩
  by_cases h2 : 1 ≤ xs.length
  rotate_left
  · rw [decide_eq_true (show ((xs.length : Nat) : Int) < 1 by omega)]
    exact iteT ⟨_, rfl, q (some (-1)) H (Same.refl H) (.inl ⟨len rfl hl (by omega), rfl⟩)⟩
  rw [decide_eq_false (show ¬ ((xs.length : Nat) : Int) < 1 by omega)]
  refine iteF ⟨_, rfl, l, _, rfl, .inl (.of hl), _, _, rfl, rfl, _, rfl, ?_⟩
  by_cases h7 : xs.length ≤ 6
  rotate_left
  · rw [decide_eq_true (show ((xs.length : Nat) : Int) > 6 by omega)]
    exact iteT ⟨_, rfl, q (some (-1)) H (Same.refl H) (.inl ⟨len rfl hl (by omega), rfl⟩)⟩
  rw [decide_eq_false (show ¬ ((xs.length : Nat) : Int) > 6 by omega)]
  refine iteF ⟨_, rfl, l, xs, rfl, .inl (.of hl), _, rfl, by omega, by omega, ?_⟩
  have en : ((xs.length : Nat) : Int).toNat = xs.length := by omega
  rw [en]
  refine for_range (fun i σ G => i ≤ xs.length ∧ ∃ (v2 : Option V) (ss : List Str), σ = [some (.ref l), v2] ∧ ss.length = i ∧ DueM xs i ss ∧ Same H G)
    ⟨Nat.zero_le _, _, [], rfl, rfl, ⟨by rw [List.take_zero]; rfl, fun p m => (by cases m), .nil⟩, Same.refl H⟩ ?_ ?_
  · rintro i σ G hi ⟨_, v2, ss, rfl, hpl, hI, sG⟩
    have hi2 : i < xs.length := by omega
    have e : (0 : Int) + (i : Int) = ((i : Nat) : Int) := by omega
    rw [e]
    obtain ⟨x, hx⟩ : ∃ x, xs[i]? = some x := ⟨_, List.getElem?_eq_getElem hi2⟩
    have vx := hv.item (.inr hl) (List.mem_of_getElem? hx)
    have bad : ∀ {G' : Hp}, Same H G' → ¬ GoodTo N .ms H xs (i + 1) → Q (.int (i : Int)) G' := fun sG' ng => q (some (i : Int)) _ sG' (.inr ⟨l, xs, i, rfl, hl, h2, h7, rfl, hi2, hI.good N, ng⟩)
    refine ⟨_, rfl, _, rfl, l, xs, _, _, rfl, rfl, .of (sG _ _ hl), atI_nat hx, x, rfl, (vx.vl.same sG), fun r hr1 => ⟨_, rfl, ?_⟩⟩
    cases r with
    | false =>
      refine iteT ⟨_, rfl, bad sG fun g => ?_⟩
      obtain ⟨s, e1, hs, _⟩ := hI.next hx g
      have := hr1.mpr ⟨s, e1, hs⟩
      cases this
    | true =>
    obtain ⟨s, rfl, hs⟩ := hr1.mp rfl
    refine iteF ?_
    refine ⟨_, rfl, _, rfl, l, xs, _, _, rfl, rfl, .of (sG _ _ hl), atI_nat hx, _, rfl, _, rfl, _, rfl, l, xs, rfl, .of (sG _ _ hl), fun b1 hb1 => ?_⟩
    rw [cutTo _ i (by omega), hI.d]
    have sb := sG.trans (same_upd (o := .lst (ss.map V.str)) hb1)
    refine ⟨b1, _, rfl, .inl (.of upd_same), rfl, flat_strs _, _, rfl, ?_⟩
    rw [in_strs]
    by_cases hin : s ∈ ss
    · rw [decide_eq_true hin]
      refine iteT ⟨_, rfl, bad sb fun g => ?_⟩
      obtain ⟨s', e1, _, nin⟩ := hI.next hx g
      cases e1
      exact nin hin
    rw [decide_eq_false hin]
    refine iteF ?_
    exact ⟨hi2, _, ss ++ [s], rfl, by rw [List.length_append, hpl]; rfl, hI.more hx hs hin, sb⟩
  · rintro σ G ⟨_, v2, ss, rfl, hpl, hI, sG⟩
    exact q none G sG ⟨l, xs, rfl, hl, h2, h7, hI.good N⟩
end
end My

namespace My
open PySem L2
abbrev s_l_due : Stmt := top 51
theorem sc_l_due : FnScope ["_law_ups", "_law_downs", "_law_marks_here"] ["_law_ups", "_law_downs", "_law_marks_here"] (defScope s_l_due) := ⟨rfl, rfl, rfl, by decide +kernel, rfl, by decide +kernel, by decide +kernel⟩
/-! ### the book of right kinds and marks -/
theorem rows_ofL : ∀ ds : List PyData, (∀ d ∈ ds, RLetter d) → ∃ ps : List (Str × Bool), ds = ps.map rowL ∧ ∀ p ∈ ps, Nm p.1
  | [], _ => ⟨[], rfl, fun p m => by cases m⟩
  | d :: ds, h => by
    obtain ⟨s, t, rfl, hs⟩ := h d List.mem_cons_self
    obtain ⟨ps, rfl, hp⟩ := rows_ofL ds fun z m => h z (List.mem_cons_of_mem _ m)
    exact ⟨(s, t) :: ps, rfl, fun p m => by
      rcases List.mem_cons.mp m with e | m
      · rw [e]
        exact hs
      · exact hp p m⟩
theorem strs_of : ∀ ds : List PyData, (∀ d ∈ ds, RMark d) → ∃ ss : List Str, ds = ss.map PyData.str ∧ ∀ s ∈ ss, Nm s
  | [], _ => ⟨[], rfl, fun p m => by cases m⟩
  | d :: ds, h => by
    obtain ⟨s, rfl, hs⟩ := h d List.mem_cons_self
    obtain ⟨ps, rfl, hp⟩ := strs_of ds fun z m => h z (List.mem_cons_of_mem _ m)
    exact ⟨s :: ps, rfl, fun p m => by
      rcases List.mem_cons.mp m with e | m
      · rw [e]
        exact hs
      · exact hp p m⟩
structure LOk (ps : List (Str × Bool)) : Prop where
  lo : 1 ≤ ps.length
  hi : ps.length ≤ 5
  nd : (ps.map Prod.fst).Nodup
  nm : ∀ p ∈ ps, Nm p.1
structure MOk (ms : List Str) : Prop where
  lo : 1 ≤ ms.length
  hi : ms.length ≤ 6
  nd : ms.Nodup
  nm : ∀ s ∈ ms, Nm s
theorem WI.letters {N : Nm5} {H : Hp} {v : V} (h : WI N .us H v none) : ∃ l xs ps fp, v = .ref l ∧ H l = some (.lst xs) ∧ DfL H (ps.map rowL) xs fp ∧ LOk ps := by
  obtain ⟨l, xs, rfl, hl, h2, h7, ds, fp, hd, hi, hs⟩ := h
  rw [List.take_length] at hd
  obtain ⟨ps, rfl, hr⟩ := rows_ofL ds hi
  have hlen := hd.len
  rw [List.length_map] at hlen
  have h2' : 1 ≤ xs.length := h2
  have h7' : xs.length ≤ 5 := h7
  refine ⟨l, xs, ps, fp, rfl, hl, hd, by omega, by omega, ?_, hr⟩
  refine List.pairwise_iff_getElem.mpr fun i j hi hj hij e => ?_
  rw [List.length_map] at hi hj
  have st := hs j (rowL ps[j]) (by rw [List.getElem?_map, List.getElem?_eq_getElem hj]; rfl)
  rw [← List.map_take] at st
  refine stand_rowL.mp st ?_
  rw [List.getElem_map, List.getElem_map] at e
  show ps[j].1 ∈ _
  rw [← e]
  refine List.mem_map.mpr ⟨ps[i], ?_, rfl⟩
  exact List.mem_iff_getElem?.mpr ⟨i, by rw [List.getElem?_take_of_lt hij]; exact List.getElem?_eq_getElem hi⟩
theorem WI.marks {N : Nm5} {H : Hp} {v : V} (h : WI N .ms H v none) : ∃ l ms, v = .ref l ∧ H l = some (.lst (ms.map V.str)) ∧ MOk ms := by
  obtain ⟨l, xs, rfl, hl, h2, h7, ds, fp, hd, hi, hs⟩ := h
  rw [List.take_length] at hd
  obtain ⟨ms, rfl, hr⟩ := strs_of ds hi
  have ex := dfl_strs_v hd
  subst ex
  have h2' : 1 ≤ (ms.map V.str).length := h2
  have h7' : (ms.map V.str).length ≤ 6 := h7
  rw [List.length_map] at h2' h7'
  refine ⟨l, ms, rfl, hl, h2', h7', ?_, hr⟩
  refine List.pairwise_iff_getElem.mpr fun i j hi hj hij e => ?_
  have st := hs j (.str ms[j]) (by rw [List.getElem?_map, List.getElem?_eq_getElem hj]; rfl)
  rw [← List.map_take] at st
  refine stand_str.mp st ?_
  rw [← e]
  exact List.mem_iff_getElem?.mpr ⟨i, by rw [List.getElem?_take_of_lt hij]; exact List.getElem?_eq_getElem hi⟩
/-- the written tasks -/
def tsK (ds : List (Str × Bool)) (ms : List Str) : List PyData := [.tuple [.str "go", .list (ms.map fun m => .tuple [.str m, .str ((ds.map Prod.fst).getD 0 "")]), .list ([ms.getD (ms.length - 1) ""].map .str), .list (ms.reverse.map .str), .str (ms.getD 0 ""), .none, .str "none"]]
def bK (us ds : List (Str × Bool)) (ms : List Str) : RB := ⟨⟨["no", "yes"], us.map Prod.fst, ds.map Prod.fst, ms, ["go"]⟩, [.tuple [.str "no", .str ""], .tuple [.str "yes", .str "hr"]], us.map rowL, ds.map rowL, [], [], tsK ds ms, [], []⟩
theorem getD_mem {L : List Str} {i : Nat} (h : i < L.length) : L.getD i "" ∈ L := by
  rw [List.getD_eq_getElem?_getD, List.getElem?_eq_getElem h]
  exact List.getElem_mem h
theorem bK_ok {us ds : List (Str × Bool)} {ms : List Str} (hu : LOk us) (hd : LOk ds) (hm : MOk ms) : (bK us ds ms).Ok := by
  have le : ∀ ps : List (Str × Bool), LOk ps → ((ps.map rowL).length = (ps.map Prod.fst).length ∧ ∀ (i : Nat) (d : PyData), (ps.map rowL)[i]? = some d → ∃ s f, (ps.map Prod.fst)[i]? = some s ∧ d = .tuple [.str s, .bool f]) := fun ps _ => ⟨by rw [List.length_map, List.length_map], fun i d e => by
    rw [List.getElem?_map] at e
    obtain ⟨p, hp, rfl⟩ := Option.map_eq_some_iff.mp e
    exact ⟨p.1, p.2, by rw [List.getElem?_map, hp]; rfl, rfl⟩⟩
  have nm : ∀ ps : List (Str × Bool), LOk ps → (ps.map Prod.fst).Nodup ∧ ∀ s ∈ ps.map Prod.fst, Nm s := fun ps h => ⟨h.nd, fun s m => by
    obtain ⟨p, hp, rfl⟩ := List.mem_map.mp m
    exact h.nm p hp⟩
  have len : ∀ ps : List (Str × Bool), LOk ps → 1 ≤ (ps.map Prod.fst).length ∧ (ps.map Prod.fst).length ≤ 5 := fun ps h => by
    rw [List.length_map]
    exact ⟨h.lo, h.hi⟩
  have m1 := hm.lo
  refine ⟨⟨by show 2 ≤ 2; decide, by show 2 ≤ 7; decide, (len us hu).1, (len us hu).2, (len ds hd).1, (len ds hd).2, hm.lo, hm.hi, by show 1 ≤ 1; decide, by show 1 ≤ 3; decide,
    ⟨by show ((["no", "yes"] : List Str)).Nodup; decide +kernel, fun s hs => ?_⟩, nm us hu, nm ds hd, ⟨hm.nd, hm.nm⟩, ⟨by show ((["go"] : List Str)).Nodup; decide +kernel, fun s hs => ?_⟩⟩, ⟨rfl, fun i d e => ?_⟩, le us hu, le ds hd, ⟨Nat.zero_le _, fun d hd => (by cases hd)⟩, ⟨Nat.zero_le _, fun d hd => (by cases hd), List.Pairwise.nil⟩, ⟨rfl, fun i d e => ?_⟩, ⟨Nat.zero_le _, fun d hd => (by cases hd), List.Pairwise.nil⟩, ⟨Nat.zero_le _, fun d hd => (by cases hd), List.Pairwise.nil⟩⟩
  · rcases List.mem_cons.mp hs with rfl | hs
    · exact nm_of (by decide +kernel)
    · rw [List.mem_singleton.mp hs]
      exact nm_of (by decide +kernel)
  · rw [List.mem_singleton.mp hs]
    exact nm_of (by decide +kernel)
  · match i, e with
    | 0, e => cases e; exact ⟨"no", "", rfl, rfl, by decide +kernel, fun _ => rfl⟩
    | 1, e => cases e; exact ⟨"yes", "hr", rfl, rfl, by decide +kernel, fun z => by cases z⟩
  · match i, e with
    | 0, e =>
      cases e
      refine ⟨"go", rfl, ms.map fun m => .tuple [.str m, .str ((ds.map Prod.fst).getD 0 "")], [ms.getD (ms.length - 1) ""], ms.reverse, ms.getD 0 "", none, "none", rfl, by rw [List.length_map]; rfl, fun c hc => ?_, by simp, by simp, fun q hq => ?_, by rw [List.length_reverse]; rfl, fun q hq => List.mem_reverse.mp hq, getD_mem (L := ms) (show 0 < ms.length by omega), fun s z => (by cases z), by decide +kernel⟩
      · obtain ⟨m, hm', rfl⟩ := List.mem_map.mp hc
        refine ⟨m, some _, rfl, hm', fun s e => ?_⟩
        cases e
        exact getD_mem (L := ds.map Prod.fst) (len ds hd).1
      · rw [List.mem_singleton.mp hq]
        exact getD_mem (L := ms) (show ms.length - 1 < ms.length by omega)
def spDueK (C : Addr) : Sp := fun vs H Q _ => ∃ (u d m : V), vs = [u, d, m] ∧ (Vd C H 5 u ∧ Vd C H 5 d ∧ Vd C H 5 m) ∧ (∀ v ∈ [u, d, m], ∀ l xs, v = .ref l → H l = some (.lst xs) → xs.length ≤ 100) ∧
  ∀ (v : V) (H' : Hp), Same H H' → ((∃ i, WI nb0 .us H u (some i) ∧ ∃ t, v = .ref t ∧ H' t = some (.tup [.str "ups", .int i])) ∨ (WI nb0 .us H u none ∧ ∃ i, WI nb0 .us H d (some i) ∧ ∃ t, v = .ref t ∧ H' t = some (.tup [.str "downs", .int i])) ∨
    (WI nb0 .us H u none ∧ WI nb0 .us H d none ∧ ∃ i, WI nb0 .ms H m (some i) ∧ ∃ t, v = .ref t ∧ H' t = some (.tup [.str "marks", .int i])) ∨ (WI nb0 .us H u none ∧ WI nb0 .us H d none ∧ WI nb0 .ms H m none ∧ v = .non)) → Q v H'
theorem WI.goback {C : Addr} {k : Pk} (fw : Few k) {H G : Hp} {v : V} {r : Option Int} (s : Same H G) (hv : Vd C H 5 v) (h : WI nb0 k G v r) : WI nb0 k H v r := by
  have bk : ∀ l xs, v = .ref l → G l = some (.lst xs) → H l = some (.lst xs) := fun l xs e e2 => by
    subst e
    obtain ⟨o, eo⟩ := hv.vl.obj
    have := s _ _ eo
    rw [e2] at this
    cases this
    exact eo
  cases r with
  | none =>
    obtain ⟨l, xs, e, e2, h1, h2, g⟩ := h
    have e3 := bk l xs e e2
    subst e
    exact ⟨l, xs, rfl, e3, h1, h2, g.back fw s hv e3⟩
  | some i =>
    rcases h with ⟨n, ei⟩ | ⟨l, xs, j, e, e2, h1, h2, ei, hj, g, ng⟩
    · exact .inl ⟨fun ⟨l, xs, e1, e2, h1, h2⟩ => n ⟨l, xs, e1, s _ _ e2, h1, h2⟩, ei⟩
    · have e3 := bk l xs e e2
      subst e
      exact .inr ⟨l, xs, j, rfl, e3, h1, h2, ei, hj, g.back fw s hv e3, fun z => ng (z.same s)⟩
theorem WI.backU {C : Addr} {k : Pk} (fw : Few k) {H G : Hp} {v : V} {r r' : Option Int} (s : Same H G) (hv : Vd C H 5 v) (h : WI nb0 k H v r) (h' : WI nb0 k G v r') : r' = r := WI.uniq h' (h.same fw s hv)
section
variable {P : Program} {w : World} {K : PySem.W.Frag} {mg : Str → Option Value} {base : Heap} {C : Addr}
theorem ok_due {f f1 f2 fI : Addr} {fd fd1 fd2 fdI : FuncData} (D : DefT K mg "_law_due" "_law_due" s_l_due ["_law_ups", "_law_downs", "_law_marks_here"] f fd) (Z : Zs mg) (B : IsB K C) (D_l_kinds_fault : DefT K mg "_law_kinds_fault" "_law_kinds_fault" s_l_kinds_fault ["_law_rows"] f1 fd1)
    (D_l_marks_fault : DefT K mg "_law_marks_fault" "_law_marks_fault" s_l_marks_fault ["_law_rows"] f2 fd2) (D_l_is_name : DefT K mg "_law_is_name" "_law_is_name" s_l_is_name ["_law_thing_here"] fI fdI) : FnOk P w K mg base CX0 3 f fd ["_law_ups", "_law_downs", "_law_marks_here"] (spDueK C) := by
  have G_l_kinds_fault := ok_kf (P := P) (w := w) (base := base) D_l_kinds_fault Z B D_l_is_name
  have G_l_marks_fault := ok_mf (P := P) (w := w) (base := base) D_l_marks_fault Z B D_l_is_name
  refine D.F.ok sc_l_due (fun vs H Q E h => ?_) (fun cdv A outer s H vs Q E hr h => ?_)
  · obtain ⟨u, d, m, rfl, _⟩ := h
    rfl
  obtain ⟨u, d, m, rfl, ⟨hu, hd, hm⟩, hlen, q⟩ := h
  refine ⟨_, (pss_cons (ps_if (pt_cmpR op_notN (pe_call G_l_kinds_fault (hr.mono (by decide)) rfl D_l_kinds_fault.m D_l_kinds_fault.F.kp D_l_kinds_fault.b .nil pass0 (pa_cons (pv 0) pa_nil)) pe_non (nomark _)) (pss_one (ps_ret (pe_tup (pa_cons pe_str (pa_cons (pe_call G_l_kinds_fault (hr.mono (by decide)) rfl D_l_kinds_fault.m D_l_kinds_fault.F.kp D_l_kinds_fault.b .nil pass0 (pa_cons (pv 0) pa_nil)) pa_nil))))) pss_nil) (pss_cons (ps_if (pt_cmpR op_notN (pe_call G_l_kinds_fault (hr.mono (by decide)) rfl D_l_kinds_fault.m D_l_kinds_fault.F.kp D_l_kinds_fault.b .nil pass0 (pa_cons (pv 1) pa_nil)) pe_non (nomark _)) (pss_one (ps_ret (pe_tup (pa_cons pe_str (pa_cons (pe_call G_l_kinds_fault (hr.mono (by decide)) rfl D_l_kinds_fault.m D_l_kinds_fault.F.kp D_l_kinds_fault.b .nil pass0 (pa_cons (pv 1) pa_nil)) pa_nil))))) pss_nil) (pss_cons (ps_if (pt_cmpR op_notN (pe_call G_l_marks_fault (hr.mono (by decide)) rfl D_l_marks_fault.m D_l_marks_fault.F.kp D_l_marks_fault.b .nil pass0 (pa_cons (pv 2) pa_nil)) pe_non (nomark _)) (pss_one (ps_ret (pe_tup (pa_cons pe_str (pa_cons (pe_call G_l_marks_fault (hr.mono (by decide)) rfl D_l_marks_fault.m D_l_marks_fault.F.kp D_l_marks_fault.b .nil pass0 (pa_cons (pv 2) pa_nil)) pa_nil))))) pss_nil) (pss_one (ps_ret pe_non))))), ?_⟩
  refine ⟨_, rfl, nb0, u, rfl, hu, hlen u (by simp), fun r1 H1 s1 w1 => ?_⟩
  have back : ∀ {G : Hp} {v : V}, Same H G → Vd C H 5 v → ∀ l xs, v = .ref l → G l = some (.lst xs) → H l = some (.lst xs) := fun s hv l xs e e2 => by
    subst e
    obtain ⟨o, eo⟩ := hv.vl.obj
    have := s _ _ eo
    rw [e2] at this
    cases this
    exact eo
  have sN : ∀ i : Int, ¬ oI (some i) = V.non := fun i z => by cases z
  refine ⟨rfl, _, rfl, ?_⟩
  cases r1 with
  | some i =>
    rw [decide_eq_false (sN i)]
    refine iteT ⟨_, rfl, nb0, u, rfl, hu.same s1, fun l xs e e2 => hlen u (by simp) l xs e (back s1 hu l xs e e2), fun r1' H2 s2 w2 => ⟨sz 2, fun t ht => ?_⟩⟩
    have e := WI.backU (.inr (.inl rfl)) s1 hu w1 w2
    subst e
    exact q _ _ ((s1.trans s2).trans (same_upd ht)) (.inl ⟨i, w1, t, rfl, upd_same⟩)
  | none =>
  rw [decide_eq_true (show oI none = V.non from rfl)]
  refine iteF ⟨_, rfl, nb0, d, rfl, hd.same s1, fun l xs e e2 => hlen d (by simp) l xs e (back s1 hd l xs e e2), fun r2 H2 s2 w2' => ?_⟩
  have s12 := s1.trans s2
  have w2 : WI nb0 .us H d r2 := WI.goback (.inr (.inl rfl)) s1 hd w2'
  refine ⟨rfl, _, rfl, ?_⟩
  cases r2 with
  | some i =>
    rw [decide_eq_false (sN i)]
    refine iteT ⟨_, rfl, nb0, d, rfl, hd.same s12, fun l xs e e2 => hlen d (by simp) l xs e (back s12 hd l xs e e2), fun r2' H3 s3 w3 => ⟨sz 2, fun t ht => ?_⟩⟩
    have e := WI.backU (.inr (.inl rfl)) s12 hd w2 w3
    subst e
    exact q _ _ ((s12.trans s3).trans (same_upd ht)) (.inr (.inl ⟨w1, i, w2, t, rfl, upd_same⟩))
  | none =>
  rw [decide_eq_true (show oI none = V.non from rfl)]
  refine iteF ⟨_, rfl, nb0, m, rfl, hm.same s12, fun l xs e e2 => hlen m (by simp) l xs e (back s12 hm l xs e e2), fun r3 H3 s3 w3' => ?_⟩
  have s123 := s12.trans s3
  have w3 : WI nb0 .ms H m r3 := WI.goback (.inr (.inr (.inr rfl))) s12 hm w3'
  refine ⟨rfl, _, rfl, ?_⟩
  cases r3 with
  | some i =>
    rw [decide_eq_false (sN i)]
    refine iteT ⟨_, rfl, nb0, m, rfl, hm.same s123, fun l xs e e2 => hlen m (by simp) l xs e (back s123 hm l xs e e2), fun r3' H4 s4 w4 => ⟨sz 2, fun t ht => ?_⟩⟩
    have e := WI.backU (.inr (.inr (.inr rfl))) s123 hm w3 w4
    subst e
    exact q _ _ ((s123.trans s4).trans (same_upd ht)) (.inr (.inr (.inl ⟨w1, w2, i, w3, t, rfl, upd_same⟩)))
  | none =>
  rw [decide_eq_true (show oI none = V.non from rfl)]
  exact iteF (q _ _ s123 (.inr (.inr (.inr ⟨w1, w2, w3, rfl⟩))))
end
end My

namespace My
open PySem L2
abbrev s_law : Stmt := top 52
theorem sc_law : FnScope ["_law_script", "_law_pool_here", "_law_ups", "_law_downs", "_law_marks_here", "_law_due_here", "_law_tasks", "_law_calls", "_law_fault", "_law_book", "e", "_law_mark"] ["_law_script"] (defScope s_law) := ⟨rfl, rfl, rfl, by decide +kernel, rfl, by decide +kernel, by decide +kernel⟩
theorem seq_on {K : PySem.W.Frag} {H H' : Hp} {a p : Addr} {xs : List V} (h : SqL K H a xs) (hp : H p = none) (k : ∀ b o, b ≠ p → H b = some o → H' b = some o) : SqL K H' a xs := by
  rcases h with (h | ⟨o, h⟩) | h
  · exact .inl (.inl (k _ _ (ne_of_none h hp) h))
  · exact .inl (.inr ⟨o, k _ _ (ne_of_none h hp) h⟩)
  · exact .inr h
def spLaw (K : PySem.W.Frag) : Sp := fun vs H Q _ => ∃ (a : Addr) (ns : List Int), vs = [.ref a] ∧ SqL K H a (ns.map V.int) ∧ ns.length ≤ 63 ∧ ∀ H', Q (.bl true) H'
def Ex4 (k : Pk) : Prop := k = .us ∨ k = .ks ∨ k = .ms
/-- what the law calls -/
structure Calls (P : Program) (w : World) (K : PySem.W.Frag) (mg : Str → Option Value) (base : Heap) (C CN : Addr) (f1 f2 f3 f4 f5 f6 : Addr) (fd1 fd2 fd3 fd4 fd5 fd6 : FuncData) : Prop where
  pool : FnOk P w K mg base CX0 1 f1 fd1 [] spPool
  kinds : FnOk P w K mg base CX0 12 f2 fd2 ["_law_script", "_law_pool_here"] (spDrawn K C)
  marks : FnOk P w K mg base CX0 12 f3 fd3 ["_law_script", "_law_pool_here"] (spDrawn K C)
  due : FnOk P w K mg base CX0 3 f4 fd4 ["_law_ups", "_law_downs", "_law_marks_here"] (spDueK C)
  same : FnOk P w K mg base CX0 6 f5 fd5 ["_law_told", "_law_due_here"] (spSame 5)
  init : FnOk P w K mg base (L2.CX P w) 7 f6 fd6 ["self", "states", "ups", "downs", "marks", "wishes", "answers", "tasks", "idles", "busies"] (fun vs H Q E => spInit C vs H Q E ∨ spInitBad CN C Ex4 vs H Q E)
structure Reads5 (P : Program) (w : World) (K : PySem.W.Frag) (mg : Str → Option Value) (base : Heap) (C fS fU fK fM fT : Addr) (fdS fdU fdK fdM fdT : FuncData) : Prop where
  ss : FnOk P w K mg base CX0 1 fS fdS ["self"] (spRead C .ss)
  us : FnOk P w K mg base CX0 1 fU fdU ["self"] (spRead C .us)
  ks : FnOk P w K mg base CX0 1 fK fdK ["self"] (spRead C .ks)
  ms : FnOk P w K mg base CX0 1 fM fdM ["self"] (spRead C .ms)
  ts : FnOk P w K mg base CX0 2 fT fdT ["self"] (spRead C .ts)
def us0 : List (Str × Bool) := [("u", true)]
def ds0 : List (Str × Bool) := [("d", false)]
def ms0 : List Str := ["m"]
theorem us0_ok : LOk us0 := ⟨by decide, by decide, by decide +kernel, fun p m => by
  rw [List.mem_singleton.mp m]
  exact nm_of (by decide +kernel)⟩
theorem ds0_ok : LOk ds0 := ⟨by decide, by decide, by decide +kernel, fun p m => by
  rw [List.mem_singleton.mp m]
  exact nm_of (by decide +kernel)⟩
theorem ms0_ok : MOk ms0 := ⟨by decide, by decide, by decide +kernel, fun p m => by
  rw [List.mem_singleton.mp m]
  exact nm_of (by decide +kernel)⟩
def BadF (C : Addr) (L : Hp) (vs : List V) (du : V) : Prop := ∃ (b : RB) (td : Addr) (i : Int) (j : Nat) (k : Pk) (vv : V), NOk b.N ∧ du = .ref td ∧ L td = some (.tup [.str k.nm, .int i]) ∧ allPk[j]? = some k ∧ vs[j]? = some vv ∧ WrongP C Ex4 b k L vv i ∧
  ∀ (j' : Nat) (k' : Pk), j' < j → allPk[j']? = some k' → ∃ v', vs[j']? = some v' ∧ FineP b k' L v'
theorem bad_parts {C p : Addr} {L : Hp} {u d m du : V} {s0 s1 s2 td : Addr} {r : List V} (hu : VS [p] C L u) (hd : VS [p] C L d) (hm : VS [p] C L m) (e0 : L s0 = some (.tup [.str "no", .str ""])) (e1 : L s1 = some (.tup [.str "yes", .str "hr"])) (e2 : L s2 = some (.lst [.ref s0, .ref s1])) (ed : du = .ref td)
    (h : (∃ i, WI nb0 .us L u (some i) ∧ L td = some (.tup [.str "ups", .int i])) ∨ (WI nb0 .us L u none ∧ ∃ i, WI nb0 .us L d (some i) ∧ L td = some (.tup [.str "downs", .int i])) ∨ (WI nb0 .us L u none ∧ WI nb0 .us L d none ∧ ∃ i, WI nb0 .ms L m (some i) ∧ L td = some (.tup [.str "marks", .int i]))) :
    BadF C L (.ref s2 :: u :: d :: m :: r) du := by
  have fine : ∀ (us ds : List (Str × Bool)) (ms : List Str), LOk us → LOk ds → MOk ms → ∀ (k : Pk) (a : Addr) (ys : List V) (gp : List Addr), L a = some (.lst ys) → DfL L ((bK us ds ms).ds k) ys gp → FineP (bK us ds ms) k L (.ref a) := fun us ds ms hu hd hm k a ys gp e dd => ⟨a, ys, gp, rfl, e, dd, (bK_ok hu hd hm).fact k⟩
  have dss : ∀ (us ds : List (Str × Bool)) (ms : List Str), DfL L ((bK us ds ms).ds .ss) [.ref s0, .ref s1] [] := fun _ _ _ => .c (tD e0 (.c (sD _) (.c (sD _) .n))) (.c (tD e1 (.c (sD _) (.c (sD _) .n))) .n)
  rcases h with ⟨i, w, et⟩ | ⟨w1, i, w, et⟩ | ⟨w1, w2, i, w, et⟩
  · refine ⟨bK us0 ds0 ms0, td, i, 1, .us, u, (bK_ok us0_ok ds0_ok ms0_ok).n, ed, et, rfl, rfl, .inl ⟨.inr (.inl rfl), .inl rfl, hu.vd 5, w⟩, fun j' k' hj e => ?_⟩
    match j', e with
    | 0, e => cases e; exact ⟨_, rfl, fine us0 ds0 ms0 us0_ok ds0_ok ms0_ok .ss s2 _ [] e2 (dss us0 ds0 ms0)⟩
  · obtain ⟨lu, xu, us, fu, rfl, hlu, hdu, hus⟩ := w1.letters
    refine ⟨bK us ds0 ms0, td, i, 2, .ks, d, (bK_ok hus ds0_ok ms0_ok).n, ed, et, rfl, rfl, .inl ⟨.inr (.inr (.inl rfl)), .inr (.inl rfl), hd.vd 5, w⟩, fun j' k' hj e => ?_⟩
    match j', e with
    | 0, e => cases e; exact ⟨_, rfl, fine us ds0 ms0 hus ds0_ok ms0_ok .ss s2 _ [] e2 (dss us ds0 ms0)⟩
    | 1, e => cases e; exact ⟨_, rfl, fine us ds0 ms0 hus ds0_ok ms0_ok .us lu _ _ hlu hdu⟩
  · obtain ⟨lu, xu, us, fu, rfl, hlu, hdu, hus⟩ := w1.letters
    obtain ⟨ld, xd, ds, fd, rfl, hld, hdd, hds⟩ := w2.letters
    refine ⟨bK us ds ms0, td, i, 3, .ms, m, (bK_ok hus hds ms0_ok).n, ed, et, rfl, rfl, .inl ⟨.inr (.inr (.inr rfl)), .inr (.inr rfl), hm.vd 5, w⟩, fun j' k' hj e => ?_⟩
    match j', e with
    | 0, e => cases e; exact ⟨_, rfl, fine us ds ms0 hus hds ms0_ok .ss s2 _ [] e2 (dss us ds ms0)⟩
    | 1, e => cases e; exact ⟨_, rfl, fine us ds ms0 hus hds ms0_ok .us lu _ _ hlu hdu⟩
    | 2, e => cases e; exact ⟨_, rfl, fine us ds ms0 hus hds ms0_ok .ks ld _ _ hld hdd⟩
def callD (d0 m : Str) : PyData := .tuple [.str m, .str d0]
theorem task_atK {H : Hp} {c q1 q2 tt tl : Addr} {ds : List (Str × Bool)} {ms : List Str} {zs : List V} {d0 : Str} (h0 : (ds.map Prod.fst).getD 0 "" = d0) (e1 : H c = some (.lst zs)) (d1 : DfL H (ms.map (callD d0)) zs []) (e2 : H q1 = some (.lst [.str (ms.getD (ms.length - 1) "")])) (e3 : H q2 = some (.lst (ms.map V.str).reverse))
    (e4 : H tt = some (.tup [.str "go", .ref c, .ref q1, .ref q2, .str (ms.getD 0 ""), .non, .str "none"])) (e5 : H tl = some (.lst [.ref tt])) : ∃ xs gp, H tl = some (.lst xs) ∧ DfL H (tsK ds ms) xs gp := by
  subst h0
  rw [← List.map_reverse] at e3
  exact ⟨_, _, e5, ⟨_, _, [c, q1, q2], [], rfl, rfl, tD e4 ⟨_, _, [], _, rfl, rfl, sD _, _, _, [c], [q1, q2], rfl, rfl, ⟨c, _, [], rfl, rfl, e1, d1⟩, _, _, [q1], [q2], rfl, rfl, ⟨q1, _, [], rfl, rfl, e2, .c (sD _) .n⟩, _, _, [q2], [], rfl, rfl, ⟨q2, _, [], rfl, rfl, e3, dfl_strs _⟩, .c (sD _) (.c ⟨rfl, rfl⟩ (.c (sD _) .n))⟩, .n⟩⟩
theorem okd_rows {n : Nat} {ps : List (Str × Bool)} (h : ps.length ≤ 5) : okd (n + 2) (.list (ps.map rowL)) := ⟨by rw [List.length_map]; omega, fun d m => by
  obtain ⟨p, _, rfl⟩ := List.mem_map.mp m
  refine ⟨by show 2 ≤ 1000; decide, fun d m => ?_⟩
  rcases List.mem_cons.mp m with rfl | m
  · cases n <;> exact trivial
  · rw [List.mem_singleton.mp m]
    cases n <;> exact trivial⟩
theorem okd_msK {n : Nat} {ms : List Str} (h : ms.length ≤ 100) : okd (n + 1) (.list (ms.map PyData.str)) := ⟨by rw [List.length_map]; omega, fun d m => by
  obtain ⟨p, _, rfl⟩ := List.mem_map.mp m
  cases n <;> exact trivial⟩
theorem okd_ts {ds : List (Str × Bool)} {ms : List Str} (h : ms.length ≤ 6) : okd 5 (.list (tsK ds ms)) := ⟨by show 1 ≤ 1000; decide, fun d m => by
  rw [List.mem_singleton.mp m]
  refine ⟨by show 7 ≤ 1000; decide, fun d m => ?_⟩
  rcases List.mem_cons.mp m with rfl | m
  · exact trivial
  rcases List.mem_cons.mp m with rfl | m
  · refine ⟨by rw [List.length_map]; omega, fun d m => ?_⟩
    obtain ⟨p, _, rfl⟩ := List.mem_map.mp m
    refine ⟨by show 2 ≤ 1000; decide, fun d m => ?_⟩
    rcases List.mem_cons.mp m with rfl | m
    · exact trivial
    · rw [List.mem_singleton.mp m]
      exact trivial
  rcases List.mem_cons.mp m with rfl | m
  · exact okd_msK (by show 1 ≤ 100; decide)
  rcases List.mem_cons.mp m with rfl | m
  · exact okd_msK (by rw [List.length_reverse]; omega)
  rcases List.mem_cons.mp m with rfl | m
  · exact trivial
  rcases List.mem_cons.mp m with rfl | m
  · exact trivial
  rw [List.mem_singleton.mp m]
  exact trivial⟩
theorem at_last {ms : List Str} (h : 1 ≤ ms.length) : atI (ms.map V.str) (-1) = some (.str (ms.getD (ms.length - 1) "")) := by
  unfold atI ixN
  rw [if_neg (by omega), List.length_map, if_pos (by omega)]
  show (ms.map V.str)[((-1 : Int) + (ms.length : Int)).toNat]? = _
  have e : ((-1 : Int) + (ms.length : Int)).toNat = ms.length - 1 := by omega
  rw [e, List.getElem?_map, List.getD_eq_getElem?_getD, List.getElem?_eq_getElem (show ms.length - 1 < ms.length by omega)]
  rfl
section
variable {P : Program} {w : World} {K : PySem.W.Frag} {mg : Str → Option Value} {base : Heap}
theorem ok_law {f f1 f2 f3 f4 f5 f6 C CN fN fS fU fK fM fT : Addr} {fd fd1 fd2 fd3 fd4 fd5 fd6 fdN fdS fdU fdK fdM fdT : FuncData} (D : DefT K mg "law" "law" s_law ["_law_script"] f fd) (Z : Zs mg) (IB : IsB K C) (BK : BK K C)
    (M_ss : DefM K C "states" "Book.states" s_Book_states ["self"] fS fdS) (M_us : DefM K C "ups" "Book.ups" s_Book_ups ["self"] fU fdU) (M_ks : DefM K C "downs" "Book.downs" s_Book_downs ["self"] fK fdK) (M_ms : DefM K C "marks" "Book.marks" s_Book_marks ["self"] fM fdM) (M_ts : DefM K C "tasks" "Book.tasks" s_Book_tasks ["self"] fT fdT)
    (ER : NBk K mg CN fN fdN) (XF : XfC K CN) (EX : PySem.W.exmOne K (.ref CN) (.ref CN) = some true)
    (MB : Mk K C f6) (mC : mg "Book" = some (.ref C)) (bI : Binds K fd6 ["self", "states", "ups", "downs", "marks", "wishes", "answers", "tasks", "idles", "busies"] [])
    (D_l_pool : DefT K mg "_law_pool" "_law_pool" s_l_pool [] f1 fd1) (D_l_kinds : DefT K mg "_law_kinds" "_law_kinds" s_l_kinds ["_law_script", "_law_pool_here"] f2 fd2) (D_l_marks : DefT K mg "_law_marks" "_law_marks" s_l_marks ["_law_script", "_law_pool_here"] f3 fd3)
    (D_l_due : DefT K mg "_law_due" "_law_due" s_l_due ["_law_ups", "_law_downs", "_law_marks_here"] f4 fd4) (D_l_same : DefT K mg "_law_same" "_law_same" s_l_same ["_law_told", "_law_due_here"] f5 fd5)
    (Ca : Calls P w K mg base C CN f1 f2 f3 f4 f5 f6 fd1 fd2 fd3 fd4 fd5 fd6) (Rd : Reads5 P w K mg base C fS fU fK fM fT fdS fdU fdK fdM fdT) : FnOk P w K mg base CX0 13 f fd ["_law_script"] (spLaw K) := by
  obtain ⟨G_l_pool, G_l_kinds, G_l_marks, G_l_due, G_l_same, GI⟩ := Ca
  obtain ⟨G_ss, G_us, G_ks, G_ms, G_ts⟩ := Rd
  refine D.F.ok sc_law (fun vs H Q E h => ?_) (fun cdv A outer s H vs Q E hr h => ?_)
  · obtain ⟨a, ns, rfl, _⟩ := h
    rfl
  obtain ⟨a, ns, rfl, hS, h63, q⟩ := h
  refine ⟨_, (pss_cons (ps_set (i := 1) sc_law.nd rfl (Or.inl rfl) (pe_call0 G_l_pool (hr.mono (by decide)) rfl D_l_pool.m D_l_pool.F.kp D_l_pool.b .nil pass0)) (pss_cons (ps_set (i := 2) sc_law.nd rfl (Or.inl rfl) (pe_call G_l_kinds (hr.mono (by decide)) rfl D_l_kinds.m D_l_kinds.F.kp D_l_kinds.b .nil pass0 (pa_cons (pv 0) (pa_cons (pv 1) pa_nil)))) (pss_cons (ps_set (i := 3) sc_law.nd rfl (Or.inr rfl) (pe_call G_l_kinds (hr.mono (by decide)) rfl D_l_kinds.m D_l_kinds.F.kp D_l_kinds.b .nil pass0 (pa_cons (pv 0) (pa_cons (pv 1) pa_nil)))) (pss_cons (ps_set (i := 4) sc_law.nd rfl (Or.inl rfl) (pe_call G_l_marks (hr.mono (by decide)) rfl D_l_marks.m D_l_marks.F.kp D_l_marks.b .nil pass0 (pa_cons (pv 0) (pa_cons (pv 1) pa_nil)))) (pss_cons (ps_set (i := 5) sc_law.nd rfl (Or.inl rfl) (pe_call G_l_due (hr.mono (by decide)) rfl D_l_due.m D_l_due.F.kp D_l_due.b .nil pass0 (pa_cons (pv 2) (pa_cons (pv 3) (pa_cons (pv 4) pa_nil))))) (pss_cons (ps_set (i := 6) sc_law.nd rfl (Or.inl rfl) (pe_lst pa_nil)) (pss_cons (ps_if (pt_cmpR op_isN (pv 5) pe_non (nomark _)) (pss_cons (ps_setLc (i := 7) (own := [("_law_mark", 11)]) (g := gName 11) rfl sc_law.nd rfl rfl (sw_true rfl rfl rfl (by decide +kernel)) (pi_list (pv 4)) (blkOk_by (own := [("_law_mark", 11)]) (N := ["_law_script", "_law_pool_here", "_law_ups", "_law_downs", "_law_marks_here", "_law_due_here", "_law_tasks", "_law_calls", "_law_fault", "_law_book", "e", "_law_mark"]) (sc := defScope s_law) (by decide +kernel)) (fun _ _ _ _ _ => pg_name (i := 11) sc_law.nd rfl (Or.inl rfl)) (fun _ _ _ _ _ => pts_nil) (fun _ _ _ _ _ => (pe_tup (pa_cons (pv 11) (pa_cons (pe_ix (ix_tupK (K := K) rfl) (pe_ix (ix_listK (K := K) rfl) (pv 3) pe_int (fun _ _ => rfl)) pe_int (fun _ _ => rfl)) pa_nil))))) (pss_one (ps_set (i := 6) sc_law.nd rfl (Or.inl rfl) (pe_lst (pa_cons (pe_tup (pa_cons pe_str (pa_cons (pv 7) (pa_cons (pe_lst (pa_cons (pe_ix ix_list (pv 4) (pe_un un_neg pe_int) (fun _ _ => rfl)) pa_nil)) (pa_cons (pe_revL (pv 4)) (pa_cons (pe_ix ix_list (pv 4) pe_int (fun _ _ => rfl)) (pa_cons pe_non (pa_cons pe_str pa_nil)))))))) pa_nil))))) pss_nil) (pss_cons (ps_set (i := 8) sc_law.nd rfl (Or.inl rfl) pe_non) (pss_cons (ps_set (i := 9) sc_law.nd rfl (Or.inl rfl) pe_non) (pss_cons (ps_try_cls rfl rfl takes0 (fun W pn xe tk _ => (pss_one (ps_set (i := 9) sc_law.nd rfl (Or.inl rfl) (pe_makeS MB GI (hr.mono (by decide)) rfl mC bI .nil (fun σ => passAt tk σ) (pa_cons (pe_lst (pa_cons (pe_tup (pa_cons pe_str (pa_cons pe_str pa_nil))) (pa_cons (pe_tup (pa_cons pe_str (pa_cons pe_str pa_nil))) pa_nil))) (pa_cons (pv 2) (pa_cons (pv 3) (pa_cons (pv 4) (pa_cons (pe_lst pa_nil) (pa_cons (pe_lst pa_nil) (pa_cons (pv 6) (pa_cons (pe_lst pa_nil) (pa_cons (pe_lst pa_nil) pa_nil))))))))))))) (.named (i := 10) ⟨rfl, by decide, .inl ER.x0.g⟩ sc_law.nd rfl rfl (fun a oe cls d pn hz hf => (pss_one (ps_set (i := 8) sc_law.nd rfl (Or.inl rfl) (pe_tup (pa_cons (pe_xf XF ER.np hz hf (pv 10)) (pa_cons (pe_xf XF ER.ni hz hf (pv 10)) pa_nil)))))) .nil)) (pss_cons (ps_if (pt_not (pt_val (pe_call G_l_same (hr.mono (by decide)) rfl D_l_same.m D_l_same.F.kp D_l_same.b .nil pass0 (pa_cons (pv 8) (pa_cons (pv 5) pa_nil))))) (pss_one (ps_ret pe_bl)) pss_nil) (pss_cons (ps_if (pt_cmpR op_notN (pv 5) pe_non (nomark _)) (pss_one (ps_ret (pe_cmpR op_isN (pv 9) pe_non (nomark _)))) pss_nil) (pss_cons (ps_if (PW.pt (pw_or (pt_not (pt_val (pe_call G_l_same (hr.mono (by decide)) rfl D_l_same.m D_l_same.F.kp D_l_same.b .nil pass0 (pa_cons (pe_meth0 (pv 9) BK.c M_us.mt G_us (hr.mono (by decide)) M_us.b .nil pass0) (pa_cons (pv 2) pa_nil))))) (pw_or (pt_not (pt_val (pe_call G_l_same (hr.mono (by decide)) rfl D_l_same.m D_l_same.F.kp D_l_same.b .nil pass0 (pa_cons (pe_meth0 (pv 9) BK.c M_ks.mt G_ks (hr.mono (by decide)) M_ks.b .nil pass0) (pa_cons (pv 3) pa_nil))))) (pw_or1 (pt_not (pt_val (pe_call G_l_same (hr.mono (by decide)) rfl D_l_same.m D_l_same.F.kp D_l_same.b .nil pass0 (pa_cons (pe_meth0 (pv 9) BK.c M_ms.mt G_ms (hr.mono (by decide)) M_ms.b .nil pass0) (pa_cons (pv 4) pa_nil))))))))) (pss_one (ps_ret pe_bl)) pss_nil) (pss_one (ps_ret (pe_and (pe_call G_l_same (hr.mono (by decide)) rfl D_l_same.m D_l_same.F.kp D_l_same.b .nil pass0 (pa_cons (pe_meth0 (pv 9) BK.c M_ts.mt G_ts (hr.mono (by decide)) M_ts.b .nil pass0) (pa_cons (pv 6) pa_nil))) (pe_one (pe_cmpR op_eq (pe_callB call_len_seq (by rfl) Z.len (by decide +kernel) (pa_cons (pe_meth0 (pv 9) BK.c M_ss.mt G_ss (hr.mono (by decide)) M_ss.b .nil pass0) pa_nil)) pe_int (nomark _))))))))))))))))))), ?_⟩
  refine ⟨rfl, fun p H0 s0 hp hP hk => ?_⟩
  have hS1 : Scr K H0 a p ns := ⟨fun H2 k2 => seq_on hS hp fun b o n e => k2.keep b o n (s0 b o e)⟩
  refine ⟨_, rfl, _, rfl, a, p, ns, rfl, hS1, hP, fun u H1 k1 hu lu => ?_⟩
  refine ⟨_, rfl, _, rfl, a, p, ns, rfl, hS1.on k1, k1.pool, fun d H2 k2 hd ld => ?_⟩
  have k12 := k1.trans k2
  refine ⟨_, rfl, _, rfl, a, p, ns, rfl, hS1.on k12, k2.pool, fun m H3 k3 hm lm => ?_⟩
  have hu3 : VS [p] C H3 u := hu.kp (by simp) (k2.trans k3)
  have hd3 : VS [p] C H3 d := hd.kp (by simp) k3
  have ln : ∀ {G : Hp} {v : V}, VS [p] C G v → Kp p G H3 → (∀ l xs, v = .ref l → G l = some (.lst xs) → xs.length ≤ 30) → ∀ l xs, v = .ref l → H3 l = some (.lst xs) → xs.length ≤ 100 := fun {G v} hv kG hl l xs e e2 => by
    subst e
    obtain ⟨o, eo⟩ := hv.vl.obj
    have := kG.keep _ _ (fun z => (hv 0).2 l rfl (by rw [z]; simp)) eo
    rw [e2] at this
    cases this
    exact Nat.le_trans (hl l xs rfl eo) (by decide)
  refine ⟨_, rfl, _, rfl, _, rfl, u, d, m, rfl, ⟨hu3.vd 5, hd3.vd 5, hm.vd 5⟩, fun v hv => ?_, fun du H4 s4 hdu => ?_⟩
  · rcases List.mem_cons.mp hv with rfl | hv
    · exact ln hu (k2.trans k3) lu
    rcases List.mem_cons.mp hv with rfl | hv
    · exact ln hd k3 ld
    · rw [List.mem_singleton.mp hv]
      exact ln hm (Kp.refl k3.pool) lm
  refine ⟨Nat.zero_le _, fun tk0 htk0 => ?_⟩
  have sk := same_upd (o := .lst []) htk0
  have sp : (∃ td, du = .ref td ∧ ((∃ i, WI nb0 .us H3 u (some i) ∧ H4 td = some (.tup [.str "ups", .int i])) ∨ (WI nb0 .us H3 u none ∧ ∃ i, WI nb0 .us H3 d (some i) ∧ H4 td = some (.tup [.str "downs", .int i])) ∨ (WI nb0 .us H3 u none ∧ WI nb0 .us H3 d none ∧ ∃ i, WI nb0 .ms H3 m (some i) ∧ H4 td = some (.tup [.str "marks", .int i])))) ∨
      (WI nb0 .us H3 u none ∧ WI nb0 .us H3 d none ∧ WI nb0 .ms H3 m none ∧ du = .non) := by
    rcases hdu with ⟨i, h, t, e, et⟩ | ⟨h1, i, h, t, e, et⟩ | ⟨h1, h2, i, h, t, e, et⟩ | h
    · exact .inl ⟨t, e, .inl ⟨i, h, et⟩⟩
    · exact .inl ⟨t, e, .inr (.inl ⟨h1, i, h, et⟩)⟩
    · exact .inl ⟨t, e, .inr (.inr ⟨h1, h2, i, h, et⟩)⟩
    · exact .inr h
  have few : Few .us ∧ Few .ms := ⟨.inr (.inl rfl), .inr (.inr (.inr rfl))⟩
  refine ⟨_, rfl, rfl, _, rfl, ?_⟩
  rcases sp with ⟨td, rfl, h3⟩ | ⟨gu, gd, gm, rfl⟩
  · rw [decide_eq_false (show ¬ V.ref td = V.non from fun z => by cases z)]
    refine iteF ?_
    refine ⟨sz 2, fun s0 hs0 => ⟨sz 2, fun s1 hs1 => ⟨sz 2, fun s2 hs2 => ⟨_, rfl, _, rfl, _, rfl, Nat.zero_le _, fun w1 hw1 => ⟨Nat.zero_le _, fun w2 hw2 => ⟨_, rfl, Nat.zero_le _, fun w3 hw3 => ⟨Nat.zero_le _, fun w4 hw4 => ?_⟩⟩⟩⟩⟩⟩⟩
    have y1 := same_upd (o := .tup [.str "no", .str ""]) hs0
    have y2 := same_upd (o := .tup [.str "yes", .str "hr"]) hs1
    have y3 := same_upd (o := .lst [.ref s0, .ref s1]) hs2
    have y4 := same_upd (o := .lst []) hw1
    have y5 := same_upd (o := .lst []) hw2
    have y6 := same_upd (o := .lst []) hw3
    have y7 := same_upd (o := .lst []) hw4
    have z7 := y7
    have z6 := y6.trans z7
    have z5 := y5.trans z6
    have z4 := y4.trans z5
    have z3 := y3.trans z4
    have z2 := y2.trans z3
    have sL := y1.trans z2
    intro x dx nx ndx nex
    have sx : Same _ (upd (upd _ dx (.own x)) x (.ins C dx [])) := fun b o e => by
      rw [upd_ne (ne_of_none e nx), upd_ne (ne_of_none e ndx)]
      exact e
    have sA := s4.trans (sk.trans sL)
    have sB := sk.trans sL
    obtain ⟨b, td', i, j, k, vv, nok, e, htd, ek, ev, hwr, hfine⟩ := bad_parts (r := [.ref w1, .ref w2, .ref tk0, .ref w3, .ref w4]) (hu3.same sA) (hd3.same sA) (hm.same sA) (z2 _ _ upd_same) (z3 _ _ upd_same) (z4 _ _ upd_same) (rfl : V.ref td = .ref td) (by
      rcases h3 with ⟨i, h, et⟩ | ⟨h1, i, h, et⟩ | ⟨h1, h2, i, h, et⟩
      · exact .inl ⟨i, h.same few.1 sA (hu3.vd 5), sB _ _ et⟩
      · exact .inr (.inl ⟨h1.same few.1 sA (hu3.vd 5), i, h.same few.1 sA (hd3.vd 5), sB _ _ et⟩)
      · exact .inr (.inr ⟨h1.same few.1 sA (hu3.vd 5), h2.same few.1 sA (hd3.vd 5), i, h.same few.2 sA (hm.vd 5), sB _ _ et⟩))
    cases e
    refine .inr ⟨_, x, dx, b, _, _, _, _, _, _, _, _, _, rfl, sx, upd_same, nok, j, k, vv, i, ek, ev, hwr, hfine, fun dx' H' sH hdx => ?_⟩
    refine ⟨true, EX, fun _ ea nea => ?_, fun z => nomatch z⟩
    refine ⟨_, rfl, rfl, rfl, dx', _, .str k.nm, rfl, hdx, rfl, _, rfl, rfl, rfl, dx', _, .int i, rfl, hdx, rfl, sz 2, fun ft hft => ?_⟩
    have sF := same_upd (o := .tup [.str k.nm, .int i]) hft
    refine ⟨_, rfl, _, rfl, .ref ft, .ref td, .tuple [.str k.nm, .int i], rfl, ⟨ft, _, rfl, upd_same, _, _, rfl, rfl, _, _, rfl, rfl, rfl⟩, ⟨td, _, rfl, (sH.trans sF) _ _ htd, _, _, rfl, rfl, _, _, rfl, rfl, rfl⟩, ⟨by show 2 ≤ 1000; decide, fun d m => ?_⟩, _, rfl, iteF ?_⟩
    · rcases List.mem_cons.mp m with rfl | m
      · exact trivial
      · rw [List.mem_singleton.mp m]
        exact trivial
    refine ⟨_, rfl, rfl, _, rfl, ifT rfl ?_⟩
    exact ⟨_, rfl, rfl, q _⟩
  -- a right book
  rw [decide_eq_true rfl]
  refine iteT ?_
  have sG4 := s4.trans sk
  obtain ⟨la, xu, us, fu, rfl, hlu, hdu', hus⟩ := gu.letters
  obtain ⟨ldn, xd, ds, fdn, rfl, hld, hdd, hds⟩ := gd.letters
  obtain ⟨lmk, ms, rfl, hlm, hms⟩ := gm.marks
  obtain ⟨td0, d0, b0, hx0, htd0, hd0⟩ : ∃ (td0 : Addr) (d0 : Str) (b0 : Bool), xd[0]? = some (.ref td0) ∧ H3 td0 = some (.tup [.str d0, .bl b0]) ∧ (ds.map Prod.fst).getD 0 "" = d0 := by
    have := hds.lo
    match ds, hdd with
    | (s, b) :: ds', h =>
      obtain ⟨x, r, f, g, rfl, _, ⟨td0, ys, rfl, e0, x0, r0, f0, g0, rfl, _, ⟨rfl, _⟩, x1, r1, f1, g1, rfl, _, ⟨rfl, _⟩, rfl, _⟩, _⟩ := h
      exact ⟨td0, s, b, rfl, e0, rfl⟩
  have m1 := hms.lo
  have m6 := hms.hi
  have hlmS := sG4 _ _ hlm
  refine ⟨_, rfl, lmk, rfl, ⟨_, .of hlmS⟩, fun c hc => ?_⟩
  have hc3 : H3 c = none := sG4.free hc
  have kc := sG4.trans (same_upd (o := .lst []) hc)
  refine lc_it (walk_list (K := K) (a := lmk) (xs := ms.map V.str)) (fun i G => ∃ zs : List V, G c = some (.lst zs) ∧ zs.length = i ∧ DfL G ((ms.take i).map (callD d0)) zs [] ∧ Same H3 G) ⟨[], upd_same, rfl, .n, kc⟩ (fun _ G _ ⟨_, _, _, _, sG⟩ => .of (sG _ _ hlm)) ?_ ?_
  · rintro i x G H' hi ⟨zs, hG, hzl, hz, sG⟩ ⟨rfl, hxi⟩
    rw [List.getElem?_map] at hxi
    obtain ⟨s, hs, rfl⟩ := Option.map_eq_some_iff.mp hxi
    have hi2 : i < ms.length := (List.getElem?_eq_some_iff.mp hs).1
    refine ⟨rfl, _, rfl, _, rfl, ldn, xd, _, _, rfl, rfl, .of (sG _ _ hld), atI_nat (j := 0) hx0, td0, _, _, _, rfl, rfl, .of (sG _ _ htd0), atI_nat (j := 0) rfl, sz 2, fun t ht => ?_⟩
    have s4' := same_upd (o := .tup [.str s, .str d0]) ht
    have et : (ms.take (i + 1)).map (callD d0) = (ms.take i).map (callD d0) ++ [callD d0 s] := by
      rw [List.take_succ, hs, List.map_append]
      rfl
    refine ⟨zs, s4' _ _ hG, Nat.lt_of_lt_of_le (show zs.length < 1000 by omega) (by decide), zs ++ [.ref t], upd_same, by rw [List.length_append, hzl]; rfl, ?_, Same.put (sG.trans s4') hc3⟩
    rw [et]
    exact ((hz.same s4').snoc (tD upd_same (.c (sD _) (.c (sD _) .n)))).put (s4' _ _ hG) (by simp)
  rintro G1 ⟨zs, hG1, hzl, hz, sG1⟩
  rw [List.length_map] at hzl hz
  rw [List.take_length] at hz
  have hm0 : (ms.map V.str)[0]? = some (.str (ms.getD 0 "")) := by
    rw [List.getElem?_map, List.getD_eq_getElem?_getD, List.getElem?_eq_getElem (show 0 < ms.length by omega)]
    rfl
  have hlm1 := sG1 _ _ hlm
  refine ⟨_, rfl, _, rfl, _, rfl, lmk, _, _, _, rfl, rfl, .of hlm1, at_last m1, sz 1, fun q1 hq1 => ?_⟩
  have r1 := same_upd (o := .lst [.str (ms.getD (ms.length - 1) "")]) hq1
  refine ⟨_, rfl, lmk, _, rfl, .of (r1 _ _ hlm1), fun q2 hq2 => ?_⟩
  have r2 := same_upd (o := .lst (ms.map V.str).reverse) hq2
  refine ⟨_, rfl, lmk, _, _, _, rfl, rfl, .of ((r1.trans r2) _ _ hlm1), atI_nat (j := 0) hm0, sz 7, fun tt htt => ⟨sz 1, fun tl htl => ?_⟩⟩
  have r3 := same_upd (o := .tup [.str "go", .ref c, .ref q1, .ref q2, .str (ms.getD 0 ""), .non, .str "none"]) htt
  have r4 := same_upd (o := .lst [.ref tt]) htl
  have rA := r1.trans (r2.trans (r3.trans r4))
  have tk := task_atK hd0 (rA _ _ hG1) (hz.same rA) ((r2.trans (r3.trans r4)) _ _ upd_same) ((r3.trans r4) _ _ upd_same) (r4 _ _ upd_same) upd_same
  refine ⟨sz 2, fun s0 hs0 => ⟨sz 2, fun s1 hs1 => ⟨sz 2, fun s2 hs2 => ⟨_, rfl, _, rfl, _, rfl, Nat.zero_le _, fun w1 hw1 => ⟨Nat.zero_le _, fun w2 hw2 => ⟨_, rfl, Nat.zero_le _, fun w3 hw3 => ⟨Nat.zero_le _, fun w4 hw4 => ?_⟩⟩⟩⟩⟩⟩⟩
  have y1 := same_upd (o := .tup [.str "no", .str ""]) hs0
  have y2 := same_upd (o := .tup [.str "yes", .str "hr"]) hs1
  have y3 := same_upd (o := .lst [.ref s0, .ref s1]) hs2
  have y4 := same_upd (o := .lst []) hw1
  have y5 := same_upd (o := .lst []) hw2
  have y6 := same_upd (o := .lst []) hw3
  have y7 := same_upd (o := .lst []) hw4
  have z7 := y7
  have z6 := y6.trans z7
  have z5 := y5.trans z6
  have z4 := y4.trans z5
  have z3 := y3.trans z4
  have z2 := y2.trans z3
  have sL := y1.trans z2
  intro x dx nx ndx nex
  have sx : Same _ (upd (upd _ dx (.own x)) x (.ins C dx [])) := fun b o e => by
    rw [upd_ne (ne_of_none e nx), upd_ne (ne_of_none e ndx)]
    exact e
  have ok := bK_ok hus hds hms
  have sG := sG1.trans (rA.trans sL)
  obtain ⟨xt, gt, etl, dtl⟩ := tk
  refine .inl ⟨_, x, dx, bK us ds ms, lsOf s2 la ldn lmk w1 w2 tl w3 w4, rfl, sx, nx, upd_same, fun k => ?_, ok, fun G2 fpb sG2 hB hf => ⟨rfl, ?_⟩⟩
  · cases k
    case ss => exact ⟨_, _, z4 _ _ upd_same, .c (tD (z2 _ _ upd_same) (.c (sD _) (.c (sD _) .n))) (.c (tD (z3 _ _ upd_same) (.c (sD _) (.c (sD _) .n))) .n)⟩
    case us => exact ⟨_, _, sG _ _ hlu, hdu'.same sG⟩
    case ks => exact ⟨_, _, sG _ _ hld, hdd.same sG⟩
    case ms => exact ⟨_, _, sG _ _ hlm, dfl_strs ms⟩
    case ws => exact ⟨_, _, z5 _ _ upd_same, .n⟩
    case as => exact ⟨_, _, z6 _ _ upd_same, .n⟩
    case ts => exact ⟨_, _, sL _ _ etl, dtl.same sL⟩
    case is => exact ⟨_, _, z7 _ _ upd_same, .n⟩
    case bs => exact ⟨_, _, upd_same, .n⟩
  refine ⟨_, rfl, _, rfl, .non, .non, .none, rfl, rfl, rfl, trivial, _, rfl, iteF ?_⟩
  refine ⟨_, rfl, rfl, _, rfl, ifF (by decide +kernel) ?_⟩
  obtain ⟨_, dxB, tpB, lsB, eB, _⟩ := id hB
  have sT := sG.trans sG2
  refine ⟨_, rfl, x, dxB, _, rfl, eB, lookM lsB tpB .us, x, bK us ds ms, fpb, rfl, hB, ok, fun G3 l3 x3 g3 s3 e3 d3 _ => ?_⟩
  refine ⟨_, rfl, .ref l3, .ref la, .list (us.map rowL), rfl, ⟨l3, x3, rfl, e3, DfL.dt _ _ _ d3⟩, ⟨la, xu, rfl, (sT.trans s3) _ _ hlu, DfL.dt _ _ _ (hdu'.same (sT.trans s3))⟩, okd_rows hus.hi, _, rfl, iteF ?_⟩
  refine ⟨_, rfl, x, dxB, _, rfl, s3 _ _ eB, lookM lsB tpB .ks, x, bK us ds ms, fpb, rfl, hB.same s3, ok, fun G4 l4 x4 g4 s4' e4 d4 _ => ?_⟩
  have s34 := s3.trans s4'
  refine ⟨_, rfl, .ref l4, .ref ldn, .list (ds.map rowL), rfl, ⟨l4, x4, rfl, e4, DfL.dt _ _ _ d4⟩, ⟨ldn, xd, rfl, (sT.trans s34) _ _ hld, DfL.dt _ _ _ (hdd.same (sT.trans s34))⟩, okd_rows hds.hi, _, rfl, iteF ?_⟩
  refine ⟨_, rfl, x, dxB, _, rfl, s34 _ _ eB, lookM lsB tpB .ms, x, bK us ds ms, fpb, rfl, hB.same s34, ok, fun G5 l5 x5 g5 s5 e5 d5 _ => ?_⟩
  have s345 := s34.trans s5
  refine ⟨_, rfl, .ref l5, .ref lmk, .list (ms.map PyData.str), rfl, ⟨l5, x5, rfl, e5, DfL.dt _ _ _ d5⟩, ⟨lmk, _, rfl, (sT.trans s345) _ _ hlm, DfL.dt _ _ _ (dfl_strs ms)⟩, okd_msK (by omega), _, rfl, iteF ?_⟩
  refine ⟨_, rfl, x, dxB, _, rfl, s345 _ _ eB, lookM lsB tpB .ts, x, bK us ds ms, fpb, rfl, hB.same s345, ok, fun G6 l6 x6 g6 s6 e6 d6 _ => ?_⟩
  have s6' := s345.trans s6
  have sU := sL.trans (sG2.trans s6')
  refine ⟨_, rfl, .ref l6, .ref tl, .list (tsK ds ms), rfl, ⟨l6, x6, rfl, e6, DfL.dt _ _ _ d6⟩, ⟨tl, xt, rfl, sU _ _ etl, DfL.dt _ _ _ (dtl.same sU)⟩, okd_ts m6, ?_⟩
  refine ⟨_, rfl, ifT rfl ?_⟩
  refine ⟨_, rfl, x, dxB, _, rfl, s6' _ _ eB, lookM lsB tpB .ss, x, bK us ds ms, fpb, rfl, hB.same s6', ok, fun G7 l7 x7 g7 s7 e7 d7 _ => ?_⟩
  refine ⟨l7, x7, rfl, .inl (.of e7), rfl, ?_⟩
  have h2 : x7.length = 2 := d7.len
  rw [h2]
  exact q _
end
end My

namespace My
open PySem L2
def itOf (s l m w a t i b : Addr) : Pk → Addr
  | .ss => s
  | .us => l
  | .ks => l
  | .ms => m
  | .ws => w
  | .as => a
  | .ts => t
  | .is => i
  | .bs => b
section
variable {P : Program} {w : World} {K : PySem.W.Frag} {mg : Str → Option Value} {base : Heap} {tl : Tok} {aP aN aT aO aL aH aI : Addr}
theorem fin {C CN fI fN fS fU fK fM fT : Addr} {fdI fdN fdS fdU fdK fdM fdT : FuncData} {f0 : Addr} {fd0 : FuncData} {f1 : Addr} {fd1 : FuncData} {f2 : Addr} {fd2 : FuncData} {f3 : Addr} {fd3 : FuncData} {f4 : Addr} {fd4 : FuncData} {f5 : Addr} {fd5 : FuncData} {f6 : Addr} {fd6 : FuncData} {f7 : Addr} {fd7 : FuncData} {f8 : Addr} {fd8 : FuncData} {f9 : Addr} {fd9 : FuncData} {f10 : Addr} {fd10 : FuncData} {f11 : Addr} {fd11 : FuncData} {f12 : Addr} {fd12 : FuncData} {f13 : Addr} {fd13 : FuncData} {f14 : Addr} {fd14 : FuncData} {f15 : Addr} {fd15 : FuncData} {f16 : Addr} {fd16 : FuncData} {f17 : Addr} {fd17 : FuncData} {f18 : Addr} {fd18 : FuncData} {f19 : Addr} {fd19 : FuncData} {f20 : Addr} {fd20 : FuncData} {f21 : Addr} {fd21 : FuncData} {f22 : Addr} {fd22 : FuncData} {f23 : Addr} {fd23 : FuncData} {f24 : Addr} {fd24 : FuncData} {f25 : Addr} {fd25 : FuncData} {f26 : Addr} {fd26 : FuncData} {f27 : Addr} {fd27 : FuncData} {f28 : Addr} {fd28 : FuncData} {f29 : Addr} {fd29 : FuncData} {f30 : Addr} {fd30 : FuncData} {f31 : Addr} {fd31 : FuncData} {f32 : Addr} {fd32 : FuncData} {f33 : Addr} {fd33 : FuncData} {f34 : Addr} {fd34 : FuncData} {f35 : Addr} {fd35 : FuncData}
    (D0 : DefT K mg "_law_pool" "_law_pool" s_l_pool [] f0 fd0)
    (D1 : DefT K mg "_law_draw" "_law_draw" s_l_draw ["_law_script", "_law_pool_here", "_law_limit"] f1 fd1)
    (D2 : DefT K mg "_law_one" "_law_one" s_l_one ["_law_script", "_law_pool_here", "_law_row"] f2 fd2)
    (D3 : DefT K mg "_law_word" "_law_word" s_l_word ["_law_script", "_law_pool_here"] f3 fd3)
    (D4 : DefT K mg "_law_name" "_law_name" s_l_name ["_law_script", "_law_pool_here", "_law_taken", "_law_others"] f4 fd4)
    (D5 : DefT K mg "_law_names" "_law_names" s_l_names ["_law_script", "_law_pool_here", "_law_size", "_law_others"] f5 fd5)
    (D6 : DefT K mg "_law_thing" "_law_thing" s_l_thing ["_law_script", "_law_pool_here", "_law_names_here"] f6 fd6)
    (D7 : DefT K mg "_law_is_name" "_law_is_name" s_l_is_name ["_law_thing_here"] f7 fd7)
    (D8 : DefT K mg "_law_spoiled" "_law_spoiled" s_l_spoiled ["_law_script", "_law_pool_here", "_law_row", "_law_names_here"] f8 fd8)
    (D9 : DefT K mg "_law_same" "_law_same" s_l_same ["_law_told", "_law_due_here"] f9 fd9)
    (D10 : DefT K mg "_law_kinds" "_law_kinds" s_l_kinds ["_law_script", "_law_pool_here"] f10 fd10)
    (D11 : DefT K mg "_law_marks" "_law_marks" s_l_marks ["_law_script", "_law_pool_here"] f11 fd11)
    (D12 : DefT K mg "_law_kinds_fault" "_law_kinds_fault" s_l_kinds_fault ["_law_rows"] f12 fd12)
    (D13 : DefT K mg "_law_marks_fault" "_law_marks_fault" s_l_marks_fault ["_law_rows"] f13 fd13)
    (D14 : DefT K mg "_law_due" "_law_due" s_l_due ["_law_ups", "_law_downs", "_law_marks_here"] f14 fd14)
    (D15 : DefT K mg "law" "law" s_law ["_law_script"] f15 fd15)
    (D16 : DefT K mg "is_name" "is_name" s_is_name ["value"] f16 fd16)
    (D17 : DefT K mg "has_length" "has_length" s_has_length ["row", "many"] f17 fd17)
    (D18 : DefT K mg "is_one_or_none" "is_one_or_none" s_is_one_or_none ["value", "names"] f18 fd18)
    (D19 : DefT K mg "is_state" "is_state" s_is_state ["row", "_"] f19 fd19)
    (D20 : DefT K mg "is_letter" "is_letter" s_is_letter ["row", "_"] f20 fd20)
    (D21 : DefT K mg "is_mark" "is_mark" s_is_mark ["row", "_"] f21 fd21)
    (D22 : DefT K mg "is_wish" "is_wish" s_is_wish ["row", "names"] f22 fd22)
    (D23 : DefT K mg "is_answer" "is_answer" s_is_answer ["row", "names"] f23 fd23)
    (D24 : DefT K mg "are_calls" "are_calls" s_are_calls ["rows", "names"] f24 fd24)
    (D25 : DefT K mg "are_quiet" "are_quiet" s_are_quiet ["rows", "marks"] f25 fd25)
    (D26 : DefT K mg "are_ends" "are_ends" s_are_ends ["rows", "marks"] f26 fd26)
    (D27 : DefT K mg "is_task" "is_task" s_is_task ["row", "names"] f27 fd27)
    (D28 : DefT K mg "is_reply" "is_reply" s_is_reply ["mark", "down", "frees", "names"] f28 fd28)
    (D29 : DefT K mg "is_idle" "is_idle" s_is_idle ["row", "names"] f29 fd29)
    (D30 : DefT K mg "is_busy" "is_busy" s_is_busy ["row", "names"] f30 fd30)
    (D31 : DefT K mg "may_stand" "may_stand" s_may_stand ["part", "row", "before"] f31 fd31)
    (D32 : DefT K mg "wrong_index" "wrong_index" s_wrong_index ["part", "rows", "names"] f32 fd32)
    (D33 : DefT K mg "names_in" "names_in" s_names_in ["part", "rows"] f33 fd33)
    (D34 : DefT K mg "wrong_part" "wrong_part" s_wrong_part ["parts"] f34 fd34)
    (D35 : DefT K mg "copied_tasks" "copied_tasks" s_copied_tasks ["tasks"] f35 fd35)
    (Z : Zs mg) (T : Tb K mg tl aP aN aT aO aL aH aI) (Td' : Td K w aL aH aI (itOf f19 f20 f21 f22 f23 f27 f29 f30)) (B : BK K C) (IB : IsB K C) (ER : NBk K mg CN fN fdN) (XF : XfC K CN) (EX : PySem.W.exmOne K (.ref CN) (.ref CN) = some true)
    (MS : DefM K C "states" "Book.states" s_Book_states ["self"] fS fdS)
    (MU : DefM K C "ups" "Book.ups" s_Book_ups ["self"] fU fdU)
    (MK : DefM K C "downs" "Book.downs" s_Book_downs ["self"] fK fdK)
    (MM : DefM K C "marks" "Book.marks" s_Book_marks ["self"] fM fdM)
    (MT : DefM K C "tasks" "Book.tasks" s_Book_tasks ["self"] fT fdT)
    (Mk' : Mk K C fI) (mC : mg "Book" = some (.ref C)) (FI : Fun K "__init__" "Book.__init__" s_Book__init_ fI fdI) (bI : Binds K fdI ["self", "states", "ups", "downs", "marks", "wishes", "answers", "tasks", "idles", "busies"] [])
    : FnOk P w K mg base CX0 13 f15 fd15 ["_law_script"] (spLaw K) := by
  have hI : ∀ N, NOk N → ∀ k, Held P w K mg base 4 ((itOf f19 f20 f21 f22 f23 f27 f29 f30) k) (spItem (ItemR N k) (Wk N k)) := fun N hN k => by
    cases k
    case ss => exact ⟨⟨_, _, ((ok_is_state (P := P) (w := w) (base := base) D19 Z T D17 D16).mono (by decide)), D19.F.kp, D19.b⟩⟩
    case us => exact ⟨⟨_, _, ((ok_is_letter (P := P) (w := w) (base := base) D20 Z T D17 D16).mono (by decide)), D20.F.kp, D20.b⟩⟩
    case ks => exact ⟨⟨_, _, ((ok_is_letter (P := P) (w := w) (base := base) D20 Z T D17 D16).mono (by decide)), D20.F.kp, D20.b⟩⟩
    case ms => exact ⟨⟨_, _, ((ok_is_mark (P := P) (w := w) (base := base) D21 Z T D16).mono (by decide)), D21.F.kp, D21.b⟩⟩
    case ws => exact ⟨⟨_, _, ((ok_is_wish (P := P) (w := w) (base := base) N D22 Z D17 D18).mono (by decide)), D22.F.kp, D22.b⟩⟩
    case as => exact ⟨⟨_, _, ((ok_is_answer (P := P) (w := w) (base := base) N D23 Z D17 D18).mono (by decide)), D23.F.kp, D23.b⟩⟩
    case ts => exact ⟨⟨_, _, ((ok_is_task (P := P) (w := w) (base := base) N hN D27 Z T D17 D18 D16 D24 D25 D26).mono (by decide)), D27.F.kp, D27.b⟩⟩
    case is => exact ⟨⟨_, _, ((ok_is_idle (P := P) (w := w) (base := base) N D29 Z D17 D18 D28).mono (by decide)), D29.F.kp, D29.b⟩⟩
    case bs => exact ⟨⟨_, _, ((ok_is_busy (P := P) (w := w) (base := base) N D30 Z D17 D18 D28).mono (by decide)), D30.F.kp, D30.b⟩⟩
  have hX : ∀ N k, Few k ∧ Ex4 k → Held P w K mg base 4 ((itOf f19 f20 f21 f22 f23 f27 f29 f30) k) (spItemX C N k) := fun N k h => by
    rcases h.2 with rfl | rfl | rfl
    · exact ⟨⟨_, _, (ok_is_letterX (P := P) (w := w) (base := base) N D20 Z T IB D17 D16), D20.F.kp, D20.b⟩⟩
    · exact ⟨⟨_, _, (ok_is_letterX (P := P) (w := w) (base := base) N D20 Z T IB D17 D16), D20.F.kp, D20.b⟩⟩
    · exact ⟨⟨_, _, (ok_is_markX (P := P) (w := w) (base := base) N D21 Z T IB D16), D21.F.kp, D21.b⟩⟩
  have GI := ok_init (P := P) (w := w) (base := base) FI Z B T Td' D35 D34 D31 D32 D33 hI
  have GB := ok_initBad (P := P) (w := w) (base := base) (Ex := Ex4) FI Z IB ER T Td' D35 D34 D31 D32 D33 hI hX
  exact ok_law D15 Z IB B MS MU MK MM MT ER XF EX Mk' mC bI D0 D10 D11 D14 D9 ⟨ok_pool D0, ok_kinds D10 Z IB D1 D2 D3 D4 D5 D8 D6 Mk' GI mC bI, ok_marks D11 Z IB D1 D2 D3 D4 D5 D6 Mk' GI mC bI, ok_due D14 Z IB D12 D13 D7, ok_same D9 Z 5, FnOk.or' (FnOk.cx0 GI) GB⟩ ⟨ok_m_ss MS Z B, ok_m_us MU Z B, ok_m_ks MK Z B, ok_m_ms MM Z B, ok_m_ts MT Z B D35⟩
end
end My

namespace My
open PySem L2
/-! ### what the top has written, the head -/
theorem all_mk {l : PySem.W.OpenLaw} {w : World} {K : PySem.W.Frag} {h : Heap} {mg : Str → Option Value} {fa : Addr} (X : K.In h) (G : h.Ns mainGlobals mg) (hfa : mg "law" = some (.ref fa)) {aP aN aT aO aL aH aI C fI g0 t0 g1 t1 g2 t2 g3 t3 g4 t4 g5 t5 g6 t6 g7 t7 g8 t8 : Addr} {tl : Tok} {todP : Option Addr} {titP : Array Value} {tnP : Nat} {tslP : Array (Option Value)} {todN : Option Addr} {titN : Array Value} {tnN : Nat} {tslN : Array (Option Value)} {todT : Option Addr} {titT : Array Value} {tnT : Nat} {tslT : Array (Option Value)} {todO : Option Addr} {titO : Array Value} {tnO : Nat} {tslO : Array (Option Value)} {desL : Array DictEntry} {dnL : Nat} {desH : Array DictEntry} {dnH : Nat} {desI : Array DictEntry} {dnI : Nat} {uod0 : Option Addr} {uit0 : Array Value} {un0 : Nat} {usl0 : Array (Option Value)} {ht0 : Tok} {uod1 : Option Addr} {uit1 : Array Value} {un1 : Nat} {usl1 : Array (Option Value)} {ht1 : Tok} {uod2 : Option Addr} {uit2 : Array Value} {un2 : Nat} {usl2 : Array (Option Value)} {ht2 : Tok} {uod3 : Option Addr} {uit3 : Array Value} {un3 : Nat} {usl3 : Array (Option Value)} {uod4 : Option Addr} {uit4 : Array Value} {un4 : Nat} {usl4 : Array (Option Value)} {uod5 : Option Addr} {uit5 : Array Value} {un5 : Nat} {usl5 : Array (Option Value)} {ht5 : Tok} {uod6 : Option Addr} {uit6 : Array Value} {un6 : Nat} {usl6 : Array (Option Value)} {ht6 : Tok} {uod7 : Option Addr} {uit7 : Array Value} {un7 : Nat} {usl7 : Array (Option Value)} {ht7 : Tok} {uod8 : Option Addr} {uit8 : Array Value} {un8 : Nat} {usl8 : Array (Option Value)} {ht8 : Tok} {jod jan : Option Addr} {jsl : Array (Option Value)} {joc jkV jdc jpm jcd jct : Value} {n0od n0an : Option Addr} {n0sl : Array (Option Value)} {n0oc n0kV n0dc n0pm n0cd n0ct : Value} {n1od n1an : Option Addr} {n1sl : Array (Option Value)} {n1oc n1kV n1dc n1pm n1cd n1ct : Value} {n2od n2an : Option Addr} {n2sl : Array (Option Value)} {n2oc n2kV n2dc n2pm n2cd n2ct : Value} {n3od n3an : Option Addr} {n3sl : Array (Option Value)} {n3oc n3kV n3dc n3pm n3cd n3ct : Value} {n4od n4an : Option Addr} {n4sl : Array (Option Value)} {n4oc n4kV n4dc n4pm n4cd n4ct : Value} {n5od n5an : Option Addr} {n5sl : Array (Option Value)} {n5oc n5kV n5dc n5pm n5cd n5ct : Value} {n6od n6an : Option Addr} {n6sl : Array (Option Value)} {n6oc n6kV n6dc n6pm n6cd n6ct : Value} {n7od n7an : Option Addr} {n7sl : Array (Option Value)} {n7oc n7kV n7dc n7pm n7cd n7ct : Value} {n8od n8an : Option Addr} {n8sl : Array (Option Value)} {n8oc n8kV n8dc n8pm n8cd n8ct : Value} {CN gN : Addr} {xnm xqn : Str} {xnN : Addr} {xbs xbm : List Value} {xsn : List Str} {xsb : List Value} {xab : Bool} {xco : Option Bool} {xdd : Option Addr} {xu0 xu1 xu2 xu3 xu5 : Option Value} {xjod xjan : Option Addr} {xjsl : Array (Option Value)} {xjoc xjkV xjdc xjpm xjcd xjct : Value} 
    {f0 : Addr} {od0 an0 : Option Addr} {sl0 : Array (Option Value)} {oc0 kV0 dc0 pm0 cd0 ct0 : Value} {f1 : Addr} {od1 an1 : Option Addr} {sl1 : Array (Option Value)} {oc1 kV1 dc1 pm1 cd1 ct1 : Value} {f2 : Addr} {od2 an2 : Option Addr} {sl2 : Array (Option Value)} {oc2 kV2 dc2 pm2 cd2 ct2 : Value} {f3 : Addr} {od3 an3 : Option Addr} {sl3 : Array (Option Value)} {oc3 kV3 dc3 pm3 cd3 ct3 : Value} {f4 : Addr} {od4 an4 : Option Addr} {sl4 : Array (Option Value)} {oc4 kV4 dc4 pm4 cd4 ct4 : Value} {f5 : Addr} {od5 an5 : Option Addr} {sl5 : Array (Option Value)} {oc5 kV5 dc5 pm5 cd5 ct5 : Value} {f6 : Addr} {od6 an6 : Option Addr} {sl6 : Array (Option Value)} {oc6 kV6 dc6 pm6 cd6 ct6 : Value} {f7 : Addr} {od7 an7 : Option Addr} {sl7 : Array (Option Value)} {oc7 kV7 dc7 pm7 cd7 ct7 : Value} {f8 : Addr} {od8 an8 : Option Addr} {sl8 : Array (Option Value)} {oc8 kV8 dc8 pm8 cd8 ct8 : Value} {f9 : Addr} {od9 an9 : Option Addr} {sl9 : Array (Option Value)} {oc9 kV9 dc9 pm9 cd9 ct9 : Value} {f10 : Addr} {od10 an10 : Option Addr} {sl10 : Array (Option Value)} {oc10 kV10 dc10 pm10 cd10 ct10 : Value} {f11 : Addr} {od11 an11 : Option Addr} {sl11 : Array (Option Value)} {oc11 kV11 dc11 pm11 cd11 ct11 : Value} {f12 : Addr} {od12 an12 : Option Addr} {sl12 : Array (Option Value)} {oc12 kV12 dc12 pm12 cd12 ct12 : Value} {f13 : Addr} {od13 an13 : Option Addr} {sl13 : Array (Option Value)} {oc13 kV13 dc13 pm13 cd13 ct13 : Value} {f14 : Addr} {od14 an14 : Option Addr} {sl14 : Array (Option Value)} {oc14 kV14 dc14 pm14 cd14 ct14 : Value} {f15 : Addr} {od15 an15 : Option Addr} {sl15 : Array (Option Value)} {oc15 kV15 dc15 pm15 cd15 ct15 : Value} {f16 : Addr} {od16 an16 : Option Addr} {sl16 : Array (Option Value)} {oc16 kV16 dc16 pm16 cd16 ct16 : Value} {f17 : Addr} {od17 an17 : Option Addr} {sl17 : Array (Option Value)} {oc17 kV17 dc17 pm17 cd17 ct17 : Value} {f18 : Addr} {od18 an18 : Option Addr} {sl18 : Array (Option Value)} {oc18 kV18 dc18 pm18 cd18 ct18 : Value} {f19 : Addr} {od19 an19 : Option Addr} {sl19 : Array (Option Value)} {oc19 kV19 dc19 pm19 cd19 ct19 : Value} {f20 : Addr} {od20 an20 : Option Addr} {sl20 : Array (Option Value)} {oc20 kV20 dc20 pm20 cd20 ct20 : Value} {f21 : Addr} {od21 an21 : Option Addr} {sl21 : Array (Option Value)} {oc21 kV21 dc21 pm21 cd21 ct21 : Value} {f22 : Addr} {od22 an22 : Option Addr} {sl22 : Array (Option Value)} {oc22 kV22 dc22 pm22 cd22 ct22 : Value} {f23 : Addr} {od23 an23 : Option Addr} {sl23 : Array (Option Value)} {oc23 kV23 dc23 pm23 cd23 ct23 : Value} {f24 : Addr} {od24 an24 : Option Addr} {sl24 : Array (Option Value)} {oc24 kV24 dc24 pm24 cd24 ct24 : Value} {f25 : Addr} {od25 an25 : Option Addr} {sl25 : Array (Option Value)} {oc25 kV25 dc25 pm25 cd25 ct25 : Value} {f26 : Addr} {od26 an26 : Option Addr} {sl26 : Array (Option Value)} {oc26 kV26 dc26 pm26 cd26 ct26 : Value} {f27 : Addr} {od27 an27 : Option Addr} {sl27 : Array (Option Value)} {oc27 kV27 dc27 pm27 cd27 ct27 : Value} {f28 : Addr} {od28 an28 : Option Addr} {sl28 : Array (Option Value)} {oc28 kV28 dc28 pm28 cd28 ct28 : Value} {f29 : Addr} {od29 an29 : Option Addr} {sl29 : Array (Option Value)} {oc29 kV29 dc29 pm29 cd29 ct29 : Value} {f30 : Addr} {od30 an30 : Option Addr} {sl30 : Array (Option Value)} {oc30 kV30 dc30 pm30 cd30 ct30 : Value} {f31 : Addr} {od31 an31 : Option Addr} {sl31 : Array (Option Value)} {oc31 kV31 dc31 pm31 cd31 ct31 : Value} {f32 : Addr} {od32 an32 : Option Addr} {sl32 : Array (Option Value)} {oc32 kV32 dc32 pm32 cd32 ct32 : Value} {f33 : Addr} {od33 an33 : Option Addr} {sl33 : Array (Option Value)} {oc33 kV33 dc33 pm33 cd33 ct33 : Value} {f34 : Addr} {od34 an34 : Option Addr} {sl34 : Array (Option Value)} {oc34 kV34 dc34 pm34 cd34 ct34 : Value} {f35 : Addr} {od35 an35 : Option Addr} {sl35 : Array (Option Value)} {oc35 kV35 dc35 pm35 cd35 ct35 : Value} 
    (a0 : PySem.W.nsIn K mainGlobals "_law_pool" = some (some (.ref f0)))
    (l0 : K.lookup f0 = some ⟨oc0, od0, .func (PySem.W.fnOf "_law_pool" "_law_pool" (defArgs s_l_pool) (defBody s_l_pool) (defScope s_l_pool) .none kV0 dc0 pm0 an0 cd0 ct0), sl0⟩)
    (c0 : PySem.W.codeIn K cd0 "_law_pool" = true)
    (k0 : PySem.W.keepIn K (.ref f0) = true)
    (a1 : PySem.W.nsIn K mainGlobals "_law_draw" = some (some (.ref f1)))
    (l1 : K.lookup f1 = some ⟨oc1, od1, .func (PySem.W.fnOf "_law_draw" "_law_draw" (defArgs s_l_draw) (defBody s_l_draw) (defScope s_l_draw) .none kV1 dc1 pm1 an1 cd1 ct1), sl1⟩)
    (c1 : PySem.W.codeIn K cd1 "_law_draw" = true)
    (k1 : PySem.W.keepIn K (.ref f1) = true)
    (a2 : PySem.W.nsIn K mainGlobals "_law_one" = some (some (.ref f2)))
    (l2 : K.lookup f2 = some ⟨oc2, od2, .func (PySem.W.fnOf "_law_one" "_law_one" (defArgs s_l_one) (defBody s_l_one) (defScope s_l_one) .none kV2 dc2 pm2 an2 cd2 ct2), sl2⟩)
    (c2 : PySem.W.codeIn K cd2 "_law_one" = true)
    (k2 : PySem.W.keepIn K (.ref f2) = true)
    (a3 : PySem.W.nsIn K mainGlobals "_law_word" = some (some (.ref f3)))
    (l3 : K.lookup f3 = some ⟨oc3, od3, .func (PySem.W.fnOf "_law_word" "_law_word" (defArgs s_l_word) (defBody s_l_word) (defScope s_l_word) .none kV3 dc3 pm3 an3 cd3 ct3), sl3⟩)
    (c3 : PySem.W.codeIn K cd3 "_law_word" = true)
    (k3 : PySem.W.keepIn K (.ref f3) = true)
    (a4 : PySem.W.nsIn K mainGlobals "_law_name" = some (some (.ref f4)))
    (l4 : K.lookup f4 = some ⟨oc4, od4, .func (PySem.W.fnOf "_law_name" "_law_name" (defArgs s_l_name) (defBody s_l_name) (defScope s_l_name) .none kV4 dc4 pm4 an4 cd4 ct4), sl4⟩)
    (c4 : PySem.W.codeIn K cd4 "_law_name" = true)
    (k4 : PySem.W.keepIn K (.ref f4) = true)
    (a5 : PySem.W.nsIn K mainGlobals "_law_names" = some (some (.ref f5)))
    (l5 : K.lookup f5 = some ⟨oc5, od5, .func (PySem.W.fnOf "_law_names" "_law_names" (defArgs s_l_names) (defBody s_l_names) (defScope s_l_names) .none kV5 dc5 pm5 an5 cd5 ct5), sl5⟩)
    (c5 : PySem.W.codeIn K cd5 "_law_names" = true)
    (k5 : PySem.W.keepIn K (.ref f5) = true)
    (a6 : PySem.W.nsIn K mainGlobals "_law_thing" = some (some (.ref f6)))
    (l6 : K.lookup f6 = some ⟨oc6, od6, .func (PySem.W.fnOf "_law_thing" "_law_thing" (defArgs s_l_thing) (defBody s_l_thing) (defScope s_l_thing) .none kV6 dc6 pm6 an6 cd6 ct6), sl6⟩)
    (c6 : PySem.W.codeIn K cd6 "_law_thing" = true)
    (k6 : PySem.W.keepIn K (.ref f6) = true)
    (a7 : PySem.W.nsIn K mainGlobals "_law_is_name" = some (some (.ref f7)))
    (l7 : K.lookup f7 = some ⟨oc7, od7, .func (PySem.W.fnOf "_law_is_name" "_law_is_name" (defArgs s_l_is_name) (defBody s_l_is_name) (defScope s_l_is_name) .none kV7 dc7 pm7 an7 cd7 ct7), sl7⟩)
    (c7 : PySem.W.codeIn K cd7 "_law_is_name" = true)
    (k7 : PySem.W.keepIn K (.ref f7) = true)
    (a8 : PySem.W.nsIn K mainGlobals "_law_spoiled" = some (some (.ref f8)))
    (l8 : K.lookup f8 = some ⟨oc8, od8, .func (PySem.W.fnOf "_law_spoiled" "_law_spoiled" (defArgs s_l_spoiled) (defBody s_l_spoiled) (defScope s_l_spoiled) .none kV8 dc8 pm8 an8 cd8 ct8), sl8⟩)
    (c8 : PySem.W.codeIn K cd8 "_law_spoiled" = true)
    (k8 : PySem.W.keepIn K (.ref f8) = true)
    (a9 : PySem.W.nsIn K mainGlobals "_law_same" = some (some (.ref f9)))
    (l9 : K.lookup f9 = some ⟨oc9, od9, .func (PySem.W.fnOf "_law_same" "_law_same" (defArgs s_l_same) (defBody s_l_same) (defScope s_l_same) .none kV9 dc9 pm9 an9 cd9 ct9), sl9⟩)
    (c9 : PySem.W.codeIn K cd9 "_law_same" = true)
    (k9 : PySem.W.keepIn K (.ref f9) = true)
    (a10 : PySem.W.nsIn K mainGlobals "_law_kinds" = some (some (.ref f10)))
    (l10 : K.lookup f10 = some ⟨oc10, od10, .func (PySem.W.fnOf "_law_kinds" "_law_kinds" (defArgs s_l_kinds) (defBody s_l_kinds) (defScope s_l_kinds) .none kV10 dc10 pm10 an10 cd10 ct10), sl10⟩)
    (c10 : PySem.W.codeIn K cd10 "_law_kinds" = true)
    (k10 : PySem.W.keepIn K (.ref f10) = true)
    (a11 : PySem.W.nsIn K mainGlobals "_law_marks" = some (some (.ref f11)))
    (l11 : K.lookup f11 = some ⟨oc11, od11, .func (PySem.W.fnOf "_law_marks" "_law_marks" (defArgs s_l_marks) (defBody s_l_marks) (defScope s_l_marks) .none kV11 dc11 pm11 an11 cd11 ct11), sl11⟩)
    (c11 : PySem.W.codeIn K cd11 "_law_marks" = true)
    (k11 : PySem.W.keepIn K (.ref f11) = true)
    (a12 : PySem.W.nsIn K mainGlobals "_law_kinds_fault" = some (some (.ref f12)))
    (l12 : K.lookup f12 = some ⟨oc12, od12, .func (PySem.W.fnOf "_law_kinds_fault" "_law_kinds_fault" (defArgs s_l_kinds_fault) (defBody s_l_kinds_fault) (defScope s_l_kinds_fault) .none kV12 dc12 pm12 an12 cd12 ct12), sl12⟩)
    (c12 : PySem.W.codeIn K cd12 "_law_kinds_fault" = true)
    (k12 : PySem.W.keepIn K (.ref f12) = true)
    (a13 : PySem.W.nsIn K mainGlobals "_law_marks_fault" = some (some (.ref f13)))
    (l13 : K.lookup f13 = some ⟨oc13, od13, .func (PySem.W.fnOf "_law_marks_fault" "_law_marks_fault" (defArgs s_l_marks_fault) (defBody s_l_marks_fault) (defScope s_l_marks_fault) .none kV13 dc13 pm13 an13 cd13 ct13), sl13⟩)
    (c13 : PySem.W.codeIn K cd13 "_law_marks_fault" = true)
    (k13 : PySem.W.keepIn K (.ref f13) = true)
    (a14 : PySem.W.nsIn K mainGlobals "_law_due" = some (some (.ref f14)))
    (l14 : K.lookup f14 = some ⟨oc14, od14, .func (PySem.W.fnOf "_law_due" "_law_due" (defArgs s_l_due) (defBody s_l_due) (defScope s_l_due) .none kV14 dc14 pm14 an14 cd14 ct14), sl14⟩)
    (c14 : PySem.W.codeIn K cd14 "_law_due" = true)
    (k14 : PySem.W.keepIn K (.ref f14) = true)
    (a15 : PySem.W.nsIn K mainGlobals "law" = some (some (.ref f15)))
    (l15 : K.lookup f15 = some ⟨oc15, od15, .func (PySem.W.fnOf "law" "law" (defArgs s_law) (defBody s_law) (defScope s_law) .none kV15 dc15 pm15 an15 cd15 ct15), sl15⟩)
    (c15 : PySem.W.codeIn K cd15 "law" = true)
    (k15 : PySem.W.keepIn K (.ref f15) = true)
    (a16 : PySem.W.nsIn K mainGlobals "is_name" = some (some (.ref f16)))
    (l16 : K.lookup f16 = some ⟨oc16, od16, .func (PySem.W.fnOf "is_name" "is_name" (defArgs s_is_name) (defBody s_is_name) (defScope s_is_name) .none kV16 dc16 pm16 an16 cd16 ct16), sl16⟩)
    (c16 : PySem.W.codeIn K cd16 "is_name" = true)
    (k16 : PySem.W.keepIn K (.ref f16) = true)
    (a17 : PySem.W.nsIn K mainGlobals "has_length" = some (some (.ref f17)))
    (l17 : K.lookup f17 = some ⟨oc17, od17, .func (PySem.W.fnOf "has_length" "has_length" (defArgs s_has_length) (defBody s_has_length) (defScope s_has_length) .none kV17 dc17 pm17 an17 cd17 ct17), sl17⟩)
    (c17 : PySem.W.codeIn K cd17 "has_length" = true)
    (k17 : PySem.W.keepIn K (.ref f17) = true)
    (a18 : PySem.W.nsIn K mainGlobals "is_one_or_none" = some (some (.ref f18)))
    (l18 : K.lookup f18 = some ⟨oc18, od18, .func (PySem.W.fnOf "is_one_or_none" "is_one_or_none" (defArgs s_is_one_or_none) (defBody s_is_one_or_none) (defScope s_is_one_or_none) .none kV18 dc18 pm18 an18 cd18 ct18), sl18⟩)
    (c18 : PySem.W.codeIn K cd18 "is_one_or_none" = true)
    (k18 : PySem.W.keepIn K (.ref f18) = true)
    (a19 : PySem.W.nsIn K mainGlobals "is_state" = some (some (.ref f19)))
    (l19 : K.lookup f19 = some ⟨oc19, od19, .func (PySem.W.fnOf "is_state" "is_state" (defArgs s_is_state) (defBody s_is_state) (defScope s_is_state) .none kV19 dc19 pm19 an19 cd19 ct19), sl19⟩)
    (c19 : PySem.W.codeIn K cd19 "is_state" = true)
    (k19 : PySem.W.keepIn K (.ref f19) = true)
    (a20 : PySem.W.nsIn K mainGlobals "is_letter" = some (some (.ref f20)))
    (l20 : K.lookup f20 = some ⟨oc20, od20, .func (PySem.W.fnOf "is_letter" "is_letter" (defArgs s_is_letter) (defBody s_is_letter) (defScope s_is_letter) .none kV20 dc20 pm20 an20 cd20 ct20), sl20⟩)
    (c20 : PySem.W.codeIn K cd20 "is_letter" = true)
    (k20 : PySem.W.keepIn K (.ref f20) = true)
    (a21 : PySem.W.nsIn K mainGlobals "is_mark" = some (some (.ref f21)))
    (l21 : K.lookup f21 = some ⟨oc21, od21, .func (PySem.W.fnOf "is_mark" "is_mark" (defArgs s_is_mark) (defBody s_is_mark) (defScope s_is_mark) .none kV21 dc21 pm21 an21 cd21 ct21), sl21⟩)
    (c21 : PySem.W.codeIn K cd21 "is_mark" = true)
    (k21 : PySem.W.keepIn K (.ref f21) = true)
    (a22 : PySem.W.nsIn K mainGlobals "is_wish" = some (some (.ref f22)))
    (l22 : K.lookup f22 = some ⟨oc22, od22, .func (PySem.W.fnOf "is_wish" "is_wish" (defArgs s_is_wish) (defBody s_is_wish) (defScope s_is_wish) .none kV22 dc22 pm22 an22 cd22 ct22), sl22⟩)
    (c22 : PySem.W.codeIn K cd22 "is_wish" = true)
    (k22 : PySem.W.keepIn K (.ref f22) = true)
    (a23 : PySem.W.nsIn K mainGlobals "is_answer" = some (some (.ref f23)))
    (l23 : K.lookup f23 = some ⟨oc23, od23, .func (PySem.W.fnOf "is_answer" "is_answer" (defArgs s_is_answer) (defBody s_is_answer) (defScope s_is_answer) .none kV23 dc23 pm23 an23 cd23 ct23), sl23⟩)
    (c23 : PySem.W.codeIn K cd23 "is_answer" = true)
    (k23 : PySem.W.keepIn K (.ref f23) = true)
    (a24 : PySem.W.nsIn K mainGlobals "are_calls" = some (some (.ref f24)))
    (l24 : K.lookup f24 = some ⟨oc24, od24, .func (PySem.W.fnOf "are_calls" "are_calls" (defArgs s_are_calls) (defBody s_are_calls) (defScope s_are_calls) .none kV24 dc24 pm24 an24 cd24 ct24), sl24⟩)
    (c24 : PySem.W.codeIn K cd24 "are_calls" = true)
    (k24 : PySem.W.keepIn K (.ref f24) = true)
    (a25 : PySem.W.nsIn K mainGlobals "are_quiet" = some (some (.ref f25)))
    (l25 : K.lookup f25 = some ⟨oc25, od25, .func (PySem.W.fnOf "are_quiet" "are_quiet" (defArgs s_are_quiet) (defBody s_are_quiet) (defScope s_are_quiet) .none kV25 dc25 pm25 an25 cd25 ct25), sl25⟩)
    (c25 : PySem.W.codeIn K cd25 "are_quiet" = true)
    (k25 : PySem.W.keepIn K (.ref f25) = true)
    (a26 : PySem.W.nsIn K mainGlobals "are_ends" = some (some (.ref f26)))
    (l26 : K.lookup f26 = some ⟨oc26, od26, .func (PySem.W.fnOf "are_ends" "are_ends" (defArgs s_are_ends) (defBody s_are_ends) (defScope s_are_ends) .none kV26 dc26 pm26 an26 cd26 ct26), sl26⟩)
    (c26 : PySem.W.codeIn K cd26 "are_ends" = true)
    (k26 : PySem.W.keepIn K (.ref f26) = true)
    (a27 : PySem.W.nsIn K mainGlobals "is_task" = some (some (.ref f27)))
    (l27 : K.lookup f27 = some ⟨oc27, od27, .func (PySem.W.fnOf "is_task" "is_task" (defArgs s_is_task) (defBody s_is_task) (defScope s_is_task) .none kV27 dc27 pm27 an27 cd27 ct27), sl27⟩)
    (c27 : PySem.W.codeIn K cd27 "is_task" = true)
    (k27 : PySem.W.keepIn K (.ref f27) = true)
    (a28 : PySem.W.nsIn K mainGlobals "is_reply" = some (some (.ref f28)))
    (l28 : K.lookup f28 = some ⟨oc28, od28, .func (PySem.W.fnOf "is_reply" "is_reply" (defArgs s_is_reply) (defBody s_is_reply) (defScope s_is_reply) .none kV28 dc28 pm28 an28 cd28 ct28), sl28⟩)
    (c28 : PySem.W.codeIn K cd28 "is_reply" = true)
    (k28 : PySem.W.keepIn K (.ref f28) = true)
    (a29 : PySem.W.nsIn K mainGlobals "is_idle" = some (some (.ref f29)))
    (l29 : K.lookup f29 = some ⟨oc29, od29, .func (PySem.W.fnOf "is_idle" "is_idle" (defArgs s_is_idle) (defBody s_is_idle) (defScope s_is_idle) .none kV29 dc29 pm29 an29 cd29 ct29), sl29⟩)
    (c29 : PySem.W.codeIn K cd29 "is_idle" = true)
    (k29 : PySem.W.keepIn K (.ref f29) = true)
    (a30 : PySem.W.nsIn K mainGlobals "is_busy" = some (some (.ref f30)))
    (l30 : K.lookup f30 = some ⟨oc30, od30, .func (PySem.W.fnOf "is_busy" "is_busy" (defArgs s_is_busy) (defBody s_is_busy) (defScope s_is_busy) .none kV30 dc30 pm30 an30 cd30 ct30), sl30⟩)
    (c30 : PySem.W.codeIn K cd30 "is_busy" = true)
    (k30 : PySem.W.keepIn K (.ref f30) = true)
    (a31 : PySem.W.nsIn K mainGlobals "may_stand" = some (some (.ref f31)))
    (l31 : K.lookup f31 = some ⟨oc31, od31, .func (PySem.W.fnOf "may_stand" "may_stand" (defArgs s_may_stand) (defBody s_may_stand) (defScope s_may_stand) .none kV31 dc31 pm31 an31 cd31 ct31), sl31⟩)
    (c31 : PySem.W.codeIn K cd31 "may_stand" = true)
    (k31 : PySem.W.keepIn K (.ref f31) = true)
    (a32 : PySem.W.nsIn K mainGlobals "wrong_index" = some (some (.ref f32)))
    (l32 : K.lookup f32 = some ⟨oc32, od32, .func (PySem.W.fnOf "wrong_index" "wrong_index" (defArgs s_wrong_index) (defBody s_wrong_index) (defScope s_wrong_index) .none kV32 dc32 pm32 an32 cd32 ct32), sl32⟩)
    (c32 : PySem.W.codeIn K cd32 "wrong_index" = true)
    (k32 : PySem.W.keepIn K (.ref f32) = true)
    (a33 : PySem.W.nsIn K mainGlobals "names_in" = some (some (.ref f33)))
    (l33 : K.lookup f33 = some ⟨oc33, od33, .func (PySem.W.fnOf "names_in" "names_in" (defArgs s_names_in) (defBody s_names_in) (defScope s_names_in) .none kV33 dc33 pm33 an33 cd33 ct33), sl33⟩)
    (c33 : PySem.W.codeIn K cd33 "names_in" = true)
    (k33 : PySem.W.keepIn K (.ref f33) = true)
    (a34 : PySem.W.nsIn K mainGlobals "wrong_part" = some (some (.ref f34)))
    (l34 : K.lookup f34 = some ⟨oc34, od34, .func (PySem.W.fnOf "wrong_part" "wrong_part" (defArgs s_wrong_part) (defBody s_wrong_part) (defScope s_wrong_part) .none kV34 dc34 pm34 an34 cd34 ct34), sl34⟩)
    (c34 : PySem.W.codeIn K cd34 "wrong_part" = true)
    (k34 : PySem.W.keepIn K (.ref f34) = true)
    (a35 : PySem.W.nsIn K mainGlobals "copied_tasks" = some (some (.ref f35)))
    (l35 : K.lookup f35 = some ⟨oc35, od35, .func (PySem.W.fnOf "copied_tasks" "copied_tasks" (defArgs s_copied_tasks) (defBody s_copied_tasks) (defScope s_copied_tasks) .none kV35 dc35 pm35 an35 cd35 ct35), sl35⟩)
    (c35 : PySem.W.codeIn K cd35 "copied_tasks" = true)
    (k35 : PySem.W.keepIn K (.ref f35) = true)
    (z_int : PySem.W.nsIn K mainGlobals "int" = some none)
    (z_len : PySem.W.nsIn K mainGlobals "len" = some none)
    (z_range : PySem.W.nsIn K mainGlobals "range" = some none)
    (z_isinstance : PySem.W.nsIn K mainGlobals "isinstance" = some none)
    (z_bool : PySem.W.nsIn K mainGlobals "bool" = some none)
    (z_str : PySem.W.nsIn K mainGlobals "str" = some none)
    (z_tuple : PySem.W.nsIn K mainGlobals "tuple" = some none)
    (z_list : PySem.W.nsIn K mainGlobals "list" = some none)
    (z_all : PySem.W.nsIn K mainGlobals "all" = some none)
    (z_enumerate : PySem.W.nsIn K mainGlobals "enumerate" = some none)
    (z_zip : PySem.W.nsIn K mainGlobals "zip" = some none)
    (bL : PySem.W.nsIn K mainGlobals "LETTERS" = some (some (.str "abcdefghijklmnopqrstuvwxyz" tl)))
    (bP : PySem.W.nsIn K mainGlobals "PARTS" = some (some (.ref aP)))
    (oP : K.lookup aP = some ⟨.type "tuple", todP, .seq titP tnP, tslP⟩)
    (vP : L2.Vals (pParts.map V.str) titP.toList)
    (bN : PySem.W.nsIn K mainGlobals "NAMED" = some (some (.ref aN)))
    (oN : K.lookup aN = some ⟨.type "tuple", todN, .seq titN tnN, tslN⟩)
    (vN : L2.Vals (pNamed.map V.str) titN.toList)
    (bT : PySem.W.nsIn K mainGlobals "TRAITS" = some (some (.ref aT)))
    (oT : K.lookup aT = some ⟨.type "tuple", todT, .seq titT tnT, tslT⟩)
    (vT : L2.Vals (pTraits.map V.str) titT.toList)
    (bO : PySem.W.nsIn K mainGlobals "OWNERS" = some (some (.ref aO)))
    (oO : K.lookup aO = some ⟨.type "tuple", todO, .seq titO tnO, tslO⟩)
    (vO : L2.Vals (My.owners.map V.str) titO.toList)
    (mL : PySem.W.nsIn K mainGlobals "LENGTHS" = some (some (.ref aL)))
    (dL : K.lookup aL = some ⟨.type "dict", none, .dict desL dnL, #[]⟩)
    (yL : PySem.W.KeysLit w.params desL.toList)
    (mH : PySem.W.nsIn K mainGlobals "HEADS" = some (some (.ref aH)))
    (dH : K.lookup aH = some ⟨.type "dict", none, .dict desH dnH, #[]⟩)
    (yH : PySem.W.KeysLit w.params desH.toList)
    (mI : PySem.W.nsIn K mainGlobals "ITEMS" = some (some (.ref aI)))
    (dI : K.lookup aI = some ⟨.type "dict", none, .dict desI dnI, #[]⟩)
    (yI : PySem.W.KeysLit w.params desI.toList)
    (kL0 : PySem.W.nsIn K aL "states" = some (some (.ref t0)))
    (kLo0 : K.lookup t0 = some ⟨.type "tuple", uod0, .seq uit0 un0, usl0⟩)
    (kLv0 : L2.Vals [V.int 2, V.int 7] uit0.toList)
    (kH0 : PySem.W.nsIn K aH "states" = some (some (.int 1 ht0)))
    (kI0 : PySem.W.nsIn K aI "states" = some (some (.ref f19)))
    (kL1 : PySem.W.nsIn K aL "ups" = some (some (.ref t1)))
    (kLo1 : K.lookup t1 = some ⟨.type "tuple", uod1, .seq uit1 un1, usl1⟩)
    (kLv1 : L2.Vals [V.int 1, V.int 5] uit1.toList)
    (kH1 : PySem.W.nsIn K aH "ups" = some (some (.int 1 ht1)))
    (kI1 : PySem.W.nsIn K aI "ups" = some (some (.ref f20)))
    (kL2 : PySem.W.nsIn K aL "downs" = some (some (.ref t2)))
    (kLo2 : K.lookup t2 = some ⟨.type "tuple", uod2, .seq uit2 un2, usl2⟩)
    (kLv2 : L2.Vals [V.int 1, V.int 5] uit2.toList)
    (kH2 : PySem.W.nsIn K aH "downs" = some (some (.int 1 ht2)))
    (kI2 : PySem.W.nsIn K aI "downs" = some (some (.ref f20)))
    (kL3 : PySem.W.nsIn K aL "marks" = some (some (.ref t3)))
    (kLo3 : K.lookup t3 = some ⟨.type "tuple", uod3, .seq uit3 un3, usl3⟩)
    (kLv3 : L2.Vals [V.int 1, V.int 6] uit3.toList)
    (kI3 : PySem.W.nsIn K aI "marks" = some (some (.ref f21)))
    (kL4 : PySem.W.nsIn K aL "wishes" = some (some (.ref t4)))
    (kLo4 : K.lookup t4 = some ⟨.type "tuple", uod4, .seq uit4 un4, usl4⟩)
    (kLv4 : L2.Vals [V.int 0, V.int 30] uit4.toList)
    (kI4 : PySem.W.nsIn K aI "wishes" = some (some (.ref f22)))
    (kL5 : PySem.W.nsIn K aL "answers" = some (some (.ref t5)))
    (kLo5 : K.lookup t5 = some ⟨.type "tuple", uod5, .seq uit5 un5, usl5⟩)
    (kLv5 : L2.Vals [V.int 0, V.int 30] uit5.toList)
    (kH5 : PySem.W.nsIn K aH "answers" = some (some (.int 2 ht5)))
    (kI5 : PySem.W.nsIn K aI "answers" = some (some (.ref f23)))
    (kL6 : PySem.W.nsIn K aL "tasks" = some (some (.ref t6)))
    (kLo6 : K.lookup t6 = some ⟨.type "tuple", uod6, .seq uit6 un6, usl6⟩)
    (kLv6 : L2.Vals [V.int 1, V.int 3] uit6.toList)
    (kH6 : PySem.W.nsIn K aH "tasks" = some (some (.int 1 ht6)))
    (kI6 : PySem.W.nsIn K aI "tasks" = some (some (.ref f27)))
    (kL7 : PySem.W.nsIn K aL "idles" = some (some (.ref t7)))
    (kLo7 : K.lookup t7 = some ⟨.type "tuple", uod7, .seq uit7 un7, usl7⟩)
    (kLv7 : L2.Vals [V.int 0, V.int 30] uit7.toList)
    (kH7 : PySem.W.nsIn K aH "idles" = some (some (.int 2 ht7)))
    (kI7 : PySem.W.nsIn K aI "idles" = some (some (.ref f29)))
    (kL8 : PySem.W.nsIn K aL "busies" = some (some (.ref t8)))
    (kLo8 : K.lookup t8 = some ⟨.type "tuple", uod8, .seq uit8 un8, usl8⟩)
    (kLv8 : L2.Vals [V.int 0, V.int 30] uit8.toList)
    (kH8 : PySem.W.nsIn K aH "busies" = some (some (.int 3 ht8)))
    (kI8 : PySem.W.nsIn K aI "busies" = some (some (.ref f30)))
    (aC : PySem.W.nsIn K mainGlobals "Book" = some (some (.ref C)))
    (pg : PySem.W.plainGet K C Str.empty = true)
    (hd : PySem.W.hasDictIn K C = true)
    (po : PySem.W.plainOver K C = true)
    (sa : PySem.W.findIn K (.ref C) "__setattr__" = some (some (.builtin "object.__setattr__")))
    (mk : PySem.W.makesIn K C = true)
    (kc : PySem.W.keepIn K (.ref C) = true)
    (no_states : PySem.W.findIn K (.ref C) "_states" = some none)
    (no_ups : PySem.W.findIn K (.ref C) "_ups" = some none)
    (no_downs : PySem.W.findIn K (.ref C) "_downs" = some none)
    (no_marks : PySem.W.findIn K (.ref C) "_marks" = some none)
    (no_wishes : PySem.W.findIn K (.ref C) "_wishes" = some none)
    (no_answers : PySem.W.findIn K (.ref C) "_answers" = some none)
    (no_tasks : PySem.W.findIn K (.ref C) "_tasks" = some none)
    (no_idles : PySem.W.findIn K (.ref C) "_idles" = some none)
    (no_busies : PySem.W.findIn K (.ref C) "_busies" = some none)
    (no_parts : PySem.W.findIn K (.ref C) "_parts" = some none)
    (ja : PySem.W.findIn K (.ref C) "__init__" = some (some (.ref fI)))
    (ji : PySem.W.isFn K (.ref fI) = true)
    (jl : K.lookup fI = some ⟨joc, jod, .func (PySem.W.fnOf "__init__" "Book.__init__" (defArgs s_Book__init_) (defBody s_Book__init_) (defScope s_Book__init_) .none jkV jdc jpm jan jcd jct), jsl⟩)
    (jc : PySem.W.codeIn K jcd "Book.__init__" = true)
    (jk : PySem.W.keepIn K (.ref fI) = true)
    (n0a : PySem.W.findIn K (.ref C) "states" = some (some (.ref g0)))
    (n0i : PySem.W.isFn K (.ref g0) = true)
    (n0l : K.lookup g0 = some ⟨n0oc, n0od, .func (PySem.W.fnOf "states" "Book.states" (defArgs s_Book_states) (defBody s_Book_states) (defScope s_Book_states) .none n0kV n0dc n0pm n0an n0cd n0ct), n0sl⟩)
    (n0c : PySem.W.codeIn K n0cd "Book.states" = true)
    (n0k : PySem.W.keepIn K (.ref g0) = true)
    (n1a : PySem.W.findIn K (.ref C) "ups" = some (some (.ref g1)))
    (n1i : PySem.W.isFn K (.ref g1) = true)
    (n1l : K.lookup g1 = some ⟨n1oc, n1od, .func (PySem.W.fnOf "ups" "Book.ups" (defArgs s_Book_ups) (defBody s_Book_ups) (defScope s_Book_ups) .none n1kV n1dc n1pm n1an n1cd n1ct), n1sl⟩)
    (n1c : PySem.W.codeIn K n1cd "Book.ups" = true)
    (n1k : PySem.W.keepIn K (.ref g1) = true)
    (n2a : PySem.W.findIn K (.ref C) "downs" = some (some (.ref g2)))
    (n2i : PySem.W.isFn K (.ref g2) = true)
    (n2l : K.lookup g2 = some ⟨n2oc, n2od, .func (PySem.W.fnOf "downs" "Book.downs" (defArgs s_Book_downs) (defBody s_Book_downs) (defScope s_Book_downs) .none n2kV n2dc n2pm n2an n2cd n2ct), n2sl⟩)
    (n2c : PySem.W.codeIn K n2cd "Book.downs" = true)
    (n2k : PySem.W.keepIn K (.ref g2) = true)
    (n3a : PySem.W.findIn K (.ref C) "marks" = some (some (.ref g3)))
    (n3i : PySem.W.isFn K (.ref g3) = true)
    (n3l : K.lookup g3 = some ⟨n3oc, n3od, .func (PySem.W.fnOf "marks" "Book.marks" (defArgs s_Book_marks) (defBody s_Book_marks) (defScope s_Book_marks) .none n3kV n3dc n3pm n3an n3cd n3ct), n3sl⟩)
    (n3c : PySem.W.codeIn K n3cd "Book.marks" = true)
    (n3k : PySem.W.keepIn K (.ref g3) = true)
    (n4a : PySem.W.findIn K (.ref C) "wishes" = some (some (.ref g4)))
    (n4i : PySem.W.isFn K (.ref g4) = true)
    (n4l : K.lookup g4 = some ⟨n4oc, n4od, .func (PySem.W.fnOf "wishes" "Book.wishes" (defArgs s_Book_wishes) (defBody s_Book_wishes) (defScope s_Book_wishes) .none n4kV n4dc n4pm n4an n4cd n4ct), n4sl⟩)
    (n4c : PySem.W.codeIn K n4cd "Book.wishes" = true)
    (n4k : PySem.W.keepIn K (.ref g4) = true)
    (n5a : PySem.W.findIn K (.ref C) "answers" = some (some (.ref g5)))
    (n5i : PySem.W.isFn K (.ref g5) = true)
    (n5l : K.lookup g5 = some ⟨n5oc, n5od, .func (PySem.W.fnOf "answers" "Book.answers" (defArgs s_Book_answers) (defBody s_Book_answers) (defScope s_Book_answers) .none n5kV n5dc n5pm n5an n5cd n5ct), n5sl⟩)
    (n5c : PySem.W.codeIn K n5cd "Book.answers" = true)
    (n5k : PySem.W.keepIn K (.ref g5) = true)
    (n6a : PySem.W.findIn K (.ref C) "tasks" = some (some (.ref g6)))
    (n6i : PySem.W.isFn K (.ref g6) = true)
    (n6l : K.lookup g6 = some ⟨n6oc, n6od, .func (PySem.W.fnOf "tasks" "Book.tasks" (defArgs s_Book_tasks) (defBody s_Book_tasks) (defScope s_Book_tasks) .none n6kV n6dc n6pm n6an n6cd n6ct), n6sl⟩)
    (n6c : PySem.W.codeIn K n6cd "Book.tasks" = true)
    (n6k : PySem.W.keepIn K (.ref g6) = true)
    (n7a : PySem.W.findIn K (.ref C) "idles" = some (some (.ref g7)))
    (n7i : PySem.W.isFn K (.ref g7) = true)
    (n7l : K.lookup g7 = some ⟨n7oc, n7od, .func (PySem.W.fnOf "idles" "Book.idles" (defArgs s_Book_idles) (defBody s_Book_idles) (defScope s_Book_idles) .none n7kV n7dc n7pm n7an n7cd n7ct), n7sl⟩)
    (n7c : PySem.W.codeIn K n7cd "Book.idles" = true)
    (n7k : PySem.W.keepIn K (.ref g7) = true)
    (n8a : PySem.W.findIn K (.ref C) "busies" = some (some (.ref g8)))
    (n8i : PySem.W.isFn K (.ref g8) = true)
    (n8l : K.lookup g8 = some ⟨n8oc, n8od, .func (PySem.W.fnOf "busies" "Book.busies" (defArgs s_Book_busies) (defBody s_Book_busies) (defScope s_Book_busies) .none n8kV n8dc n8pm n8an n8cd n8ct), n8sl⟩)
    (n8c : PySem.W.codeIn K n8cd "Book.busies" = true)
    (n8k : PySem.W.keepIn K (.ref g8) = true)
    (ib1 : PySem.W.findIn K (.ref C) "__class__" = some (some (.builtin "object.__class__")))
    (ib2 : PySem.W.specialIn K (.builtin "object.__class__") "__get__" = some (some (.builtin "getset_descriptor.__get__")))
    (ib3 : PySem.W.takesIn K (.builtin "object.__class__") = some true)
    (ib4 : PySem.W.mroIn K C (.type "object") = some true)
    (kt0 : PySem.W.kitOne K (.ref C) (.type "tuple") = some false)
    (kt1 : PySem.W.kitOne K (.ref C) (.type "list") = some false)
    (kt2 : PySem.W.kitOne K (.ref C) (.type "str") = some false)
    (kt3 : PySem.W.kitOne K (.ref C) (.type "bool") = some false)
    (xb : PySem.W.nsIn K mainGlobals "NoBook" = some (some (.ref CN)))
    (xo : K.lookup CN = some (excClassObj xnm xqn CN xnN xbs xbm true xsn xsb xab xco xdd xu0 xu1 xu2 xu3 xu5 "ValueError.__new__"))
    (xoo : PySem.HandSPX.refsVE xbm = true)
    (xsa : PySem.W.findIn K (.ref CN) "__setattr__" = some (some (.builtin "object.__setattr__")))
    (xkc : PySem.W.keepIn K (.ref CN) = true)
    (xi : PySem.W.findIn K (.ref CN) "__init__" = some (some (.ref gN)))
    (xit : PySem.W.typeIn K (.ref gN) = some (.type "function"))
    (xjl : K.lookup gN = some ⟨xjoc, xjod, .func (PySem.W.fnOf "__init__" "NoBook.__init__" (defArgs s_NoBook__init_) (defBody s_NoBook__init_) (defScope s_NoBook__init_) .none xjkV xjdc xjpm xjan xjcd xjct), xjsl⟩)
    (xjc : PySem.W.codeIn K xjcd "NoBook.__init__" = true)
    (xjk : PySem.W.keepIn K (.ref gN) = true)
    (xnp : PySem.W.findIn K (.ref CN) "part" = some none)
    (xni : PySem.W.findIn K (.ref CN) "index" = some none)
    (xex : PySem.W.subIn K (.ref CN) (.type "BaseException") = some true)
    (xty : PySem.W.typeIn K (.ref CN) = some (.type "type"))
    (xhd : PySem.W.hasDictIn K CN = true)
    (xga : PySem.W.findIn K (.ref CN) "__getattribute__" = some (some (.builtin "BaseException.__getattribute__")))
    (xgg : PySem.W.findIn K (.ref CN) "__getattr__" = some none)
    (xsu : PySem.W.subIn K (.ref CN) (.ref CN) = some true)
    : ∃ fd : FuncData, (∀ (s : Shared) (v : Value), BindsTo s fd ⟨[v], []⟩ [("_law_script", v)]) ∧ ∀ base : Heap, K.In base → base.Ns mainGlobals mg → FnOk l.prog w K mg base CX0 13 fa fd ["_law_script"] (spLaw K) := by
  have e := hfa.symm.trans (PySem.W.mg_of X G a15)
  cases e
  have D0 : DefT K mg "_law_pool" "_law_pool" s_l_pool [] f0 (PySem.W.fnOf "_law_pool" "_law_pool" (defArgs s_l_pool) (defBody s_l_pool) (defScope s_l_pool) .none kV0 dc0 pm0 an0 cd0 ct0) := by
    have F := fun_mk (x := "_law_pool") (st := s_l_pool) l0 c0 k0
    exact ⟨PySem.W.mg_of X G a0, F, F.binds (ps := []) fun _ _ _ _ _ _ us hl => match us, hl with | [], _ => rfl⟩
  have D1 : DefT K mg "_law_draw" "_law_draw" s_l_draw ["_law_script", "_law_pool_here", "_law_limit"] f1 (PySem.W.fnOf "_law_draw" "_law_draw" (defArgs s_l_draw) (defBody s_l_draw) (defScope s_l_draw) .none kV1 dc1 pm1 an1 cd1 ct1) := by
    have F := fun_mk (x := "_law_draw") (st := s_l_draw) l1 c1 k1
    exact ⟨PySem.W.mg_of X G a1, F, F.binds (ps := ["_law_script", "_law_pool_here", "_law_limit"]) fun _ _ _ _ _ _ us hl => match us, hl with | [_, _, _], _ => rfl⟩
  have D2 : DefT K mg "_law_one" "_law_one" s_l_one ["_law_script", "_law_pool_here", "_law_row"] f2 (PySem.W.fnOf "_law_one" "_law_one" (defArgs s_l_one) (defBody s_l_one) (defScope s_l_one) .none kV2 dc2 pm2 an2 cd2 ct2) := by
    have F := fun_mk (x := "_law_one") (st := s_l_one) l2 c2 k2
    exact ⟨PySem.W.mg_of X G a2, F, F.binds (ps := ["_law_script", "_law_pool_here", "_law_row"]) fun _ _ _ _ _ _ us hl => match us, hl with | [_, _, _], _ => rfl⟩
  have D3 : DefT K mg "_law_word" "_law_word" s_l_word ["_law_script", "_law_pool_here"] f3 (PySem.W.fnOf "_law_word" "_law_word" (defArgs s_l_word) (defBody s_l_word) (defScope s_l_word) .none kV3 dc3 pm3 an3 cd3 ct3) := by
    have F := fun_mk (x := "_law_word") (st := s_l_word) l3 c3 k3
    exact ⟨PySem.W.mg_of X G a3, F, F.binds (ps := ["_law_script", "_law_pool_here"]) fun _ _ _ _ _ _ us hl => match us, hl with | [_, _], _ => rfl⟩
  have D4 : DefT K mg "_law_name" "_law_name" s_l_name ["_law_script", "_law_pool_here", "_law_taken", "_law_others"] f4 (PySem.W.fnOf "_law_name" "_law_name" (defArgs s_l_name) (defBody s_l_name) (defScope s_l_name) .none kV4 dc4 pm4 an4 cd4 ct4) := by
    have F := fun_mk (x := "_law_name") (st := s_l_name) l4 c4 k4
    exact ⟨PySem.W.mg_of X G a4, F, F.binds (ps := ["_law_script", "_law_pool_here", "_law_taken", "_law_others"]) fun _ _ _ _ _ _ us hl => match us, hl with | [_, _, _, _], _ => rfl⟩
  have D5 : DefT K mg "_law_names" "_law_names" s_l_names ["_law_script", "_law_pool_here", "_law_size", "_law_others"] f5 (PySem.W.fnOf "_law_names" "_law_names" (defArgs s_l_names) (defBody s_l_names) (defScope s_l_names) .none kV5 dc5 pm5 an5 cd5 ct5) := by
    have F := fun_mk (x := "_law_names") (st := s_l_names) l5 c5 k5
    exact ⟨PySem.W.mg_of X G a5, F, F.binds (ps := ["_law_script", "_law_pool_here", "_law_size", "_law_others"]) fun _ _ _ _ _ _ us hl => match us, hl with | [_, _, _, _], _ => rfl⟩
  have D6 : DefT K mg "_law_thing" "_law_thing" s_l_thing ["_law_script", "_law_pool_here", "_law_names_here"] f6 (PySem.W.fnOf "_law_thing" "_law_thing" (defArgs s_l_thing) (defBody s_l_thing) (defScope s_l_thing) .none kV6 dc6 pm6 an6 cd6 ct6) := by
    have F := fun_mk (x := "_law_thing") (st := s_l_thing) l6 c6 k6
    exact ⟨PySem.W.mg_of X G a6, F, F.binds (ps := ["_law_script", "_law_pool_here", "_law_names_here"]) fun _ _ _ _ _ _ us hl => match us, hl with | [_, _, _], _ => rfl⟩
  have D7 : DefT K mg "_law_is_name" "_law_is_name" s_l_is_name ["_law_thing_here"] f7 (PySem.W.fnOf "_law_is_name" "_law_is_name" (defArgs s_l_is_name) (defBody s_l_is_name) (defScope s_l_is_name) .none kV7 dc7 pm7 an7 cd7 ct7) := by
    have F := fun_mk (x := "_law_is_name") (st := s_l_is_name) l7 c7 k7
    exact ⟨PySem.W.mg_of X G a7, F, F.binds (ps := ["_law_thing_here"]) fun _ _ _ _ _ _ us hl => match us, hl with | [_], _ => rfl⟩
  have D8 : DefT K mg "_law_spoiled" "_law_spoiled" s_l_spoiled ["_law_script", "_law_pool_here", "_law_row", "_law_names_here"] f8 (PySem.W.fnOf "_law_spoiled" "_law_spoiled" (defArgs s_l_spoiled) (defBody s_l_spoiled) (defScope s_l_spoiled) .none kV8 dc8 pm8 an8 cd8 ct8) := by
    have F := fun_mk (x := "_law_spoiled") (st := s_l_spoiled) l8 c8 k8
    exact ⟨PySem.W.mg_of X G a8, F, F.binds (ps := ["_law_script", "_law_pool_here", "_law_row", "_law_names_here"]) fun _ _ _ _ _ _ us hl => match us, hl with | [_, _, _, _], _ => rfl⟩
  have D9 : DefT K mg "_law_same" "_law_same" s_l_same ["_law_told", "_law_due_here"] f9 (PySem.W.fnOf "_law_same" "_law_same" (defArgs s_l_same) (defBody s_l_same) (defScope s_l_same) .none kV9 dc9 pm9 an9 cd9 ct9) := by
    have F := fun_mk (x := "_law_same") (st := s_l_same) l9 c9 k9
    exact ⟨PySem.W.mg_of X G a9, F, F.binds (ps := ["_law_told", "_law_due_here"]) fun _ _ _ _ _ _ us hl => match us, hl with | [_, _], _ => rfl⟩
  have D10 : DefT K mg "_law_kinds" "_law_kinds" s_l_kinds ["_law_script", "_law_pool_here"] f10 (PySem.W.fnOf "_law_kinds" "_law_kinds" (defArgs s_l_kinds) (defBody s_l_kinds) (defScope s_l_kinds) .none kV10 dc10 pm10 an10 cd10 ct10) := by
    have F := fun_mk (x := "_law_kinds") (st := s_l_kinds) l10 c10 k10
    exact ⟨PySem.W.mg_of X G a10, F, F.binds (ps := ["_law_script", "_law_pool_here"]) fun _ _ _ _ _ _ us hl => match us, hl with | [_, _], _ => rfl⟩
  have D11 : DefT K mg "_law_marks" "_law_marks" s_l_marks ["_law_script", "_law_pool_here"] f11 (PySem.W.fnOf "_law_marks" "_law_marks" (defArgs s_l_marks) (defBody s_l_marks) (defScope s_l_marks) .none kV11 dc11 pm11 an11 cd11 ct11) := by
    have F := fun_mk (x := "_law_marks") (st := s_l_marks) l11 c11 k11
    exact ⟨PySem.W.mg_of X G a11, F, F.binds (ps := ["_law_script", "_law_pool_here"]) fun _ _ _ _ _ _ us hl => match us, hl with | [_, _], _ => rfl⟩
  have D12 : DefT K mg "_law_kinds_fault" "_law_kinds_fault" s_l_kinds_fault ["_law_rows"] f12 (PySem.W.fnOf "_law_kinds_fault" "_law_kinds_fault" (defArgs s_l_kinds_fault) (defBody s_l_kinds_fault) (defScope s_l_kinds_fault) .none kV12 dc12 pm12 an12 cd12 ct12) := by
    have F := fun_mk (x := "_law_kinds_fault") (st := s_l_kinds_fault) l12 c12 k12
    exact ⟨PySem.W.mg_of X G a12, F, F.binds (ps := ["_law_rows"]) fun _ _ _ _ _ _ us hl => match us, hl with | [_], _ => rfl⟩
  have D13 : DefT K mg "_law_marks_fault" "_law_marks_fault" s_l_marks_fault ["_law_rows"] f13 (PySem.W.fnOf "_law_marks_fault" "_law_marks_fault" (defArgs s_l_marks_fault) (defBody s_l_marks_fault) (defScope s_l_marks_fault) .none kV13 dc13 pm13 an13 cd13 ct13) := by
    have F := fun_mk (x := "_law_marks_fault") (st := s_l_marks_fault) l13 c13 k13
    exact ⟨PySem.W.mg_of X G a13, F, F.binds (ps := ["_law_rows"]) fun _ _ _ _ _ _ us hl => match us, hl with | [_], _ => rfl⟩
  have D14 : DefT K mg "_law_due" "_law_due" s_l_due ["_law_ups", "_law_downs", "_law_marks_here"] f14 (PySem.W.fnOf "_law_due" "_law_due" (defArgs s_l_due) (defBody s_l_due) (defScope s_l_due) .none kV14 dc14 pm14 an14 cd14 ct14) := by
    have F := fun_mk (x := "_law_due") (st := s_l_due) l14 c14 k14
    exact ⟨PySem.W.mg_of X G a14, F, F.binds (ps := ["_law_ups", "_law_downs", "_law_marks_here"]) fun _ _ _ _ _ _ us hl => match us, hl with | [_, _, _], _ => rfl⟩
  have D15 : DefT K mg "law" "law" s_law ["_law_script"] fa (PySem.W.fnOf "law" "law" (defArgs s_law) (defBody s_law) (defScope s_law) .none kV15 dc15 pm15 an15 cd15 ct15) := by
    have F := fun_mk (x := "law") (st := s_law) l15 c15 k15
    exact ⟨PySem.W.mg_of X G a15, F, F.binds (ps := ["_law_script"]) fun _ _ _ _ _ _ us hl => match us, hl with | [_], _ => rfl⟩
  have D16 : DefT K mg "is_name" "is_name" s_is_name ["value"] f16 (PySem.W.fnOf "is_name" "is_name" (defArgs s_is_name) (defBody s_is_name) (defScope s_is_name) .none kV16 dc16 pm16 an16 cd16 ct16) := by
    have F := fun_mk (x := "is_name") (st := s_is_name) l16 c16 k16
    exact ⟨PySem.W.mg_of X G a16, F, F.binds (ps := ["value"]) fun _ _ _ _ _ _ us hl => match us, hl with | [_], _ => rfl⟩
  have D17 : DefT K mg "has_length" "has_length" s_has_length ["row", "many"] f17 (PySem.W.fnOf "has_length" "has_length" (defArgs s_has_length) (defBody s_has_length) (defScope s_has_length) .none kV17 dc17 pm17 an17 cd17 ct17) := by
    have F := fun_mk (x := "has_length") (st := s_has_length) l17 c17 k17
    exact ⟨PySem.W.mg_of X G a17, F, F.binds (ps := ["row", "many"]) fun _ _ _ _ _ _ us hl => match us, hl with | [_, _], _ => rfl⟩
  have D18 : DefT K mg "is_one_or_none" "is_one_or_none" s_is_one_or_none ["value", "names"] f18 (PySem.W.fnOf "is_one_or_none" "is_one_or_none" (defArgs s_is_one_or_none) (defBody s_is_one_or_none) (defScope s_is_one_or_none) .none kV18 dc18 pm18 an18 cd18 ct18) := by
    have F := fun_mk (x := "is_one_or_none") (st := s_is_one_or_none) l18 c18 k18
    exact ⟨PySem.W.mg_of X G a18, F, F.binds (ps := ["value", "names"]) fun _ _ _ _ _ _ us hl => match us, hl with | [_, _], _ => rfl⟩
  have D19 : DefT K mg "is_state" "is_state" s_is_state ["row", "_"] f19 (PySem.W.fnOf "is_state" "is_state" (defArgs s_is_state) (defBody s_is_state) (defScope s_is_state) .none kV19 dc19 pm19 an19 cd19 ct19) := by
    have F := fun_mk (x := "is_state") (st := s_is_state) l19 c19 k19
    exact ⟨PySem.W.mg_of X G a19, F, F.binds (ps := ["row", "_"]) fun _ _ _ _ _ _ us hl => match us, hl with | [_, _], _ => rfl⟩
  have D20 : DefT K mg "is_letter" "is_letter" s_is_letter ["row", "_"] f20 (PySem.W.fnOf "is_letter" "is_letter" (defArgs s_is_letter) (defBody s_is_letter) (defScope s_is_letter) .none kV20 dc20 pm20 an20 cd20 ct20) := by
    have F := fun_mk (x := "is_letter") (st := s_is_letter) l20 c20 k20
    exact ⟨PySem.W.mg_of X G a20, F, F.binds (ps := ["row", "_"]) fun _ _ _ _ _ _ us hl => match us, hl with | [_, _], _ => rfl⟩
  have D21 : DefT K mg "is_mark" "is_mark" s_is_mark ["row", "_"] f21 (PySem.W.fnOf "is_mark" "is_mark" (defArgs s_is_mark) (defBody s_is_mark) (defScope s_is_mark) .none kV21 dc21 pm21 an21 cd21 ct21) := by
    have F := fun_mk (x := "is_mark") (st := s_is_mark) l21 c21 k21
    exact ⟨PySem.W.mg_of X G a21, F, F.binds (ps := ["row", "_"]) fun _ _ _ _ _ _ us hl => match us, hl with | [_, _], _ => rfl⟩
  have D22 : DefT K mg "is_wish" "is_wish" s_is_wish ["row", "names"] f22 (PySem.W.fnOf "is_wish" "is_wish" (defArgs s_is_wish) (defBody s_is_wish) (defScope s_is_wish) .none kV22 dc22 pm22 an22 cd22 ct22) := by
    have F := fun_mk (x := "is_wish") (st := s_is_wish) l22 c22 k22
    exact ⟨PySem.W.mg_of X G a22, F, F.binds (ps := ["row", "names"]) fun _ _ _ _ _ _ us hl => match us, hl with | [_, _], _ => rfl⟩
  have D23 : DefT K mg "is_answer" "is_answer" s_is_answer ["row", "names"] f23 (PySem.W.fnOf "is_answer" "is_answer" (defArgs s_is_answer) (defBody s_is_answer) (defScope s_is_answer) .none kV23 dc23 pm23 an23 cd23 ct23) := by
    have F := fun_mk (x := "is_answer") (st := s_is_answer) l23 c23 k23
    exact ⟨PySem.W.mg_of X G a23, F, F.binds (ps := ["row", "names"]) fun _ _ _ _ _ _ us hl => match us, hl with | [_, _], _ => rfl⟩
  have D24 : DefT K mg "are_calls" "are_calls" s_are_calls ["rows", "names"] f24 (PySem.W.fnOf "are_calls" "are_calls" (defArgs s_are_calls) (defBody s_are_calls) (defScope s_are_calls) .none kV24 dc24 pm24 an24 cd24 ct24) := by
    have F := fun_mk (x := "are_calls") (st := s_are_calls) l24 c24 k24
    exact ⟨PySem.W.mg_of X G a24, F, F.binds (ps := ["rows", "names"]) fun _ _ _ _ _ _ us hl => match us, hl with | [_, _], _ => rfl⟩
  have D25 : DefT K mg "are_quiet" "are_quiet" s_are_quiet ["rows", "marks"] f25 (PySem.W.fnOf "are_quiet" "are_quiet" (defArgs s_are_quiet) (defBody s_are_quiet) (defScope s_are_quiet) .none kV25 dc25 pm25 an25 cd25 ct25) := by
    have F := fun_mk (x := "are_quiet") (st := s_are_quiet) l25 c25 k25
    exact ⟨PySem.W.mg_of X G a25, F, F.binds (ps := ["rows", "marks"]) fun _ _ _ _ _ _ us hl => match us, hl with | [_, _], _ => rfl⟩
  have D26 : DefT K mg "are_ends" "are_ends" s_are_ends ["rows", "marks"] f26 (PySem.W.fnOf "are_ends" "are_ends" (defArgs s_are_ends) (defBody s_are_ends) (defScope s_are_ends) .none kV26 dc26 pm26 an26 cd26 ct26) := by
    have F := fun_mk (x := "are_ends") (st := s_are_ends) l26 c26 k26
    exact ⟨PySem.W.mg_of X G a26, F, F.binds (ps := ["rows", "marks"]) fun _ _ _ _ _ _ us hl => match us, hl with | [_, _], _ => rfl⟩
  have D27 : DefT K mg "is_task" "is_task" s_is_task ["row", "names"] f27 (PySem.W.fnOf "is_task" "is_task" (defArgs s_is_task) (defBody s_is_task) (defScope s_is_task) .none kV27 dc27 pm27 an27 cd27 ct27) := by
    have F := fun_mk (x := "is_task") (st := s_is_task) l27 c27 k27
    exact ⟨PySem.W.mg_of X G a27, F, F.binds (ps := ["row", "names"]) fun _ _ _ _ _ _ us hl => match us, hl with | [_, _], _ => rfl⟩
  have D28 : DefT K mg "is_reply" "is_reply" s_is_reply ["mark", "down", "frees", "names"] f28 (PySem.W.fnOf "is_reply" "is_reply" (defArgs s_is_reply) (defBody s_is_reply) (defScope s_is_reply) .none kV28 dc28 pm28 an28 cd28 ct28) := by
    have F := fun_mk (x := "is_reply") (st := s_is_reply) l28 c28 k28
    exact ⟨PySem.W.mg_of X G a28, F, F.binds (ps := ["mark", "down", "frees", "names"]) fun _ _ _ _ _ _ us hl => match us, hl with | [_, _, _, _], _ => rfl⟩
  have D29 : DefT K mg "is_idle" "is_idle" s_is_idle ["row", "names"] f29 (PySem.W.fnOf "is_idle" "is_idle" (defArgs s_is_idle) (defBody s_is_idle) (defScope s_is_idle) .none kV29 dc29 pm29 an29 cd29 ct29) := by
    have F := fun_mk (x := "is_idle") (st := s_is_idle) l29 c29 k29
    exact ⟨PySem.W.mg_of X G a29, F, F.binds (ps := ["row", "names"]) fun _ _ _ _ _ _ us hl => match us, hl with | [_, _], _ => rfl⟩
  have D30 : DefT K mg "is_busy" "is_busy" s_is_busy ["row", "names"] f30 (PySem.W.fnOf "is_busy" "is_busy" (defArgs s_is_busy) (defBody s_is_busy) (defScope s_is_busy) .none kV30 dc30 pm30 an30 cd30 ct30) := by
    have F := fun_mk (x := "is_busy") (st := s_is_busy) l30 c30 k30
    exact ⟨PySem.W.mg_of X G a30, F, F.binds (ps := ["row", "names"]) fun _ _ _ _ _ _ us hl => match us, hl with | [_, _], _ => rfl⟩
  have D31 : DefT K mg "may_stand" "may_stand" s_may_stand ["part", "row", "before"] f31 (PySem.W.fnOf "may_stand" "may_stand" (defArgs s_may_stand) (defBody s_may_stand) (defScope s_may_stand) .none kV31 dc31 pm31 an31 cd31 ct31) := by
    have F := fun_mk (x := "may_stand") (st := s_may_stand) l31 c31 k31
    exact ⟨PySem.W.mg_of X G a31, F, F.binds (ps := ["part", "row", "before"]) fun _ _ _ _ _ _ us hl => match us, hl with | [_, _, _], _ => rfl⟩
  have D32 : DefT K mg "wrong_index" "wrong_index" s_wrong_index ["part", "rows", "names"] f32 (PySem.W.fnOf "wrong_index" "wrong_index" (defArgs s_wrong_index) (defBody s_wrong_index) (defScope s_wrong_index) .none kV32 dc32 pm32 an32 cd32 ct32) := by
    have F := fun_mk (x := "wrong_index") (st := s_wrong_index) l32 c32 k32
    exact ⟨PySem.W.mg_of X G a32, F, F.binds (ps := ["part", "rows", "names"]) fun _ _ _ _ _ _ us hl => match us, hl with | [_, _, _], _ => rfl⟩
  have D33 : DefT K mg "names_in" "names_in" s_names_in ["part", "rows"] f33 (PySem.W.fnOf "names_in" "names_in" (defArgs s_names_in) (defBody s_names_in) (defScope s_names_in) .none kV33 dc33 pm33 an33 cd33 ct33) := by
    have F := fun_mk (x := "names_in") (st := s_names_in) l33 c33 k33
    exact ⟨PySem.W.mg_of X G a33, F, F.binds (ps := ["part", "rows"]) fun _ _ _ _ _ _ us hl => match us, hl with | [_, _], _ => rfl⟩
  have D34 : DefT K mg "wrong_part" "wrong_part" s_wrong_part ["parts"] f34 (PySem.W.fnOf "wrong_part" "wrong_part" (defArgs s_wrong_part) (defBody s_wrong_part) (defScope s_wrong_part) .none kV34 dc34 pm34 an34 cd34 ct34) := by
    have F := fun_mk (x := "wrong_part") (st := s_wrong_part) l34 c34 k34
    exact ⟨PySem.W.mg_of X G a34, F, F.binds (ps := ["parts"]) fun _ _ _ _ _ _ us hl => match us, hl with | [_], _ => rfl⟩
  have D35 : DefT K mg "copied_tasks" "copied_tasks" s_copied_tasks ["tasks"] f35 (PySem.W.fnOf "copied_tasks" "copied_tasks" (defArgs s_copied_tasks) (defBody s_copied_tasks) (defScope s_copied_tasks) .none kV35 dc35 pm35 an35 cd35 ct35) := by
    have F := fun_mk (x := "copied_tasks") (st := s_copied_tasks) l35 c35 k35
    exact ⟨PySem.W.mg_of X G a35, F, F.binds (ps := ["tasks"]) fun _ _ _ _ _ _ us hl => match us, hl with | [_], _ => rfl⟩
  have Z : Zs mg := ⟨PySem.W.mg_none_of X G z_int, PySem.W.mg_none_of X G z_len, PySem.W.mg_none_of X G z_range, PySem.W.mg_none_of X G z_isinstance, PySem.W.mg_none_of X G z_bool, PySem.W.mg_none_of X G z_str, PySem.W.mg_none_of X G z_tuple, PySem.W.mg_none_of X G z_list, PySem.W.mg_none_of X G z_all, PySem.W.mg_none_of X G z_enumerate, PySem.W.mg_none_of X G z_zip⟩
  have sq : ∀ {a : Addr} {xs : List V} {od : Option Addr} {its : Array Value} {n : Nat} {sl : Array (Option Value)}, xs.length ≤ 1000 → K.lookup a = some ⟨.type "tuple", od, .seq its n, sl⟩ → L2.Vals xs its.toList → SqK K a xs := fun {a xs od its n sl} hz h v => ⟨⟨_, its, n, h, rfl, rfl, by
    have := v.length
    have e : its.toList.length = its.size := Array.length_toList
    exact sz _ (by omega), v⟩⟩
  have T : Tb K mg tl aP aN aT aO aL aH aI := ⟨PySem.W.mg_of X G bL, PySem.W.mg_of X G bP, PySem.W.mg_of X G bN, PySem.W.mg_of X G bT, PySem.W.mg_of X G bO, PySem.W.mg_of X G mL, PySem.W.mg_of X G mH, PySem.W.mg_of X G mI, sq (by decide) oP vP, sq (by decide) oN vN, sq (by decide) oT vT, sq (by decide) oO vO⟩
  have Td' : Td K w aL aH aI (itOf f19 f20 f21 f22 f23 f27 f29 f30) := by
    refine ⟨fun k => ?_, fun k h1 h2 => ?_, fun k => ?_⟩
    · cases k
      case ss => exact ⟨t0, ⟨_, _, _, dL, yL, kL0, rfl⟩, sq (by decide) kLo0 kLv0⟩
      case us => exact ⟨t1, ⟨_, _, _, dL, yL, kL1, rfl⟩, sq (by decide) kLo1 kLv1⟩
      case ks => exact ⟨t2, ⟨_, _, _, dL, yL, kL2, rfl⟩, sq (by decide) kLo2 kLv2⟩
      case ms => exact ⟨t3, ⟨_, _, _, dL, yL, kL3, rfl⟩, sq (by decide) kLo3 kLv3⟩
      case ws => exact ⟨t4, ⟨_, _, _, dL, yL, kL4, rfl⟩, sq (by decide) kLo4 kLv4⟩
      case as => exact ⟨t5, ⟨_, _, _, dL, yL, kL5, rfl⟩, sq (by decide) kLo5 kLv5⟩
      case ts => exact ⟨t6, ⟨_, _, _, dL, yL, kL6, rfl⟩, sq (by decide) kLo6 kLv6⟩
      case is => exact ⟨t7, ⟨_, _, _, dL, yL, kL7, rfl⟩, sq (by decide) kLo7 kLv7⟩
      case bs => exact ⟨t8, ⟨_, _, _, dL, yL, kL8, rfl⟩, sq (by decide) kLo8 kLv8⟩
    · cases k
      case ss => exact ⟨_, _, _, dH, yH, kH0, ⟨_, rfl⟩⟩
      case us => exact ⟨_, _, _, dH, yH, kH1, ⟨_, rfl⟩⟩
      case ks => exact ⟨_, _, _, dH, yH, kH2, ⟨_, rfl⟩⟩
      case ms => exact absurd rfl h1
      case ws => exact absurd rfl h2
      case as => exact ⟨_, _, _, dH, yH, kH5, ⟨_, rfl⟩⟩
      case ts => exact ⟨_, _, _, dH, yH, kH6, ⟨_, rfl⟩⟩
      case is => exact ⟨_, _, _, dH, yH, kH7, ⟨_, rfl⟩⟩
      case bs => exact ⟨_, _, _, dH, yH, kH8, ⟨_, rfl⟩⟩
    · cases k
      case ss => exact ⟨_, _, _, dI, yI, kI0, rfl⟩
      case us => exact ⟨_, _, _, dI, yI, kI1, rfl⟩
      case ks => exact ⟨_, _, _, dI, yI, kI2, rfl⟩
      case ms => exact ⟨_, _, _, dI, yI, kI3, rfl⟩
      case ws => exact ⟨_, _, _, dI, yI, kI4, rfl⟩
      case as => exact ⟨_, _, _, dI, yI, kI5, rfl⟩
      case ts => exact ⟨_, _, _, dI, yI, kI6, rfl⟩
      case is => exact ⟨_, _, _, dI, yI, kI7, rfl⟩
      case bs => exact ⟨_, _, _, dI, yI, kI8, rfl⟩
  have B : BK K C := ⟨⟨pg, hd, po, sa⟩, fun k => by
    cases k
    case ss => exact no_states
    case us => exact no_ups
    case ks => exact no_downs
    case ms => exact no_marks
    case ws => exact no_wishes
    case as => exact no_answers
    case ts => exact no_tasks
    case is => exact no_idles
    case bs => exact no_busies
    , no_parts⟩
  have FI := fun_mk (x := "__init__") (qual := "Book.__init__") (st := s_Book__init_) jl jc jk
  have bI : Binds K _ ["self", "states", "ups", "downs", "marks", "wishes", "answers", "tasks", "idles", "busies"] [] := FI.binds (ps := ["self", "states", "ups", "downs", "marks", "wishes", "answers", "tasks", "idles", "busies"]) fun _ _ _ _ _ _ us hl => match us, hl with | [_, _, _, _, _, _, _, _, _, _], _ => rfl
  have F_states := fun_mk (x := "states") (qual := "Book.states") (st := s_Book_states) n0l n0c n0k
  have M_states : DefM K C "states" "Book.states" s_Book_states ["self"] g0 _ := ⟨⟨n0a, n0i, n0k⟩, F_states, F_states.binds (ps := ["self"]) fun _ _ _ _ _ _ us hl => match us, hl with | [_], _ => rfl⟩
  have F_ups := fun_mk (x := "ups") (qual := "Book.ups") (st := s_Book_ups) n1l n1c n1k
  have M_ups : DefM K C "ups" "Book.ups" s_Book_ups ["self"] g1 _ := ⟨⟨n1a, n1i, n1k⟩, F_ups, F_ups.binds (ps := ["self"]) fun _ _ _ _ _ _ us hl => match us, hl with | [_], _ => rfl⟩
  have F_downs := fun_mk (x := "downs") (qual := "Book.downs") (st := s_Book_downs) n2l n2c n2k
  have M_downs : DefM K C "downs" "Book.downs" s_Book_downs ["self"] g2 _ := ⟨⟨n2a, n2i, n2k⟩, F_downs, F_downs.binds (ps := ["self"]) fun _ _ _ _ _ _ us hl => match us, hl with | [_], _ => rfl⟩
  have F_marks := fun_mk (x := "marks") (qual := "Book.marks") (st := s_Book_marks) n3l n3c n3k
  have M_marks : DefM K C "marks" "Book.marks" s_Book_marks ["self"] g3 _ := ⟨⟨n3a, n3i, n3k⟩, F_marks, F_marks.binds (ps := ["self"]) fun _ _ _ _ _ _ us hl => match us, hl with | [_], _ => rfl⟩
  have F_wishes := fun_mk (x := "wishes") (qual := "Book.wishes") (st := s_Book_wishes) n4l n4c n4k
  have M_wishes : DefM K C "wishes" "Book.wishes" s_Book_wishes ["self"] g4 _ := ⟨⟨n4a, n4i, n4k⟩, F_wishes, F_wishes.binds (ps := ["self"]) fun _ _ _ _ _ _ us hl => match us, hl with | [_], _ => rfl⟩
  have F_answers := fun_mk (x := "answers") (qual := "Book.answers") (st := s_Book_answers) n5l n5c n5k
  have M_answers : DefM K C "answers" "Book.answers" s_Book_answers ["self"] g5 _ := ⟨⟨n5a, n5i, n5k⟩, F_answers, F_answers.binds (ps := ["self"]) fun _ _ _ _ _ _ us hl => match us, hl with | [_], _ => rfl⟩
  have F_tasks := fun_mk (x := "tasks") (qual := "Book.tasks") (st := s_Book_tasks) n6l n6c n6k
  have M_tasks : DefM K C "tasks" "Book.tasks" s_Book_tasks ["self"] g6 _ := ⟨⟨n6a, n6i, n6k⟩, F_tasks, F_tasks.binds (ps := ["self"]) fun _ _ _ _ _ _ us hl => match us, hl with | [_], _ => rfl⟩
  have F_idles := fun_mk (x := "idles") (qual := "Book.idles") (st := s_Book_idles) n7l n7c n7k
  have M_idles : DefM K C "idles" "Book.idles" s_Book_idles ["self"] g7 _ := ⟨⟨n7a, n7i, n7k⟩, F_idles, F_idles.binds (ps := ["self"]) fun _ _ _ _ _ _ us hl => match us, hl with | [_], _ => rfl⟩
  have F_busies := fun_mk (x := "busies") (qual := "Book.busies") (st := s_Book_busies) n8l n8c n8k
  have M_busies : DefM K C "busies" "Book.busies" s_Book_busies ["self"] g8 _ := ⟨⟨n8a, n8i, n8k⟩, F_busies, F_busies.binds (ps := ["self"]) fun _ _ _ _ _ _ us hl => match us, hl with | [_], _ => rfl⟩
  have IX := fun_mk (x := "__init__") (qual := "NoBook.__init__") (st := s_NoBook__init_) xjl xjc xjk
  have EX : FlX K mg "NoBook" "NoBook.__init__" s_NoBook__init_ ["self", "part", "index"] CN gN _ := ⟨PySem.W.mg_of X G xb, ⟨⟨_, _, _, _, _, _, _, _, _, _, _, _, _, _, _, xo, xoo⟩, xsa, xex, xty, xkc⟩, xi, xit, IX, IX.binds (ps := ["self", "part", "index"]) fun _ _ _ _ _ _ us hl => match us, hl with | [_, _, _], _ => rfl⟩
  exact ⟨(PySem.W.fnOf "law" "law" (defArgs s_law) (defBody s_law) (defScope s_law) .none kV15 dc15 pm15 an15 cd15 ct15), fun s v => .of_eq rfl, fun base _ _ => fin D0 D1 D2 D3 D4 D5 D6 D7 D8 D9 D10 D11 D12 D13 D14 D15 D16 D17 D18 D19 D20 D21 D22 D23 D24 D25 D26 D27 D28 D29 D30 D31 D32 D33 D34 D35 Z T Td' B ⟨B.c, ib1, ib2, ib3, ib4, kt0, kt1, kt2, kt3⟩ ⟨EX, xnp, xni⟩ ⟨xga, xgg, xex, xhd⟩ (PySem.W.exm_ref xex xhd xty xsu) M_states M_ups M_downs M_marks M_tasks ⟨mk, ja, ji, kc⟩ (PySem.W.mg_of X G aC) FI bI⟩
theorem walk {l : PySem.W.OpenLaw} {q : Program} {loose : List Str} {XP : (Str → Option Value) → Heap → Prop} {YP : World → Heap → Prop} {d : DefRec} {K : Params → PySem.W.Frag} (hn : l.most = some 63) (hdf : d.params.defaults = [])
    (hY : ∀ (w : World) (h : Heap), YP w h → (K w.params).In h)
    (F : ∀ (w : World) (mg : Str → Option Value) (fa : Addr) (h : Heap), (K w.params).In h → h.Ns mainGlobals mg → mg d.name = some (.ref fa) →
      ∃ fd : FuncData, (∀ (s : Shared) (u : Value), BindsTo s fd ⟨[u], []⟩ [("_law_script", u)]) ∧ ∀ base : Heap, (K w.params).In base → base.Ns mainGlobals mg → FnOk l.prog w (K w.params) mg base CX0 13 fa fd ["_law_script"] (spLaw (K w.params))) :
    PySem.W.WalkO q loose XP YP l.row.toRowW d [] (fun f vs => PySem.call f vs) :=
  L2.walk_of (n := 63) (k := 13) (x := "_law_script") (CX := fun _ => CX0) (sp := fun w => spLaw (K w.params)) hn (by decide) hdf ⟨rfl, by decide, by decide⟩ hY F (fun _ _ a ns hl _ hS => ⟨a, ns, rfl, hS, hl, fun _ => rfl⟩) fun _ _ _ _ _ z => z

end My
open PySem PySem.W PyProof.Rows in
set_option maxRecDepth 100000 in
set_option maxHeartbeats 0 in
theorem PySem.Challenge.cw_copybooks_k04_kinds_and_marks_holds : PySem.Challenge.rw_copybooks_k04_kinds_and_marks.Holds := by
  w_on; o_law; k_head; (case hw => w_witness2)
  k_fill
  refine My.walk (l := PySem.Challenge.rw_copybooks_k04_kinds_and_marks) rfl rfl (fun w h Y => PySem.W.kIn_of Y) ?F
  case F =>
    intro w mg fa h KX G hmg
    refine' My.all_mk KX G hmg ?a0 ?l0 ?c0 ?k0 ?a1 ?l1 ?c1 ?k1 ?a2 ?l2 ?c2 ?k2 ?a3 ?l3 ?c3 ?k3 ?a4 ?l4 ?c4 ?k4 ?a5 ?l5 ?c5 ?k5 ?a6 ?l6 ?c6 ?k6 ?a7 ?l7 ?c7 ?k7 ?a8 ?l8 ?c8 ?k8 ?a9 ?l9 ?c9 ?k9 ?a10 ?l10 ?c10 ?k10 ?a11 ?l11 ?c11 ?k11 ?a12 ?l12 ?c12 ?k12 ?a13 ?l13 ?c13 ?k13 ?a14 ?l14 ?c14 ?k14 ?a15 ?l15 ?c15 ?k15 ?a16 ?l16 ?c16 ?k16 ?a17 ?l17 ?c17 ?k17 ?a18 ?l18 ?c18 ?k18 ?a19 ?l19 ?c19 ?k19 ?a20 ?l20 ?c20 ?k20 ?a21 ?l21 ?c21 ?k21 ?a22 ?l22 ?c22 ?k22 ?a23 ?l23 ?c23 ?k23 ?a24 ?l24 ?c24 ?k24 ?a25 ?l25 ?c25 ?k25 ?a26 ?l26 ?c26 ?k26 ?a27 ?l27 ?c27 ?k27 ?a28 ?l28 ?c28 ?k28 ?a29 ?l29 ?c29 ?k29 ?a30 ?l30 ?c30 ?k30 ?a31 ?l31 ?c31 ?k31 ?a32 ?l32 ?c32 ?k32 ?a33 ?l33 ?c33 ?k33 ?a34 ?l34 ?c34 ?k34 ?a35 ?l35 ?c35 ?k35 ?z_int ?z_len ?z_range ?z_isinstance ?z_bool ?z_str ?z_tuple ?z_list ?z_all ?z_enumerate ?z_zip ?bL ?bP ?oP ?vP ?bN ?oN ?vN ?bT ?oT ?vT ?bO ?oO ?vO ?mL ?dL ?yL ?mH ?dH ?yH ?mI ?dI ?yI ?kL0 ?kLo0 ?kLv0 ?kH0 ?kI0 ?kL1 ?kLo1 ?kLv1 ?kH1 ?kI1 ?kL2 ?kLo2 ?kLv2 ?kH2 ?kI2 ?kL3 ?kLo3 ?kLv3 ?kI3 ?kL4 ?kLo4 ?kLv4 ?kI4 ?kL5 ?kLo5 ?kLv5 ?kH5 ?kI5 ?kL6 ?kLo6 ?kLv6 ?kH6 ?kI6 ?kL7 ?kLo7 ?kLv7 ?kH7 ?kI7 ?kL8 ?kLo8 ?kLv8 ?kH8 ?kI8 ?aC ?pg ?hd ?po ?sa ?mk ?kc ?no_states ?no_ups ?no_downs ?no_marks ?no_wishes ?no_answers ?no_tasks ?no_idles ?no_busies ?no_parts ?ja ?ji ?jl ?jc ?jk ?n0a ?n0i ?n0l ?n0c ?n0k ?n1a ?n1i ?n1l ?n1c ?n1k ?n2a ?n2i ?n2l ?n2c ?n2k ?n3a ?n3i ?n3l ?n3c ?n3k ?n4a ?n4i ?n4l ?n4c ?n4k ?n5a ?n5i ?n5l ?n5c ?n5k ?n6a ?n6i ?n6l ?n6c ?n6k ?n7a ?n7i ?n7l ?n7c ?n7k ?n8a ?n8i ?n8l ?n8c ?n8k ?ib1 ?ib2 ?ib3 ?ib4 ?kt0 ?kt1 ?kt2 ?kt3 ?xb ?xo ?xoo ?xsa ?xkc ?xi ?xit ?xjl ?xjc ?xjk ?xnp ?xni ?xex ?xty ?xhd ?xga ?xgg ?xsu
    (case a0 => k_is)
    (case l0 => k_is)
    (case c0 => k_is)
    (case k0 => k_is)
    (case a1 => k_is)
    (case l1 => k_is)
    (case c1 => k_is)
    (case k1 => k_is)
    (case a2 => k_is)
    (case l2 => k_is)
    (case c2 => k_is)
    (case k2 => k_is)
    (case a3 => k_is)
    (case l3 => k_is)
    (case c3 => k_is)
    (case k3 => k_is)
    (case a4 => k_is)
    (case l4 => k_is)
    (case c4 => k_is)
    (case k4 => k_is)
    (case a5 => k_is)
    (case l5 => k_is)
    (case c5 => k_is)
    (case k5 => k_is)
    (case a6 => k_is)
    (case l6 => k_is)
    (case c6 => k_is)
    (case k6 => k_is)
    (case a7 => k_is)
    (case l7 => k_is)
    (case c7 => k_is)
    (case k7 => k_is)
    (case a8 => k_is)
    (case l8 => k_is)
    (case c8 => k_is)
    (case k8 => k_is)
    (case a9 => k_is)
    (case l9 => k_is)
    (case c9 => k_is)
    (case k9 => k_is)
    (case a10 => k_is)
    (case l10 => k_is)
    (case c10 => k_is)
    (case k10 => k_is)
    (case a11 => k_is)
    (case l11 => k_is)
    (case c11 => k_is)
    (case k11 => k_is)
    (case a12 => k_is)
    (case l12 => k_is)
    (case c12 => k_is)
    (case k12 => k_is)
    (case a13 => k_is)
    (case l13 => k_is)
    (case c13 => k_is)
    (case k13 => k_is)
    (case a14 => k_is)
    (case l14 => k_is)
    (case c14 => k_is)
    (case k14 => k_is)
    (case a15 => k_is)
    (case l15 => k_is)
    (case c15 => k_is)
    (case k15 => k_is)
    (case a16 => k_is)
    (case l16 => k_is)
    (case c16 => k_is)
    (case k16 => k_is)
    (case a17 => k_is)
    (case l17 => k_is)
    (case c17 => k_is)
    (case k17 => k_is)
    (case a18 => k_is)
    (case l18 => k_is)
    (case c18 => k_is)
    (case k18 => k_is)
    (case a19 => k_is)
    (case l19 => k_is)
    (case c19 => k_is)
    (case k19 => k_is)
    (case a20 => k_is)
    (case l20 => k_is)
    (case c20 => k_is)
    (case k20 => k_is)
    (case a21 => k_is)
    (case l21 => k_is)
    (case c21 => k_is)
    (case k21 => k_is)
    (case a22 => k_is)
    (case l22 => k_is)
    (case c22 => k_is)
    (case k22 => k_is)
    (case a23 => k_is)
    (case l23 => k_is)
    (case c23 => k_is)
    (case k23 => k_is)
    (case a24 => k_is)
    (case l24 => k_is)
    (case c24 => k_is)
    (case k24 => k_is)
    (case a25 => k_is)
    (case l25 => k_is)
    (case c25 => k_is)
    (case k25 => k_is)
    (case a26 => k_is)
    (case l26 => k_is)
    (case c26 => k_is)
    (case k26 => k_is)
    (case a27 => k_is)
    (case l27 => k_is)
    (case c27 => k_is)
    (case k27 => k_is)
    (case a28 => k_is)
    (case l28 => k_is)
    (case c28 => k_is)
    (case k28 => k_is)
    (case a29 => k_is)
    (case l29 => k_is)
    (case c29 => k_is)
    (case k29 => k_is)
    (case a30 => k_is)
    (case l30 => k_is)
    (case c30 => k_is)
    (case k30 => k_is)
    (case a31 => k_is)
    (case l31 => k_is)
    (case c31 => k_is)
    (case k31 => k_is)
    (case a32 => k_is)
    (case l32 => k_is)
    (case c32 => k_is)
    (case k32 => k_is)
    (case a33 => k_is)
    (case l33 => k_is)
    (case c33 => k_is)
    (case k33 => k_is)
    (case a34 => k_is)
    (case l34 => k_is)
    (case c34 => k_is)
    (case k34 => k_is)
    (case a35 => k_is)
    (case l35 => k_is)
    (case c35 => k_is)
    (case k35 => k_is)
    (case z_int => k_is)
    (case z_len => k_is)
    (case z_range => k_is)
    (case z_isinstance => k_is)
    (case z_bool => k_is)
    (case z_str => k_is)
    (case z_tuple => k_is)
    (case z_list => k_is)
    (case z_all => k_is)
    (case z_enumerate => k_is)
    (case z_zip => k_is)
    (case bL => k_is)
    (case bP => k_is)
    (case oP => k_is)
    (case vP => repeat (first | exact .nil | refine .cons (Exists.intro _ rfl) ?_))
    (case bN => k_is)
    (case oN => k_is)
    (case vN => repeat (first | exact .nil | refine .cons (Exists.intro _ rfl) ?_))
    (case bT => k_is)
    (case oT => k_is)
    (case vT => repeat (first | exact .nil | refine .cons (Exists.intro _ rfl) ?_))
    (case bO => k_is)
    (case oO => k_is)
    (case vO => repeat (first | exact .nil | refine .cons (Exists.intro _ rfl) ?_))
    (case mL => k_is)
    (case dL => k_is)
    (case yL => repeat (first | exact True.intro | refine And.intro (Exists.intro _ (Exists.intro _ (And.intro rfl rfl))) ?_))
    (case mH => k_is)
    (case dH => k_is)
    (case yH => repeat (first | exact True.intro | refine And.intro (Exists.intro _ (Exists.intro _ (And.intro rfl rfl))) ?_))
    (case mI => k_is)
    (case dI => k_is)
    (case yI => repeat (first | exact True.intro | refine And.intro (Exists.intro _ (Exists.intro _ (And.intro rfl rfl))) ?_))
    (case kL0 => k_is)
    (case kLo0 => k_is)
    (case kLv0 => repeat (first | exact .nil | refine .cons (Exists.intro _ rfl) ?_))
    (case kH0 => k_is)
    (case kI0 => k_is)
    (case kL1 => k_is)
    (case kLo1 => k_is)
    (case kLv1 => repeat (first | exact .nil | refine .cons (Exists.intro _ rfl) ?_))
    (case kH1 => k_is)
    (case kI1 => k_is)
    (case kL2 => k_is)
    (case kLo2 => k_is)
    (case kLv2 => repeat (first | exact .nil | refine .cons (Exists.intro _ rfl) ?_))
    (case kH2 => k_is)
    (case kI2 => k_is)
    (case kL3 => k_is)
    (case kLo3 => k_is)
    (case kLv3 => repeat (first | exact .nil | refine .cons (Exists.intro _ rfl) ?_))
    (case kI3 => k_is)
    (case kL4 => k_is)
    (case kLo4 => k_is)
    (case kLv4 => repeat (first | exact .nil | refine .cons (Exists.intro _ rfl) ?_))
    (case kI4 => k_is)
    (case kL5 => k_is)
    (case kLo5 => k_is)
    (case kLv5 => repeat (first | exact .nil | refine .cons (Exists.intro _ rfl) ?_))
    (case kH5 => k_is)
    (case kI5 => k_is)
    (case kL6 => k_is)
    (case kLo6 => k_is)
    (case kLv6 => repeat (first | exact .nil | refine .cons (Exists.intro _ rfl) ?_))
    (case kH6 => k_is)
    (case kI6 => k_is)
    (case kL7 => k_is)
    (case kLo7 => k_is)
    (case kLv7 => repeat (first | exact .nil | refine .cons (Exists.intro _ rfl) ?_))
    (case kH7 => k_is)
    (case kI7 => k_is)
    (case kL8 => k_is)
    (case kLo8 => k_is)
    (case kLv8 => repeat (first | exact .nil | refine .cons (Exists.intro _ rfl) ?_))
    (case kH8 => k_is)
    (case kI8 => k_is)
    (case aC => k_is)
    (case pg => k_is)
    (case hd => k_is)
    (case po => k_is)
    (case sa => k_is)
    (case mk => k_is)
    (case kc => k_is)
    (case no_states => k_is)
    (case no_ups => k_is)
    (case no_downs => k_is)
    (case no_marks => k_is)
    (case no_wishes => k_is)
    (case no_answers => k_is)
    (case no_tasks => k_is)
    (case no_idles => k_is)
    (case no_busies => k_is)
    (case no_parts => k_is)
    (case ja => k_is)
    (case ji => k_is)
    (case jl => k_is)
    (case jc => k_is)
    (case jk => k_is)
    (case n0a => k_is)
    (case n0i => k_is)
    (case n0l => k_is)
    (case n0c => k_is)
    (case n0k => k_is)
    (case n1a => k_is)
    (case n1i => k_is)
    (case n1l => k_is)
    (case n1c => k_is)
    (case n1k => k_is)
    (case n2a => k_is)
    (case n2i => k_is)
    (case n2l => k_is)
    (case n2c => k_is)
    (case n2k => k_is)
    (case n3a => k_is)
    (case n3i => k_is)
    (case n3l => k_is)
    (case n3c => k_is)
    (case n3k => k_is)
    (case n4a => k_is)
    (case n4i => k_is)
    (case n4l => k_is)
    (case n4c => k_is)
    (case n4k => k_is)
    (case n5a => k_is)
    (case n5i => k_is)
    (case n5l => k_is)
    (case n5c => k_is)
    (case n5k => k_is)
    (case n6a => k_is)
    (case n6i => k_is)
    (case n6l => k_is)
    (case n6c => k_is)
    (case n6k => k_is)
    (case n7a => k_is)
    (case n7i => k_is)
    (case n7l => k_is)
    (case n7c => k_is)
    (case n7k => k_is)
    (case n8a => k_is)
    (case n8i => k_is)
    (case n8l => k_is)
    (case n8c => k_is)
    (case n8k => k_is)
    (case ib1 => k_is)
    (case ib2 => k_is)
    (case ib3 => k_is)
    (case ib4 => k_is)
    (case kt0 => kit_is)
    (case kt1 => kit_is)
    (case kt2 => kit_is)
    (case kt3 => kit_is)
    (case xb => k_is)
    (case xo => k_is)
    (case xoo => first | rfl | decide +kernel)
    (case xsa => k_is)
    (case xkc => k_is)
    (case xi => k_is)
    (case xit => k_is)
    (case xjl => k_is)
    (case xjc => k_is)
    (case xjk => k_is)
    (case xnp => k_is)
    (case xni => k_is)
    (case xex => k_is)
    (case xty => k_is)
    (case xhd => k_is)
    (case xga => k_is)
    (case xgg => k_is)
    (case xsu => k_is)
#print axioms PySem.Challenge.cw_copybooks_k04_kinds_and_marks_holds
