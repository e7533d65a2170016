import PyProof.Rows.All
import Wide.All
import OpenK.AllK
import Wide.FinOn
import HandS.ForMost
import HandS.IsInst
import HandS.Codes
import HandS.TupAny
import HandS.Deep
import HandS.Walk
import HandS.Conv
import HandS.More
import HandS.CallLocal
import HandS.Zip
import HandS.Small
import HandS.Style
import HandS.OwnEq
import KE.RegKIsAll
import PySem.Challenge.RW_copybooks_k02_equal_books
set_option Elab.async false
set_option linter.all false
set_option maxRecDepth 100000
set_option maxHeartbeats 4000000
namespace My
open PySem L2
def top (i : Nat) : Stmt := PySem.Challenge.pw_copybooks_k02_equal_books.main.body.getD i (.Pass ⟨0, 0, 0, 0⟩)
abbrev s_l_pool : Stmt := top 36
abbrev s_l_draw : Stmt := top 37
abbrev s_l_one : Stmt := top 38
theorem sc_l_pool : FnScope [] [] (defScope s_l_pool) := ⟨rfl, rfl, rfl, by decide +kernel, rfl, by decide +kernel, by decide +kernel⟩
theorem sc_l_draw : FnScope ["_law_script", "_law_pool_here", "_law_limit", "_law_value", "_law_cell", "_law_one_here", "_law_two"] ["_law_script", "_law_pool_here", "_law_limit"] (defScope s_l_draw) := ⟨rfl, rfl, rfl, by decide +kernel, rfl, by decide +kernel, by decide +kernel⟩
theorem sc_l_one : FnScope ["_law_script", "_law_pool_here", "_law_row"] ["_law_script", "_law_pool_here", "_law_row"] (defScope s_l_one) := ⟨rfl, rfl, rfl, by decide +kernel, rfl, by decide +kernel, by decide +kernel⟩
/-! ### what stands where -/
structure DefT (K : PySem.W.Frag) (mg : Str → Option Value) (x qual : Str) (st : Stmt) (ps : List Str) (f : Addr) (fd : FuncData) : Prop where
  m : mg x = some (.ref f)
  F : Fun K x qual st f fd
  b : Binds K fd ps []
structure Zs (mg : Str → Option Value) : Prop where
  int : mg "int" = none
  len : mg "len" = none
  range : mg "range" = none
  isinstance : mg "isinstance" = none
  bool : mg "bool" = none
  str : mg "str" = none
  tuple : mg "tuple" = none
  list : mg "list" = none
  all : mg "all" = none
  enumerate : mg "enumerate" = none
  zip : mg "zip" = none
/-! ### the pool of draws -/
def Pool (H : Hp) (p : Addr) : Prop := ∃ x0 x1 x2 x3 : Int, 0 ≤ x1 ∧ H p = some (.lst [.int x0, .int x1, .int x2, .int x3])
/-- all but the pool is kept -/
structure Kp (p : Addr) (H H' : Hp) : Prop where
  keep : ∀ b o, b ≠ p → H b = some o → H' b = some o
  pool : Pool H' p
theorem Kp.trans {p : Addr} {H H1 H2 : Hp} (a : Kp p H H1) (b : Kp p H1 H2) : Kp p H H2 := ⟨fun c o n h => b.keep c o n (a.keep c o n h), b.pool⟩
theorem Kp.refl {p : Addr} {H : Hp} (h : Pool H p) : Kp p H H := ⟨fun _ _ _ h => h, h⟩
theorem Pool.put {H : Hp} {p : Addr} {x0 x1 x2 x3 : Int} (h : 0 ≤ x1) : Kp p H (upd H p (.lst [.int x0, .int x1, .int x2, .int x3])) := ⟨fun b o n e => by rw [upd_ne n]; exact e, x0, x1, x2, x3, h, upd_same⟩
theorem Kp.new {p q : Addr} {H H' : Hp} {o : HO} (k : Kp p H H') (hq : H' q = none) : Kp p H (upd H' q o) := ⟨fun b u n e => by
  have e' := k.keep b u n e
  rw [upd_ne (ne_of_none e' hq)]
  exact e', by
  obtain ⟨x0, x1, x2, x3, h, e⟩ := k.pool
  exact ⟨x0, x1, x2, x3, h, by rw [upd_ne (ne_of_none e hq)]; exact e⟩⟩
/-- a list that is not the pool -/
structure Row (K : PySem.W.Frag) (H : Hp) (a p : Addr) (xs : List V) : Prop where
  seq : ∀ H', Kp p H H' → SqL K H' a xs
theorem Row.on {K : PySem.W.Frag} {H H' : Hp} {a p : Addr} {xs : List V} (s : Row K H a p xs) (k : Kp p H H') : Row K H' a p xs := ⟨fun H2 k2 => s.seq H2 (k.trans k2)⟩
theorem Row.of {K : PySem.W.Frag} {H : Hp} {a p : Addr} {xs : List V} (h : H a = some (.lst xs)) (n : a ≠ p) : Row K H a p xs := ⟨fun _ k => SqL.of (k.keep _ _ n h)⟩
abbrev Scr (K : PySem.W.Frag) (H : Hp) (a p : Addr) (ns : List Int) : Prop := Row K H a p (ns.map V.int)
def spDraw (K : PySem.W.Frag) : Sp := fun vs H Q _ => ∃ (a p : Addr) (ns : List Int) (m : Int), vs = [.ref a, .ref p, .int m] ∧ Scr K H a p ns ∧ Pool H p ∧ 0 < m ∧ m < 1073741824 ∧
  ∀ (r : Int) (H' : Hp), 0 ≤ r → r < m → Kp p H H' → Q (.int r) H'
section
variable {P : Program} {w : World} {K : PySem.W.Frag} {mg : Str → Option Value} {base : Heap}
theorem mod_in {a m : Int} (h : 0 < m) : 0 ≤ a.fmod m ∧ a.fmod m < m := ⟨Int.fmod_nonneg_of_pos a h, Int.fmod_lt_of_pos a h⟩
theorem n29 : (2147483629 : Int) ≠ 0 := by decide
theorem n26 : (26 : Int) ≠ 0 := by decide
theorem n47 : (2147483647 : Int) ≠ 0 := by decide
theorem at_map {ns : List Int} {k : Int} (h0 : 0 ≤ k) (h : k < (ns.length : Int)) : ∃ v : Int, atI (ns.map V.int) k = some (.int v) := by
  have hk : k.toNat < ns.length := by omega
  have ek : k = ((k.toNat : Nat) : Int) := by omega
  have q : atI (ns.map V.int) ((k.toNat : Nat) : Int) = some (.int ns[k.toNat]) := atI_nat (by rw [List.getElem?_map, List.getElem?_eq_getElem hk] <;> rfl)
  rw [← ek] at q
  exact ⟨_, q⟩
theorem ok_draw {f : Addr} {fd : FuncData} (D : DefT K mg "_law_draw" "_law_draw" s_l_draw ["_law_script", "_law_pool_here", "_law_limit"] f fd) (Z : Zs mg) : FnOk P w K mg base CX0 1 f fd ["_law_script", "_law_pool_here", "_law_limit"] (spDraw K) := by
  refine D.F.ok sc_l_draw (fun vs H Q E h => ?_) (fun cdv A outer s H vs Q E hr h => ?_)
  · obtain ⟨a, p, ns, m, rfl, _⟩ := h
    rfl
  obtain ⟨a, p, ns, m, rfl, hS, ⟨x0, x1, x2, x3, h1, hp⟩, hm, hm2, q⟩ := h
  refine ⟨_, (pss_cons (ps_asg (pe_op op_add (pe_ix ix_list (pv 1) pe_int (fun _ _ => rfl)) pe_int) (pg_sub (pv 1) pe_int set_list)) (pss_cons (ps_if (pt_cmpR op_ge (pe_ix ix_list (pv 1) pe_int (fun _ _ => rfl)) (pv 2) (nomark _)) (pss_cons (ps_set (i := 3) sc_l_draw.nd rfl (Or.inl rfl) (pe_op op_modN (pe_callTy call_int1 (by rfl) Z.int (by decide +kernel) (pa_cons (pe_ix ix_list (pv 1) pe_int (fun _ _ => rfl)) pa_nil)) (pv 2))) (pss_cons (ps_asg (pe_op op_fdivN (pe_ix ix_list (pv 1) pe_int (fun _ _ => rfl)) (pv 2)) (pg_sub (pv 1) pe_int set_list)) (pss_one (ps_ret (pv 3))))) pss_nil) (C8.pss_cut (ps_if (pt_cmpR op_lt (pe_ix ix_list (pv 1) pe_int (fun _ _ => rfl)) (pe_callB call_len_seq (by rfl) Z.len (by decide +kernel) (pa_cons (pv 0) pa_nil)) (nomark _)) (pss_cons (ps_set (i := 4) sc_l_draw.nd rfl (Or.inl rfl) (pe_ix ix_list (pv 0) (pe_ix ix_list (pv 1) pe_int (fun _ _ => rfl)) (fun _ _ => rfl))) (pss_cons (ps_asg (pe_op op_add (pe_ix ix_list (pv 1) pe_int (fun _ _ => rfl)) pe_int) (pg_sub (pv 1) pe_int set_list)) (pss_cons (ps_if (pt_cmpR op_ge (pv 4) (pe_op op_pow pe_int pe_int) (nomark _)) (pss_cons (ps_asg (pe_op op_fdivN (pv 4) (pv 2)) (pg_sub (pv 1) pe_int set_list)) (pss_one (ps_ret (pe_op op_modN (pe_callTy call_int1 (by rfl) Z.int (by decide +kernel) (pa_cons (pv 4) pa_nil)) (pv 2))))) pss_nil) (pss_one (ps_asg (pe_op op_modN (pe_callTy call_int1 (by rfl) Z.int (by decide +kernel) (pa_cons (pe_op op_add (pe_op op_add (pe_op op_mul (pe_ix ix_list (pv 1) pe_int (fun _ _ => rfl)) pe_int) (pe_op op_modN (pe_callTy call_int1 (by rfl) Z.int (by decide +kernel) (pa_cons (pv 4) pa_nil)) pe_int)) pe_int) pa_nil)) pe_int) (pg_sub (pv 1) pe_int set_list)))))) pss_nil) (pss_cons (ps_set (i := 5) sc_l_draw.nd rfl (Or.inl rfl) (pe_op op_modN (pe_callTy call_int1 (by rfl) Z.int (by decide +kernel) (pa_cons (pe_op op_add (pe_op op_add (pe_op op_mul (pe_ix ix_list (pv 1) pe_int (fun _ _ => rfl)) pe_int) (pe_op op_mul (pe_ix ix_list (pv 1) pe_int (fun _ _ => rfl)) pe_int)) pe_int) pa_nil)) pe_int)) (pss_cons (ps_set (i := 6) sc_l_draw.nd rfl (Or.inl rfl) (pe_op op_modN (pe_callTy call_int1 (by rfl) Z.int (by decide +kernel) (pa_cons (pe_op op_add (pe_op op_mul (pv 5) (pe_op op_add (pe_op op_fdivN (pv 5) pe_int) pe_int)) (pe_op op_mul (pe_ix ix_list (pv 1) pe_int (fun _ _ => rfl)) pe_int)) pa_nil)) pe_int)) (pss_one (ps_ret (pe_op op_modN (pe_callTy call_int1 (by rfl) Z.int (by decide +kernel) (pa_cons (pe_op op_fdivN (pv 6) pe_int) pa_nil)) (pv 2))))))))), ?_⟩
  have hm0 : m ≠ 0 := by omega
  have hmA : m.natAbs < 1073741824 := by omega
  -- pool[2] = pool[2] + 1
  refine ⟨_, rfl, p, _, _, _, rfl, rfl, SqL.of hp, rfl, _, _, rfl, rfl, _, rfl, p, _, _, _, rfl, rfl, hp, rfl, ?_⟩
  -- if pool[0] >= limit
  refine ⟨_, rfl, p, _, _, _, rfl, rfl, SqL.of upd_same, rfl, _, rfl, _, _, rfl, rfl, _, rfl, ?_⟩
  refine ite2 (fun _ => ?_) (fun _ => ?_)
  · refine ⟨_, rfl, p, _, _, _, rfl, rfl, SqL.of upd_same, rfl, .inl ⟨_, rfl, ?_⟩⟩
    refine ⟨_, rfl, _, _, rfl, rfl, hm0, ?_⟩
    refine ⟨_, rfl, p, _, _, _, rfl, rfl, SqL.of upd_same, rfl, _, rfl, _, _, rfl, rfl, ⟨hm0, hmA⟩, _, rfl, p, _, _, _, rfl, rfl, upd_same, rfl, ?_⟩
    refine ⟨_, rfl, ?_⟩
    exact q _ _ (mod_in hm).1 (mod_in hm).2 (by rw [upd_upd]; exact Pool.put h1)
  have hl : (ns.map V.int).length = ns.length := List.length_map _
  have hS' : ∀ l' : List V, (∃ y0 y1 y2 y3 : Int, 0 ≤ y1 ∧ l' = [.int y0, .int y1, .int y2, .int y3]) → SqL K (upd H p (.lst l')) a (ns.map V.int) := by
    rintro _ ⟨y0, y1, y2, y3, hy, rfl⟩
    exact hS.seq _ (Pool.put hy)
  -- if pool[1] < len(script)
  refine ⟨fun σ' H' => ∃ (y0 y1 y2 y3 : Int) (v : Option V), 0 ≤ y1 ∧ σ' = [some (.ref a), some (.ref p), some (.int m), none, v, none, none] ∧ H' = upd H p (.lst [.int y0, .int y1, .int y2, .int y3]), ?_, ?_⟩
  case refine_1 =>
   refine ⟨_, rfl, p, _, _, _, rfl, rfl, SqL.of upd_same, rfl, _, rfl, a, _, rfl, .inl (hS' _ ⟨_, _, _, _, h1, rfl⟩), _, _, rfl, rfl, _, rfl, ?_⟩
   refine ite2 (fun c => ?_) (fun _ => ?_)
   · have c' : x1 < (((ns.map V.int).length : Nat) : Int) := of_decide_eq_true c
     rw [hl] at c'
     obtain ⟨z, hz⟩ := at_map h1 c'
     refine ⟨_, rfl, _, rfl, p, _, _, _, rfl, rfl, SqL.of upd_same, rfl, a, _, _, _, rfl, rfl, hS' _ ⟨_, _, _, _, h1, rfl⟩, hz, ?_⟩
     refine ⟨_, rfl, p, _, _, _, rfl, rfl, SqL.of upd_same, rfl, _, _, rfl, rfl, _, rfl, p, _, _, _, rfl, rfl, upd_same, rfl, ?_⟩
     refine ⟨_, rfl, _, _, rfl, rfl, ⟨by decide, by decide, by decide⟩, _, _, rfl, rfl, _, rfl, ?_⟩
     refine ite2 (fun _ => ?_) (fun _ => ?_)
     · refine ⟨_, rfl, _, rfl, _, _, rfl, rfl, ⟨hm0, hmA⟩, _, rfl, p, _, _, _, rfl, rfl, upd_same, rfl, ?_⟩
       refine ⟨_, rfl, .inl ⟨_, rfl, ?_⟩⟩
       refine ⟨_, rfl, _, _, rfl, rfl, hm0, ?_⟩
       exact q _ _ (mod_in hm).1 (mod_in hm).2 (by rw [upd_upd, upd_upd]; exact Pool.put (by show (0 : Int) ≤ x1 + 1; omega))
     · refine ⟨_, rfl, p, _, _, _, rfl, rfl, SqL.of upd_same, rfl, _, _, rfl, rfl, .inr ⟨by decide, by decide⟩, _, rfl, .inl ⟨_, rfl, _, _, rfl, rfl, n29, _, _, rfl, rfl, _, _, rfl, rfl, .inl ⟨_, rfl, _, _, rfl, rfl, n47, ?_⟩⟩⟩
       refine ⟨_, rfl, p, _, _, _, rfl, rfl, upd_same, rfl, ?_⟩
       refine ⟨_, _, _, _, _, ?_, rfl, by rw [upd_upd, upd_upd] <;> rfl⟩
       show (0 : Int) ≤ x1 + 1
       omega
   · exact ⟨_, _, _, _, _, h1, rfl, rfl⟩
  case refine_2 =>
   rintro _ _ ⟨y0, y1, y2, y3, v, hy, rfl, rfl⟩
   refine ⟨_, rfl, p, _, _, _, rfl, rfl, SqL.of upd_same, rfl, _, _, rfl, rfl, .inr ⟨by decide, by decide⟩, _, rfl, p, _, _, _, rfl, rfl, SqL.of upd_same, rfl, _, _, rfl, rfl, .inr ⟨by decide, by decide⟩, _, _, rfl, rfl, _, _, rfl, rfl, .inl ⟨_, rfl, _, _, rfl, rfl, n47, ?_⟩⟩
   have zb := mod_in (a := (y3 * 48271 + y2 * 1103515245 + 12345)) (m := 2147483647) (by decide)
   refine ⟨_, rfl, _, rfl, _, _, rfl, rfl, ⟨by decide, by decide⟩, _, _, rfl, rfl, _, _, rfl, rfl, .inl ⟨by omega, by omega⟩, _, rfl, p, _, _, _, rfl, rfl, SqL.of upd_same, rfl, _, _, rfl, rfl, .inr ⟨by decide, by decide⟩, _, _, rfl, rfl, .inl ⟨_, rfl, _, _, rfl, rfl, n29, ?_⟩⟩
   refine ⟨_, rfl, _, _, rfl, rfl, ⟨by decide, by decide⟩, .inl ⟨_, rfl, _, rfl, _, _, rfl, rfl, hm0, ?_⟩⟩
   exact q _ _ (mod_in hm).1 (mod_in hm).2 (Pool.put hy)
def spPool : Sp := fun vs H Q _ => vs = [] ∧ ∀ p H', Same H H' → H p = none → Pool H' p → (∀ b, b ≠ p → H' b = H b) → Q (.ref p) H'
theorem ok_pool {f : Addr} {fd : FuncData} (D : DefT K mg "_law_pool" "_law_pool" s_l_pool [] f fd) : FnOk P w K mg base CX0 1 f fd [] spPool := by
  refine D.F.ok sc_l_pool (fun vs H Q E h => ?_) (fun cdv A outer s H vs Q E hr h => ?_)
  · obtain ⟨rfl, _⟩ := h
    rfl
  obtain ⟨rfl, q⟩ := h
  refine ⟨_, (pss_one (ps_ret (pe_lst (pa_cons pe_int (pa_cons pe_int (pa_cons pe_int (pa_cons pe_int pa_nil))))))), ?_⟩
  exact ⟨(by show 4 ≤ sizeLine; decide), fun p hp => q p _ (fun b o e => by rw [upd_ne (ne_of_none e hp)]; exact e) hp ⟨0, 0, 0, 1, by decide, upd_same⟩ fun b n => upd_ne n⟩
/-- an item of a row that is not empty -/
def spOne (K : PySem.W.Frag) : Sp := fun vs H Q _ => ∃ (a p r : Addr) (ns : List Int) (xs : List V), vs = [.ref a, .ref p, .ref r] ∧ Scr K H a p ns ∧ Row K H r p xs ∧ Pool H p ∧ 0 < xs.length ∧ xs.length < 1073741824 ∧
  ∀ (i : Nat) (x : V) (H' : Hp), xs[i]? = some x → Kp p H H' → Q x H'
theorem ok_one {f fD : Addr} {fd fdD : FuncData} (D : DefT K mg "_law_one" "_law_one" s_l_one ["_law_script", "_law_pool_here", "_law_row"] f fd) (Z : Zs mg) (D_l_draw : DefT K mg "_law_draw" "_law_draw" s_l_draw ["_law_script", "_law_pool_here", "_law_limit"] fD fdD) : FnOk P w K mg base CX0 2 f fd ["_law_script", "_law_pool_here", "_law_row"] (spOne K) := by
  have G_l_draw := ok_draw (P := P) (w := w) (base := base) D_l_draw Z
  refine D.F.ok sc_l_one (fun vs H Q E h => ?_) (fun cdv A outer s H vs Q E hr h => ?_)
  · obtain ⟨a, p, r, ns, xs, rfl, _⟩ := h
    rfl
  obtain ⟨a, p, r, ns, xs, rfl, hS, hR, hP, h0, h1, q⟩ := h
  refine ⟨_, (pss_one (ps_ret (pe_ix ix_list (pv 2) (pe_call G_l_draw (hr.mono (by decide)) rfl D_l_draw.m D_l_draw.F.kp D_l_draw.b .nil pass0 (pa_cons (pv 0) (pa_cons (pv 1) (pa_cons (pe_callB call_len_seq (by rfl) Z.len (by decide +kernel) (pa_cons (pv 2) pa_nil)) pa_nil)))) (fun _ _ => rfl)))), ?_⟩
  refine ⟨_, rfl, _, rfl, _, rfl, _, rfl, r, xs, rfl, .inl (hR.seq _ (.refl hP)), a, p, ns, _, rfl, hS, hP, by omega, by omega, fun i H' i0 i1 k => ?_⟩
  have hi : i.toNat < xs.length := by omega
  have e : i = ((i.toNat : Nat) : Int) := by omega
  have hx : xs[i.toNat]? = some xs[i.toNat] := List.getElem?_eq_getElem hi
  refine ⟨r, xs, i, xs[i.toNat], rfl, rfl, hR.seq _ k, ?_, q _ _ _ hx k⟩
  have e2 := atI_nat hx
  rw [← e] at e2
  exact e2
end
end My

namespace My
open PySem L2
abbrev s_l_maybe : Stmt := top 39
abbrev s_l_word : Stmt := top 40
abbrev s_l_name : Stmt := top 41
abbrev s_l_names : Stmt := top 42
theorem sc_l_maybe : FnScope ["_law_script", "_law_pool_here", "_law_row"] ["_law_script", "_law_pool_here", "_law_row"] (defScope s_l_maybe) := ⟨rfl, rfl, rfl, by decide +kernel, rfl, by decide +kernel, by decide +kernel⟩
theorem sc_l_word : FnScope ["_law_script", "_law_pool_here", "_law_size", "_law_number", "_law_rest", "_law_word_here", "_law_k"] ["_law_script", "_law_pool_here"] (defScope s_l_word) := ⟨rfl, rfl, rfl, by decide +kernel, rfl, by decide +kernel, by decide +kernel⟩
theorem sc_l_name : FnScope ["_law_script", "_law_pool_here", "_law_taken", "_law_others", "_law_word_here", "_law_k", "_law_near"] ["_law_script", "_law_pool_here", "_law_taken", "_law_others"] (defScope s_l_name) := ⟨rfl, rfl, rfl, by decide +kernel, rfl, by decide +kernel, by decide +kernel⟩
theorem sc_l_names : FnScope ["_law_script", "_law_pool_here", "_law_size", "_law_others", "_law_names_here", "_law_k"] ["_law_script", "_law_pool_here", "_law_size", "_law_others"] (defScope s_l_names) := ⟨rfl, rfl, rfl, by decide +kernel, rfl, by decide +kernel, by decide +kernel⟩
theorem sz (n : Nat) (h : n ≤ 1000 := by decide) : n ≤ sizeLine := Nat.le_of_lt (small1000 h)
theorem keep_new {H : Hp} {q : Addr} {o : HO} (h : H q = none) (b : Addr) (u : HO) (e : H b = some u) : upd H q o b = some u := by
  rw [upd_ne (ne_of_none e h)]
  exact e
theorem Kp.ne {p q : Addr} {H H' : Hp} (k : Kp p H H') (h : H' q = none) : q ≠ p := by
  obtain ⟨_, _, _, _, _, e⟩ := k.pool
  exact (ne_of_none e h).symm
theorem Kp.put {p q : Addr} {H H' : Hp} {o : HO} (k : Kp p H H') (hq : H q = none) (n : q ≠ p) : Kp p H (upd H' q o) := ⟨fun b u nb e => by
  rw [upd_ne (ne_of_none e hq)]
  exact k.keep b u nb e, by
  obtain ⟨x0, x1, x2, x3, h, e⟩ := k.pool
  exact ⟨x0, x1, x2, x3, h, by rw [upd_ne (Ne.symm n)]; exact e⟩⟩
theorem Kp.free {p q : Addr} {H H' : Hp} (k : Kp p H H') (h : H' q = none) : H q = none := by
  have n := k.ne h
  cases e : H q with
  | none => rfl
  | some o =>
    have := k.keep _ _ n e
    rw [h] at this
    cases this
/-! ### names -/
/-- a name: 1 to 8 letters -/
def Nm (s : Str) : Prop := 1 ≤ s.length ∧ s.length ≤ 8 ∧ ∀ c ∈ s.cps.toList, 97 ≤ c ∧ c ≤ 122
theorem str_len (s : Str) : s.length = s.cps.toList.length := by
  unfold Str.length
  exact (Array.length_toList).symm
theorem cat_codes (a b : Str) : (a ++ b).cps.toList = a.cps.toList ++ b.cps.toList := by
  show (a.cps ++ b.cps).toList = _
  exact Array.toList_append
theorem cat_len (a b : Str) : (a ++ b).length = a.length + b.length := by
  rw [str_len, cat_codes, List.length_append, ← str_len, ← str_len]
theorem str_ext {a b : Str} (h : a.cps.toList = b.cps.toList) : a = b := by
  obtain ⟨x⟩ := a
  obtain ⟨y⟩ := b
  have e : x = y := by
    apply Array.ext'
    exact h
  rw [e]
theorem abc_nat : ∀ n : Fin 26, ("abcdefghijklmnopqrstuvwxyz" : Str).cps.toList[n.val]? = some (97 + n.val) := by decide +kernel
theorem abc_at {i : Int} (h0 : 0 ≤ i) (h1 : i < 26) : atI ("abcdefghijklmnopqrstuvwxyz" : Str).cps.toList i = some (97 + i.toNat) := by
  have hn : i.toNat < 26 := by omega
  have e := atI_nat (abc_nat ⟨i.toNat, hn⟩)
  have ei : ((i.toNat : Nat) : Int) = i := by omega
  rw [show (((⟨i.toNat, hn⟩ : Fin 26).val : Nat) : Int) = i from ei] at e
  exact e
theorem eqV_str (a b : Str) : eqV (.str a) (.str b) = (a == b) := rfl
theorem in_strs (w : Str) : ∀ ts : List Str, inV (.str w) (ts.map V.str) = decide (w ∈ ts)
  | [] => by
    rw [decide_eq_false (by simp)]
    rfl
  | t :: ts => by
    show (eqV (.str t) (.str w) || inV (.str w) (ts.map V.str)) = _
    rw [in_strs w ts, eqV_str]
    by_cases e : t = w
    · subst e
      simp
    · have e1 : (t == w) = false := by simpa using e
      have e2 : decide (w ∈ t :: ts) = decide (w ∈ ts) := by
        by_cases m : w ∈ ts
        · rw [decide_eq_true m, decide_eq_true (List.mem_cons_of_mem _ m)]
        · rw [decide_eq_false m, decide_eq_false (fun z => by
            rcases List.mem_cons.mp z with z | z
            · exact e z.symm
            · exact m z)]
      rw [e1, e2]
      rfl
theorem flat_strs (ts : List Str) : (ts.map V.str).all flatV = true := by
  rw [List.all_eq_true]
  intro x hx
  obtain ⟨s, _, rfl⟩ := List.mem_map.mp hx
  rfl
/-- a list without doubles in another one is not longer -/
theorem nodup_le {α : Type} [DecidableEq α] : ∀ {xs ys : List α}, xs.Nodup → (∀ x ∈ xs, x ∈ ys) → xs.length ≤ ys.length
  | [], _, _, _ => Nat.zero_le _
  | x :: xs, ys, hn, hm => by
    have hx := hm x List.mem_cons_self
    have hn' := List.nodup_cons.mp hn
    have q := nodup_le (xs := xs) (ys := ys.erase x) hn'.2 fun z hz => by
      have nz : z ≠ x := fun e => hn'.1 (e ▸ hz)
      exact (List.mem_erase_of_ne nz).mpr (hm z (List.mem_cons_of_mem _ hz))
    rw [List.length_erase_of_mem hx] at q
    have : 0 < ys.length := List.length_pos_of_mem hx
    show xs.length + 1 ≤ ys.length
    omega
def spMaybe (K : PySem.W.Frag) : Sp := fun vs H Q _ => ∃ (a p r : Addr) (ns : List Int) (xs : List V), vs = [.ref a, .ref p, .ref r] ∧ Scr K H a p ns ∧ Row K H r p xs ∧ Pool H p ∧ 0 < xs.length ∧ xs.length < 1073741824 ∧
  ∀ (x : V) (H' : Hp), (x = .non ∨ x ∈ xs) → Kp p H H' → Q x H'
def spWord (K : PySem.W.Frag) : Sp := fun vs H Q _ => ∃ (a p : Addr) (ns : List Int), vs = [.ref a, .ref p] ∧ Scr K H a p ns ∧ Pool H p ∧ ∀ (s : Str) (H' : Hp), Nm s → Kp p H H' → Q (.str s) H'
def spName (K : PySem.W.Frag) : Sp := fun vs H Q _ => ∃ (a p t o : Addr) (ns : List Int) (ts os : List Str), vs = [.ref a, .ref p, .ref t, .ref o] ∧ Scr K H a p ns ∧ Pool H p ∧ Row K H t p (ts.map V.str) ∧ Row K H o p (os.map V.str) ∧ os.length < 1000 ∧ (∀ s ∈ os, Nm s) ∧ ts.length ≤ 25 ∧
  ∀ (s : Str) (H' : Hp), Nm s → s ∉ ts → Kp p H H' → Q (.str s) H'
def spNames (K : PySem.W.Frag) : Sp := fun vs H Q _ => ∃ (a p o : Addr) (ns : List Int) (m : Nat) (os : List Str), vs = [.ref a, .ref p, .int (m : Int), .ref o] ∧ Scr K H a p ns ∧ Pool H p ∧ Row K H o p (os.map V.str) ∧ os.length < 1000 ∧ (∀ s ∈ os, Nm s) ∧ m ≤ 25 ∧
  ∀ (l : Addr) (ss : List Str) (H' : Hp), ss.length = m → ss.Nodup → (∀ s ∈ ss, Nm s) → H l = none → H' l = some (.lst (ss.map V.str)) → Kp p H H' → Q (.ref l) H'
section
variable {P : Program} {w : World} {K : PySem.W.Frag} {mg : Str → Option Value} {base : Heap}
theorem ok_maybe {f fD fO : Addr} {fd fdD fdO : FuncData} (D : DefT K mg "_law_maybe" "_law_maybe" s_l_maybe ["_law_script", "_law_pool_here", "_law_row"] f fd) (Z : Zs mg) (D_l_draw : DefT K mg "_law_draw" "_law_draw" s_l_draw ["_law_script", "_law_pool_here", "_law_limit"] fD fdD)
    (D_l_one : DefT K mg "_law_one" "_law_one" s_l_one ["_law_script", "_law_pool_here", "_law_row"] fO fdO) : FnOk P w K mg base CX0 3 f fd ["_law_script", "_law_pool_here", "_law_row"] (spMaybe K) := by
  have G_l_draw := ok_draw (P := P) (w := w) (base := base) D_l_draw Z
  have G_l_one := ok_one (P := P) (w := w) (base := base) D_l_one Z D_l_draw
  refine D.F.ok sc_l_maybe (fun vs H Q E h => ?_) (fun cdv A outer s H vs Q E hr h => ?_)
  · obtain ⟨a, p, r, ns, xs, rfl, _⟩ := h
    rfl
  obtain ⟨a, p, r, ns, xs, rfl, hS, hR, hP, h0, h1, q⟩ := h
  refine ⟨_, (pss_cons (ps_if (pt_cmpR op_eq (pe_call G_l_draw (hr.mono (by decide)) rfl D_l_draw.m D_l_draw.F.kp D_l_draw.b .nil pass0 (pa_cons (pv 0) (pa_cons (pv 1) (pa_cons pe_int pa_nil)))) pe_int (nomark _)) (pss_one (ps_ret pe_non)) pss_nil) (pss_one (ps_ret (pe_call G_l_one (hr.mono (by decide)) rfl D_l_one.m D_l_one.F.kp D_l_one.b .nil pass0 (pa_cons (pv 0) (pa_cons (pv 1) (pa_cons (pv 2) pa_nil))))))), ?_⟩
  refine ⟨_, rfl, _, rfl, a, p, ns, _, rfl, hS, hP, by decide, by decide, fun i H' i0 i1 k => ?_⟩
  refine ⟨rfl, _, rfl, ite2 (fun _ => q _ _ (.inl rfl) k) (fun _ => ?_)⟩
  exact ⟨_, rfl, _, rfl, _, rfl, a, p, r, ns, xs, rfl, hS.on k, hR.on k, k.pool, h0, h1, fun i x H2 hx k2 => q _ _ (.inr (List.mem_of_getElem? hx)) (k.trans k2)⟩
theorem ok_word {f fD : Addr} {fd fdD : FuncData} (D : DefT K mg "_law_word" "_law_word" s_l_word ["_law_script", "_law_pool_here"] f fd) (Z : Zs mg) (D_l_draw : DefT K mg "_law_draw" "_law_draw" s_l_draw ["_law_script", "_law_pool_here", "_law_limit"] fD fdD) : FnOk P w K mg base CX0 2 f fd ["_law_script", "_law_pool_here"] (spWord K) := by
  have G_l_draw := ok_draw (P := P) (w := w) (base := base) D_l_draw Z
  refine D.F.ok sc_l_word (fun vs H Q E h => ?_) (fun cdv A outer s H vs Q E hr h => ?_)
  · obtain ⟨a, p, ns, rfl, _⟩ := h
    rfl
  obtain ⟨a, p, ns, rfl, hS, hP, q⟩ := h
  refine ⟨_, (pss_cons (ps_set (i := 2) sc_l_word.nd rfl (Or.inl rfl) (pe_op op_add pe_int (pe_call G_l_draw (hr.mono (by decide)) rfl D_l_draw.m D_l_draw.F.kp D_l_draw.b .nil pass0 (pa_cons (pv 0) (pa_cons (pv 1) (pa_cons pe_int pa_nil)))))) (pss_cons (ps_set (i := 3) sc_l_word.nd rfl (Or.inl rfl) (pe_call G_l_draw (hr.mono (by decide)) rfl D_l_draw.m D_l_draw.F.kp D_l_draw.b .nil pass0 (pa_cons (pv 0) (pa_cons (pv 1) (pa_cons pe_int pa_nil))))) (pss_cons (ps_set (i := 4) sc_l_word.nd rfl (Or.inl rfl) (pe_call G_l_draw (hr.mono (by decide)) rfl D_l_draw.m D_l_draw.F.kp D_l_draw.b .nil pass0 (pa_cons (pv 0) (pa_cons (pv 1) (pa_cons pe_int pa_nil))))) (pss_cons (ps_set (i := 5) sc_l_word.nd rfl (Or.inl rfl) pe_str) (pss_cons (ps_for PassesOwn.never rfl (pi_range1 rfl Z.range (pa_cons (pv 2) pa_nil)) (pg_name (i := 6) sc_l_word.nd rfl (Or.inl rfl)) (C8.pss_cut (ps_if (pt_cmpR op_eq (pv 6) pe_int (nomark _)) (pss_one (ps_set (i := 3) sc_l_word.nd rfl (Or.inl rfl) (pv 4))) pss_nil) (pss_cons (ps_set (i := 5) sc_l_word.nd rfl (Or.inl rfl) (pe_op op_add_str (pv 5) (pe_ix ix_str pe_str (pe_op op_modN (pe_callTy call_int1 (by rfl) Z.int (by decide +kernel) (pa_cons (pv 3) pa_nil)) pe_int) (fun _ _ => rfl)))) (pss_one (ps_set (i := 3) sc_l_word.nd rfl (Or.inl rfl) (pe_op op_fdivN (pv 3) pe_int)))))) (pss_one (ps_ret (pv 5)))))))), ?_⟩
  refine ⟨_, rfl, _, rfl, a, p, ns, _, rfl, hS, hP, by decide, by decide, fun n H1 n0 n1 k1 => ?_⟩
  refine ⟨_, _, rfl, rfl, ?_⟩
  refine ⟨_, rfl, _, rfl, a, p, ns, _, rfl, hS.on k1, k1.pool, by decide, by decide, fun x H2 _ _ k2 => ?_⟩
  have k12 := k1.trans k2
  refine ⟨_, rfl, _, rfl, a, p, ns, _, rfl, hS.on k12, k2.pool, by decide, by decide, fun y H3 _ _ k3 => ?_⟩
  have k13 := k12.trans k3
  refine ⟨_, rfl, _, rfl, by omega, by omega, ?_⟩
  have en : (1 + n).toNat = n.toNat + 1 := by omega
  refine for_range (fun i σ G => ∃ (x : Int) (z : Str) (v : Option V), σ = [some (.ref a), some (.ref p), some (.int (1 + n)), some (.int x), some (.int y), some (.str z), v] ∧ G = H3 ∧ i ≤ (1 + n).toNat ∧ z.length = i ∧ ∀ c ∈ z.cps.toList, 97 ≤ c ∧ c ≤ 122)
    ⟨x, "", none, rfl, rfl, Nat.zero_le _, by decide, fun c hc => by cases hc⟩ ?_ ?_
  · rintro i σ G hi ⟨x, z, v, rfl, rfl, _, hz, hc⟩
    refine ⟨fun σ' H' => ∃ x' : Int, σ' = [some (.ref a), some (.ref p), some (.int (1 + n)), some (.int x'), some (.int y), some (.str z), some (.int (0 + (i : Int)))] ∧ H' = G, ?_, ?_⟩
    · refine ⟨_, rfl, rfl, _, rfl, ite2 (fun _ => ?_) (fun _ => ?_)⟩
      · exact ⟨_, rfl, _, rfl, rfl⟩
      · exact ⟨_, rfl, rfl⟩
    rintro _ _ ⟨x', rfl, rfl⟩
    have mb := mod_in (a := x') (m := 26) (by decide)
    refine ⟨_, rfl, _, rfl, .inl ⟨_, rfl, _, _, rfl, rfl, n26, _, _, _, rfl, rfl, sz 26, abc_at mb.1 mb.2, _, _, rfl, rfl, ?_, ?_⟩⟩
    · show z.length + 1 ≤ sizeLine
      exact Nat.le_trans (show z.length + 1 ≤ 1000 by omega) (by decide)
    refine ⟨_, rfl, _, _, rfl, rfl, ⟨by decide, by decide⟩, ?_⟩
    refine ⟨_, _, _, rfl, rfl, by omega, ?_, fun c m => ?_⟩
    · rw [cat_len, hz]
      rfl
    · rw [cat_codes] at m
      rcases List.mem_append.mp m with m | m
      · exact hc c m
      · have e : c = 97 + (x'.fmod 26).toNat := by
          rcases List.mem_cons.mp m with e | e
          · exact e
          · cases e
        omega
  · rintro σ G ⟨x, z, v, rfl, rfl, _, hz, hc⟩
    exact ⟨_, rfl, q z _ ⟨by omega, by omega, hc⟩ k13⟩
/-- the word with another last letter -/
def near (w : Str) (k : Nat) : Str := cutS w none (some 7) ++ ⟨#[97 + k]⟩
theorem cut_codes (w : Str) : (cutS w none (some 7)).cps.toList = w.cps.toList.take 7 := by
  show ((w.cps.toList.drop 0).take (HT.sIx w.length w.length (some ((7 : Nat) : Int)) - 0)) = _
  rw [HT.sIx_nat, List.drop_zero, Nat.sub_zero, str_len, ← List.take_take, List.take_length]
theorem near_codes (w : Str) (k : Nat) : (near w k).cps.toList = w.cps.toList.take 7 ++ [97 + k] := by
  unfold near
  rw [cat_codes, cut_codes]
theorem near_nm {w : Str} (h : Nm w) {k : Nat} (hk : k < 26) : Nm (near w k) := by
  obtain ⟨_, _, h3⟩ := h
  have e := near_codes w k
  have el : (near w k).length = (w.cps.toList.take 7).length + 1 := by rw [str_len, e, List.length_append, List.length_singleton]
  have l7 : (w.cps.toList.take 7).length ≤ 7 := by rw [List.length_take]; omega
  refine ⟨by omega, by omega, fun c hc => ?_⟩
  rw [e] at hc
  rcases List.mem_append.mp hc with m | m
  · exact h3 c (List.mem_of_mem_take m)
  · rcases List.mem_cons.mp m with m | m
    · omega
    · cases m
theorem near_inj {w : Str} {j k : Nat} (h : near w j = near w k) : j = k := by
  have e : (near w j).cps.toList = (near w k).cps.toList := by rw [h]
  rw [near_codes, near_codes] at e
  have e2 := List.append_cancel_left e
  have e3 : 97 + j = 97 + k := (List.cons.inj e2).1
  omega
theorem near_all {w : Str} {ts : List Str} (h : ∀ j, j < 26 → near w j ∈ ts) : 26 ≤ ts.length := by
  have nd : ((List.range 26).map (near w)).Nodup := List.Pairwise.map _ (fun a b n e => n (near_inj e)) List.nodup_range
  have q := nodup_le nd fun x hx => by
    obtain ⟨j, hj, rfl⟩ := List.mem_map.mp hx
    exact h j (List.mem_range.mp hj)
  rw [List.length_map, List.length_range] at q
  exact q
theorem ok_name {f fD fO fW : Addr} {fd fdD fdO fdW : FuncData} (D : DefT K mg "_law_name" "_law_name" s_l_name ["_law_script", "_law_pool_here", "_law_taken", "_law_others"] f fd) (Z : Zs mg) (D_l_draw : DefT K mg "_law_draw" "_law_draw" s_l_draw ["_law_script", "_law_pool_here", "_law_limit"] fD fdD)
    (D_l_one : DefT K mg "_law_one" "_law_one" s_l_one ["_law_script", "_law_pool_here", "_law_row"] fO fdO) (D_l_word : DefT K mg "_law_word" "_law_word" s_l_word ["_law_script", "_law_pool_here"] fW fdW) : FnOk P w K mg base CX0 3 f fd ["_law_script", "_law_pool_here", "_law_taken", "_law_others"] (spName K) := by
  have G_l_draw := ok_draw (P := P) (w := w) (base := base) D_l_draw Z
  have G_l_one := ok_one (P := P) (w := w) (base := base) D_l_one Z D_l_draw
  have G_l_word := ok_word (P := P) (w := w) (base := base) D_l_word Z D_l_draw
  refine D.F.ok sc_l_name (fun vs H Q E h => ?_) (fun cdv A outer s H vs Q E hr h => ?_)
  · obtain ⟨a, p, t, o, ns, ts, os, rfl, _⟩ := h
    rfl
  obtain ⟨a, p, t, o, ns, ts, os, rfl, hS, hP, hT, hO, ol, hos, h25, q⟩ := h
  refine ⟨_, (pss_cons (ps_set (i := 4) sc_l_name.nd rfl (Or.inl rfl) (pe_call G_l_word (hr.mono (by decide)) rfl D_l_word.m D_l_word.F.kp D_l_word.b .nil pass0 (pa_cons (pv 0) (pa_cons (pv 1) pa_nil)))) (C8.pss_cut (ps_if (PW.pt (pw_and (pt_cmpR op_gt (pe_callB call_len_seq (by rfl) Z.len (by decide +kernel) (pa_cons (pv 3) pa_nil)) pe_int (nomark _)) (pw_and1 (pt_cmpR op_eq (pe_call G_l_draw (hr.mono (by decide)) rfl D_l_draw.m D_l_draw.F.kp D_l_draw.b .nil pass0 (pa_cons (pv 0) (pa_cons (pv 1) (pa_cons pe_int pa_nil)))) pe_int (nomark _))))) (pss_one (ps_set (i := 4) sc_l_name.nd rfl (Or.inl rfl) (pe_call G_l_one (hr.mono (by decide)) rfl D_l_one.m D_l_one.F.kp D_l_one.b .nil pass0 (pa_cons (pv 0) (pa_cons (pv 1) (pa_cons (pv 3) pa_nil)))))) pss_nil) (pss_cons (ps_if (pt_cmpR op_notIn_seq (pv 4) (pv 2) (by rfl)) (pss_one (ps_ret (pv 4))) pss_nil) (pss_cons (ps_for PassesOwn.never rfl (pi_range1 rfl Z.range (pa_cons pe_int pa_nil)) (pg_name (i := 5) sc_l_name.nd rfl (Or.inl rfl)) (pss_cons (ps_set (i := 6) sc_l_name.nd rfl (Or.inl rfl) (pe_op op_add_str (pe_slice sl_str (pv 4) po_none (po_some pe_int)) (pe_ix ix_str pe_str (pv 5) (fun _ _ => rfl)))) (pss_one (ps_if (pt_cmpR op_notIn_seq (pv 6) (pv 2) (by rfl)) (pss_one (ps_ret (pv 6))) pss_nil)))) (pss_one (ps_ret (pv 4))))))), ?_⟩
  refine ⟨_, rfl, _, rfl, a, p, ns, rfl, hS, hP, fun z H1 hz k1 => ?_⟩
  refine ⟨fun σ' H' => ∃ z' : Str, σ' = [some (.ref a), some (.ref p), some (.ref t), some (.ref o), some (.str z'), none, none] ∧ Nm z' ∧ Kp p H H', ?_, ?_⟩
  · refine ⟨_, rfl, o, _, rfl, .inl (hO.seq _ k1), _, _, rfl, rfl, _, rfl, ite2 (fun c => ?_) (fun _ => iteF ⟨_, rfl, hz, k1⟩)⟩
    have c' : (0 : Int) < (((os.map V.str).length : Nat) : Int) := of_decide_eq_true c
    rw [List.length_map] at c'
    refine ⟨_, rfl, _, rfl, a, p, ns, _, rfl, hS.on k1, k1.pool, by decide, by decide, fun r H2 _ _ k2 => ⟨rfl, _, rfl, ite2 (fun _ => ?_) (fun _ => ⟨_, rfl, hz, k1.trans k2⟩)⟩⟩
    have k12 := k1.trans k2
    refine ⟨_, rfl, _, rfl, _, rfl, a, p, o, ns, _, rfl, hS.on k12, hO.on k12, k2.pool, by rw [List.length_map]; omega, by rw [List.length_map]; omega, fun i x H3 hx k3 => ?_⟩
    obtain ⟨z2, hz2, rfl⟩ := List.mem_map.mp (List.mem_of_getElem? hx)
    exact ⟨_, rfl, hos _ hz2, k12.trans k3⟩
  rintro _ H2 ⟨z2, rfl, hz2, k2⟩
  refine ⟨_, rfl, _, rfl, t, _, rfl, .inl (hT.seq _ k2), rfl, flat_strs ts, _, rfl, ?_⟩
  rw [in_strs]
  refine ite2 (fun c => ?_) (fun c => ?_)
  · have nm : z2 ∉ ts := fun m => by
      rw [if_pos rfl, decide_eq_true m] at c
      cases c
    exact ⟨_, rfl, q _ _ hz2 nm k2⟩
  refine ⟨26, rfl, by decide, by decide, ?_⟩
  refine for_range (n := 26) (fun i σ G => ∃ v5 v6 : Option V, σ = [some (.ref a), some (.ref p), some (.ref t), some (.ref o), some (.str z2), v5, v6] ∧ G = H2 ∧ ∀ j, j < i → near z2 j ∈ ts)
    ⟨_, _, rfl, rfl, fun j hj => absurd hj (Nat.not_lt_zero _)⟩ ?_ ?_
  · rintro i σ G hi ⟨v5, v6, rfl, rfl, hn⟩
    have hl8 := hz2.2.1
    refine ⟨_, rfl, _, rfl, _, rfl, Nat.le_trans (show z2.length ≤ 1000 by omega) (by decide), _, rfl, _, _, _, rfl, rfl, sz 26, abc_at (by omega) (by omega), _, _, rfl, rfl, ?_, ?_⟩
    · have l7 : (cutS z2 none (some 7)).length ≤ 7 := by
        rw [str_len, cut_codes, List.length_take]
        omega
      show (cutS z2 none (some 7)).length + 1 ≤ sizeLine
      exact Nat.le_trans (show _ ≤ 1000 by omega) (by decide)
    have en : (0 + (i : Int)).toNat = i := by omega
    rw [en]
    refine ⟨_, rfl, _, rfl, t, _, rfl, .inl (hT.seq _ k2), rfl, flat_strs ts, _, rfl, ?_⟩
    show if (if true = true then !inV (V.str (near z2 i)) (ts.map V.str) else inV (V.str (near z2 i)) (ts.map V.str)) = true then _ else _
    rw [in_strs]
    by_cases m : near z2 i ∈ ts
    · rw [decide_eq_true m]
      refine iteF ⟨_, _, rfl, rfl, fun j hj => ?_⟩
      by_cases e : j = i
      · rw [e]
        exact m
      · exact hn j (by omega)
    · rw [decide_eq_false m]
      exact iteT ⟨_, rfl, q _ _ (near_nm hz2 hi) m k2⟩
  · rintro σ G ⟨v5, v6, rfl, rfl, hn⟩
    have := near_all hn
    omega
theorem ok_names {f fD fO fW fN : Addr} {fd fdD fdO fdW fdN : FuncData} (D : DefT K mg "_law_names" "_law_names" s_l_names ["_law_script", "_law_pool_here", "_law_size", "_law_others"] f fd) (Z : Zs mg) (D_l_draw : DefT K mg "_law_draw" "_law_draw" s_l_draw ["_law_script", "_law_pool_here", "_law_limit"] fD fdD)
    (D_l_one : DefT K mg "_law_one" "_law_one" s_l_one ["_law_script", "_law_pool_here", "_law_row"] fO fdO) (D_l_word : DefT K mg "_law_word" "_law_word" s_l_word ["_law_script", "_law_pool_here"] fW fdW) (D_l_name : DefT K mg "_law_name" "_law_name" s_l_name ["_law_script", "_law_pool_here", "_law_taken", "_law_others"] fN fdN) : FnOk P w K mg base CX0 4 f fd ["_law_script", "_law_pool_here", "_law_size", "_law_others"] (spNames K) := by
  have G_l_name := ok_name (P := P) (w := w) (base := base) D_l_name Z D_l_draw D_l_one D_l_word
  refine D.F.ok sc_l_names (fun vs H Q E h => ?_) (fun cdv A outer s H vs Q E hr h => ?_)
  · obtain ⟨a, p, o, ns, m, os, rfl, _⟩ := h
    rfl
  obtain ⟨a, p, o, ns, m, os, rfl, hS, hP, hO, ol, hos, h25, q⟩ := h
  refine ⟨_, (pss_cons (ps_set (i := 4) sc_l_names.nd rfl (Or.inl rfl) (pe_lst pa_nil)) (pss_cons (ps_for PassesOwn.never rfl (pi_range1 rfl Z.range (pa_cons (pv 2) pa_nil)) (pg_name (i := 5) sc_l_names.nd rfl (Or.inl rfl)) (pss_one (ps_expr (pe_bm PySem.F.plainAttrs_list PySem.F.slot_list_append PySem.F.type_list_append mt_append (pv 4) (pa_cons (pe_call G_l_name (hr.mono (by decide)) rfl D_l_name.m D_l_name.F.kp D_l_name.b .nil pass0 (pa_cons (pv 0) (pa_cons (pv 1) (pa_cons (pv 4) (pa_cons (pv 3) pa_nil))))) pa_nil))))) (pss_one (ps_ret (pv 4))))), ?_⟩
  refine ⟨Nat.zero_le _, fun l hl => ?_⟩
  have nl := (Kp.refl hP).ne hl
  refine ⟨_, rfl, _, rfl, by omega, by omega, ?_⟩
  rw [Int.toNat_natCast]
  refine for_range (n := m) (fun i σ G => ∃ (v : Option V) (ss : List Str), σ = [some (.ref a), some (.ref p), some (.int (m : Int)), some (.ref o), some (.ref l), v] ∧ ss.length = i ∧ i ≤ m ∧ ss.Nodup ∧ (∀ s ∈ ss, Nm s) ∧ G l = some (.lst (ss.map V.str)) ∧ Kp p H G)
    ⟨none, [], rfl, rfl, Nat.zero_le _, .nil, fun s hs => (by cases hs), upd_same, (Kp.refl hP).new hl⟩ ?_ ?_
  · rintro i σ G hi ⟨v, ss, rfl, hi2, _, nd, hss, hG, k⟩
    refine ⟨_, rfl, .inl ⟨rfl, _, SqL.of hG⟩, _, rfl, _, rfl, _, rfl, _, rfl, a, p, l, o, ns, ss, os, rfl, hS.on k, k.pool, .of hG nl, hO.on k, ol, hos, by omega, fun z G2 hz nz k2 => ?_⟩
    have hG2 := k2.keep _ _ nl hG
    refine ⟨l, _, _, rfl, rfl, hG2, ?_, ?_⟩
    · rw [List.length_map]
      exact Nat.lt_of_lt_of_le (show ss.length < 1000 by omega) (by decide)
    refine ⟨_, ss ++ [z], rfl, by rw [List.length_append, hi2]; rfl, hi, ?_, ?_, ?_, (k.trans k2).put hl nl⟩
    · rw [List.nodup_append]
      exact ⟨nd, by simp, fun x hx y hy e => by
        rcases List.mem_cons.mp hy with h | h
        · exact nz (h ▸ e ▸ hx)
        · cases h⟩
    · intro x hx
      rcases List.mem_append.mp hx with h | h
      · exact hss x h
      · rcases List.mem_cons.mp h with h | h
        · rw [h]
          exact hz
        · cases h
    · rw [upd_same, List.map_append]
      rfl
  · rintro σ G ⟨v, ss, rfl, hi2, _, nd, hss, hG, k⟩
    exact ⟨_, rfl, q l ss G hi2 nd hss hl hG k⟩
end
end My

namespace My
open PySem L2
abbrev s_l_all_names : Stmt := top 43
abbrev s_l_many : Stmt := top 44
abbrev s_l_answer : Stmt := top 46
abbrev s_l_note : Stmt := top 47
abbrev s_l_idle : Stmt := top 48
theorem sc_l_all_names : FnScope ["_law_script", "_law_pool_here", "_law_states", "_law_ups", "_law_downs", "_law_marks", "_law_tasks"] ["_law_script", "_law_pool_here"] (defScope s_l_all_names) := ⟨rfl, rfl, rfl, by decide +kernel, rfl, by decide +kernel, by decide +kernel⟩
theorem sc_l_many : FnScope ["_law_script", "_law_pool_here", "_law_many_here"] ["_law_script", "_law_pool_here"] (defScope s_l_many) := ⟨rfl, rfl, rfl, by decide +kernel, rfl, by decide +kernel, by decide +kernel⟩
theorem sc_l_answer : FnScope ["_law_script", "_law_pool_here", "_law_names_here", "_law_head"] ["_law_script", "_law_pool_here", "_law_names_here"] (defScope s_l_answer) := ⟨rfl, rfl, rfl, by decide +kernel, rfl, by decide +kernel, by decide +kernel⟩
theorem sc_l_note : FnScope ["_law_script", "_law_pool_here", "_law_names_here", "_law_head", "_law_tail"] ["_law_script", "_law_pool_here", "_law_names_here"] (defScope s_l_note) := ⟨rfl, rfl, rfl, by decide +kernel, rfl, by decide +kernel, by decide +kernel⟩
theorem sc_l_idle : FnScope ["_law_script", "_law_pool_here", "_law_names_here", "_law_row"] ["_law_script", "_law_pool_here", "_law_names_here"] (defScope s_l_idle) := ⟨rfl, rfl, rfl, by decide +kernel, rfl, by decide +kernel, by decide +kernel⟩
theorem ix_listK {X : Cx} {K : PySem.W.Frag} (h : X.K = K) : IxR X (rIxL K) := by
  subst h
  exact ix_list
theorem ix_tupK {X : Cx} {K : PySem.W.Frag} (h : X.K = K) : IxR X (rIxT K) := by
  subst h
  exact ix_tup
theorem ix_seqK {X : Cx} {K : PySem.W.Frag} (h : X.K = K) : IxR X (rIx K) := by
  subst h
  exact ix_seq
theorem call_isiK {X : Cx} {K : PySem.W.Frag} (h : X.K = K) : CallR X (.builtin "isinstance") (rIsi K) := by
  subst h
  exact call_isi
theorem op_catTK {X : Cx} {K : PySem.W.Frag} (h : X.K = K) : OpR X (binaryOp .Add) (rCatT K) := by
  subst h
  exact op_catT
theorem op_catAK {X : Cx} {K : PySem.W.Frag} (h : X.K = K) : OpR X (binaryOp .Add) (rCatA K) := by
  subst h
  exact op_catA
theorem op_in_seqK {X : Cx} {K : PySem.W.Frag} (h : X.K = K) : OpR X (compareOp .In) (rIn K false) := by
  subst h
  exact op_in_seq
theorem op_notIn_seqK {X : Cx} {K : PySem.W.Frag} (h : X.K = K) : OpR X (compareOp .NotIn) (rIn K true) := by
  subst h
  exact op_notIn_seq
theorem sl_tupK {X : Cx} {K : PySem.W.Frag} (h : X.K = K) : SlR X (rSlT K) := by
  subst h
  exact sl_tup
theorem sl_tupAK {X : Cx} {K : PySem.W.Frag} (h : X.K = K) : SlR X (rSlA K) := by
  subst h
  exact sl_tupA
theorem sl_listK {X : Cx} {K : PySem.W.Frag} (h : X.K = K) : SlR X (rSlL K) := by
  subst h
  exact sl_list
theorem call_len_seqK {X : Cx} {K : PySem.W.Frag} (h : X.K = K) : CallR X (.builtin "len") (fun xs H Q => ∃ p ys, xs = [.ref p] ∧ (SqL K H p ys ∨ SqT K H p ys) ∧ Q (.int ys.length) H) := by
  subst h
  exact call_len_seq
/-! ### data in tracked objects, with the addresses of their lists -/
mutual
def Df (H : Hp) : PyData → V → List Addr → Prop
  | .none, v, fp => v = .non ∧ fp = []
  | .bool b, v, fp => v = .bl b ∧ fp = []
  | .int i, v, fp => v = .int i ∧ fp = []
  | .str s, v, fp => v = .str s ∧ fp = []
  | .list ds, v, fp => ∃ a xs gp, v = .ref a ∧ fp = a :: gp ∧ H a = some (.lst xs) ∧ DfL H ds xs gp
  | .tuple ds, v, fp => ∃ a xs, v = .ref a ∧ H a = some (.tup xs) ∧ DfL H ds xs fp
  | .dict _, _, _ => False
def DfL (H : Hp) : List PyData → List V → List Addr → Prop
  | [], xs, fp => xs = [] ∧ fp = []
  | d :: ds, xs, fp => ∃ x r f g, xs = x :: r ∧ fp = f ++ g ∧ Df H d x f ∧ DfL H ds r g
end
mutual
theorem Df.keep {H H' : Hp} (kt : ∀ a xs, H a = some (.tup xs) → H' a = some (.tup xs)) : ∀ (d : PyData) (v : V) (fp : List Addr), (∀ a ∈ fp, ∀ o, H a = some o → H' a = some o) → Df H d v fp → Df H' d v fp
  | .none, _, _, _, h => h
  | .bool _, _, _, _, h => h
  | .int _, _, _, _, h => h
  | .str _, _, _, _, h => h
  | .list ds, v, fp, k, h => by
    obtain ⟨a, xs, gp, e, ef, ha, hl⟩ := h
    subst ef
    exact ⟨a, xs, gp, e, rfl, k a List.mem_cons_self _ ha, DfL.keep kt ds xs gp (fun b hb => k b (List.mem_cons_of_mem _ hb)) hl⟩
  | .tuple ds, v, fp, k, h => by
    obtain ⟨a, xs, e, ha, hl⟩ := h
    exact ⟨a, xs, e, kt _ _ ha, DfL.keep kt ds xs fp k hl⟩
  | .dict _, _, _, _, h => h
theorem DfL.keep {H H' : Hp} (kt : ∀ a xs, H a = some (.tup xs) → H' a = some (.tup xs)) : ∀ (ds : List PyData) (xs : List V) (fp : List Addr), (∀ a ∈ fp, ∀ o, H a = some o → H' a = some o) → DfL H ds xs fp → DfL H' ds xs fp
  | [], _, _, _, h => h
  | d :: ds, xs, fp, k, h => by
    obtain ⟨x, r, f, g, e, ef, hx, hr⟩ := h
    subst ef
    exact ⟨x, r, f, g, e, rfl, Df.keep kt d x f (fun b hb => k b (List.mem_append_left _ hb)) hx, DfL.keep kt ds r g (fun b hb => k b (List.mem_append_right _ hb)) hr⟩
end
theorem Pool.notup {H : Hp} {p a : Addr} {xs : List V} (h : Pool H p) (e : H a = some (.tup xs)) : a ≠ p := by
  obtain ⟨_, _, _, _, _, ep⟩ := h
  exact ne_of e ep (by intro z; cases z)
theorem Df.kp {p : Addr} {H H' : Hp} {d : PyData} {v : V} {fp : List Addr} (h : Df H d v fp) (k : Kp p H H') (hP : Pool H p) (hf : p ∉ fp) : Df H' d v fp :=
  Df.keep (fun a xs e => k.keep _ _ (hP.notup e) e) d v fp (fun a ha o e => k.keep _ _ (fun z => hf (z ▸ ha)) e) h
theorem DfL.kp {p : Addr} {H H' : Hp} {ds : List PyData} {xs : List V} {fp : List Addr} (h : DfL H ds xs fp) (k : Kp p H H') (hP : Pool H p) (hf : p ∉ fp) : DfL H' ds xs fp :=
  DfL.keep (fun a xs e => k.keep _ _ (hP.notup e) e) ds xs fp (fun a ha o e => k.keep _ _ (fun z => hf (z ▸ ha)) e) h
theorem Df.same {H H' : Hp} {d : PyData} {v : V} {fp : List Addr} (h : Df H d v fp) (k : Same H H') : Df H' d v fp := Df.keep (fun a xs e => k _ _ e) d v fp (fun a _ o e => k _ _ e) h
theorem DfL.same {H H' : Hp} {ds : List PyData} {xs : List V} {fp : List Addr} (h : DfL H ds xs fp) (k : Same H H') : DfL H' ds xs fp := DfL.keep (fun a xs e => k _ _ e) ds xs fp (fun a _ o e => k _ _ e) h
/-- a list elsewhere is changed -/
theorem DfL.put {H : Hp} {D : Addr} {ys zs : List V} {ds : List PyData} {xs : List V} {fp : List Addr} (h : DfL H ds xs fp) (hD : H D = some (.lst ys)) (n : D ∉ fp) : DfL (upd H D (.lst zs)) ds xs fp :=
  DfL.keep (fun a ws e => by
    rw [upd_ne (ne_of e hD (by intro z; cases z))]
    exact e) ds xs fp (fun a ha o e => by
    rw [upd_ne (show a ≠ D from fun z => n (by rw [← z]; exact ha))]
    exact e) h
theorem Df.put {H : Hp} {D : Addr} {ys zs : List V} {d : PyData} {v : V} {fp : List Addr} (h : Df H d v fp) (hD : H D = some (.lst ys)) (n : D ∉ fp) : Df (upd H D (.lst zs)) d v fp :=
  Df.keep (fun a ws e => by
    rw [upd_ne (ne_of e hD (by intro z; cases z))]
    exact e) d v fp (fun a ha o e => by
    rw [upd_ne (show a ≠ D from fun z => n (by rw [← z]; exact ha))]
    exact e) h
mutual
theorem Df.dp {K : PySem.W.Frag} {H : Hp} : ∀ (d : PyData) (v : V) (fp : List Addr), Df H d v fp → Dp K H v d
  | .none, v, _, h => by
    rw [h.1]
    exact .non
  | .bool b, v, _, h => by
    rw [h.1]
    exact .bl b
  | .int i, v, _, h => by
    rw [h.1]
    exact .int i
  | .str s, v, _, h => by
    rw [h.1]
    exact .str s
  | .list ds, v, fp, h => by
    obtain ⟨a, xs, gp, e, _, ha, hl⟩ := h
    rw [e]
    exact .lst (.of ha) (DfL.dp ds xs gp hl)
  | .tuple ds, v, fp, h => by
    obtain ⟨a, xs, e, ha, hl⟩ := h
    rw [e]
    exact .tup (.of ha) (DfL.dp ds xs fp hl)
  | .dict _, _, _, h => h.elim
theorem DfL.dp {K : PySem.W.Frag} {H : Hp} : ∀ (ds : List PyData) (xs : List V) (fp : List Addr), DfL H ds xs fp → DpAll K H xs ds
  | [], xs, _, h => by
    rw [h.1]
    exact .nil
  | d :: ds, xs, fp, h => by
    obtain ⟨x, r, f, g, e, _, hx, hr⟩ := h
    rw [e]
    exact .cons (Df.dp d x f hx) (DfL.dp ds r g hr)
end
theorem DfL.append {H : Hp} : ∀ {ds es : List PyData} {xs ys : List V} {f g : List Addr}, DfL H ds xs f → DfL H es ys g → DfL H (ds ++ es) (xs ++ ys) (f ++ g)
  | [], _, _, _, _, _, h, h2 => by
    obtain ⟨rfl, rfl⟩ := h
    exact h2
  | d :: ds, _, _, _, _, _, h, h2 => by
    obtain ⟨x, r, f1, f2, rfl, rfl, hx, hr⟩ := h
    exact ⟨x, r ++ _, f1, f2 ++ _, rfl, List.append_assoc .., hx, DfL.append hr h2⟩
theorem DfL.snoc {H : Hp} {ds : List PyData} {xs : List V} {f g : List Addr} {d : PyData} {x : V} (h : DfL H ds xs f) (hx : Df H d x g) : DfL H (ds ++ [d]) (xs ++ [x]) (f ++ g) := h.append ⟨x, [], g, [], rfl, by simp, hx, rfl, rfl⟩
theorem DfL.len {H : Hp} : ∀ {ds : List PyData} {xs : List V} {f : List Addr}, DfL H ds xs f → xs.length = ds.length
  | [], _, _, h => by
    rw [h.1]
    rfl
  | _ :: _, _, _, h => by
    obtain ⟨x, r, f1, f2, rfl, rfl, _, hr⟩ := h
    show r.length + 1 = _ + 1
    rw [DfL.len hr]
theorem DfL.n {H : Hp} : DfL H [] [] [] := ⟨rfl, rfl⟩
theorem DfL.c {H : Hp} {d : PyData} {x : V} {ds : List PyData} {xs : List V} (h : Df H d x []) (r : DfL H ds xs []) : DfL H (d :: ds) (x :: xs) [] := ⟨x, xs, [], [], rfl, rfl, h, r⟩
theorem sD {H : Hp} (s : Str) : Df H (.str s) (.str s) [] := ⟨rfl, rfl⟩
theorem bD {H : Hp} (b : Bool) : Df H (.bool b) (.bl b) [] := ⟨rfl, rfl⟩
theorem tD {H : Hp} {ds : List PyData} {xs : List V} {fp : List Addr} {t : Addr} (e : H t = some (.tup xs)) (h : DfL H ds xs fp) : Df H (.tuple ds) (.ref t) fp := ⟨t, xs, rfl, e, h⟩
theorem Kp.tup {p a : Addr} {H H' : Hp} {xs : List V} (k : Kp p H H') (hP : Pool H p) (e : H a = some (.tup xs)) : H' a = some (.tup xs) := k.keep _ _ (hP.notup e) e
/-! ### the names of a book -/
structure Nm5 where
  st : List Str
  up : List Str
  dn : List Str
  ma : List Str
  tk : List Str
structure NOk (N : Nm5) : Prop where
  st2 : 2 ≤ N.st.length
  st7 : N.st.length ≤ 7
  up1 : 1 ≤ N.up.length
  up5 : N.up.length ≤ 5
  dn1 : 1 ≤ N.dn.length
  dn5 : N.dn.length ≤ 5
  mk1 : 1 ≤ N.ma.length
  mk6 : N.ma.length ≤ 6
  tk1 : 1 ≤ N.tk.length
  tk3 : N.tk.length ≤ 3
  stn : N.st.Nodup ∧ ∀ s ∈ N.st, Nm s
  upn : N.up.Nodup ∧ ∀ s ∈ N.up, Nm s
  dnn : N.dn.Nodup ∧ ∀ s ∈ N.dn, Nm s
  mkn : N.ma.Nodup ∧ ∀ s ∈ N.ma, Nm s
  tkn : N.tk.Nodup ∧ ∀ s ∈ N.tk, Nm s
/-- where the names stand -/
def NA (K : PySem.W.Frag) (H : Hp) (m p : Addr) (N : Nm5) : Prop := ∃ l0 l1 l2 l3 l4 : Addr, Row K H m p [.ref l0, .ref l1, .ref l2, .ref l3, .ref l4] ∧ Row K H l0 p (N.st.map V.str) ∧ Row K H l1 p (N.up.map V.str) ∧ Row K H l2 p (N.dn.map V.str) ∧ Row K H l3 p (N.ma.map V.str) ∧ Row K H l4 p (N.tk.map V.str) ∧ l3 ≠ p ∧ H l3 = some (.lst (N.ma.map V.str))
theorem NA.on {K : PySem.W.Frag} {H H' : Hp} {m p : Addr} {N : Nm5} (h : NA K H m p N) (k : Kp p H H') : NA K H' m p N := by
  obtain ⟨l0, l1, l2, l3, l4, r, r0, r1, r2, r3, r4, n3⟩ := h
  exact ⟨l0, l1, l2, l3, l4, r.on k, r0.on k, r1.on k, r2.on k, r3.on k, r4.on k, n3.1, k.keep _ _ n3.1 n3.2⟩
/-- a name or none -/
def oN : Option Str → PyData
  | none => .none
  | some s => .str s
def oV : Option Str → V
  | none => .non
  | some s => .str s
theorem oN_df (H : Hp) (o : Option Str) : Df H (oN o) (oV o) [] := by
  cases o <;> exact ⟨rfl, rfl⟩
def OnIn (o : Option Str) (l : List Str) : Prop := ∀ s, o = some s → s ∈ l
theorem on_of {x : V} {l : List Str} (h : x = .non ∨ x ∈ l.map V.str) : ∃ o, x = oV o ∧ OnIn o l := by
  rcases h with h | h
  · exact ⟨none, h, fun s e => by cases e⟩
  · obtain ⟨s, hs, e⟩ := List.mem_map.mp h
    exact ⟨some s, e.symm, fun t z => by
      cases z
      exact hs⟩
theorem str_of {x : V} {l : List Str} {i : Nat} (h : (l.map V.str)[i]? = some x) : ∃ s, x = .str s ∧ s ∈ l := by
  obtain ⟨s, hs, e⟩ := List.mem_map.mp (List.mem_of_getElem? h)
  exact ⟨s, e.symm, hs⟩
def IsAnswer (N : Nm5) (d : PyData) : Prop := ∃ (a k b : Str) (u : Option Str), d = .tuple [.str a, .str k, .str b, oN u] ∧ a ∈ N.st ∧ k ∈ N.dn ∧ b ∈ N.st ∧ OnIn u N.up
def IsNote (N : Nm5) (d : PyData) : Prop := ∃ (m u n : Str) (k : Option Str) (f : Bool), d = .tuple [.str m, .str u, .str n, oN k, .bool f] ∧ m ∈ N.ma ∧ u ∈ N.up ∧ n ∈ N.ma ∧ OnIn k N.dn
def IsBegin (N : Nm5) (d : PyData) : Prop := ∃ (m u t : Str), d = .tuple [.str m, .str u, .str t] ∧ m ∈ N.ma ∧ u ∈ N.up ∧ t ∈ N.tk
def spNAll (K : PySem.W.Frag) : Sp := fun vs H Q _ => ∃ (a p : Addr) (ns : List Int), vs = [.ref a, .ref p] ∧ Scr K H a p ns ∧ Pool H p ∧ ∀ (m : Addr) (N : Nm5) (H' : Hp), NOk N → NA K H' m p N → Kp p H H' → Q (.ref m) H'
def spMany (K : PySem.W.Frag) : Sp := fun vs H Q _ => ∃ (a p : Addr) (ns : List Int), vs = [.ref a, .ref p] ∧ Scr K H a p ns ∧ Pool H p ∧ ∀ (n : Nat) (H' : Hp), n ≤ 30 → Kp p H H' → Q (.int (n : Int)) H'
def spRow (K : PySem.W.Frag) (R : Nm5 → PyData → Prop) : Sp := fun vs H Q _ => ∃ (a p m : Addr) (ns : List Int) (N : Nm5), vs = [.ref a, .ref p, .ref m] ∧ Scr K H a p ns ∧ Pool H p ∧ NOk N ∧ NA K H m p N ∧ ∀ (v : V) (d : PyData) (H' : Hp), Kp p H H' → R N d → Df H' d v [] → Q v H'
section
variable {P : Program} {w : World} {K : PySem.W.Frag} {mg : Str → Option Value} {base : Heap}
theorem ok_many {f fD : Addr} {fd fdD : FuncData} (D : DefT K mg "_law_many" "_law_many" s_l_many ["_law_script", "_law_pool_here"] f fd) (Z : Zs mg) (D_l_draw : DefT K mg "_law_draw" "_law_draw" s_l_draw ["_law_script", "_law_pool_here", "_law_limit"] fD fdD) : FnOk P w K mg base CX0 2 f fd ["_law_script", "_law_pool_here"] (spMany K) := by
  have G_l_draw := ok_draw (P := P) (w := w) (base := base) D_l_draw Z
  refine D.F.ok sc_l_many (fun vs H Q E h => ?_) (fun cdv A outer s H vs Q E hr h => ?_)
  · obtain ⟨a, p, ns, rfl, _⟩ := h
    rfl
  obtain ⟨a, p, ns, rfl, hS, hP, q⟩ := h
  refine ⟨_, (pss_cons (ps_set (i := 2) sc_l_many.nd rfl (Or.inl rfl) (pe_call G_l_draw (hr.mono (by decide)) rfl D_l_draw.m D_l_draw.F.kp D_l_draw.b .nil pass0 (pa_cons (pv 0) (pa_cons (pv 1) (pa_cons pe_int pa_nil))))) (pss_cons (ps_if (pt_cmpR op_eq (pv 2) pe_int (nomark _)) (pss_one (ps_set (i := 2) sc_l_many.nd rfl (Or.inl rfl) (pe_call G_l_draw (hr.mono (by decide)) rfl D_l_draw.m D_l_draw.F.kp D_l_draw.b .nil pass0 (pa_cons (pv 0) (pa_cons (pv 1) (pa_cons pe_int pa_nil)))))) pss_nil) (pss_one (ps_ret (pv 2))))), ?_⟩
  refine ⟨_, rfl, _, rfl, a, p, ns, _, rfl, hS, hP, by decide, by decide, fun n H1 n0 n1 k1 => ?_⟩
  have fin : ∀ (n : Int) (H2 : Hp), 0 ≤ n → n ≤ 30 → Kp p H H2 → Q (.int n) H2 := fun n H2 h0 h1 k => by
    obtain ⟨m, rfl⟩ : ∃ m : Nat, n = (m : Int) := ⟨n.toNat, by omega⟩
    exact q m H2 (by omega) k
  refine ⟨_, rfl, rfl, _, rfl, ite2 (fun _ => ?_) (fun _ => ?_)⟩
  · exact ⟨_, rfl, _, rfl, a, p, ns, _, rfl, hS.on k1, k1.pool, by decide, by decide, fun m H2 m0 m1 k2 => ⟨_, rfl, fin m H2 m0 (by omega) (k1.trans k2)⟩⟩
  · exact ⟨_, rfl, fin n H1 n0 (by omega) k1⟩
theorem ok_answer {f fD fO fM : Addr} {fd fdD fdO fdM : FuncData} (D : DefT K mg "_law_answer" "_law_answer" s_l_answer ["_law_script", "_law_pool_here", "_law_names_here"] f fd) (Z : Zs mg) (D_l_draw : DefT K mg "_law_draw" "_law_draw" s_l_draw ["_law_script", "_law_pool_here", "_law_limit"] fD fdD)
    (D_l_one : DefT K mg "_law_one" "_law_one" s_l_one ["_law_script", "_law_pool_here", "_law_row"] fO fdO) (D_l_maybe : DefT K mg "_law_maybe" "_law_maybe" s_l_maybe ["_law_script", "_law_pool_here", "_law_row"] fM fdM) : FnOk P w K mg base CX0 4 f fd ["_law_script", "_law_pool_here", "_law_names_here"] (spRow K IsAnswer) := by
  have G_l_one := ok_one (P := P) (w := w) (base := base) D_l_one Z D_l_draw
  have G_l_maybe := ok_maybe (P := P) (w := w) (base := base) D_l_maybe Z D_l_draw D_l_one
  refine D.F.ok sc_l_answer (fun vs H Q E h => ?_) (fun cdv A outer s H vs Q E hr h => ?_)
  · obtain ⟨a, p, m, ns, N, rfl, _⟩ := h
    rfl
  obtain ⟨a, p, m, ns, N, rfl, hS, hP, ok, ⟨l0, l1, l2, l3, l4, rm, r0, r1, r2, r3, r4, n3⟩, q⟩ := h
  have b1 := ok.st2
  have b2 := ok.st7
  have b3 := ok.up1
  have b4 := ok.up5
  have b5 := ok.dn1
  have b6 := ok.dn5
  refine ⟨_, (pss_cons (ps_set (i := 3) sc_l_answer.nd rfl (Or.inl rfl) (pe_tup (pa_cons (pe_call G_l_one (hr.mono (by decide)) rfl D_l_one.m D_l_one.F.kp D_l_one.b .nil pass0 (pa_cons (pv 0) (pa_cons (pv 1) (pa_cons (pe_ix ix_list (pv 2) pe_int (fun _ _ => rfl)) pa_nil)))) (pa_cons (pe_call G_l_one (hr.mono (by decide)) rfl D_l_one.m D_l_one.F.kp D_l_one.b .nil pass0 (pa_cons (pv 0) (pa_cons (pv 1) (pa_cons (pe_ix ix_list (pv 2) pe_int (fun _ _ => rfl)) pa_nil)))) pa_nil)))) (pss_one (ps_ret (pe_op op_catT (pv 3) (pe_tup (pa_cons (pe_call G_l_one (hr.mono (by decide)) rfl D_l_one.m D_l_one.F.kp D_l_one.b .nil pass0 (pa_cons (pv 0) (pa_cons (pv 1) (pa_cons (pe_ix ix_list (pv 2) pe_int (fun _ _ => rfl)) pa_nil)))) (pa_cons (pe_call G_l_maybe (hr.mono (by decide)) rfl D_l_maybe.m D_l_maybe.F.kp D_l_maybe.b .nil pass0 (pa_cons (pv 0) (pa_cons (pv 1) (pa_cons (pe_ix ix_list (pv 2) pe_int (fun _ _ => rfl)) pa_nil)))) pa_nil))))))), ?_⟩
  refine ⟨_, rfl, _, rfl, _, rfl, m, _, _, _, rfl, rfl, rm.seq _ (.refl hP), rfl, a, p, l0, ns, _, rfl, hS, r0, hP, by rw [List.length_map]; omega, by rw [List.length_map]; omega, fun i x H1 hx k1 => ?_⟩
  obtain ⟨s0, rfl, h0⟩ := str_of hx
  refine ⟨_, rfl, _, rfl, _, rfl, m, _, _, _, rfl, rfl, rm.seq _ k1, rfl, a, p, l2, ns, _, rfl, hS.on k1, r2.on k1, k1.pool, by rw [List.length_map]; omega, by rw [List.length_map]; omega, fun i x H2 hx k2 => ?_⟩
  obtain ⟨s1, rfl, h1⟩ := str_of hx
  have k12 := k1.trans k2
  refine ⟨sz 2, fun t ht => ?_⟩
  have k3 := k12.new (o := .tup [.str s0, .str s1]) ht
  refine ⟨_, rfl, _, rfl, _, rfl, _, rfl, m, _, _, _, rfl, rfl, rm.seq _ k3, rfl, a, p, l0, ns, _, rfl, hS.on k3, r0.on k3, k3.pool, by rw [List.length_map]; omega, by rw [List.length_map]; omega, fun i x H4 hx k4 => ?_⟩
  obtain ⟨s2, rfl, h2⟩ := str_of hx
  have k34 := k3.trans k4
  refine ⟨_, rfl, _, rfl, _, rfl, m, _, _, _, rfl, rfl, rm.seq _ k34, rfl, a, p, l1, ns, _, rfl, hS.on k34, r1.on k34, k4.pool, by rw [List.length_map]; omega, by rw [List.length_map]; omega, fun x H5 hx k5 => ?_⟩
  obtain ⟨u, rfl, h3⟩ := on_of hx
  have k35 := k34.trans k5
  refine ⟨sz 2, fun t2 ht2 => ?_⟩
  have et : upd H5 t2 (.tup [.str s2, oV u]) t = some (.tup [.str s0, .str s1]) := keep_new ht2 _ _ ((k4.trans k5).tup k3.pool upd_same)
  refine ⟨t, t2, _, _, rfl, rfl, .of et, .of upd_same, (fun z => nomatch z), sz 4, (fun z => nomatch z), fun _ t3 ht3 => ?_⟩
  exact q _ (.tuple [.str s0, .str s1, .str s2, oN u]) _ ((k35.new ht2).new ht3) ⟨s0, s1, s2, u, rfl, h0, h1, h2, h3⟩ (tD upd_same (.c (sD _) (.c (sD _) (.c (sD _) (.c (oN_df _ u) .n)))))
theorem ok_note {f fD fO fM : Addr} {fd fdD fdO fdM : FuncData} (D : DefT K mg "_law_note" "_law_note" s_l_note ["_law_script", "_law_pool_here", "_law_names_here"] f fd) (Z : Zs mg) (D_l_draw : DefT K mg "_law_draw" "_law_draw" s_l_draw ["_law_script", "_law_pool_here", "_law_limit"] fD fdD)
    (D_l_one : DefT K mg "_law_one" "_law_one" s_l_one ["_law_script", "_law_pool_here", "_law_row"] fO fdO) (D_l_maybe : DefT K mg "_law_maybe" "_law_maybe" s_l_maybe ["_law_script", "_law_pool_here", "_law_row"] fM fdM) : FnOk P w K mg base CX0 4 f fd ["_law_script", "_law_pool_here", "_law_names_here"] (spRow K IsNote) := by
  have G_l_draw := ok_draw (P := P) (w := w) (base := base) D_l_draw Z
  have G_l_one := ok_one (P := P) (w := w) (base := base) D_l_one Z D_l_draw
  have G_l_maybe := ok_maybe (P := P) (w := w) (base := base) D_l_maybe Z D_l_draw D_l_one
  refine D.F.ok sc_l_note (fun vs H Q E h => ?_) (fun cdv A outer s H vs Q E hr h => ?_)
  · obtain ⟨a, p, m, ns, N, rfl, _⟩ := h
    rfl
  obtain ⟨a, p, m, ns, N, rfl, hS, hP, ok, ⟨l0, l1, l2, l3, l4, rm, r0, r1, r2, r3, r4, n3⟩, q⟩ := h
  have b3 := ok.up1
  have b4 := ok.up5
  have b5 := ok.dn1
  have b6 := ok.dn5
  have b7 := ok.mk1
  have b8 := ok.mk6
  refine ⟨_, (pss_cons (ps_set (i := 3) sc_l_note.nd rfl (Or.inl rfl) (pe_tup (pa_cons (pe_call G_l_one (hr.mono (by decide)) rfl D_l_one.m D_l_one.F.kp D_l_one.b .nil pass0 (pa_cons (pv 0) (pa_cons (pv 1) (pa_cons (pe_ix ix_list (pv 2) pe_int (fun _ _ => rfl)) pa_nil)))) (pa_cons (pe_call G_l_one (hr.mono (by decide)) rfl D_l_one.m D_l_one.F.kp D_l_one.b .nil pass0 (pa_cons (pv 0) (pa_cons (pv 1) (pa_cons (pe_ix ix_list (pv 2) pe_int (fun _ _ => rfl)) pa_nil)))) pa_nil)))) (pss_cons (ps_set (i := 4) sc_l_note.nd rfl (Or.inl rfl) (pe_tup (pa_cons (pe_call G_l_one (hr.mono (by decide)) rfl D_l_one.m D_l_one.F.kp D_l_one.b .nil pass0 (pa_cons (pv 0) (pa_cons (pv 1) (pa_cons (pe_ix ix_list (pv 2) pe_int (fun _ _ => rfl)) pa_nil)))) (pa_cons (pe_call G_l_maybe (hr.mono (by decide)) rfl D_l_maybe.m D_l_maybe.F.kp D_l_maybe.b .nil pass0 (pa_cons (pv 0) (pa_cons (pv 1) (pa_cons (pe_ix ix_list (pv 2) pe_int (fun _ _ => rfl)) pa_nil)))) (pa_cons (pe_cmpR op_eq (pe_call G_l_draw (hr.mono (by decide)) rfl D_l_draw.m D_l_draw.F.kp D_l_draw.b .nil pass0 (pa_cons (pv 0) (pa_cons (pv 1) (pa_cons pe_int pa_nil)))) pe_int (nomark _)) pa_nil))))) (pss_one (ps_ret (pe_op op_catT (pv 3) (pv 4)))))), ?_⟩
  refine ⟨_, rfl, _, rfl, _, rfl, m, _, _, _, rfl, rfl, rm.seq _ (.refl hP), rfl, a, p, l3, ns, _, rfl, hS, r3, hP, by rw [List.length_map]; omega, by rw [List.length_map]; omega, fun i x H1 hx k1 => ?_⟩
  obtain ⟨s0, rfl, h0⟩ := str_of hx
  refine ⟨_, rfl, _, rfl, _, rfl, m, _, _, _, rfl, rfl, rm.seq _ k1, rfl, a, p, l1, ns, _, rfl, hS.on k1, r1.on k1, k1.pool, by rw [List.length_map]; omega, by rw [List.length_map]; omega, fun i x H2 hx k2 => ?_⟩
  obtain ⟨s1, rfl, h1⟩ := str_of hx
  have k12 := k1.trans k2
  refine ⟨sz 2, fun t ht => ?_⟩
  have k3 := k12.new (o := .tup [.str s0, .str s1]) ht
  refine ⟨_, rfl, _, rfl, _, rfl, m, _, _, _, rfl, rfl, rm.seq _ k3, rfl, a, p, l3, ns, _, rfl, hS.on k3, r3.on k3, k3.pool, by rw [List.length_map]; omega, by rw [List.length_map]; omega, fun i x H4 hx k4 => ?_⟩
  obtain ⟨s2, rfl, h2⟩ := str_of hx
  have k34 := k3.trans k4
  refine ⟨_, rfl, _, rfl, _, rfl, m, _, _, _, rfl, rfl, rm.seq _ k34, rfl, a, p, l2, ns, _, rfl, hS.on k34, r2.on k34, k4.pool, by rw [List.length_map]; omega, by rw [List.length_map]; omega, fun x H5 hx k5 => ?_⟩
  obtain ⟨u, rfl, h3⟩ := on_of hx
  have k35 := k34.trans k5
  refine ⟨_, rfl, _, rfl, a, p, ns, _, rfl, hS.on k35, k5.pool, by decide, by decide, fun r H6 _ _ k6 => ?_⟩
  have k36 := k35.trans k6
  refine ⟨rfl, sz 3, fun t2 ht2 => ?_⟩
  refine ⟨_, rfl, _, rfl, t, t2, _, _, rfl, rfl, .of (keep_new ht2 _ _ (((k4.trans k5).trans k6).tup k3.pool upd_same)), .of upd_same, (fun z => nomatch z), sz 5, (fun z => nomatch z), fun _ t3 ht3 => ?_⟩
  exact q _ (.tuple [.str s0, .str s1, .str s2, oN u, .bool _]) _ ((k36.new ht2).new ht3) ⟨s0, s1, s2, u, _, rfl, h0, h1, h2, h3⟩ (tD upd_same (.c (sD _) (.c (sD _) (.c (sD _) (.c (oN_df _ u) (.c (bD _) .n))))))
theorem DfL.u {H : Hp} {d : PyData} {ds : List PyData} {xs : List V} (h : DfL H (d :: ds) xs []) : ∃ x r, xs = x :: r ∧ Df H d x [] ∧ DfL H ds r [] := by
  obtain ⟨x, r, f, g, e, ef, hx, hr⟩ := h
  have ef' := ef.symm
  rw [List.append_eq_nil_iff] at ef'
  obtain ⟨rfl, rfl⟩ := ef'
  exact ⟨x, r, e, hx, hr⟩
theorem Df.t {H : Hp} {ds : List PyData} {v : V} {fp : List Addr} (h : Df H (.tuple ds) v fp) : ∃ t xs, v = .ref t ∧ H t = some (.tup xs) ∧ DfL H ds xs fp := h
theorem cut2 {x y : V} {r : List V} : cutV (x :: y :: r) none (some 2) = [x, y] := by
  unfold cutV
  rw [show ((2 : Int)) = ((2 : Nat) : Int) from rfl, HT.sIx_nat]
  show (List.drop 0 (x :: y :: r)).take (min 2 (x :: y :: r).length - 0) = [x, y]
  rw [List.drop_zero, Nat.sub_zero, Nat.min_eq_left (by simp)]
  rfl
def IsIdle (N : Nm5) (d : PyData) : Prop := IsBegin N d ∨ IsNote N d
theorem ok_idle {f fD fO fM : Addr} {fd fdD fdO fdM : FuncData} (D : DefT K mg "_law_idle" "_law_idle" s_l_idle ["_law_script", "_law_pool_here", "_law_names_here"] f fd) (Z : Zs mg) (D_l_draw : DefT K mg "_law_draw" "_law_draw" s_l_draw ["_law_script", "_law_pool_here", "_law_limit"] fD fdD)
    (D_l_one : DefT K mg "_law_one" "_law_one" s_l_one ["_law_script", "_law_pool_here", "_law_row"] fO fdO) (D_l_maybe : DefT K mg "_law_maybe" "_law_maybe" s_l_maybe ["_law_script", "_law_pool_here", "_law_row"] fM fdM)
    {fN : Addr} {fdN : FuncData} (D_l_note : DefT K mg "_law_note" "_law_note" s_l_note ["_law_script", "_law_pool_here", "_law_names_here"] fN fdN) : FnOk P w K mg base CX0 5 f fd ["_law_script", "_law_pool_here", "_law_names_here"] (spRow K IsIdle) := by
  have G_l_draw := ok_draw (P := P) (w := w) (base := base) D_l_draw Z
  have G_l_one := ok_one (P := P) (w := w) (base := base) D_l_one Z D_l_draw
  have G_l_note := ok_note (P := P) (w := w) (base := base) D_l_note Z D_l_draw D_l_one D_l_maybe
  refine D.F.ok sc_l_idle (fun vs H Q E h => ?_) (fun cdv A outer s H vs Q E hr h => ?_)
  · obtain ⟨a, p, m, ns, N, rfl, _⟩ := h
    rfl
  obtain ⟨a, p, m, ns, N, rfl, hS, hP, ok, na, q⟩ := h
  have b7 := ok.tk1
  have b8 := ok.tk3
  refine ⟨_, (pss_cons (ps_set (i := 3) sc_l_idle.nd rfl (Or.inl rfl) (pe_call G_l_note (hr.mono (by decide)) rfl D_l_note.m D_l_note.F.kp D_l_note.b .nil pass0 (pa_cons (pv 0) (pa_cons (pv 1) (pa_cons (pv 2) pa_nil))))) (pss_cons (ps_if (pt_cmpR op_eq (pe_call G_l_draw (hr.mono (by decide)) rfl D_l_draw.m D_l_draw.F.kp D_l_draw.b .nil pass0 (pa_cons (pv 0) (pa_cons (pv 1) (pa_cons pe_int pa_nil)))) pe_int (nomark _)) (pss_one (ps_ret (pe_op op_catT (pe_slice sl_tup (pv 3) po_none (po_some pe_int)) (pe_tup (pa_cons (pe_call G_l_one (hr.mono (by decide)) rfl D_l_one.m D_l_one.F.kp D_l_one.b .nil pass0 (pa_cons (pv 0) (pa_cons (pv 1) (pa_cons (pe_ix ix_list (pv 2) pe_int (fun _ _ => rfl)) pa_nil)))) pa_nil))))) pss_nil) (pss_one (ps_ret (pv 3))))), ?_⟩
  refine ⟨_, rfl, _, rfl, _, rfl, a, p, m, ns, N, rfl, hS, hP, ok, na, fun v d H1 k1 hN hD => ?_⟩
  refine ⟨_, rfl, _, rfl, a, p, ns, _, rfl, hS.on k1, k1.pool, by decide, by decide, fun r H2 _ _ k2 => ?_⟩
  have k12 := k1.trans k2
  have hD2 := hD.kp k2 k1.pool (by simp)
  refine ⟨rfl, _, rfl, ite2 (fun _ => ?_) (fun _ => ⟨_, rfl, q _ d _ k12 (.inr hN) hD2⟩)⟩
  obtain ⟨s0, s1, s2, u, b, rfl, h0, h1, _, _⟩ := hN
  obtain ⟨t, xs, rfl, ht, hl⟩ := hD2.t
  obtain ⟨x0, r0, rfl, e0, hl0⟩ := hl.u
  obtain ⟨x1, r1, rfl, e1, hl1⟩ := hl0.u
  obtain ⟨x2, r2, rfl, _, hl2⟩ := hl1.u
  have e0' : x0 = .str s0 := e0.1
  have e1' : x1 = .str s1 := e1.1
  subst e0' e1'
  obtain ⟨l0, l1, l2, l3, l4, rm, _, _, _, _, q4, _⟩ := na
  refine ⟨_, rfl, 2, rfl, t, _, rfl, .of ht, ?_, fun t2 ht2 => ?_⟩
  · rintro ⟨_, z⟩
    rw [show ((2 : Int)) = ((2 : Nat) : Int) from rfl, HT.sIx_nat] at z
    simp only [List.length_cons] at z
    omega
  rw [cut2]
  have k3 := k12.new (o := .tup [.str s0, .str s1]) ht2
  refine ⟨_, rfl, _, rfl, _, rfl, m, _, _, _, rfl, rfl, rm.seq _ k3, rfl, a, p, l4, ns, _, rfl, hS.on k3, q4.on k3, k3.pool, by rw [List.length_map]; omega, by rw [List.length_map]; omega, fun i x H4 hx k4 => ?_⟩
  obtain ⟨s3, rfl, h3⟩ := str_of hx
  refine ⟨sz 1, fun t3 ht3 => ?_⟩
  refine ⟨t2, t3, _, _, rfl, rfl, .of (keep_new ht3 _ _ (k4.tup k3.pool upd_same)), .of upd_same, (fun z => nomatch z), sz 3, (fun z => nomatch z), fun _ t4 ht4 => ?_⟩
  exact q _ (.tuple [.str s0, .str s1, .str s3]) _ (((k3.trans k4).new ht3).new ht4) (.inl ⟨s0, s1, s3, rfl, h0, h1, h3⟩) (tD upd_same (.c (sD _) (.c (sD _) (.c (sD _) .n))))
theorem ok_all_names {f fD fO fW fN fS : Addr} {fd fdD fdO fdW fdN fdS : FuncData} (D : DefT K mg "_law_all_names" "_law_all_names" s_l_all_names ["_law_script", "_law_pool_here"] f fd) (Z : Zs mg) (D_l_draw : DefT K mg "_law_draw" "_law_draw" s_l_draw ["_law_script", "_law_pool_here", "_law_limit"] fD fdD)
    (D_l_one : DefT K mg "_law_one" "_law_one" s_l_one ["_law_script", "_law_pool_here", "_law_row"] fO fdO) (D_l_word : DefT K mg "_law_word" "_law_word" s_l_word ["_law_script", "_law_pool_here"] fW fdW) (D_l_name : DefT K mg "_law_name" "_law_name" s_l_name ["_law_script", "_law_pool_here", "_law_taken", "_law_others"] fN fdN)
    (D_l_names : DefT K mg "_law_names" "_law_names" s_l_names ["_law_script", "_law_pool_here", "_law_size", "_law_others"] fS fdS) : FnOk P w K mg base CX0 5 f fd ["_law_script", "_law_pool_here"] (spNAll K) := by
  have G_l_draw := ok_draw (P := P) (w := w) (base := base) D_l_draw Z
  have G_l_names := ok_names (P := P) (w := w) (base := base) D_l_names Z D_l_draw D_l_one D_l_word D_l_name
  refine D.F.ok sc_l_all_names (fun vs H Q E h => ?_) (fun cdv A outer s H vs Q E hr h => ?_)
  · obtain ⟨a, p, ns, rfl, _⟩ := h
    rfl
  obtain ⟨a, p, ns, rfl, hS, hP, q⟩ := h
  refine ⟨_, (pss_cons (ps_set (i := 2) sc_l_all_names.nd rfl (Or.inl rfl) (pe_call G_l_names (hr.mono (by decide)) rfl D_l_names.m D_l_names.F.kp D_l_names.b .nil pass0 (pa_cons (pv 0) (pa_cons (pv 1) (pa_cons (pe_op op_add pe_int (pe_call G_l_draw (hr.mono (by decide)) rfl D_l_draw.m D_l_draw.F.kp D_l_draw.b .nil pass0 (pa_cons (pv 0) (pa_cons (pv 1) (pa_cons pe_int pa_nil))))) (pa_cons (pe_lst pa_nil) pa_nil)))))) (pss_cons (ps_set (i := 3) sc_l_all_names.nd rfl (Or.inl rfl) (pe_call G_l_names (hr.mono (by decide)) rfl D_l_names.m D_l_names.F.kp D_l_names.b .nil pass0 (pa_cons (pv 0) (pa_cons (pv 1) (pa_cons (pe_op op_add pe_int (pe_call G_l_draw (hr.mono (by decide)) rfl D_l_draw.m D_l_draw.F.kp D_l_draw.b .nil pass0 (pa_cons (pv 0) (pa_cons (pv 1) (pa_cons pe_int pa_nil))))) (pa_cons (pv 2) pa_nil)))))) (pss_cons (ps_set (i := 4) sc_l_all_names.nd rfl (Or.inl rfl) (pe_call G_l_names (hr.mono (by decide)) rfl D_l_names.m D_l_names.F.kp D_l_names.b .nil pass0 (pa_cons (pv 0) (pa_cons (pv 1) (pa_cons (pe_op op_add pe_int (pe_call G_l_draw (hr.mono (by decide)) rfl D_l_draw.m D_l_draw.F.kp D_l_draw.b .nil pass0 (pa_cons (pv 0) (pa_cons (pv 1) (pa_cons pe_int pa_nil))))) (pa_cons (pv 3) pa_nil)))))) (pss_cons (ps_set (i := 5) sc_l_all_names.nd rfl (Or.inl rfl) (pe_call G_l_names (hr.mono (by decide)) rfl D_l_names.m D_l_names.F.kp D_l_names.b .nil pass0 (pa_cons (pv 0) (pa_cons (pv 1) (pa_cons (pe_op op_add pe_int (pe_call G_l_draw (hr.mono (by decide)) rfl D_l_draw.m D_l_draw.F.kp D_l_draw.b .nil pass0 (pa_cons (pv 0) (pa_cons (pv 1) (pa_cons pe_int pa_nil))))) (pa_cons (pv 2) pa_nil)))))) (pss_cons (ps_set (i := 6) sc_l_all_names.nd rfl (Or.inl rfl) (pe_call G_l_names (hr.mono (by decide)) rfl D_l_names.m D_l_names.F.kp D_l_names.b .nil pass0 (pa_cons (pv 0) (pa_cons (pv 1) (pa_cons (pe_op op_add pe_int (pe_call G_l_draw (hr.mono (by decide)) rfl D_l_draw.m D_l_draw.F.kp D_l_draw.b .nil pass0 (pa_cons (pv 0) (pa_cons (pv 1) (pa_cons pe_int pa_nil))))) (pa_cons (pv 5) pa_nil)))))) (pss_one (ps_ret (pe_lst (pa_cons (pv 2) (pa_cons (pv 3) (pa_cons (pv 4) (pa_cons (pv 5) (pa_cons (pv 6) pa_nil))))))))))))), ?_⟩
  refine ⟨_, rfl, _, rfl, _, rfl, _, rfl, a, p, ns, _, rfl, hS, hP, by decide, by decide, fun r H1 r0 r1 k1 => ?_⟩
  obtain ⟨n0, rfl⟩ : ∃ n : Nat, r = (n : Int) := ⟨r.toNat, by omega⟩
  refine ⟨_, _, rfl, rfl, sz 0, fun o ho => ?_⟩
  have ko := k1.new (o := .lst []) ho
  refine ⟨a, p, o, ns, 2 + n0, [], (by rw [Int.natCast_add] <;> rfl), hS.on ko, ko.pool, .of upd_same (k1.ne ho), by decide, fun s hs => (by cases hs), by omega, fun l0 st H2 hst nst gst fl0 el0 k2 => ?_⟩
  have j2 := ko.trans k2
  have nl0 : l0 ≠ p := ko.ne fl0
  have w0 : Row K H2 l0 p (st.map V.str) := .of el0 nl0
  refine ⟨_, rfl, _, rfl, _, rfl, _, rfl, a, p, ns, _, rfl, hS.on j2, k2.pool, by decide, by decide, fun r H3 r0 r1 k3 => ?_⟩
  obtain ⟨n1, rfl⟩ : ∃ n : Nat, r = (n : Int) := ⟨r.toNat, by omega⟩
  have j3 := j2.trans k3
  refine ⟨_, _, rfl, rfl, _, rfl, a, p, l0, ns, 1 + n1, st, (by rw [Int.natCast_add] <;> rfl), hS.on j3, k3.pool, w0.on k3, by omega, gst, by omega, fun l1 up H4 hup nup gup fl1 el1 k4 => ?_⟩
  have j4 := j3.trans k4
  have w1 : Row K H4 l1 p (up.map V.str) := .of el1 (k3.ne fl1)
  refine ⟨_, rfl, _, rfl, _, rfl, _, rfl, a, p, ns, _, rfl, hS.on j4, k4.pool, by decide, by decide, fun r H5 r0 r1 k5 => ?_⟩
  obtain ⟨n2, rfl⟩ : ∃ n : Nat, r = (n : Int) := ⟨r.toNat, by omega⟩
  have j5 := j4.trans k5
  refine ⟨_, _, rfl, rfl, _, rfl, a, p, l1, ns, 1 + n2, up, (by rw [Int.natCast_add] <;> rfl), hS.on j5, k5.pool, w1.on k5, by omega, gup, by omega, fun l2 dn H6 hdn ndn gdn fl2 el2 k6 => ?_⟩
  have j6 := j5.trans k6
  have w2 : Row K H6 l2 p (dn.map V.str) := .of el2 (k5.ne fl2)
  have w0' := ((w0.on k3).on k4).on (k5.trans k6)
  refine ⟨_, rfl, _, rfl, _, rfl, _, rfl, a, p, ns, _, rfl, hS.on j6, k6.pool, by decide, by decide, fun r H7 r0 r1 k7 => ?_⟩
  obtain ⟨n3, rfl⟩ : ∃ n : Nat, r = (n : Int) := ⟨r.toNat, by omega⟩
  have j7 := j6.trans k7
  refine ⟨_, _, rfl, rfl, _, rfl, a, p, l0, ns, 1 + n3, st, (by rw [Int.natCast_add] <;> rfl), hS.on j7, k7.pool, w0'.on k7, by omega, gst, by omega, fun l3 ma H8 hma nma gma fl3 el3 k8 => ?_⟩
  have j8 := j7.trans k8
  have nl3 := k7.ne fl3
  have w3 : Row K H8 l3 p (ma.map V.str) := .of el3 (k7.ne fl3)
  refine ⟨_, rfl, _, rfl, _, rfl, _, rfl, a, p, ns, _, rfl, hS.on j8, k8.pool, by decide, by decide, fun r H9 r0 r1 k9 => ?_⟩
  obtain ⟨n4, rfl⟩ : ∃ n : Nat, r = (n : Int) := ⟨r.toNat, by omega⟩
  have j9 := j8.trans k9
  refine ⟨_, _, rfl, rfl, _, rfl, a, p, l3, ns, 1 + n4, ma, (by rw [Int.natCast_add] <;> rfl), hS.on j9, k9.pool, w3.on k9, by omega, gma, by omega, fun l4 tk H10 htk ntk gtk fl4 el4 k10 => ?_⟩
  have j10 := j9.trans k10
  have w4 : Row K H10 l4 p (tk.map V.str) := .of el4 (k9.ne fl4)
  refine ⟨_, rfl, _, rfl, _, rfl, _, rfl, _, rfl, sz 5, fun m hm => ?_⟩
  have kk := (Kp.refl k10.pool).new (o := .lst [.ref l0, .ref l1, .ref l2, .ref l3, .ref l4]) hm
  refine q m ⟨st, up, dn, ma, tk⟩ _ ⟨by show 2 ≤ st.length; omega, by show st.length ≤ 7; omega, by show 1 ≤ up.length; omega, by show up.length ≤ 5; omega, by show 1 ≤ dn.length; omega, by show dn.length ≤ 5; omega, by show 1 ≤ ma.length; omega, by show ma.length ≤ 6; omega, by show 1 ≤ tk.length; omega, by show tk.length ≤ 3; omega, ⟨nst, gst⟩, ⟨nup, gup⟩, ⟨ndn, gdn⟩, ⟨nma, gma⟩, ⟨ntk, gtk⟩⟩ ?_ (j10.trans kk)
  exact ⟨l0, l1, l2, l3, l4, .of upd_same (k10.ne hm), ((w0'.on (k7.trans k8)).on (k9.trans k10)).on kk, ((((w1.on (k5.trans k6)).on (k7.trans k8)).on (k9.trans k10))).on kk, ((w2.on (k7.trans k8)).on (k9.trans k10)).on kk, (w3.on (k9.trans k10)).on kk, w4.on kk, nl3, kk.keep _ _ nl3 ((k9.trans k10).keep _ _ nl3 el3)⟩
end
end My

namespace My
open PySem L2
abbrev s_l_task : Stmt := top 45
theorem sc_l_task : FnScope ["_law_script", "_law_pool_here", "_law_names_here", "_law_name_here", "_law_marks", "_law_calls", "_law_ends", "_law_quiet", "_law_k", "_law_mark", "_law_owner"] ["_law_script", "_law_pool_here", "_law_names_here", "_law_name_here"] (defScope s_l_task) := ⟨rfl, rfl, rfl, by decide +kernel, rfl, by decide +kernel, by decide +kernel⟩
def owners : List Str := ["asker", "none", "stays"]
def IsCall (N : Nm5) (d : PyData) : Prop := ∃ (m : Str) (k : Option Str), d = .tuple [.str m, oN k] ∧ m ∈ N.ma ∧ OnIn k N.dn
def IsTask (N : Nm5) (nm : Str) (d : PyData) : Prop := ∃ (cs : List PyData) (qs es : List Str) (m : Str) (k : Option Str) (o : Str), d = .tuple [.str nm, .list cs, .list (qs.map .str), .list (es.map .str), .str m, oN k, .str o] ∧
  cs.length = N.ma.length ∧ (∀ c ∈ cs, IsCall N c) ∧ qs ≠ [] ∧ qs.Nodup ∧ (∀ q ∈ qs, q ∈ N.ma) ∧ es.length = N.ma.length ∧ (∀ e ∈ es, e ∈ N.ma) ∧ m ∈ N.ma ∧ OnIn k N.dn ∧ o ∈ owners
theorem strs_df {H : Hp} : ∀ ss : List Str, DfL H (ss.map .str) (ss.map .str) []
  | [] => .n
  | s :: ss => .c (sD s) (strs_df ss)
def spTask (K : PySem.W.Frag) : Sp := fun vs H Q _ => ∃ (a p m : Addr) (ns : List Int) (N : Nm5) (nm : Str), vs = [.ref a, .ref p, .ref m, .str nm] ∧ Scr K H a p ns ∧ Pool H p ∧ NOk N ∧ NA K H m p N ∧
  ∀ (v : V) (d : PyData) (fp : List Addr) (H' : Hp), Kp p H H' → IsTask N nm d → Df H' d v fp → (∀ x ∈ fp, H x = none) → Q v H'
section
variable {P : Program} {w : World} {K : PySem.W.Frag} {mg : Str → Option Value} {base : Heap}
theorem ok_task {f fD fO fM : Addr} {fd fdD fdO fdM : FuncData} (D : DefT K mg "_law_task" "_law_task" s_l_task ["_law_script", "_law_pool_here", "_law_names_here", "_law_name_here"] f fd) (Z : Zs mg) (D_l_draw : DefT K mg "_law_draw" "_law_draw" s_l_draw ["_law_script", "_law_pool_here", "_law_limit"] fD fdD)
    (D_l_one : DefT K mg "_law_one" "_law_one" s_l_one ["_law_script", "_law_pool_here", "_law_row"] fO fdO) (D_l_maybe : DefT K mg "_law_maybe" "_law_maybe" s_l_maybe ["_law_script", "_law_pool_here", "_law_row"] fM fdM) : FnOk P w K mg base CX0 4 f fd ["_law_script", "_law_pool_here", "_law_names_here", "_law_name_here"] (spTask K) := by
  have G_l_draw := ok_draw (P := P) (w := w) (base := base) D_l_draw Z
  have G_l_one := ok_one (P := P) (w := w) (base := base) D_l_one Z D_l_draw
  have G_l_maybe := ok_maybe (P := P) (w := w) (base := base) D_l_maybe Z D_l_draw D_l_one
  refine D.F.ok sc_l_task (fun vs H Q E h => ?_) (fun cdv A outer s H vs Q E hr h => ?_)
  · obtain ⟨a, p, m, ns, N, nm, rfl, _⟩ := h
    rfl
  obtain ⟨a, p, m, ns, N, nm, rfl, hS, hP, ok, ⟨l0, l1, l2, l3, l4, rm, r0, r1, r2, r3, r4, n3⟩, q⟩ := h
  have b5 := ok.dn1
  have b6 := ok.dn5
  have b7 := ok.mk1
  have b8 := ok.mk6
  have hlen : (N.ma.map V.str).length = N.ma.length := List.length_map _
  refine ⟨_, (pss_cons (ps_set (i := 4) sc_l_task.nd rfl (Or.inr rfl) (pe_ix ix_list (pv 2) pe_int (fun _ _ => rfl))) (pss_cons (ps_setLc (i := 5) (own := [("_law_k", 8)]) (g := gName 8) rfl sc_l_task.nd rfl rfl (sw_true rfl rfl rfl (by decide +kernel)) (pi_range1 rfl Z.range (pa_cons (pe_callB call_len_seq (by rfl) Z.len (by decide +kernel) (pa_cons (pv 4) pa_nil)) pa_nil)) (blkOk_by (own := [("_law_k", 8)]) (N := ["_law_script", "_law_pool_here", "_law_names_here", "_law_name_here", "_law_marks", "_law_calls", "_law_ends", "_law_quiet", "_law_k", "_law_mark", "_law_owner"]) (sc := defScope s_l_task) (by decide +kernel)) (fun _ _ _ _ _ => pg_name (i := 8) sc_l_task.nd rfl (Or.inl rfl)) (fun _ _ _ _ _ => pts_nil) (fun _ _ _ _ _ => (pe_tup (pa_cons (pe_call G_l_one (hr.mono (by decide)) rfl D_l_one.m D_l_one.F.kp D_l_one.b .nil pass0 (pa_cons (pv 0) (pa_cons (pv 1) (pa_cons (pv 4) pa_nil)))) (pa_cons (pe_call G_l_maybe (hr.mono (by decide)) rfl D_l_maybe.m D_l_maybe.F.kp D_l_maybe.b .nil pass0 (pa_cons (pv 0) (pa_cons (pv 1) (pa_cons (pe_ix (ix_listK (K := K) rfl) (pv 2) pe_int (fun _ _ => rfl)) pa_nil)))) pa_nil))))) (pss_cons (ps_setLc (i := 6) (own := [("_law_k", 8)]) (g := gName 8) rfl sc_l_task.nd rfl rfl (sw_true rfl rfl rfl (by decide +kernel)) (pi_range1 rfl Z.range (pa_cons (pe_callB call_len_seq (by rfl) Z.len (by decide +kernel) (pa_cons (pv 4) pa_nil)) pa_nil)) (blkOk_by (own := [("_law_k", 8)]) (N := ["_law_script", "_law_pool_here", "_law_names_here", "_law_name_here", "_law_marks", "_law_calls", "_law_ends", "_law_quiet", "_law_k", "_law_mark", "_law_owner"]) (sc := defScope s_l_task) (by decide +kernel)) (fun _ _ _ _ _ => pg_name (i := 8) sc_l_task.nd rfl (Or.inl rfl)) (fun _ _ _ _ _ => pts_nil) (fun _ _ _ _ _ => (pe_call G_l_one (hr.mono (by decide)) rfl D_l_one.m D_l_one.F.kp D_l_one.b .nil pass0 (pa_cons (pv 0) (pa_cons (pv 1) (pa_cons (pv 4) pa_nil)))))) (pss_cons (ps_set (i := 7) sc_l_task.nd rfl (Or.inl rfl) (pe_lst pa_nil)) (pss_cons (ps_for PassesOwn.never rfl (pi_range1 rfl Z.range (pa_cons (pe_op op_add pe_int (pe_call G_l_draw (hr.mono (by decide)) rfl D_l_draw.m D_l_draw.F.kp D_l_draw.b .nil pass0 (pa_cons (pv 0) (pa_cons (pv 1) (pa_cons (pe_callB call_len_seq (by rfl) Z.len (by decide +kernel) (pa_cons (pv 4) pa_nil)) pa_nil))))) pa_nil)) (pg_name (i := 8) sc_l_task.nd rfl (Or.inl rfl)) (pss_cons (ps_set (i := 9) sc_l_task.nd rfl (Or.inl rfl) (pe_call G_l_one (hr.mono (by decide)) rfl D_l_one.m D_l_one.F.kp D_l_one.b .nil pass0 (pa_cons (pv 0) (pa_cons (pv 1) (pa_cons (pv 4) pa_nil))))) (pss_one (ps_if (pt_cmpR op_notIn_seq (pv 9) (pv 7) (by rfl)) (pss_one (ps_expr (pe_bm PySem.F.plainAttrs_list PySem.F.slot_list_append PySem.F.type_list_append mt_append (pv 7) (pa_cons (pv 9) pa_nil)))) pss_nil)))) (pss_cons (ps_set (i := 10) sc_l_task.nd rfl (Or.inl rfl) (pe_call G_l_one (hr.mono (by decide)) rfl D_l_one.m D_l_one.F.kp D_l_one.b .nil pass0 (pa_cons (pv 0) (pa_cons (pv 1) (pa_cons (pe_lst (pa_cons pe_str (pa_cons pe_str (pa_cons pe_str pa_nil)))) pa_nil))))) (pss_one (ps_ret (pe_tup (pa_cons (pv 3) (pa_cons (pv 5) (pa_cons (pv 7) (pa_cons (pv 6) (pa_cons (pe_call G_l_one (hr.mono (by decide)) rfl D_l_one.m D_l_one.F.kp D_l_one.b .nil pass0 (pa_cons (pv 0) (pa_cons (pv 1) (pa_cons (pv 4) pa_nil)))) (pa_cons (pe_call G_l_maybe (hr.mono (by decide)) rfl D_l_maybe.m D_l_maybe.F.kp D_l_maybe.b .nil pass0 (pa_cons (pv 0) (pa_cons (pv 1) (pa_cons (pe_ix ix_list (pv 2) pe_int (fun _ _ => rfl)) pa_nil)))) (pa_cons (pv 10) pa_nil)))))))))))))))), ?_⟩
  refine ⟨_, rfl, m, _, _, _, rfl, rfl, rm.seq _ (.refl hP), rfl, ?_⟩
  -- calls
  refine ⟨_, rfl, l3, _, rfl, .inl (r3.seq _ (.refl hP)), _, rfl, by omega, by omega, fun dc hdc => ?_⟩
  have ndc := (Kp.refl hP).ne hdc
  have en : (((N.ma.map V.str).length : Nat) : Int).toNat = N.ma.length := by omega
  rw [en]
  refine lc_range (lo := 0) (n := N.ma.length) (fun i G => ∃ (xs : List V) (ds : List PyData), G dc = some (.lst xs) ∧ DfL G ds xs [] ∧ ds.length = i ∧ (∀ d ∈ ds, IsCall N d) ∧ Kp p H G) ⟨[], [], upd_same, .n, rfl, fun d hd => (by cases hd), (Kp.refl hP).new hdc⟩ ?_ ?_
  · rintro i G hi ⟨xs, ds, hG, hd, hl, hc, k⟩
    refine ⟨rfl, _, rfl, _, rfl, _, rfl, a, p, l3, ns, _, rfl, hS.on k, r3.on k, k.pool, by rw [List.length_map]; omega, by rw [List.length_map]; omega, fun j x G1 hx k1 => ?_⟩
    obtain ⟨s0, rfl, h0⟩ := str_of hx
    have k01 := k.trans k1
    refine ⟨_, rfl, _, rfl, _, rfl, m, _, _, _, rfl, rfl, rm.seq _ k01, rfl, a, p, l2, ns, _, rfl, hS.on k01, r2.on k01, k1.pool, by rw [List.length_map]; omega, by rw [List.length_map]; omega, fun x G2 hx k2 => ?_⟩
    obtain ⟨u, rfl, h1⟩ := on_of hx
    have k12 := k1.trans k2
    refine ⟨sz 2, fun t ht => ?_⟩
    have k13 := k12.new (o := .tup [.str s0, oV u]) ht
    have hG3 := k13.keep _ _ ndc hG
    refine ⟨xs, hG3, ?_, ?_⟩
    · rw [hd.len, hl]
      exact Nat.lt_of_lt_of_le (show i < 1000 by omega) (by decide)
    refine ⟨xs ++ [.ref t], ds ++ [.tuple [.str s0, oN u]], upd_same, ?_, by rw [List.length_append, hl]; rfl, ?_, (k.trans k13).put hdc ndc⟩
    · exact ((hd.kp k13 k.pool (by simp)).snoc (g := []) (tD upd_same (.c (sD _) (.c (oN_df _ u) .n)))).put hG3 (by simp)
    · intro d hd'
      rcases List.mem_append.mp hd' with h | h
      · exact hc d h
      · rcases List.mem_cons.mp h with h | h
        · rw [h]
          exact ⟨s0, u, rfl, h0, h1⟩
        · cases h
  rintro G1 ⟨cs, ds, hG1, hd1, hl1, hc1, k1⟩
  -- ends
  refine ⟨_, rfl, l3, _, rfl, .inl (r3.seq _ k1), _, rfl, by omega, by omega, fun de hde => ?_⟩
  have nde := k1.ne hde
  rw [en]
  refine lc_range (lo := 0) (n := N.ma.length) (fun i G => ∃ ss : List Str, G de = some (.lst (ss.map V.str)) ∧ ss.length = i ∧ (∀ s ∈ ss, s ∈ N.ma) ∧ Kp p G1 G) ⟨[], upd_same, rfl, fun d hd => (by cases hd), (Kp.refl k1.pool).new hde⟩ ?_ ?_
  · rintro i G hi ⟨ss, hG, hl, hc, k⟩
    have kk := k1.trans k
    refine ⟨rfl, _, rfl, _, rfl, _, rfl, a, p, l3, ns, _, rfl, hS.on kk, r3.on kk, k.pool, by rw [List.length_map]; omega, by rw [List.length_map]; omega, fun j x G2 hx k2 => ?_⟩
    obtain ⟨s0, rfl, h0⟩ := str_of hx
    refine ⟨_, k2.keep _ _ nde hG, ?_, ?_⟩
    · rw [List.length_map, hl]
      exact Nat.lt_of_lt_of_le (show i < 1000 by omega) (by decide)
    refine ⟨ss ++ [s0], by rw [List.map_append]; exact upd_same, by rw [List.length_append, hl]; rfl, ?_, (k.trans k2).put hde nde⟩
    intro d hd'
    rcases List.mem_append.mp hd' with h | h
    · exact hc d h
    · rcases List.mem_cons.mp h with h | h
      · rw [h]
        exact h0
      · cases h
  rintro G2 ⟨es, hG2, hl2, hc2, k2⟩
  have k02 := k1.trans k2
  have hcs2 := k2.keep _ _ ndc hG1
  -- quiet
  refine ⟨Nat.zero_le _, fun lq hlq => ?_⟩
  have nlq := k2.ne hlq
  have k2q := k02.new (o := .lst []) hlq
  refine ⟨_, rfl, _, rfl, _, rfl, l3, _, rfl, .inl (r3.seq _ k2q), a, p, ns, _, rfl, hS.on k2q, k2q.pool, by omega, by omega, fun r G3 q0 q1 k3 => ?_⟩
  refine ⟨_, _, rfl, rfl, _, rfl, by omega, by omega, ?_⟩
  have k23 := ((Kp.refl k2.pool).new (o := .lst []) hlq).trans k3
  refine for_range (n := (1 + r).toNat) (fun i σ G => ∃ (v8 v9 v10 : Option V) (ss : List Str), σ = [some (.ref a), some (.ref p), some (.ref m), some (.str nm), some (.ref l3), some (.ref dc), some (.ref de), some (.ref lq), v8, v9, v10] ∧ G lq = some (.lst (ss.map V.str)) ∧ ss.length ≤ i ∧ (i = 0 ∨ ss ≠ []) ∧ ss.Nodup ∧ (∀ s ∈ ss, s ∈ N.ma) ∧ Kp p G2 G)
    ⟨_, _, _, [], rfl, k3.keep _ _ nlq upd_same, Nat.le_refl _, .inl rfl, .nil, fun d hd => (by cases hd), k23⟩ ?_ ?_
  · rintro i σ G hi ⟨v8, v9, v10, ss, rfl, hG, hl, _, nd, hc, k⟩
    have kk := k02.trans k
    refine ⟨_, rfl, _, rfl, _, rfl, a, p, l3, ns, _, rfl, hS.on kk, r3.on kk, k.pool, by rw [List.length_map]; omega, by rw [List.length_map]; omega, fun j x G4 hx k4 => ?_⟩
    obtain ⟨s0, rfl, h0⟩ := str_of hx
    have hG4 := k4.keep _ _ nlq hG
    refine ⟨_, rfl, _, rfl, lq, _, rfl, .inl (.of hG4), rfl, flat_strs ss, _, rfl, ?_⟩
    show if (if true = true then !inV (V.str s0) (ss.map V.str) else inV (V.str s0) (ss.map V.str)) = true then _ else _
    rw [in_strs]
    by_cases m0 : s0 ∈ ss
    · rw [decide_eq_true m0]
      exact iteF ⟨_, _, _, ss, rfl, hG4, by omega, .inr (List.ne_nil_of_mem m0), nd, hc, k.trans k4⟩
    · rw [decide_eq_false m0]
      refine iteT ⟨_, rfl, .inl ⟨rfl, _, SqL.of hG4⟩, _, rfl, lq, _, _, rfl, rfl, hG4, ?_, ?_⟩
      · rw [List.length_map]
        exact Nat.lt_of_lt_of_le (show ss.length < 1000 by omega) (by decide)
      refine ⟨_, _, _, ss ++ [s0], rfl, by rw [List.map_append]; exact upd_same, by rw [List.length_append]; show ss.length + 1 ≤ i + 1; omega, .inr (by simp), ?_, ?_, (k.trans k4).put hlq nlq⟩
      · rw [List.nodup_append]
        exact ⟨nd, by simp, fun x hx y hy e => by
          rcases List.mem_cons.mp hy with h | h
          · exact m0 (h ▸ e ▸ hx)
          · cases h⟩
      · intro d hd'
        rcases List.mem_append.mp hd' with h | h
        · exact hc d h
        · rcases List.mem_cons.mp h with h | h
          · rw [h]
            exact h0
          · cases h
  rintro σ G4 ⟨v8, v9, v10, qs, rfl, hq4, hlq4, ne, nd, hcq, k4⟩
  have k24 := k02.trans k4
  -- owner
  refine ⟨_, rfl, _, rfl, sz 3, fun lo hlo => ?_⟩
  have k5 := (Kp.refl k4.pool).new (o := .lst [.str "asker", .str "none", .str "stays"]) hlo
  have k25 := k24.trans k5
  refine ⟨a, p, lo, ns, owners.map V.str, rfl, hS.on k25, .of upd_same (k4.ne hlo), k5.pool, by decide, by decide, fun j x G6 hx k6 => ?_⟩
  obtain ⟨so, rfl, ho⟩ := str_of hx
  have k26 := k25.trans k6
  refine ⟨_, rfl, _, rfl, _, rfl, _, rfl, _, rfl, _, rfl, _, rfl, a, p, l3, ns, _, rfl, hS.on k26, r3.on k26, k6.pool, by rw [List.length_map]; omega, by rw [List.length_map]; omega, fun j x G7 hx k7 => ?_⟩
  obtain ⟨sm, rfl, hm⟩ := str_of hx
  have k27 := k26.trans k7
  refine ⟨_, rfl, _, rfl, _, rfl, m, _, _, _, rfl, rfl, rm.seq _ k27, rfl, a, p, l2, ns, _, rfl, hS.on k27, r2.on k27, k7.pool, by rw [List.length_map]; omega, by rw [List.length_map]; omega, fun x G8 hx k8 => ?_⟩
  obtain ⟨u, rfl, hu⟩ := on_of hx
  have k28 := k27.trans k8
  have k48 := (k5.trans k6).trans (k7.trans k8)
  refine ⟨_, rfl, sz 7, fun t ht => ?_⟩
  have kt := (Kp.refl k8.pool).new (o := .tup [.str nm, .ref dc, .ref lq, .ref de, .str sm, oV u, .str so]) ht
  have kf := k48.trans kt
  have hcsF := (k4.trans kf).keep _ _ ndc hcs2
  have hesF := (k4.trans kf).keep _ _ nde hG2
  have hqsF := kf.keep _ _ nlq hq4
  have hcd : DfL _ ds cs [] := (hd1.kp ((k2.trans k4).trans kf) k1.pool (by simp))
  refine q _ (.tuple [.str nm, .list ds, .list (qs.map .str), .list (es.map .str), .str sm, oN u, .str so]) [dc, lq, de] _ (k28.trans kt) ⟨ds, qs, es, sm, u, so, rfl, hl1, hc1, ?_, nd, hcq, hl2, hc2, hm, hu, ho⟩ ?_ ?_
  · rcases ne with h | h
    · exfalso
      omega
    · exact h
  · refine tD upd_same ⟨_, _, [], _, rfl, rfl, sD nm, _, _, [dc], [lq, de], rfl, rfl, ⟨dc, cs, [], rfl, rfl, hcsF, hcd⟩, _, _, [lq], [de], rfl, rfl, ⟨lq, _, [], rfl, rfl, hqsF, strs_df qs⟩, _, _, [de], [], rfl, rfl, ⟨de, _, [], rfl, rfl, hesF, strs_df es⟩, .c (sD _) (.c (oN_df _ u) (.c (sD _) .n))⟩
  · intro x hx
    rcases List.mem_cons.mp hx with h | h
    · rw [h]
      exact hdc
    · rcases List.mem_cons.mp h with h | h
      · rw [h]
        exact k02.free hlq
      · rcases List.mem_cons.mp h with h | h
        · rw [h]
          exact k1.free hde
        · cases h
end
end My

namespace My
open PySem L2
abbrev s_l_rules : Stmt := top 49
theorem sc_l_rules : FnScope ["_law_script", "_law_pool_here", "_law_names_here", "_law_part", "_law_rows", "_law_heads", "_law_k", "_law_row", "_law_head"] ["_law_script", "_law_pool_here", "_law_names_here", "_law_part"] (defScope s_l_rules) := ⟨rfl, rfl, rfl, by decide +kernel, rfl, by decide +kernel, by decide +kernel⟩
theorem hu65 {k : Nat} {A : Around} (r : Room k A) : A.units + 65 < cLine := by
  have := r.un
  omega
theorem same_upd {H : Hp} {a : Addr} {o : HO} (h : H a = none) : Same H (upd H a o) := fun b u e => keep_new h b u e
/-! ### data that can be compared -/
theorem strOk_nm {s : Str} (h : Nm s) : PyData.strOk s = true := by
  unfold PyData.strOk
  rw [← Array.all_toList, List.all_eq_true]
  intro c hc
  have := (h.2.2 c hc).2
  exact decide_eq_true (by omega)
/-- flat, or a tuple of flat ones, that can be compared -/
def Sh (d : PyData) : Prop := d.canLay0 = true ∧ d.depth ≤ 1
theorem Sh.str {s : Str} (h : Nm s) : (PyData.str s).canLay0 = true := strOk_nm h
theorem sh_int (n : Int) : Sh (.int n) := ⟨rfl, Nat.zero_le _⟩
theorem shaped_of {d : PyData} {n : Nat} (h : d.canLay0 = true) (g : d.depth ≤ n) (hn : n ≤ 64) : SeqAt.shaped d = true := by
  unfold SeqAt.shaped
  rw [h, decide_eq_true (show d.depth ≤ 64 by omega)]
  rfl
theorem layAll_of : ∀ {ds : List PyData}, (∀ d ∈ ds, d.canLay0 = true) → PyData.canLayAll0 ds = true
  | [], _ => rfl
  | d :: ds, h => by
    show (d.canLay0 && PyData.canLayAll0 ds) = true
    rw [h d List.mem_cons_self, layAll_of fun e he => h e (List.mem_cons_of_mem _ he)]
    rfl
theorem deepAll_of {n : Nat} : ∀ {ds : List PyData}, (∀ d ∈ ds, d.depth ≤ n) → PyData.depthAll ds ≤ n
  | [], _ => Nat.zero_le _
  | d :: ds, h => by
    show max d.depth (PyData.depthAll ds) ≤ n
    exact Nat.max_le.mpr ⟨h d List.mem_cons_self, deepAll_of fun e he => h e (List.mem_cons_of_mem _ he)⟩
theorem shaped_list {n : Nat} {ds : List PyData} (h : ∀ d ∈ ds, d.canLay0 = true ∧ d.depth ≤ n) (hn : n < 64) : SeqAt.shaped (.list ds) = true := by
  refine shaped_of (n := n + 1) (layAll_of fun d hd => (h d hd).1) ?_ hn
  show PyData.depthAll ds + 1 ≤ n + 1
  have := deepAll_of fun d hd => (h d hd).2
  omega
theorem sh_tup {ds : List PyData} (h : ∀ d ∈ ds, d.canLay0 = true ∧ d.depth ≤ 0) : Sh (.tuple ds) := by
  refine ⟨layAll_of fun d hd => (h d hd).1, ?_⟩
  show PyData.depthAll ds + 1 ≤ 1
  have := deepAll_of fun d hd => (h d hd).2
  omega
/-! ### the rules of a book -/
inductive Kd where
  | w | a | i | b
def Kd.nm : Kd → Str
  | .w => "wishes"
  | .a => "answers"
  | .i => "idles"
  | .b => "busies"
def Kd.cut : Kd → Nat
  | .w => 0
  | .a => 2
  | .i => 2
  | .b => 3
def IsWish (N : Nm5) (d : PyData) : Prop := ∃ (a b : Str) (u : Option Str), d = .tuple [.str a, .str b, oN u] ∧ a ∈ N.st ∧ b ∈ N.st ∧ OnIn u N.up
def IsBusy (N : Nm5) (d : PyData) : Prop := ∃ (t m u n : Str) (k : Option Str) (f : Bool), d = .tuple [.str t, .str m, .str u, .str n, oN k, .bool f] ∧ t ∈ N.tk ∧ m ∈ N.ma ∧ u ∈ N.up ∧ n ∈ N.ma ∧ OnIn k N.dn
def RowR : Kd → Nm5 → PyData → Prop
  | .w => IsWish
  | .a => IsAnswer
  | .i => IsIdle
  | .b => IsBusy
def cutD (n : Nat) : PyData → PyData
  | .tuple ds => .tuple (ds.take n)
  | d => d
def HeadR : Kd → PyData → PyData → Prop
  | .w, _, h => ∃ n : Int, h = .int n
  | k, d, h => h = cutD k.cut d
theorem head_sh {k : Kd} {N : Nm5} {d h : PyData} (ok : NOk N) (r : RowR k N d) (e : HeadR k d h) : Sh h := by
  have two : ∀ s t : Str, Nm s → Nm t → Sh (.tuple [.str s, .str t]) := fun s t hs ht => sh_tup fun d hd => by
    rcases List.mem_cons.mp hd with rfl | hd
    · exact ⟨strOk_nm hs, Nat.le_refl _⟩
    · rcases List.mem_cons.mp hd with rfl | hd
      · exact ⟨strOk_nm ht, Nat.le_refl _⟩
      · cases hd
  cases k with
  | w =>
    obtain ⟨n, rfl⟩ := e
    exact sh_int n
  | a =>
    obtain ⟨a, k, b, u, rfl, h1, h2, _, _⟩ := r
    have e' : h = .tuple [.str a, .str k] := e
    rw [e']
    exact two a k (ok.stn.2 a h1) (ok.dnn.2 k h2)
  | i =>
    rcases r with ⟨m, u, t, rfl, h1, h2, _⟩ | ⟨m, u, n, k, f, rfl, h1, h2, _, _⟩
    · have e' : h = .tuple [.str m, .str u] := e
      rw [e']
      exact two m u (ok.mkn.2 m h1) (ok.upn.2 u h2)
    · have e' : h = .tuple [.str m, .str u] := e
      rw [e']
      exact two m u (ok.mkn.2 m h1) (ok.upn.2 u h2)
  | b =>
    obtain ⟨t, m, u, n, k, f, rfl, h0, h1, h2, _, _⟩ := r
    have e' : h = .tuple [.str t, .str m, .str u] := e
    rw [e']
    refine sh_tup fun d hd => ?_
    rcases List.mem_cons.mp hd with rfl | hd
    · exact ⟨strOk_nm (ok.tkn.2 t h0), Nat.le_refl _⟩
    · rcases List.mem_cons.mp hd with rfl | hd
      · exact ⟨strOk_nm (ok.mkn.2 m h1), Nat.le_refl _⟩
      · rcases List.mem_cons.mp hd with rfl | hd
        · exact ⟨strOk_nm (ok.upn.2 u h2), Nat.le_refl _⟩
        · cases hd
theorem cut3 {x y z : V} {r : List V} : cutV (x :: y :: z :: r) none (some 3) = [x, y, z] := by
  unfold cutV
  rw [show ((3 : Int)) = ((3 : Nat) : Int) from rfl, HT.sIx_nat]
  show (List.drop 0 (x :: y :: z :: r)).take (min 3 (x :: y :: z :: r).length - 0) = [x, y, z]
  rw [List.drop_zero, Nat.sub_zero, Nat.min_eq_left (by simp)]
  rfl
theorem notwhole {n k : Nat} (h : k < n) : ¬ (HT.sIx n 0 none = 0 ∧ HT.sIx n n (some ((k : Nat) : Int)) = n) := by
  rintro ⟨_, z⟩
  rw [HT.sIx_nat] at z
  omega
/-- heads that differ, the earlier one asked first -/
def Apart (hs : List PyData) : Prop := hs.Pairwise fun z d => PyData.eqv z d = false
theorem ifT {c : Bool} {A B : Prop} (h : c = true) (a : A) : if c = true then A else B := by
  rw [if_pos h]
  exact a
theorem ifF {c : Bool} {A B : Prop} (h : c = false) (b : B) : if c = true then A else B := by
  rw [h]
  exact iteF b
theorem nW {k : Kd} (h : k = .w → False) : decide (V.str k.nm = V.str "wishes") = false := by
  cases k with
  | w => exact (h rfl).elim
  | a => decide +kernel
  | i => decide +kernel
  | b => decide +kernel
theorem nA {k : Kd} (h : k = .a → False) : decide (V.str k.nm = V.str "answers") = false := by
  cases k with
  | a => exact (h rfl).elim
  | w => decide +kernel
  | i => decide +kernel
  | b => decide +kernel
theorem nI {k : Kd} (h : k = .i → False) : decide (V.str k.nm = V.str "idles") = false := by
  cases k with
  | i => exact (h rfl).elim
  | w => decide +kernel
  | a => decide +kernel
  | b => decide +kernel
def spRules (K : PySem.W.Frag) : Sp := fun vs H Q _ => ∃ (a p m : Addr) (ns : List Int) (N : Nm5) (kd : Kd), vs = [.ref a, .ref p, .ref m, .str kd.nm] ∧ Scr K H a p ns ∧ Pool H p ∧ NOk N ∧ NA K H m p N ∧
  ∀ (l : Addr) (xs : List V) (ds hs : List PyData) (H' : Hp), Kp p H H' → H l = none → H' l = some (.lst xs) → DfL H' ds xs [] → ds.length ≤ 30 → (∀ d ∈ ds, RowR kd N d) → hs.length = ds.length → (∀ (i : Nat) (d h : PyData), ds[i]? = some d → hs[i]? = some h → HeadR kd d h) → Apart hs → Q (.ref l) H'
section
variable {P : Program} {w : World} {K : PySem.W.Frag} {mg : Str → Option Value} {base : Heap}
theorem ok_rules {f fD fO fM : Addr} {fd fdD fdO fdM : FuncData} (D : DefT K mg "_law_rules" "_law_rules" s_l_rules ["_law_script", "_law_pool_here", "_law_names_here", "_law_part"] f fd) (Z : Zs mg) (D_l_draw : DefT K mg "_law_draw" "_law_draw" s_l_draw ["_law_script", "_law_pool_here", "_law_limit"] fD fdD)
    (D_l_one : DefT K mg "_law_one" "_law_one" s_l_one ["_law_script", "_law_pool_here", "_law_row"] fO fdO) (D_l_maybe : DefT K mg "_law_maybe" "_law_maybe" s_l_maybe ["_law_script", "_law_pool_here", "_law_row"] fM fdM)
    {fN fY fA fI : Addr} {fdN fdY fdA fdI : FuncData} (D_l_note : DefT K mg "_law_note" "_law_note" s_l_note ["_law_script", "_law_pool_here", "_law_names_here"] fN fdN) (D_l_many : DefT K mg "_law_many" "_law_many" s_l_many ["_law_script", "_law_pool_here"] fY fdY)
    (D_l_answer : DefT K mg "_law_answer" "_law_answer" s_l_answer ["_law_script", "_law_pool_here", "_law_names_here"] fA fdA) (D_l_idle : DefT K mg "_law_idle" "_law_idle" s_l_idle ["_law_script", "_law_pool_here", "_law_names_here"] fI fdI) : FnOk P w K mg base CX0 6 f fd ["_law_script", "_law_pool_here", "_law_names_here", "_law_part"] (spRules K) := by
  have G_l_many := ok_many (P := P) (w := w) (base := base) D_l_many Z D_l_draw
  have G_l_one := ok_one (P := P) (w := w) (base := base) D_l_one Z D_l_draw
  have G_l_maybe := ok_maybe (P := P) (w := w) (base := base) D_l_maybe Z D_l_draw D_l_one
  have G_l_answer := ok_answer (P := P) (w := w) (base := base) D_l_answer Z D_l_draw D_l_one D_l_maybe
  have G_l_note := ok_note (P := P) (w := w) (base := base) D_l_note Z D_l_draw D_l_one D_l_maybe
  have G_l_idle := ok_idle (P := P) (w := w) (base := base) D_l_idle Z D_l_draw D_l_one D_l_maybe D_l_note
  refine D.F.ok sc_l_rules (fun vs H Q E h => ?_) (fun cdv A outer s H vs Q E hr h => ?_)
  · obtain ⟨a, p, m, ns, N, kd, rfl, _⟩ := h
    rfl
  obtain ⟨a, p, m, ns, N, kd, rfl, hS, hP, ok, na, q⟩ := h
  have b1 := ok.st2
  have b2 := ok.st7
  have b3 := ok.up1
  have b4 := ok.up5
  have b5 := ok.tk1
  have b6 := ok.tk3
  refine ⟨_, (pss_cons (ps_set (i := 4) sc_l_rules.nd rfl (Or.inl rfl) (pe_lst pa_nil)) (pss_cons (ps_set (i := 5) sc_l_rules.nd rfl (Or.inl rfl) (pe_lst pa_nil)) (pss_cons (ps_for PassesOwn.never rfl (pi_range1 rfl Z.range (pa_cons (pe_call G_l_many (hr.mono (by decide)) rfl D_l_many.m D_l_many.F.kp D_l_many.b .nil pass0 (pa_cons (pv 0) (pa_cons (pv 1) pa_nil))) pa_nil)) (pg_name (i := 6) sc_l_rules.nd rfl (Or.inl rfl)) (C8.pss_cut (ps_if (pt_cmpR op_eq (pv 3) pe_str (nomark _)) (pss_cons (ps_set (i := 7) sc_l_rules.nd rfl (Or.inl rfl) (pe_tup (pa_cons (pe_call G_l_one (hr.mono (by decide)) rfl D_l_one.m D_l_one.F.kp D_l_one.b .nil pass0 (pa_cons (pv 0) (pa_cons (pv 1) (pa_cons (pe_ix ix_list (pv 2) pe_int (fun _ _ => rfl)) pa_nil)))) (pa_cons (pe_call G_l_one (hr.mono (by decide)) rfl D_l_one.m D_l_one.F.kp D_l_one.b .nil pass0 (pa_cons (pv 0) (pa_cons (pv 1) (pa_cons (pe_ix ix_list (pv 2) pe_int (fun _ _ => rfl)) pa_nil)))) (pa_cons (pe_call G_l_maybe (hr.mono (by decide)) rfl D_l_maybe.m D_l_maybe.F.kp D_l_maybe.b .nil pass0 (pa_cons (pv 0) (pa_cons (pv 1) (pa_cons (pe_ix ix_list (pv 2) pe_int (fun _ _ => rfl)) pa_nil)))) pa_nil))))) (pss_one (ps_set (i := 8) sc_l_rules.nd rfl (Or.inl rfl) (pv 6)))) (pss_one (ps_if (pt_cmpR op_eq (pv 3) pe_str (nomark _)) (pss_cons (ps_set (i := 7) sc_l_rules.nd rfl (Or.inl rfl) (pe_call G_l_answer (hr.mono (by decide)) rfl D_l_answer.m D_l_answer.F.kp D_l_answer.b .nil pass0 (pa_cons (pv 0) (pa_cons (pv 1) (pa_cons (pv 2) pa_nil))))) (pss_one (ps_set (i := 8) sc_l_rules.nd rfl (Or.inl rfl) (pe_slice sl_tup (pv 7) po_none (po_some pe_int))))) (pss_one (ps_if (pt_cmpR op_eq (pv 3) pe_str (nomark _)) (pss_cons (ps_set (i := 7) sc_l_rules.nd rfl (Or.inl rfl) (pe_call G_l_idle (hr.mono (by decide)) rfl D_l_idle.m D_l_idle.F.kp D_l_idle.b .nil pass0 (pa_cons (pv 0) (pa_cons (pv 1) (pa_cons (pv 2) pa_nil))))) (pss_one (ps_set (i := 8) sc_l_rules.nd rfl (Or.inl rfl) (pe_slice sl_tup (pv 7) po_none (po_some pe_int))))) (pss_cons (ps_set (i := 7) sc_l_rules.nd rfl (Or.inl rfl) (pe_op op_catT (pe_tup (pa_cons (pe_call G_l_one (hr.mono (by decide)) rfl D_l_one.m D_l_one.F.kp D_l_one.b .nil pass0 (pa_cons (pv 0) (pa_cons (pv 1) (pa_cons (pe_ix ix_list (pv 2) pe_int (fun _ _ => rfl)) pa_nil)))) pa_nil)) (pe_call G_l_note (hr.mono (by decide)) rfl D_l_note.m D_l_note.F.kp D_l_note.b .nil pass0 (pa_cons (pv 0) (pa_cons (pv 1) (pa_cons (pv 2) pa_nil)))))) (pss_one (ps_set (i := 8) sc_l_rules.nd rfl (Or.inl rfl) (pe_slice sl_tup (pv 7) po_none (po_some pe_int)))))))))) (pss_one (ps_if (pt_cmpR (op_notInD (hu65 hr)) (pv 8) (pv 5) (by rfl)) (pss_cons (ps_expr (pe_bm PySem.F.plainAttrs_list PySem.F.slot_list_append PySem.F.type_list_append mt_append (pv 5) (pa_cons (pv 8) pa_nil))) (pss_one (ps_expr (pe_bm PySem.F.plainAttrs_list PySem.F.slot_list_append PySem.F.type_list_append mt_append (pv 4) (pa_cons (pv 7) pa_nil))))) pss_nil)))) (pss_one (ps_ret (pv 4)))))), ?_⟩
  refine ⟨Nat.zero_le _, fun lr hlr => ⟨Nat.zero_le _, fun lh hlh => ?_⟩⟩
  have k0 := ((Kp.refl hP).new (o := .lst []) hlr).new (o := .lst []) hlh
  have nlr := (Kp.refl hP).ne hlr
  have nlh := ((Kp.refl hP).new (o := .lst []) hlr).ne hlh
  have flh : H lh = none := ((Kp.refl hP).new (o := .lst []) hlr).free hlh
  have nrh : lr ≠ lh := ne_of_none upd_same hlh
  refine ⟨_, rfl, _, rfl, a, p, ns, rfl, hS.on k0, k0.pool, fun n H1 hn k1 => ?_⟩
  have k01 := k0.trans k1
  refine ⟨_, rfl, by omega, by omega, ?_⟩
  rw [Int.toNat_natCast]
  refine for_range (n := n) (fun i σ G => ∃ (v6 v7 v8 : Option V) (xs ys : List V) (ds hs : List PyData), σ = [some (.ref a), some (.ref p), some (.ref m), some (.str kd.nm), some (.ref lr), some (.ref lh), v6, v7, v8] ∧ Kp p H G ∧ G lr = some (.lst xs) ∧ G lh = some (.lst ys) ∧
      DfL G ds xs [] ∧ DfL G hs ys [] ∧ ds.length ≤ i ∧ hs.length = ds.length ∧ (∀ d ∈ ds, RowR kd N d) ∧ (∀ h ∈ hs, Sh h) ∧ (∀ (i : Nat) (d h : PyData), ds[i]? = some d → hs[i]? = some h → HeadR kd d h) ∧ Apart hs)
    ⟨_, _, _, [], [], [], [], rfl, k01, k1.keep _ _ nlr (keep_new hlh _ _ upd_same), k1.keep _ _ nlh upd_same, .n, .n, Nat.le_refl _, rfl, fun d hd => (by cases hd), fun d hd => (by cases hd), fun i d h e => (by simp at e), .nil⟩ ?_ ?_
  · rintro i σ G hi ⟨v6, v7, v8, xs, ys, ds, hs, rfl, k, hxs, hys, hD, hHd, hl, hlen, hR, hSh, hHR, hAp⟩
    -- the row and its head
    refine ⟨fun σ' G' => ∃ (v hv : V) (d hd : PyData), σ' = [some (.ref a), some (.ref p), some (.ref m), some (.str kd.nm), some (.ref lr), some (.ref lh), some (.int (0 + (i : Int))), some v, some hv] ∧ Kp p G G' ∧ Df G' d v [] ∧ Df G' hd hv [] ∧ RowR kd N d ∧ HeadR kd d hd, ?_, ?_⟩
    · obtain ⟨l0, l1, l2, l3, l4, rm, r0, r1, r2, r3, r4, n3⟩ := id na
      cases kd with
      | w =>
        refine ⟨_, rfl, rfl, _, rfl, ifT (decide_eq_true rfl) ?_⟩
        refine ⟨_, rfl, _, rfl, _, rfl, m, _, _, _, rfl, rfl, rm.seq _ k, rfl, a, p, l0, ns, _, rfl, hS.on k, r0.on k, k.pool, by rw [List.length_map]; omega, by rw [List.length_map]; omega, fun j x G1 hx k1 => ?_⟩
        obtain ⟨s0, rfl, h0⟩ := str_of hx
        have kk1 := k.trans k1
        refine ⟨_, rfl, _, rfl, _, rfl, m, _, _, _, rfl, rfl, rm.seq _ kk1, rfl, a, p, l0, ns, _, rfl, hS.on kk1, r0.on kk1, k1.pool, by rw [List.length_map]; omega, by rw [List.length_map]; omega, fun j x G2 hx k2 => ?_⟩
        obtain ⟨s1, rfl, h1⟩ := str_of hx
        have kk2 := kk1.trans k2
        refine ⟨_, rfl, _, rfl, _, rfl, m, _, _, _, rfl, rfl, rm.seq _ kk2, rfl, a, p, l1, ns, _, rfl, hS.on kk2, r1.on kk2, k2.pool, by rw [List.length_map]; omega, by rw [List.length_map]; omega, fun x G3 hx k3 => ?_⟩
        obtain ⟨u, rfl, h2⟩ := on_of hx
        refine ⟨sz 3, fun t ht => ?_⟩
        exact ⟨_, rfl, _, _, .tuple [.str s0, .str s1, oN u], .int _, rfl, ((k1.trans k2).trans k3).new ht, tD upd_same (.c (sD _) (.c (sD _) (.c (oN_df _ u) .n))), ⟨rfl, rfl⟩, ⟨s0, s1, u, rfl, h0, h1, h2⟩, ⟨_, rfl⟩⟩
      | a =>
        refine ⟨_, rfl, rfl, _, rfl, ifF (nW (k := .a) (fun z => nomatch z)) ?_⟩
        refine ⟨_, rfl, rfl, _, rfl, ifT (decide_eq_true rfl) ?_⟩
        refine ⟨_, rfl, _, rfl, _, rfl, a, p, m, ns, N, rfl, hS.on k, k.pool, ok, na.on k, fun v d G1 k1 hR hD => ?_⟩
        obtain ⟨s0, s1, s2, u, rfl, h0, h1, h2, h3⟩ := hR
        obtain ⟨t, zs, rfl, ht, hl⟩ := hD.t
        obtain ⟨x0, z0, rfl, e0, hl0⟩ := hl.u
        obtain ⟨x1, z1, rfl, e1, hl1⟩ := hl0.u
        have e0' : x0 = .str s0 := e0.1
        have e1' : x1 = .str s1 := e1.1
        have el := hl1.len
        subst e0' e1'
        refine ⟨_, rfl, 2, rfl, t, _, rfl, .of ht, notwhole (k := 2) (by simp only [List.length_cons] at el ⊢; omega), fun t2 ht2 => ?_⟩
        rw [cut2]
        exact ⟨_, _, .tuple [.str s0, .str s1, .str s2, oN u], .tuple [.str s0, .str s1], rfl, k1.new ht2, tD (keep_new ht2 _ _ ht) (hl.same (same_upd ht2)), tD upd_same (.c (sD _) (.c (sD _) .n)), ⟨s0, s1, s2, u, rfl, h0, h1, h2, h3⟩, rfl⟩
      | i =>
        refine ⟨_, rfl, rfl, _, rfl, ifF (nW (k := .i) (fun z => nomatch z)) ?_⟩
        refine ⟨_, rfl, rfl, _, rfl, ifF (nA (k := .i) (fun z => nomatch z)) ?_⟩
        refine ⟨_, rfl, rfl, _, rfl, ifT (decide_eq_true rfl) ?_⟩
        refine ⟨_, rfl, _, rfl, _, rfl, a, p, m, ns, N, rfl, hS.on k, k.pool, ok, na.on k, fun v d G1 k1 hR hD => ?_⟩
        obtain ⟨s0, s1, ds', rfl, n1⟩ : ∃ (s0 s1 : Str) (ds' : List PyData), d = .tuple (.str s0 :: .str s1 :: ds') ∧ 1 ≤ ds'.length := by
          rcases hR with ⟨m, u, t, rfl, _⟩ | ⟨m, u, n, k, f, rfl, _⟩
          · exact ⟨m, u, _, rfl, (by show 1 ≤ 1; decide)⟩
          · exact ⟨m, u, _, rfl, (by show 1 ≤ 3; decide)⟩
        obtain ⟨t, zs, rfl, ht, hl⟩ := hD.t
        obtain ⟨x0, z0, rfl, e0, hl0⟩ := hl.u
        obtain ⟨x1, z1, rfl, e1, hl1⟩ := hl0.u
        have e0' : x0 = .str s0 := e0.1
        have e1' : x1 = .str s1 := e1.1
        have el := hl1.len
        subst e0' e1'
        refine ⟨_, rfl, 2, rfl, t, _, rfl, .of ht, notwhole (k := 2) (by simp only [List.length_cons]; omega), fun t2 ht2 => ?_⟩
        rw [cut2]
        exact ⟨_, _, .tuple (.str s0 :: .str s1 :: ds'), .tuple [.str s0, .str s1], rfl, k1.new ht2, tD (keep_new ht2 _ _ ht) (hl.same (same_upd ht2)), tD upd_same (.c (sD _) (.c (sD _) .n)), hR, rfl⟩
      | b =>
        refine ⟨_, rfl, rfl, _, rfl, ifF (nW (k := .b) (fun z => nomatch z)) ?_⟩
        refine ⟨_, rfl, rfl, _, rfl, ifF (nA (k := .b) (fun z => nomatch z)) ?_⟩
        refine ⟨_, rfl, rfl, _, rfl, ifF (nI (k := .b) (fun z => nomatch z)) ?_⟩
        refine ⟨_, rfl, _, rfl, _, rfl, m, _, _, _, rfl, rfl, rm.seq _ k, rfl, a, p, l4, ns, _, rfl, hS.on k, r4.on k, k.pool, by rw [List.length_map]; omega, by rw [List.length_map]; omega, fun j x G1 hx k1 => ?_⟩
        obtain ⟨s, rfl, h⟩ := str_of hx
        refine ⟨sz 1, fun t1 ht1 => ?_⟩
        have k11 := k1.new (o := .tup [.str s]) ht1
        have kk := k.trans k11
        refine ⟨_, rfl, _, rfl, _, rfl, a, p, m, ns, N, rfl, hS.on kk, kk.pool, ok, na.on kk, fun v d G2 k2 hR hD => ?_⟩
        obtain ⟨s0, s1, s2, u, f, rfl, h0, h1, h2, h3⟩ := hR
        obtain ⟨t, zs, rfl, ht, hl⟩ := hD.t
        obtain ⟨x0, z0, rfl, e0, hl0⟩ := hl.u
        obtain ⟨x1, z1, rfl, e1, hl1⟩ := hl0.u
        have e0' : x0 = .str s0 := e0.1
        have e1' : x1 = .str s1 := e1.1
        have el := hl1.len
        subst e0' e1'
        have et1 := k2.tup kk.pool (a := t1) (xs := [.str s]) upd_same
        refine ⟨t1, t, _, _, rfl, rfl, .of et1, .of ht, (fun z => nomatch z), ?_, (fun z => nomatch z), fun _ t3 ht3 => ?_⟩
        · simp only [List.length_cons, List.length_nil] at el ⊢
          exact Nat.le_trans (show _ ≤ 1000 by omega) (by decide)
        refine ⟨_, rfl, 3, rfl, t3, _, rfl, .of upd_same, notwhole (k := 3) (by simp only [List.length_cons, List.length_append, List.length_nil] at el ⊢; omega), fun t4 ht4 => ?_⟩
        show ∃ v hv d hd, _
        refine ⟨_, _, .tuple [.str s, .str s0, .str s1, .str s2, oN u, .bool f], .tuple [.str s, .str s0, .str s1], rfl, ((k11.trans k2).new ht3).new ht4, tD (keep_new ht4 _ _ upd_same) (.c (sD _) ((hl.same (same_upd ht3)).same (same_upd ht4))), ?_, ⟨s, s0, s1, s2, u, f, rfl, h, h0, h1, h2, h3⟩, rfl⟩
        refine tD upd_same ?_
        rw [show [V.str s] ++ V.str s0 :: V.str s1 :: z1 = V.str s :: V.str s0 :: V.str s1 :: z1 from rfl, cut3]
        exact .c (sD _) (.c (sD _) (.c (sD _) .n))
    rintro _ G1 ⟨v, hv, d, hd, rfl, kG, dv, dh, rR, rH⟩
    have sh := head_sh ok rR rH
    have hxs1 := kG.keep _ _ nlr hxs
    have hys1 := kG.keep _ _ nlh hys
    have hD1 := hD.kp kG k.pool (by simp)
    have hH1 := hHd.kp kG k.pool (by simp)
    refine ⟨_, rfl, _, rfl, hd, hs, Df.dp hd hv [] dh, .lst (.of hys1) (DfL.dp hs ys [] hH1), shaped_of sh.1 sh.2 (by decide), shaped_list hSh (by decide), _, rfl, ?_⟩
    cases c : hs.any fun z => PyData.eqv z hd with
    | true => exact iteF ⟨_, _, _, xs, ys, ds, hs, rfl, k.trans kG, hxs1, hys1, hD1, hH1, by omega, hlen, hR, hSh, hHR, hAp⟩
    | false =>
      refine iteT ?_
      have lt : ∀ {j : Nat}, j ≤ i → j < sizeLine := fun {j} hj => Nat.lt_of_lt_of_le (show j < 1000 by omega) (by decide)
      refine ⟨_, rfl, .inl ⟨rfl, _, SqL.of hys1⟩, _, rfl, lh, _, _, rfl, rfl, hys1, lt (by rw [hH1.len, hlen]; exact hl), ?_⟩
      have hxs2 : upd G1 lh (.lst (ys ++ [hv])) lr = some (.lst xs) := by
        rw [upd_ne nrh]
        exact hxs1
      refine ⟨_, rfl, .inl ⟨rfl, _, SqL.of hxs2⟩, _, rfl, lr, _, _, rfl, rfl, hxs2, lt (by rw [hD1.len]; exact hl), ?_⟩
      refine ⟨_, _, _, xs ++ [v], ys ++ [hv], ds ++ [d], hs ++ [hd], rfl, ((k.trans kG).put flh nlh).put hlr nlr, upd_same, by rw [upd_ne (Ne.symm nrh)]; exact upd_same, ?_, ?_, ?_, ?_, ?_, ?_, ?_, ?_⟩
      · exact ((hD1.snoc (g := []) dv).put hys1 (by simp)).put hxs2 (by simp)
      · exact ((hH1.snoc (g := []) dh).put hys1 (by simp)).put hxs2 (by simp)
      · rw [List.length_append]
        show ds.length + 1 ≤ i + 1
        omega
      · rw [List.length_append, List.length_append, hlen]
        rfl
      · intro e he
        rcases List.mem_append.mp he with h | h
        · exact hR e h
        · rcases List.mem_cons.mp h with h | h
          · rw [h]
            exact rR
          · cases h
      · intro e he
        rcases List.mem_append.mp he with h | h
        · exact hSh e h
        · rcases List.mem_cons.mp h with h | h
          · rw [h]
            exact sh
          · cases h
      · intro j e h he hh
        by_cases hj : j < ds.length
        · rw [List.getElem?_append_left hj] at he
          rw [List.getElem?_append_left (by omega)] at hh
          exact hHR j e h he hh
        · rw [List.getElem?_append_right (by omega)] at he hh
          rw [hlen] at hh
          cases hz : j - ds.length with
          | zero =>
            rw [hz] at he hh
            cases he
            cases hh
            exact rH
          | succ z =>
            rw [hz] at he
            cases he
      · unfold Apart
        rw [List.pairwise_append]
        refine ⟨hAp, List.pairwise_singleton .., fun z hz y hy => ?_⟩
        rcases List.mem_cons.mp hy with rfl | h
        · have := List.any_eq_false.mp c z hz
          simpa using this
        · cases h
  · rintro σ G ⟨v6, v7, v8, xs, ys, ds, hs, rfl, k, hxs, hys, hD, hHd, hl, hlen, hR, hSh, hHR, hAp⟩
    exact ⟨_, rfl, q lr xs ds hs G k hlr hxs hD (by omega) hR hlen hHR hAp⟩
end
end My

namespace My
open PySem L2
abbrev s_l_parts : Stmt := top 50
theorem sc_l_parts : FnScope ["_law_script", "_law_pool_here", "_law_names_here", "_law_traits", "_law_states", "_law_name_here", "_law_ups", "_law_downs", "_law_wishes", "_law_answers", "_law_tasks", "_law_idles", "_law_busies"] ["_law_script", "_law_pool_here"] (defScope s_l_parts) := ⟨rfl, rfl, rfl, by decide +kernel, rfl, by decide +kernel, by decide +kernel⟩
def traits : List Str := ["", "w", "h", "hr", "hp", "hw", "hrp", "hrw", "hpw", "hrpw"]
/-- the parts of a right book, as data; N its names -/
structure RB where
  N : Nm5
  ss : List PyData
  us : List PyData
  ks : List PyData
  ws : List PyData
  as : List PyData
  ts : List PyData
  is : List PyData
  bs : List PyData
def RB.parts (b : RB) : List PyData := [.list b.ss, .list b.us, .list b.ks, .list (b.N.ma.map .str), .list b.ws, .list b.as, .list b.ts, .list b.is, .list b.bs]
structure RB.Ok (b : RB) : Prop where
  n : NOk b.N
  ss : b.ss.length = b.N.st.length ∧ ∀ (i : Nat) (d : PyData), b.ss[i]? = some d → ∃ s t, b.N.st[i]? = some s ∧ d = .tuple [.str s, .str t] ∧ t ∈ traits ∧ (i = 0 → t = "")
  us : b.us.length = b.N.up.length ∧ ∀ (i : Nat) (d : PyData), b.us[i]? = some d → ∃ s f, b.N.up[i]? = some s ∧ d = .tuple [.str s, .bool f]
  ks : b.ks.length = b.N.dn.length ∧ ∀ (i : Nat) (d : PyData), b.ks[i]? = some d → ∃ s f, b.N.dn[i]? = some s ∧ d = .tuple [.str s, .bool f]
  ws : b.ws.length ≤ 30 ∧ ∀ d ∈ b.ws, IsWish b.N d
  as : b.as.length ≤ 30 ∧ (∀ d ∈ b.as, IsAnswer b.N d) ∧ Apart (b.as.map (cutD 2))
  ts : b.ts.length = b.N.tk.length ∧ ∀ (i : Nat) (d : PyData), b.ts[i]? = some d → ∃ s, b.N.tk[i]? = some s ∧ IsTask b.N s d
  is : b.is.length ≤ 30 ∧ (∀ d ∈ b.is, IsIdle b.N d) ∧ Apart (b.is.map (cutD 2))
  bs : b.bs.length ≤ 30 ∧ (∀ d ∈ b.bs, IsBusy b.N d) ∧ Apart (b.bs.map (cutD 3))
theorem heads_map {kd : Kd} {ds hs : List PyData} (hk : kd ≠ .w) (hl : hs.length = ds.length) (h : ∀ (i : Nat) (d h : PyData), ds[i]? = some d → hs[i]? = some h → HeadR kd d h) : hs = ds.map (cutD kd.cut) := by
  refine List.ext_getElem? fun i => ?_
  rw [List.getElem?_map]
  cases e : ds[i]? with
  | none =>
    rw [List.getElem?_eq_none_iff] at e
    rw [List.getElem?_eq_none_iff.mpr (by omega)]
    rfl
  | some d =>
    have hi := (List.getElem?_eq_some_iff.mp e).1
    have e2 : hs[i]? = some hs[i] := List.getElem?_eq_getElem (by omega)
    have r := h i d _ e e2
    rw [e2]
    cases kd with
    | w => exact absurd rfl hk
    | a => exact congrArg some r
    | i => exact congrArg some r
    | b => exact congrArg some r
/-- a part: a list at l -/
def Pt (p : Addr) (H : Hp) (l : Addr) (ds : List PyData) (fp : List Addr) : Prop := l ≠ p ∧ p ∉ fp ∧ ∃ xs, H l = some (.lst xs) ∧ DfL H ds xs fp
theorem Pt.on {p l : Addr} {H H' : Hp} {ds : List PyData} {fp : List Addr} (h : Pt p H l ds fp) (k : Kp p H H') (hP : Pool H p) : Pt p H' l ds fp := by
  obtain ⟨n, nf, xs, e, hd⟩ := h
  exact ⟨n, nf, xs, k.keep _ _ n e, hd.kp k hP nf⟩
theorem Pt.df {p l : Addr} {H : Hp} {ds : List PyData} {fp : List Addr} (h : Pt p H l ds fp) : Df H (.list ds) (.ref l) (l :: fp) := by
  obtain ⟨n, nf, xs, e, hd⟩ := h
  exact ⟨l, xs, fp, rfl, rfl, e, hd⟩
theorem Pt.no {p l : Addr} {H : Hp} {ds : List PyData} {fp : List Addr} (h : Pt p H l ds fp) : p ∉ l :: fp := by
  obtain ⟨n, nf, _⟩ := h
  intro z
  rcases List.mem_cons.mp z with z | z
  · exact n z.symm
  · exact nf z
/-- flags beside the names of a row -/
def KindsOk (L : List Str) (i : Nat) (ds : List PyData) : Prop := ds.length = i ∧ ∀ (j : Nat) (d : PyData), ds[j]? = some d → ∃ s f, L[j]? = some s ∧ d = .tuple [.str s, .bool f]
theorem KindsOk.snoc {L : List Str} {i : Nat} {ds : List PyData} {s : Str} {f : Bool} (h : KindsOk L i ds) (e : L[i]? = some s) : KindsOk L (i + 1) (ds ++ [.tuple [.str s, .bool f]]) := by
  refine ⟨by rw [List.length_append, h.1]; rfl, fun j d e2 => ?_⟩
  by_cases hj : j < ds.length
  · rw [List.getElem?_append_left hj] at e2
    exact h.2 j d e2
  · rw [List.getElem?_append_right (by omega)] at e2
    cases hz : j - ds.length with
    | zero =>
      rw [hz] at e2
      cases e2
      have h1 := h.1
      have ej : j = i := by omega
      rw [ej]
      exact ⟨s, f, e, rfl⟩
    | succ z =>
      rw [hz] at e2
      cases e2
theorem str_at {x : V} {l : List Str} {i : Nat} (h : (l.map V.str)[i]? = some x) : ∃ s, x = .str s ∧ l[i]? = some s := by
  rw [List.getElem?_map] at h
  cases e : l[i]? with
  | none =>
    rw [e] at h
    cases h
  | some s =>
    rw [e] at h
    exact ⟨s, (Option.some.inj h).symm, rfl⟩
def spParts (K : PySem.W.Frag) : Sp := fun vs H Q _ => ∃ (a p : Addr) (ns : List Int), vs = [.ref a, .ref p] ∧ Scr K H a p ns ∧ Pool H p ∧
  ∀ (v : V) (b : RB) (fp : List Addr) (H' : Hp), Kp p H H' → b.Ok → Df H' (.list b.parts) v fp → p ∉ fp → Q v H'
theorem drop1 (l : List V) : cutV l (some 1) none = l.drop 1 := by
  unfold cutV
  rw [HT.sIx_none, show ((1 : Int)) = ((1 : Nat) : Int) from rfl, HT.sIx_nat]
  cases l with
  | nil => rfl
  | cons x r =>
    rw [Nat.min_eq_left (by simp)]
    show (List.drop 1 (x :: r)).take ((x :: r).length - 1) = _
    rw [← List.length_drop, List.take_length]
section
variable {P : Program} {w : World} {K : PySem.W.Frag} {mg : Str → Option Value} {base : Heap}
theorem ok_parts {f fD fO fM : Addr} {fd fdD fdO fdM : FuncData} (D : DefT K mg "_law_parts" "_law_parts" s_l_parts ["_law_script", "_law_pool_here"] f fd) (Z : Zs mg) (D_l_draw : DefT K mg "_law_draw" "_law_draw" s_l_draw ["_law_script", "_law_pool_here", "_law_limit"] fD fdD)
    (D_l_one : DefT K mg "_law_one" "_law_one" s_l_one ["_law_script", "_law_pool_here", "_law_row"] fO fdO) (D_l_maybe : DefT K mg "_law_maybe" "_law_maybe" s_l_maybe ["_law_script", "_law_pool_here", "_law_row"] fM fdM)
    {fN fY fA fI fW fX fZ fT fR fL : Addr} {fdN fdY fdA fdI fdW fdX fdZ fdT fdR fdL : FuncData} (D_l_note : DefT K mg "_law_note" "_law_note" s_l_note ["_law_script", "_law_pool_here", "_law_names_here"] fN fdN) (D_l_many : DefT K mg "_law_many" "_law_many" s_l_many ["_law_script", "_law_pool_here"] fY fdY)
    (D_l_answer : DefT K mg "_law_answer" "_law_answer" s_l_answer ["_law_script", "_law_pool_here", "_law_names_here"] fA fdA) (D_l_idle : DefT K mg "_law_idle" "_law_idle" s_l_idle ["_law_script", "_law_pool_here", "_law_names_here"] fI fdI)
    (D_l_word : DefT K mg "_law_word" "_law_word" s_l_word ["_law_script", "_law_pool_here"] fW fdW) (D_l_name : DefT K mg "_law_name" "_law_name" s_l_name ["_law_script", "_law_pool_here", "_law_taken", "_law_others"] fX fdX) (D_l_names : DefT K mg "_law_names" "_law_names" s_l_names ["_law_script", "_law_pool_here", "_law_size", "_law_others"] fZ fdZ)
    (D_l_task : DefT K mg "_law_task" "_law_task" s_l_task ["_law_script", "_law_pool_here", "_law_names_here", "_law_name_here"] fT fdT) (D_l_rules : DefT K mg "_law_rules" "_law_rules" s_l_rules ["_law_script", "_law_pool_here", "_law_names_here", "_law_part"] fR fdR) (D_l_all_names : DefT K mg "_law_all_names" "_law_all_names" s_l_all_names ["_law_script", "_law_pool_here"] fL fdL) :
    FnOk P w K mg base CX0 7 f fd ["_law_script", "_law_pool_here"] (spParts K) := by
  have G_l_draw := ok_draw (P := P) (w := w) (base := base) D_l_draw Z
  have G_l_one := ok_one (P := P) (w := w) (base := base) D_l_one Z D_l_draw
  have G_l_all_names := ok_all_names (P := P) (w := w) (base := base) D_l_all_names Z D_l_draw D_l_one D_l_word D_l_name D_l_names
  have G_l_rules := ok_rules (P := P) (w := w) (base := base) D_l_rules Z D_l_draw D_l_one D_l_maybe D_l_note D_l_many D_l_answer D_l_idle
  have G_l_task := ok_task (P := P) (w := w) (base := base) D_l_task Z D_l_draw D_l_one D_l_maybe
  refine D.F.ok sc_l_parts (fun vs H Q E h => ?_) (fun cdv A outer s H vs Q E hr h => ?_)
  · obtain ⟨a, p, ns, rfl, _⟩ := h
    rfl
  obtain ⟨a, p, ns, rfl, hS, hP, q⟩ := h
  refine ⟨_, (pss_cons (ps_set (i := 2) sc_l_parts.nd rfl (Or.inr rfl) (pe_call G_l_all_names (hr.mono (by decide)) rfl D_l_all_names.m D_l_all_names.F.kp D_l_all_names.b .nil pass0 (pa_cons (pv 0) (pa_cons (pv 1) pa_nil)))) (pss_cons (ps_set (i := 3) sc_l_parts.nd rfl (Or.inl rfl) (pe_lst (pa_cons pe_str (pa_cons pe_str (pa_cons pe_str (pa_cons pe_str (pa_cons pe_str (pa_cons pe_str (pa_cons pe_str (pa_cons pe_str (pa_cons pe_str (pa_cons pe_str pa_nil)))))))))))) (pss_cons (ps_set (i := 4) sc_l_parts.nd rfl (Or.inl rfl) (pe_lst (pa_cons (pe_tup (pa_cons (pe_ix ix_list (pe_ix ix_list (pv 2) pe_int (fun _ _ => rfl)) pe_int (fun _ _ => rfl)) (pa_cons pe_str pa_nil))) pa_nil))) (pss_cons (ps_for PassesOwn.never rfl (pi_list (pe_slice sl_list (pe_ix ix_list (pv 2) pe_int (fun _ _ => rfl)) (po_some pe_int) po_none)) (pg_name (i := 5) sc_l_parts.nd rfl (Or.inl rfl)) (pss_one (ps_expr (pe_bm PySem.F.plainAttrs_list PySem.F.slot_list_append PySem.F.type_list_append mt_append (pv 4) (pa_cons (pe_tup (pa_cons (pv 5) (pa_cons (pe_call G_l_one (hr.mono (by decide)) rfl D_l_one.m D_l_one.F.kp D_l_one.b .nil pass0 (pa_cons (pv 0) (pa_cons (pv 1) (pa_cons (pv 3) pa_nil)))) pa_nil))) pa_nil))))) (pss_cons (ps_setLc (i := 6) (own := [("_law_name_here", 5)]) (g := gName 5) rfl sc_l_parts.nd rfl rfl (sw_true rfl rfl rfl (by decide +kernel)) (pi_list (pe_ix ix_list (pv 2) pe_int (fun _ _ => rfl))) (blkOk_by (own := [("_law_name_here", 5)]) (N := ["_law_script", "_law_pool_here", "_law_names_here", "_law_traits", "_law_states", "_law_name_here", "_law_ups", "_law_downs", "_law_wishes", "_law_answers", "_law_tasks", "_law_idles", "_law_busies"]) (sc := defScope s_l_parts) (by decide +kernel)) (fun _ _ _ _ _ => pg_name (i := 5) sc_l_parts.nd rfl (Or.inl rfl)) (fun _ _ _ _ _ => pts_nil) (fun _ _ _ _ _ => (pe_tup (pa_cons (pv 5) (pa_cons (pe_cmpR op_eq (pe_call G_l_draw (hr.mono (by decide)) rfl D_l_draw.m D_l_draw.F.kp D_l_draw.b .nil pass0 (pa_cons (pv 0) (pa_cons (pv 1) (pa_cons pe_int pa_nil)))) pe_int (nomark _)) pa_nil))))) (pss_cons (ps_setLc (i := 7) (own := [("_law_name_here", 5)]) (g := gName 5) rfl sc_l_parts.nd rfl rfl (sw_true rfl rfl rfl (by decide +kernel)) (pi_list (pe_ix ix_list (pv 2) pe_int (fun _ _ => rfl))) (blkOk_by (own := [("_law_name_here", 5)]) (N := ["_law_script", "_law_pool_here", "_law_names_here", "_law_traits", "_law_states", "_law_name_here", "_law_ups", "_law_downs", "_law_wishes", "_law_answers", "_law_tasks", "_law_idles", "_law_busies"]) (sc := defScope s_l_parts) (by decide +kernel)) (fun _ _ _ _ _ => pg_name (i := 5) sc_l_parts.nd rfl (Or.inl rfl)) (fun _ _ _ _ _ => pts_nil) (fun _ _ _ _ _ => (pe_tup (pa_cons (pv 5) (pa_cons (pe_cmpR op_eq (pe_call G_l_draw (hr.mono (by decide)) rfl D_l_draw.m D_l_draw.F.kp D_l_draw.b .nil pass0 (pa_cons (pv 0) (pa_cons (pv 1) (pa_cons pe_int pa_nil)))) pe_int (nomark _)) pa_nil))))) (pss_cons (ps_set (i := 8) sc_l_parts.nd rfl (Or.inl rfl) (pe_call G_l_rules (hr.mono (by decide)) rfl D_l_rules.m D_l_rules.F.kp D_l_rules.b .nil pass0 (pa_cons (pv 0) (pa_cons (pv 1) (pa_cons (pv 2) (pa_cons pe_str pa_nil)))))) (pss_cons (ps_set (i := 9) sc_l_parts.nd rfl (Or.inl rfl) (pe_call G_l_rules (hr.mono (by decide)) rfl D_l_rules.m D_l_rules.F.kp D_l_rules.b .nil pass0 (pa_cons (pv 0) (pa_cons (pv 1) (pa_cons (pv 2) (pa_cons pe_str pa_nil)))))) (pss_cons (ps_setLc (i := 10) (own := [("_law_name_here", 5)]) (g := gName 5) rfl sc_l_parts.nd rfl rfl (sw_true rfl rfl rfl (by decide +kernel)) (pi_list (pe_ix ix_list (pv 2) pe_int (fun _ _ => rfl))) (blkOk_by (own := [("_law_name_here", 5)]) (N := ["_law_script", "_law_pool_here", "_law_names_here", "_law_traits", "_law_states", "_law_name_here", "_law_ups", "_law_downs", "_law_wishes", "_law_answers", "_law_tasks", "_law_idles", "_law_busies"]) (sc := defScope s_l_parts) (by decide +kernel)) (fun _ _ _ _ _ => pg_name (i := 5) sc_l_parts.nd rfl (Or.inl rfl)) (fun _ _ _ _ _ => pts_nil) (fun _ _ _ _ _ => (pe_call G_l_task (hr.mono (by decide)) rfl D_l_task.m D_l_task.F.kp D_l_task.b .nil pass0 (pa_cons (pv 0) (pa_cons (pv 1) (pa_cons (pv 2) (pa_cons (pv 5) pa_nil))))))) (pss_cons (ps_set (i := 11) sc_l_parts.nd rfl (Or.inl rfl) (pe_call G_l_rules (hr.mono (by decide)) rfl D_l_rules.m D_l_rules.F.kp D_l_rules.b .nil pass0 (pa_cons (pv 0) (pa_cons (pv 1) (pa_cons (pv 2) (pa_cons pe_str pa_nil)))))) (pss_cons (ps_set (i := 12) sc_l_parts.nd rfl (Or.inl rfl) (pe_call G_l_rules (hr.mono (by decide)) rfl D_l_rules.m D_l_rules.F.kp D_l_rules.b .nil pass0 (pa_cons (pv 0) (pa_cons (pv 1) (pa_cons (pv 2) (pa_cons pe_str pa_nil)))))) (pss_one (ps_ret (pe_lst (pa_cons (pv 4) (pa_cons (pv 6) (pa_cons (pv 7) (pa_cons (pe_ix ix_list (pv 2) pe_int (fun _ _ => rfl)) (pa_cons (pv 8) (pa_cons (pv 9) (pa_cons (pv 10) (pa_cons (pv 11) (pa_cons (pv 12) pa_nil))))))))))))))))))))))), ?_⟩
  refine ⟨_, rfl, _, rfl, a, p, ns, rfl, hS, hP, fun m N H1 ok na k1 => ?_⟩
  obtain ⟨l0, l1, l2, l3, l4, rm, r0, r1, r2, r3, r4, n3⟩ := id na
  have b2 := ok.st7
  have b3 := ok.up5
  have b4 := ok.dn5
  have b5 := ok.tk3
  obtain ⟨n0, st', eN⟩ : ∃ n0 st', N.st = n0 :: st' := by
    cases e : N.st with
    | nil =>
      have := ok.st2
      rw [e] at this
      cases this
    | cons n0 st' => exact ⟨n0, st', rfl⟩
  have kr1 := Kp.refl k1.pool
  -- traits
  refine ⟨sz 10, fun lt hlt => ?_⟩
  have kt := kr1.new (o := .lst (traits.map V.str)) hlt
  have k1t := k1.trans kt
  have nlt := k1.ne hlt
  -- states = [(names[0][0], '')]
  refine ⟨_, rfl, m, _, _, _, rfl, rfl, rm.seq _ kt, rfl, l0, _, _, .str n0, rfl, rfl, r0.seq _ kt, (by rw [eN]; exact atI_nat (j := 0) rfl), sz 2, fun t0 ht0 => ?_⟩
  have kt0 := kt.new (o := .tup [.str n0, .str ""]) ht0
  refine ⟨sz 1, fun ls hls => ?_⟩
  have nls := kt0.ne hls
  have fls : H1 ls = none := kt0.free hls
  have kts := kt0.new (o := .lst [.ref t0]) hls
  have ntls : lt ≠ ls := ne_of_none (keep_new ht0 _ _ upd_same) hls
  -- for name in names[0][1:]
  refine ⟨_, rfl, m, _, _, _, rfl, rfl, rm.seq _ kts, rfl, 1, rfl, l0, _, rfl, r0.seq _ kts, fun lc hlc => ?_⟩
  have ktc := kts.new (o := .lst (cutV (N.st.map V.str) (some 1) none)) hlc
  have nlc := kts.ne hlc
  have ecut : cutV (N.st.map V.str) (some 1) none = st'.map V.str := by
    rw [drop1, eN]
    rfl
  rw [ecut] at ktc ⊢
  have nsc : ls ≠ lc := ne_of_none upd_same hlc
  refine ⟨lc, rfl, ⟨_, .of upd_same⟩, for_list (K := K) (a := lc) (xs := st'.map V.str) (fun i σ G => ∃ (v5 : Option V) (xs : List V) (ds : List PyData), σ = [some (.ref a), some (.ref p), some (.ref m), some (.ref lt), some (.ref ls), v5, none, none, none, none, none, none, none] ∧
      Kp p H1 G ∧ G lc = some (.lst (st'.map V.str)) ∧ G lt = some (.lst (traits.map V.str)) ∧ G ls = some (.lst xs) ∧ DfL G ds xs [] ∧ ds.length = i + 1 ∧ (∀ (j : Nat) (d : PyData), ds[j]? = some d → ∃ s t, N.st[j]? = some s ∧ d = .tuple [.str s, .str t] ∧ t ∈ traits ∧ (j = 0 → t = ""))) ?_ ?_ ?_ ?_⟩
  · refine ⟨none, [.ref t0], [.tuple [.str n0, .str ""]], rfl, ktc, upd_same, keep_new hlc _ _ (keep_new hls _ _ (keep_new ht0 _ _ upd_same)), keep_new hlc _ _ upd_same, ?_, rfl, ?_⟩
    · exact .c (tD (keep_new hlc _ _ (keep_new hls _ _ upd_same)) (.c (sD _) (.c (sD _) .n))) .n
    · intro j d e
      cases j with
      | zero =>
        cases e
        exact ⟨n0, "", by rw [eN]; rfl, rfl, by decide, fun _ => rfl⟩
      | succ j => cases e
  · rintro i σ G _ ⟨v5, xs, ds, rfl, k, hlc', _⟩
    exact .of hlc'
  · rintro i x σ G hi ⟨v5, xs, ds, rfl, k, hlc', rtG, hls', hD, hl, hds⟩
    obtain ⟨s, rfl, hs⟩ := str_of hi
    have hsi : N.st[i + 1]? = some s := by
      rw [List.getElem?_map] at hi
      rw [eN]
      show st'[i]? = some s
      cases e : st'[i]? with
      | none =>
        rw [e] at hi
        cases hi
      | some z =>
        rw [e] at hi
        cases hi
        rfl
    have kk := k1.trans k
    refine ⟨_, rfl, .inl ⟨rfl, _, SqL.of hls'⟩, _, rfl, _, rfl, _, rfl, _, rfl, a, p, lt, ns, _, rfl, hS.on kk, .of rtG nlt, k.pool, by decide, by decide, fun j y G1 hy k2 => ?_⟩
    obtain ⟨t, rfl, ht⟩ := str_of hy
    refine ⟨sz 2, fun t1 ht1 => ?_⟩
    have k3 := k2.new (o := .tup [.str s, .str t]) ht1
    have hls2 := k3.keep _ _ nls hls'
    have hi7 : i < st'.length := by
      have := (List.getElem?_eq_some_iff.mp hsi).1
      rw [eN] at this
      exact Nat.lt_of_succ_lt_succ this
    have hst7 : st'.length + 1 ≤ 7 := by
      rw [eN] at b2
      exact b2
    refine ⟨ls, _, _, rfl, rfl, hls2, ?_, ?_⟩
    · rw [hD.len, hl]
      exact Nat.lt_of_lt_of_le (show i + 1 < 1000 by omega) (by decide)
    have hlc2 := k3.keep _ _ nlc hlc'
    refine ⟨_, xs ++ [.ref t1], ds ++ [.tuple [.str s, .str t]], rfl, (k.trans k3).put fls nls, by rw [upd_ne (Ne.symm nsc)]; exact hlc2, by rw [upd_ne ntls]; exact k3.keep _ _ nlt rtG, upd_same, ?_, by rw [List.length_append, hl]; rfl, ?_⟩
    · exact ((hD.kp k3 k.pool (by simp)).snoc (g := []) (tD upd_same (.c (sD _) (.c (sD _) .n)))).put hls2 (by simp)
    · intro j d e
      by_cases hj : j < ds.length
      · rw [List.getElem?_append_left hj] at e
        exact hds j d e
      · rw [List.getElem?_append_right (by omega)] at e
        cases hz : j - ds.length with
        | zero =>
          rw [hz] at e
          cases e
          have ej : j = i + 1 := by omega
          rw [ej]
          exact ⟨s, t, hsi, rfl, ht, fun z => by omega⟩
        | succ z =>
          rw [hz] at e
          cases e
  rw [List.length_map]
  rintro σ G0 ⟨v5, xss, dss, rfl, kG0, _, _, hls0, hDs0, hlss, hss⟩
  have Ps : Pt p G0 ls dss [] := ⟨nls, by simp, _, hls0, hDs0⟩
  refine ⟨_, rfl, m, _, _, _, rfl, rfl, rm.seq _ kG0, rfl, l1, rfl, ⟨_, r1.seq _ kG0⟩, fun lu hdlu => ?_⟩
  have nlu := kG0.ne hdlu
  refine lc_list (K := K) (a := l1) (xs := N.up.map V.str) (fun i G => ∃ (xs : List V) (ds : List PyData), G lu = some (.lst xs) ∧ DfL G ds xs [] ∧ KindsOk N.up i ds ∧ Kp p G0 G) ⟨[], [], upd_same, .n, ⟨rfl, fun j d e => (by cases e)⟩, (Kp.refl kG0.pool).new hdlu⟩ (fun i G _ ⟨xs, ds, _, _, _, k⟩ => r1.seq _ (kG0.trans k)) ?_ ?_
  · rintro i x G hi ⟨xs, ds, hG, hD, hK, k⟩
    obtain ⟨s, rfl, hs⟩ := str_at hi
    have kk := (k1.trans kG0).trans k
    refine ⟨rfl, _, rfl, _, rfl, _, rfl, a, p, ns, _, rfl, hS.on kk, k.pool, by decide, by decide, fun r G2 _ _ k2 => ⟨rfl, sz 2, fun t ht => ?_⟩⟩
    have k3 := k2.new (o := .tup [.str s, .bl (decide (V.int r = V.int 1))]) ht
    have hG2 := k3.keep _ _ nlu hG
    have hi7 := (List.getElem?_eq_some_iff.mp hs).1
    refine ⟨xs, hG2, ?_, xs ++ [.ref t], ds ++ [.tuple [.str s, .bool (decide (V.int r = V.int 1))]], upd_same, ?_, hK.snoc hs, (k.trans k3).put hdlu nlu⟩
    · rw [hD.len, hK.1]
      exact Nat.lt_of_lt_of_le (show i < 1000 by omega) (by decide)
    · exact ((hD.kp k3 k.pool (by simp)).snoc (g := []) (tD upd_same (.c (sD _) (.c (bD _) .n)))).put hG2 (by simp)
  rw [List.length_map]
  rintro G1 ⟨xslu, dslu, hGlu, hDlu, hKlu, kG1⟩
  have j1 := kG0.trans kG1
  have Plu : Pt p G1 lu dslu [] := ⟨nlu, by simp, _, hGlu, hDlu⟩
  refine ⟨_, rfl, m, _, _, _, rfl, rfl, rm.seq _ j1, rfl, l2, rfl, ⟨_, r2.seq _ j1⟩, fun ld hdld => ?_⟩
  have nld := j1.ne hdld
  refine lc_list (K := K) (a := l2) (xs := N.dn.map V.str) (fun i G => ∃ (xs : List V) (ds : List PyData), G ld = some (.lst xs) ∧ DfL G ds xs [] ∧ KindsOk N.dn i ds ∧ Kp p G1 G) ⟨[], [], upd_same, .n, ⟨rfl, fun j d e => (by cases e)⟩, (Kp.refl j1.pool).new hdld⟩ (fun i G _ ⟨xs, ds, _, _, _, k⟩ => r2.seq _ (j1.trans k)) ?_ ?_
  · rintro i x G hi ⟨xs, ds, hG, hD, hK, k⟩
    obtain ⟨s, rfl, hs⟩ := str_at hi
    have kk := (k1.trans j1).trans k
    refine ⟨rfl, _, rfl, _, rfl, _, rfl, a, p, ns, _, rfl, hS.on kk, k.pool, by decide, by decide, fun r G2 _ _ k2 => ⟨rfl, sz 2, fun t ht => ?_⟩⟩
    have k3 := k2.new (o := .tup [.str s, .bl (decide (V.int r = V.int 1))]) ht
    have hG2 := k3.keep _ _ nld hG
    have hi7 := (List.getElem?_eq_some_iff.mp hs).1
    refine ⟨xs, hG2, ?_, xs ++ [.ref t], ds ++ [.tuple [.str s, .bool (decide (V.int r = V.int 1))]], upd_same, ?_, hK.snoc hs, (k.trans k3).put hdld nld⟩
    · rw [hD.len, hK.1]
      exact Nat.lt_of_lt_of_le (show i < 1000 by omega) (by decide)
    · exact ((hD.kp k3 k.pool (by simp)).snoc (g := []) (tD upd_same (.c (sD _) (.c (bD _) .n)))).put hG2 (by simp)
  rw [List.length_map]
  rintro G2 ⟨xsld, dsld, hGld, hDld, hKld, kG2⟩
  have j2 := j1.trans kG2
  have Pld : Pt p G2 ld dsld [] := ⟨nld, by simp, _, hGld, hDld⟩
  refine ⟨_, rfl, _, rfl, _, rfl, a, p, m, ns, N, .w, rfl, hS.on (k1.trans j2), j2.pool, ok, na.on j2, fun lw xslw dslw hslw G3 klw flw elw hDlw h30lw hRlw hLlw hHRlw hAplw => ?_⟩
  have j3 := j2.trans klw
  have Plw : Pt p G3 lw dslw [] := ⟨j2.ne flw, by simp, _, elw, hDlw⟩
  refine ⟨_, rfl, _, rfl, _, rfl, a, p, m, ns, N, .a, rfl, hS.on (k1.trans j3), j3.pool, ok, na.on j3, fun la xsla dsla hsla G4 kla fla ela hDla h30la hRla hLla hHRla hApla => ?_⟩
  have j4 := j3.trans kla
  have Pla : Pt p G4 la dsla [] := ⟨j3.ne fla, by simp, _, ela, hDla⟩
  -- tasks
  refine ⟨_, rfl, m, _, _, _, rfl, rfl, rm.seq _ j4, rfl, l4, rfl, ⟨_, r4.seq _ j4⟩, fun lk hlk => ?_⟩
  have nlk := j4.ne hlk
  refine lc_list (K := K) (a := l4) (xs := N.tk.map V.str) (fun i G => ∃ (xs : List V) (ds : List PyData) (fp : List Addr), G lk = some (.lst xs) ∧ DfL G ds xs fp ∧ lk ∉ fp ∧ p ∉ fp ∧ (ds.length = i ∧ ∀ (j : Nat) (d : PyData), ds[j]? = some d → ∃ s, N.tk[j]? = some s ∧ IsTask N s d) ∧ Kp p G4 G)
    ⟨[], [], [], upd_same, .n, by simp, by simp, ⟨rfl, fun j d e => (by cases e)⟩, (Kp.refl j4.pool).new hlk⟩ (fun i G _ ⟨xs, ds, fp, _, _, _, _, _, k⟩ => r4.seq _ (j4.trans k)) ?_ ?_
  · rintro i x G hi ⟨xs, ds, fp, hG, hD, nlf, npf, ⟨hl, hT⟩, k⟩
    obtain ⟨s, rfl, hs⟩ := str_at hi
    have kk := j4.trans k
    refine ⟨rfl, _, rfl, _, rfl, _, rfl, _, rfl, a, p, m, ns, N, s, rfl, hS.on (k1.trans kk), k.pool, ok, na.on kk, fun v d fp2 G6 k6 hd hDf hfr => ?_⟩
    have hG2 := k6.keep _ _ nlk hG
    have hi7 := (List.getElem?_eq_some_iff.mp hs).1
    have nlf2 : lk ∉ fp2 := fun z => by
      rw [hfr lk z] at hG
      cases hG
    have npf2 : p ∉ fp2 := fun z => by
      obtain ⟨_, _, _, _, _, ep⟩ := k.pool
      rw [hfr p z] at ep
      cases ep
    refine ⟨xs, hG2, ?_, xs ++ [v], ds ++ [d], fp ++ fp2, upd_same, ?_, ?_, ?_, ?_, (k.trans k6).put hlk nlk⟩
    · rw [hD.len, hl]
      exact Nat.lt_of_lt_of_le (show i < 1000 by omega) (by decide)
    · refine ((hD.kp k6 k.pool npf).snoc hDf).put hG2 ?_
      intro z
      rcases List.mem_append.mp z with z | z
      · exact nlf z
      · exact nlf2 z
    · intro z
      rcases List.mem_append.mp z with z | z
      · exact nlf z
      · exact nlf2 z
    · intro z
      rcases List.mem_append.mp z with z | z
      · exact npf z
      · exact npf2 z
    · refine ⟨by rw [List.length_append, hl]; rfl, fun j e he => ?_⟩
      by_cases hj : j < ds.length
      · rw [List.getElem?_append_left hj] at he
        exact hT j e he
      · rw [List.getElem?_append_right (by omega)] at he
        cases hz : j - ds.length with
        | zero =>
          rw [hz] at he
          cases he
          have ej : j = i := by omega
          rw [ej]
          exact ⟨s, hs, hd⟩
        | succ z =>
          rw [hz] at he
          cases he
  rw [List.length_map]
  rintro G5 ⟨xsk, dsk, fpk, hGk, hDk, nlf, npf, hTk, kG5⟩
  have j5 := j4.trans kG5
  have Pk : Pt p G5 lk dsk fpk := ⟨nlk, npf, _, hGk, hDk⟩
  refine ⟨_, rfl, _, rfl, _, rfl, a, p, m, ns, N, .i, rfl, hS.on (k1.trans j5), j5.pool, ok, na.on j5, fun li xsli dsli hsli G6 kli fli eli hDli h30li hRli hLli hHRli hApli => ?_⟩
  have j6 := j5.trans kli
  have Pli : Pt p G6 li dsli [] := ⟨j5.ne fli, by simp, _, eli, hDli⟩
  refine ⟨_, rfl, _, rfl, _, rfl, a, p, m, ns, N, .b, rfl, hS.on (k1.trans j6), j6.pool, ok, na.on j6, fun lb xslb dslb hslb G7 klb flb elb hDlb h30lb hRlb hLlb hHRlb hAplb => ?_⟩
  have j7 := j6.trans klb
  have Plb : Pt p G7 lb dslb [] := ⟨j6.ne flb, by simp, _, elb, hDlb⟩
  have P3 : Pt p G7 l3 (N.ma.map .str) [] := ⟨n3.1, by simp, _, j7.keep _ _ n3.1 n3.2, strs_df _⟩
  have Ps7 := (((((Ps.on kG1 kG0.pool).on kG2 j1.pool).on klw j2.pool).on kla j3.pool).on kG5 j4.pool |>.on kli j5.pool).on klb j6.pool
  have Pu7 := ((((Plu.on kG2 j1.pool).on klw j2.pool).on kla j3.pool).on kG5 j4.pool |>.on kli j5.pool).on klb j6.pool
  have Pd7 := (((Pld.on klw j2.pool).on kla j3.pool).on kG5 j4.pool |>.on kli j5.pool).on klb j6.pool
  have Pw7 := ((Plw.on kla j3.pool).on kG5 j4.pool |>.on kli j5.pool).on klb j6.pool
  have Pa7 := ((Pla.on kG5 j4.pool).on kli j5.pool).on klb j6.pool
  have Pk7 := (Pk.on kli j5.pool).on klb j6.pool
  have Pi7 := Pli.on klb j6.pool
  refine ⟨_, rfl, _, rfl, _, rfl, _, rfl, m, _, _, _, rfl, rfl, rm.seq _ j7, rfl, _, rfl, _, rfl, _, rfl, _, rfl, _, rfl, sz 9, fun l9 hl9 => ?_⟩
  have k9 := (Kp.refl j7.pool).new (o := .lst [.ref ls, .ref lu, .ref ld, .ref l3, .ref lw, .ref la, .ref lk, .ref li, .ref lb]) hl9
  have Q0 := Ps7.on k9 j7.pool
  have Q1 := Pu7.on k9 j7.pool
  have Q2 := Pd7.on k9 j7.pool
  have Q3 := P3.on k9 j7.pool
  have Q4 := Pw7.on k9 j7.pool
  have Q5 := Pa7.on k9 j7.pool
  have Q6 := Pk7.on k9 j7.pool
  have Q7 := Pi7.on k9 j7.pool
  have Q8 := Plb.on k9 j7.pool
  refine q _ ⟨N, dss, dslu, dsld, dslw, dsla, dsk, dsli, dslb⟩ _ _ ((k1.trans j7).trans k9) ⟨ok, ⟨(by show dss.length = N.st.length; rw [eN, hlss]; rfl), hss⟩, hKlu, hKld, ⟨h30lw, hRlw⟩, ⟨h30la, hRla, ?_⟩, hTk, ⟨h30li, hRli, ?_⟩, ⟨h30lb, hRlb, ?_⟩⟩
    ⟨l9, _, _, rfl, rfl, upd_same, ⟨_, _, _, _, rfl, rfl, Q0.df, ⟨_, _, _, _, rfl, rfl, Q1.df, ⟨_, _, _, _, rfl, rfl, Q2.df, ⟨_, _, _, _, rfl, rfl, Q3.df, ⟨_, _, _, _, rfl, rfl, Q4.df, ⟨_, _, _, _, rfl, rfl, Q5.df, ⟨_, _, _, _, rfl, rfl, Q6.df, ⟨_, _, _, _, rfl, rfl, Q7.df, ⟨_, _, _, [], rfl, rfl, Q8.df, .n⟩⟩⟩⟩⟩⟩⟩⟩⟩⟩ ?_
  · have e : hsla = dsla.map (cutD 2) := heads_map (kd := .a) (fun z => nomatch z) hLla hHRla
    show Apart (dsla.map (cutD 2))
    rw [← e]
    exact hApla
  · have e : hsli = dsli.map (cutD 2) := heads_map (kd := .i) (fun z => nomatch z) hLli hHRli
    show Apart (dsli.map (cutD 2))
    rw [← e]
    exact hApli
  · have e : hslb = dslb.map (cutD 3) := heads_map (kd := .b) (fun z => nomatch z) hLlb hHRlb
    show Apart (dslb.map (cutD 3))
    rw [← e]
    exact hAplb
  · intro z
    rcases List.mem_cons.mp z with z | z
    · exact j7.ne hl9 z.symm
    rcases List.mem_append.mp z with z | z
    · exact Q0.no z
    rcases List.mem_append.mp z with z | z
    · exact Q1.no z
    rcases List.mem_append.mp z with z | z
    · exact Q2.no z
    rcases List.mem_append.mp z with z | z
    · exact Q3.no z
    rcases List.mem_append.mp z with z | z
    · exact Q4.no z
    rcases List.mem_append.mp z with z | z
    · exact Q5.no z
    rcases List.mem_append.mp z with z | z
    · exact Q6.no z
    rcases List.mem_append.mp z with z | z
    · exact Q7.no z
    rcases List.mem_append.mp z with z | z
    · exact Q8.no z
    · cases z
end
end My

namespace My
open PySem L2
abbrev s_is_name : Stmt := top 5
abbrev s_has_length : Stmt := top 13
abbrev s_is_one_or_none : Stmt := top 14
theorem sc_is_name : FnScope ["value", "letter"] ["value"] (defScope s_is_name) := ⟨rfl, rfl, rfl, by decide +kernel, rfl, by decide +kernel, by decide +kernel⟩
theorem sc_has_length : FnScope ["row", "many"] ["row", "many"] (defScope s_has_length) := ⟨rfl, rfl, rfl, by decide +kernel, rfl, by decide +kernel, by decide +kernel⟩
theorem sc_is_one_or_none : FnScope ["value", "names"] ["value", "names"] (defScope s_is_one_or_none) := ⟨rfl, rfl, rfl, by decide +kernel, rfl, by decide +kernel, by decide +kernel⟩
theorem Same.put {H G : Hp} {D : Addr} {o : HO} (s : Same H G) (h : H D = none) : Same H (upd G D o) := fun b u e => by
  rw [upd_ne (ne_of_none e h)]
  exact s b u e
theorem cr_allK {X : Cx} {K : PySem.W.Frag} (h : X.K = K) (hc : X.calm = true) : CallR X (.builtin "all") (rAll K) := by
  subst h
  exact cr_all hc
/-- a text, a tuple of texts, a dict of the module -/
structure SqK (K : PySem.W.Frag) (a : Addr) (xs : List V) : Prop where
  ex : ∃ (o : Obj) (its : Array Value) (n : Nat), K.lookup a = some o ∧ o.cls = .type "tuple" ∧ o.data = .seq its n ∧ its.size ≤ sizeLine ∧ Vals xs its.toList
theorem SqK.t {K : PySem.W.Frag} {a : Addr} {xs : List V} (h : SqK K a xs) (H : Hp) : SqT K H a xs := .inr h.ex
def pParts : List Str := ["states", "ups", "downs", "marks", "wishes", "answers", "tasks", "idles", "busies"]
def pNamed : List Str := ["states", "ups", "downs", "tasks"]
def pTraits : List Str := ["", "h", "hr", "hp", "hrp", "w", "hw", "hrw", "hpw", "hrpw"]
structure Tb (K : PySem.W.Frag) (mg : Str → Option Value) (tl : Tok) (aP aN aT aO aL aH aI : Addr) : Prop where
  letters : mg "LETTERS" = some (.str "abcdefghijklmnopqrstuvwxyz" tl)
  parts : mg "PARTS" = some (.ref aP)
  named : mg "NAMED" = some (.ref aN)
  traits : mg "TRAITS" = some (.ref aT)
  owners : mg "OWNERS" = some (.ref aO)
  lengths : mg "LENGTHS" = some (.ref aL)
  heads : mg "HEADS" = some (.ref aH)
  items : mg "ITEMS" = some (.ref aI)
  parts_ : SqK K aP (pParts.map .str)
  named_ : SqK K aN (pNamed.map .str)
  traits_ : SqK K aT (pTraits.map .str)
  owners_ : SqK K aO (My.owners.map .str)
/-- names["part"]: the list of names L -/
def DN (H : Hp) (nd : Addr) (part : Str) (L : List Str) : Prop := ∃ kvs l, H nd = some (.dK kvs) ∧ valV kvs (Sum.inr part) = some (.ref l) ∧ H l = some (.lst (L.map .str))
theorem DN.on {H H' : Hp} {nd : Addr} {part : Str} {L : List Str} (h : DN H nd part L) (s : Same H H') : DN H' nd part L := by
  obtain ⟨kvs, l, h1, h2, h3⟩ := h
  exact ⟨kvs, l, s _ _ h1, h2, s _ _ h3⟩
theorem rep_bl (n : Nat) : (List.replicate n true).map V.bl = List.replicate n (.bl true) := List.map_replicate ..
theorem rep_all (n : Nat) : (List.replicate n true).all id = true := by
  rw [List.all_eq_true]
  intro x hx
  rw [List.eq_of_mem_replicate hx]
  rfl
def spIsName : Sp := fun vs H Q _ => ∃ s : Str, vs = [.str s] ∧ Nm s ∧ ∀ H', Same H H' → Q (.bl true) H'
def spHasLen : Sp := fun vs H Q _ => ∃ (t : Addr) (xs : List V) (n : Int), vs = [.ref t, .int n] ∧ H t = some (.tup xs) ∧ Q (.bl (decide (V.int ((xs.length : Nat) : Int) = V.int n))) H
def spOneOr : Sp := fun vs H Q _ => ∃ (u : Option Str) (l : Addr) (L : List Str), vs = [oV u, .ref l] ∧ H l = some (.lst (L.map .str)) ∧ OnIn u L ∧ Q (.bl true) H
section
variable {P : Program} {w : World} {K : PySem.W.Frag} {mg : Str → Option Value} {base : Heap} {tl : Tok} {aP aN aT aO aL aH aI : Addr}
theorem ok_is_name {f : Addr} {fd : FuncData} (D : DefT K mg "is_name" "is_name" s_is_name ["value"] f fd) (Z : Zs mg) (T : Tb K mg tl aP aN aT aO aL aH aI) : FnOk P w K mg base CX0 1 f fd ["value"] spIsName := by
  refine D.F.ok sc_is_name (fun vs H Q E h => ?_) (fun cdv A outer s H vs Q E hr h => ?_)
  · obtain ⟨z, rfl, _⟩ := h
    rfl
  obtain ⟨z, rfl, hz, q⟩ := h
  obtain ⟨h1, h8, hc⟩ := id hz
  refine ⟨_, (pss_cons (ps_if (PW.pt (pw_or (pt_not (pt_val (pe_callB call_isi (by rfl) Z.isinstance (by decide +kernel) (pa_cons (pv 0) (pa_cons (pe_bltn (v := .ty "str") (by rfl) Z.str (by decide +kernel) rfl) pa_nil))))) (pw_or1 (pt_not (pt_chain op_le op_le pe_int (pe_callB call_len_str (by rfl) Z.len (by decide +kernel) (pa_cons (pv 0) pa_nil)) pe_int))))) (pss_one (ps_ret pe_bl)) pss_nil) (pss_one (ps_ret (pe_callB (cr_all rfl) (by rfl) Z.all (by decide +kernel) (pa_cons (pe_lc (own := [("letter", 1)]) (g := gName 1) rfl sc_is_name.nd  (pi_str (pv 0)) (blkOk_by (own := [("letter", 1)]) (N := ["value", "letter"]) (sc := defScope s_is_name) (by decide +kernel)) (fun _ _ _ _ _ => pg_name (i := 1) sc_is_name.nd rfl (Or.inl rfl)) (fun _ _ _ _ _ => pts_nil) (fun _ _ _ _ _ => (pe_cmpR op_in_sign (pv 1) (pe_glob (v := .str "abcdefghijklmnopqrstuvwxyz") rfl T.letters ⟨_, rfl⟩) (by rfl)))) pa_nil))))), ?_⟩
  have ty : TyX K H (.str z) (.type "str") := .base (.str z)
  have hl : z.length ≤ sizeLine := Nat.le_trans (show z.length ≤ 1000 by omega) (by decide)
  refine ⟨_, rfl, _, _, _, _, _, rfl, .ty _, ty, kit_ty (r := true) (by decide +kernel), _, rfl, iteF ?_⟩
  refine ⟨_, rfl, z, rfl, hl, _, _, rfl, rfl, _, rfl, ifT (decide_eq_true (by omega)) ⟨_, _, rfl, rfl, ?_⟩⟩
  refine ⟨_, rfl, ?_⟩
  rw [decide_eq_true (show ((z.length : Nat) : Int) ≤ 8 by omega)]
  refine iteF ?_
  refine ⟨_, rfl, z, rfl, fun dl hdl => ?_⟩
  refine lc_it (walk_str (z := z)) (fun i G => G dl = some (.lst (List.replicate i (.bl true))) ∧ Same H G) ⟨upd_same, same_upd hdl⟩ (fun _ _ _ _ => trivial) ?_ ?_
  · rintro i x G H' hi ⟨hG, sG⟩ ⟨rfl, c, hc', rfl⟩
    have hm : c ∈ z.cps.toList := Array.mem_toList_iff.mpr (Array.mem_of_getElem? hc')
    have hin : c ∈ ("abcdefghijklmnopqrstuvwxyz" : Str).cps.toList := by
      have b := hc c hm
      have e := abc_nat ⟨c - 97, by omega⟩
      have e2 : 97 + (c - 97) = c := by omega
      rw [show (⟨c - 97, by omega⟩ : Fin 26).val = c - 97 from rfl, e2] at e
      exact List.mem_of_getElem? e
    have hi8 : i < 8 := by
      have : z.cps.size = z.length := rfl
      omega
    refine ⟨rfl, _, rfl, c, _, rfl, rfl, _, hG, ?_, ?_, Same.put sG hdl⟩
    · rw [List.length_replicate]
      exact Nat.lt_of_lt_of_le (show i < 1000 by omega) (by decide)
    · rw [decide_eq_true hin, List.replicate_succ']
      exact upd_same
  rintro G ⟨hG, sG⟩
  refine ⟨dl, List.replicate z.cps.size true, rfl, .of (by rw [rep_bl]; exact hG), ?_⟩
  rw [rep_all]
  exact q G sG
theorem ok_has_length {f : Addr} {fd : FuncData} (D : DefT K mg "has_length" "has_length" s_has_length ["row", "many"] f fd) (Z : Zs mg) : FnOk P w K mg base CX0 1 f fd ["row", "many"] spHasLen := by
  refine D.F.ok sc_has_length (fun vs H Q E h => ?_) (fun cdv A outer s H vs Q E hr h => ?_)
  · obtain ⟨t, xs, n, rfl, _⟩ := h
    rfl
  obtain ⟨t, xs, n, rfl, ht, q⟩ := h
  refine ⟨_, (pss_one (ps_ret (pe_and (pe_callB call_isi (by rfl) Z.isinstance (by decide +kernel) (pa_cons (pv 0) (pa_cons (pe_bltn (v := .ty "tuple") (by rfl) Z.tuple (by decide +kernel) rfl) pa_nil))) (pe_one (pe_cmpR op_eq (pe_callB call_len_seq (by rfl) Z.len (by decide +kernel) (pa_cons (pv 0) pa_nil)) (pv 1) (nomark _)))))), ?_⟩
  have ty : TyX K H (.ref t) (.type "tuple") := .base (.tup ht)
  refine ⟨_, rfl, _, _, _, _, _, rfl, .ty _, ty, kit_ty (r := true) (by decide +kernel), _, rfl, iteT ?_⟩
  exact ⟨_, rfl, t, xs, rfl, .inr (.of ht), _, rfl, rfl, q⟩
theorem ok_one_or {f : Addr} {fd : FuncData} (D : DefT K mg "is_one_or_none" "is_one_or_none" s_is_one_or_none ["value", "names"] f fd) : FnOk P w K mg base CX0 1 f fd ["value", "names"] spOneOr := by
  refine D.F.ok sc_is_one_or_none (fun vs H Q E h => ?_) (fun cdv A outer s H vs Q E hr h => ?_)
  · obtain ⟨u, l, L, rfl, _⟩ := h
    rfl
  obtain ⟨u, l, L, rfl, hl, hu, q⟩ := h
  refine ⟨_, (pss_one (ps_ret (pe_or (pe_cmpR op_isN (pv 0) pe_non (nomark _)) (pe_one (pe_cmpR op_in_seq (pv 0) (pv 1) (by rfl)))))), ?_⟩
  refine ⟨_, rfl, rfl, _, rfl, ?_⟩
  cases u with
  | none => exact iteT q
  | some s =>
    refine iteF ⟨_, rfl, _, rfl, l, _, rfl, .inl (.of hl), rfl, flat_strs L, ?_⟩
    have e : inV (V.str s) (L.map V.str) = true := by
      rw [in_strs]
      exact decide_eq_true (hu s rfl)
    show Q (.bl (if false = true then !inV (V.str s) (L.map V.str) else inV (V.str s) (L.map V.str))) H
    rw [e]
    exact q
end
end My

namespace My
open PySem L2
abbrev s_is_state : Stmt := top 15
abbrev s_is_letter : Stmt := top 16
abbrev s_is_mark : Stmt := top 17
abbrev s_is_wish : Stmt := top 18
abbrev s_is_answer : Stmt := top 19
abbrev s_is_reply : Stmt := top 24
abbrev s_is_idle : Stmt := top 25
abbrev s_is_busy : Stmt := top 26
theorem sc_is_state : FnScope ["row", "_"] ["row", "_"] (defScope s_is_state) := ⟨rfl, rfl, rfl, by decide +kernel, rfl, by decide +kernel, by decide +kernel⟩
theorem sc_is_letter : FnScope ["row", "_"] ["row", "_"] (defScope s_is_letter) := ⟨rfl, rfl, rfl, by decide +kernel, rfl, by decide +kernel, by decide +kernel⟩
theorem sc_is_mark : FnScope ["row", "_"] ["row", "_"] (defScope s_is_mark) := ⟨rfl, rfl, rfl, by decide +kernel, rfl, by decide +kernel, by decide +kernel⟩
theorem sc_is_wish : FnScope ["row", "names", "begin", "goal", "up"] ["row", "names"] (defScope s_is_wish) := ⟨rfl, rfl, rfl, by decide +kernel, rfl, by decide +kernel, by decide +kernel⟩
theorem sc_is_answer : FnScope ["row", "names", "begin", "down", "goal", "up"] ["row", "names"] (defScope s_is_answer) := ⟨rfl, rfl, rfl, by decide +kernel, rfl, by decide +kernel, by decide +kernel⟩
theorem sc_is_reply : FnScope ["mark", "down", "frees", "names"] ["mark", "down", "frees", "names"] (defScope s_is_reply) := ⟨rfl, rfl, rfl, by decide +kernel, rfl, by decide +kernel, by decide +kernel⟩
theorem sc_is_idle : FnScope ["row", "names"] ["row", "names"] (defScope s_is_idle) := ⟨rfl, rfl, rfl, by decide +kernel, rfl, by decide +kernel, by decide +kernel⟩
theorem sc_is_busy : FnScope ["row", "names", "task", "mark", "up", "goal", "down", "frees"] ["row", "names"] (defScope s_is_busy) := ⟨rfl, rfl, rfl, by decide +kernel, rfl, by decide +kernel, by decide +kernel⟩
theorem pg_tupK {X : Cx} {K : PySem.W.Frag} (hK : X.K = K) {es : List Expr} {k : Nat} {t : TGs} {n : Nat} {pos : Pos} (hc : X.calm = true) (h : PGs X es t)
    (hn : (assignEach es X.env).length = n := by rfl) (hst : (assignEach es X.env).findIdx? (·.1) = none := by rfl) : PG X (.Tuple es k pos) (gTup K n t) := by
  subst hK
  exact pg_tup hc h hn hst
theorem DN.get {H : Hp} {nd : Addr} {part : Str} {L : List Str} (h : DN H nd part L) : ∃ l, DGet H nd (.str part) (some (.ref l)) ∧ H l = some (.lst (L.map .str)) := by
  obtain ⟨kvs, l, h1, h2, h3⟩ := h
  have g := DGet.k (k := Sum.inr part) h1
  rw [h2] at g
  exact ⟨l, g, h3⟩
theorem in_true {s : Str} {L : List Str} (h : s ∈ L) : inV (.str s) (L.map V.str) = true := by
  rw [in_strs]
  exact decide_eq_true h
theorem oN_v {H : Hp} {o : Option Str} {x : V} {fp : List Addr} (h : Df H (oN o) x fp) : x = oV o := by
  cases o with
  | none => exact h.1
  | some s => exact h.1
theorem nin_false {s : Str} {L : List Str} (h : s ∈ L) : (!inV (.str s) (L.map V.str)) = false := by
  rw [in_true h]
  rfl
def spItem (R : PyData → Prop) (W : Hp → Addr → Prop) : Sp := fun vs H Q _ => ∃ (v : V) (d : PyData) (fp : List Addr) (nd : Addr), vs = [v, .ref nd] ∧ Df H d v fp ∧ R d ∧ W H nd ∧ ∀ H', Same H H' → Q (.bl true) H'
def W4 (N : Nm5) (H : Hp) (nd : Addr) : Prop := DN H nd "states" N.st ∧ DN H nd "ups" N.up ∧ DN H nd "downs" N.dn ∧ DN H nd "marks" N.ma
def W5 (N : Nm5) (H : Hp) (nd : Addr) : Prop := W4 N H nd ∧ DN H nd "tasks" N.tk
theorem W4.on {N : Nm5} {H H' : Hp} {nd : Addr} (h : W4 N H nd) (s : Same H H') : W4 N H' nd := ⟨h.1.on s, h.2.1.on s, h.2.2.1.on s, h.2.2.2.on s⟩
def RState (d : PyData) : Prop := ∃ s t, d = .tuple [.str s, .str t] ∧ Nm s ∧ t ∈ traits
def RLetter (d : PyData) : Prop := ∃ s f, d = .tuple [.str s, .bool f] ∧ Nm s
def RMark (d : PyData) : Prop := ∃ s, d = .str s ∧ Nm s
def spReply (N : Nm5) : Sp := fun vs H Q _ => ∃ (m : Str) (k : Option Str) (f : Bool) (nd : Addr), vs = [.str m, oV k, .bl f, .ref nd] ∧ m ∈ N.ma ∧ OnIn k N.dn ∧ W4 N H nd ∧ Q (.bl true) H
section
variable {P : Program} {w : World} {K : PySem.W.Frag} {mg : Str → Option Value} {base : Heap} {tl : Tok} {aP aN aT aO aL aH aI : Addr}
theorem ok_is_state {f f1 f2 : Addr} {fd fd1 fd2 : FuncData} (D : DefT K mg "is_state" "is_state" s_is_state ["row", "_"] f fd) (Z : Zs mg) (T : Tb K mg tl aP aN aT aO aL aH aI) (D_has_length : DefT K mg "has_length" "has_length" s_has_length ["row", "many"] f1 fd1) (D_is_name : DefT K mg "is_name" "is_name" s_is_name ["value"] f2 fd2) :
    FnOk P w K mg base CX0 3 f fd ["row", "_"] (spItem RState fun _ _ => True) := by
  have G_has_length := ok_has_length (P := P) (w := w) (base := base) D_has_length Z
  have G_is_name := ok_is_name (P := P) (w := w) (base := base) D_is_name Z T
  refine D.F.ok sc_is_state (fun vs H Q E h => ?_) (fun cdv A outer s H vs Q E hr h => ?_)
  · obtain ⟨v, d, fp, nd, rfl, _⟩ := h
    rfl
  obtain ⟨v, d, fp, nd, rfl, hD, ⟨s, tr, rfl, hs, htr⟩, _, q⟩ := h
  obtain ⟨t, xs, rfl, ht, x0, r0, g0, g1, rfl, rfl, ⟨rfl, rfl⟩, x1, r1, g2, g3, rfl, rfl, ⟨rfl, rfl⟩, rfl, rfl⟩ := hD
  refine ⟨_, (pss_one (ps_ret (pe_and (pe_call G_has_length (hr.mono (by decide)) rfl D_has_length.m D_has_length.F.kp D_has_length.b .nil pass0 (pa_cons (pv 0) (pa_cons pe_int pa_nil))) (pe_and (pe_call G_is_name (hr.mono (by decide)) rfl D_is_name.m D_is_name.F.kp D_is_name.b .nil pass0 (pa_cons (pe_ix ix_tup (pv 0) pe_int (fun _ _ => rfl)) pa_nil)) (pe_one (pe_cmpR op_in_seq (pe_ix ix_tup (pv 0) pe_int (fun _ _ => rfl)) (pe_glob (v := .ref aT) rfl T.traits rfl) (by rfl))))))), ?_⟩
  refine ⟨_, rfl, t, _, _, rfl, ht, _, rfl, ifT (decide_eq_true rfl) ?_⟩
  refine ⟨_, rfl, t, _, _, _, rfl, rfl, .of ht, atI_nat (j := 0) rfl, s, rfl, hs, fun H1 s1 => ⟨_, rfl, iteT ?_⟩⟩
  refine ⟨_, rfl, t, _, _, _, rfl, rfl, .of (s1 _ _ ht), atI_nat (j := 1) rfl, aT, _, rfl, .inr (T.traits_.t _), rfl, flat_strs _, ?_⟩
  have e : inV (V.str tr) (pTraits.map V.str) = true := in_true (by
    have : ∀ x ∈ traits, x ∈ pTraits := by decide +kernel
    exact this _ htr)
  show Q (.bl (if false = true then !inV (V.str tr) (pTraits.map V.str) else inV (V.str tr) (pTraits.map V.str))) H1
  rw [e]
  exact q H1 s1
theorem ok_is_letter {f f1 f2 : Addr} {fd fd1 fd2 : FuncData} (D : DefT K mg "is_letter" "is_letter" s_is_letter ["row", "_"] f fd) (Z : Zs mg) (T : Tb K mg tl aP aN aT aO aL aH aI) (D_has_length : DefT K mg "has_length" "has_length" s_has_length ["row", "many"] f1 fd1) (D_is_name : DefT K mg "is_name" "is_name" s_is_name ["value"] f2 fd2) :
    FnOk P w K mg base CX0 3 f fd ["row", "_"] (spItem RLetter fun _ _ => True) := by
  have G_has_length := ok_has_length (P := P) (w := w) (base := base) D_has_length Z
  have G_is_name := ok_is_name (P := P) (w := w) (base := base) D_is_name Z T
  refine D.F.ok sc_is_letter (fun vs H Q E h => ?_) (fun cdv A outer s H vs Q E hr h => ?_)
  · obtain ⟨v, d, fp, nd, rfl, _⟩ := h
    rfl
  obtain ⟨v, d, fp, nd, rfl, hD, ⟨s, b, rfl, hs⟩, _, q⟩ := h
  obtain ⟨t, xs, rfl, ht, x0, r0, g0, g1, rfl, rfl, ⟨rfl, rfl⟩, x1, r1, g2, g3, rfl, rfl, ⟨rfl, rfl⟩, rfl, rfl⟩ := hD
  refine ⟨_, (pss_one (ps_ret (pe_and (pe_call G_has_length (hr.mono (by decide)) rfl D_has_length.m D_has_length.F.kp D_has_length.b .nil pass0 (pa_cons (pv 0) (pa_cons pe_int pa_nil))) (pe_and (pe_call G_is_name (hr.mono (by decide)) rfl D_is_name.m D_is_name.F.kp D_is_name.b .nil pass0 (pa_cons (pe_ix ix_tup (pv 0) pe_int (fun _ _ => rfl)) pa_nil)) (pe_one (pe_callB call_isi (by rfl) Z.isinstance (by decide +kernel) (pa_cons (pe_ix ix_tup (pv 0) pe_int (fun _ _ => rfl)) (pa_cons (pe_bltn (v := .ty "bool") (by rfl) Z.bool (by decide +kernel) rfl) pa_nil)))))))), ?_⟩
  refine ⟨_, rfl, t, _, _, rfl, ht, _, rfl, ifT (decide_eq_true rfl) ?_⟩
  refine ⟨_, rfl, t, _, _, _, rfl, rfl, .of ht, atI_nat (j := 0) rfl, s, rfl, hs, fun H1 s1 => ⟨_, rfl, iteT ?_⟩⟩
  have ty : TyX K H1 (.bl b) (.type "bool") := .base (.bl b)
  exact ⟨_, rfl, t, _, _, _, rfl, rfl, .of (s1 _ _ ht), atI_nat (j := 1) rfl, _, _, _, _, _, rfl, .ty _, ty, kit_ty (r := true) (by decide +kernel), q H1 s1⟩
theorem ok_is_mark {f f2 : Addr} {fd fd2 : FuncData} (D : DefT K mg "is_mark" "is_mark" s_is_mark ["row", "_"] f fd) (Z : Zs mg) (T : Tb K mg tl aP aN aT aO aL aH aI) (D_is_name : DefT K mg "is_name" "is_name" s_is_name ["value"] f2 fd2) :
    FnOk P w K mg base CX0 3 f fd ["row", "_"] (spItem RMark fun _ _ => True) := by
  have G_is_name := ok_is_name (P := P) (w := w) (base := base) D_is_name Z T
  refine D.F.ok sc_is_mark (fun vs H Q E h => ?_) (fun cdv A outer s H vs Q E hr h => ?_)
  · obtain ⟨v, d, fp, nd, rfl, _⟩ := h
    rfl
  obtain ⟨v, d, fp, nd, rfl, hD, ⟨s, rfl, hs⟩, _, q⟩ := h
  have e : v = .str s := hD.1
  subst e
  refine ⟨_, (pss_one (ps_ret (pe_call G_is_name (hr.mono (by decide)) rfl D_is_name.m D_is_name.F.kp D_is_name.b .nil pass0 (pa_cons (pv 0) pa_nil)))), ?_⟩
  exact ⟨_, rfl, s, rfl, hs, q⟩
theorem ok_is_wish {f f1 f2 : Addr} {fd fd1 fd2 : FuncData} (N : Nm5) (D : DefT K mg "is_wish" "is_wish" s_is_wish ["row", "names"] f fd) (Z : Zs mg) (D_has_length : DefT K mg "has_length" "has_length" s_has_length ["row", "many"] f1 fd1) (D_is_one_or_none : DefT K mg "is_one_or_none" "is_one_or_none" s_is_one_or_none ["value", "names"] f2 fd2) :
    FnOk P w K mg base CX0 3 f fd ["row", "names"] (spItem (IsWish N) (W4 N)) := by
  have G_has_length := ok_has_length (P := P) (w := w) (base := base) D_has_length Z
  have G_is_one_or_none := ok_one_or (P := P) (w := w) (base := base) D_is_one_or_none
  refine D.F.ok sc_is_wish (fun vs H Q E h => ?_) (fun cdv A outer s H vs Q E hr h => ?_)
  · obtain ⟨v, d, fp, nd, rfl, _⟩ := h
    rfl
  obtain ⟨v, d, fp, nd, rfl, hD, ⟨a, b, u, rfl, ha, hb, hu⟩, hW, q⟩ := h
  obtain ⟨t, xs, rfl, ht, x0, r0, g0, g1, rfl, rfl, ⟨rfl, rfl⟩, x1, r1, g2, g3, rfl, rfl, ⟨rfl, rfl⟩, x2, r2, g4, g5, rfl, rfl, hD2, rfl, rfl⟩ := hD
  have e2 := oN_v hD2
  subst e2
  obtain ⟨l0, d0, e0⟩ := hW.1.get
  obtain ⟨l1, d1, e1⟩ := hW.2.1.get
  refine ⟨_, (pss_cons (ps_if (pt_not (pt_val (pe_call G_has_length (hr.mono (by decide)) rfl D_has_length.m D_has_length.F.kp D_has_length.b .nil pass0 (pa_cons (pv 0) (pa_cons pe_int pa_nil))))) (pss_one (ps_ret pe_bl)) pss_nil) (pss_cons (ps_asg (pv 0) (pg_tup rfl (pgs_cons (pg_name (i := 2) sc_is_wish.nd rfl (Or.inl rfl)) (pgs_cons (pg_name (i := 3) sc_is_wish.nd rfl (Or.inl rfl)) (pgs_cons (pg_name (i := 4) sc_is_wish.nd rfl (Or.inl rfl)) pgs_nil))))) (pss_one (ps_ret (pe_and (pe_cmpR op_in_seq (pv 2) (pe_dget (hu_of hr) (pv 1) pe_str (fun _ _ => rfl)) (by rfl)) (pe_and (pe_cmpR op_in_seq (pv 3) (pe_dget (hu_of hr) (pv 1) pe_str (fun _ _ => rfl)) (by rfl)) (pe_one (pe_call G_is_one_or_none (hr.mono (by decide)) rfl D_is_one_or_none.m D_is_one_or_none.F.kp D_is_one_or_none.b .nil pass0 (pa_cons (pv 4) (pa_cons (pe_dget (hu_of hr) (pv 1) pe_str (fun _ _ => rfl)) pa_nil)))))))))), ?_⟩
  refine ⟨_, rfl, t, _, _, rfl, ht, _, rfl, iteNS rfl ?_⟩
  refine ⟨_, rfl, t, _, rfl, .of ht, rfl, _, _, rfl, _, _, rfl, _, _, rfl, rfl, ?_⟩
  refine ⟨_, rfl, _, rfl, nd, _, rfl, d0, l0, _, rfl, .inl (.of e0), rfl, flat_strs _, _, rfl, ifT (in_true ha) ?_⟩
  refine ⟨_, rfl, _, rfl, nd, _, rfl, d0, l0, _, rfl, .inl (.of e0), rfl, flat_strs _, _, rfl, ifT (in_true hb) ?_⟩
  exact ⟨_, rfl, _, rfl, nd, _, rfl, d1, u, l1, _, rfl, e1, hu, q H (Same.refl H)⟩
theorem ok_is_answer {f f1 f2 : Addr} {fd fd1 fd2 : FuncData} (N : Nm5) (D : DefT K mg "is_answer" "is_answer" s_is_answer ["row", "names"] f fd) (Z : Zs mg) (D_has_length : DefT K mg "has_length" "has_length" s_has_length ["row", "many"] f1 fd1) (D_is_one_or_none : DefT K mg "is_one_or_none" "is_one_or_none" s_is_one_or_none ["value", "names"] f2 fd2) :
    FnOk P w K mg base CX0 3 f fd ["row", "names"] (spItem (IsAnswer N) (W4 N)) := by
  have G_has_length := ok_has_length (P := P) (w := w) (base := base) D_has_length Z
  have G_is_one_or_none := ok_one_or (P := P) (w := w) (base := base) D_is_one_or_none
  refine D.F.ok sc_is_answer (fun vs H Q E h => ?_) (fun cdv A outer s H vs Q E hr h => ?_)
  · obtain ⟨v, d, fp, nd, rfl, _⟩ := h
    rfl
  obtain ⟨v, d, fp, nd, rfl, hD, ⟨a, k, b, u, rfl, ha, hk, hb, hu⟩, hW, q⟩ := h
  obtain ⟨t, xs, rfl, ht, x0, r0, g0, g1, rfl, rfl, ⟨rfl, rfl⟩, x1, r1, g2, g3, rfl, rfl, ⟨rfl, rfl⟩, x2, r2, g4, g5, rfl, rfl, ⟨rfl, rfl⟩, x3, r3, g6, g7, rfl, rfl, hD2, rfl, rfl⟩ := hD
  have e2 := oN_v hD2
  subst e2
  obtain ⟨l0, d0, e0⟩ := hW.1.get
  obtain ⟨l1, d1, e1⟩ := hW.2.1.get
  obtain ⟨l2, d2, e2⟩ := hW.2.2.1.get
  refine ⟨_, (pss_cons (ps_if (pt_not (pt_val (pe_call G_has_length (hr.mono (by decide)) rfl D_has_length.m D_has_length.F.kp D_has_length.b .nil pass0 (pa_cons (pv 0) (pa_cons pe_int pa_nil))))) (pss_one (ps_ret pe_bl)) pss_nil) (pss_cons (ps_asg (pv 0) (pg_tup rfl (pgs_cons (pg_name (i := 2) sc_is_answer.nd rfl (Or.inl rfl)) (pgs_cons (pg_name (i := 3) sc_is_answer.nd rfl (Or.inl rfl)) (pgs_cons (pg_name (i := 4) sc_is_answer.nd rfl (Or.inl rfl)) (pgs_cons (pg_name (i := 5) sc_is_answer.nd rfl (Or.inl rfl)) pgs_nil)))))) (pss_cons (ps_if (PW.pt (pw_or (pt_cmpR op_notIn_seq (pv 2) (pe_dget (hu_of hr) (pv 1) pe_str (fun _ _ => rfl)) (by rfl)) (pw_or1 (pt_cmpR op_notIn_seq (pv 4) (pe_dget (hu_of hr) (pv 1) pe_str (fun _ _ => rfl)) (by rfl))))) (pss_one (ps_ret pe_bl)) pss_nil) (pss_one (ps_ret (pe_and (pe_cmpR op_in_seq (pv 3) (pe_dget (hu_of hr) (pv 1) pe_str (fun _ _ => rfl)) (by rfl)) (pe_one (pe_call G_is_one_or_none (hr.mono (by decide)) rfl D_is_one_or_none.m D_is_one_or_none.F.kp D_is_one_or_none.b .nil pass0 (pa_cons (pv 5) (pa_cons (pe_dget (hu_of hr) (pv 1) pe_str (fun _ _ => rfl)) pa_nil)))))))))), ?_⟩
  refine ⟨_, rfl, t, _, _, rfl, ht, _, rfl, iteNS rfl ?_⟩
  refine ⟨_, rfl, t, _, rfl, .of ht, rfl, _, _, rfl, _, _, rfl, _, _, rfl, _, _, rfl, rfl, ?_⟩
  refine ⟨_, rfl, _, rfl, nd, _, rfl, d0, l0, _, rfl, .inl (.of e0), rfl, flat_strs _, _, rfl, ifF (nin_false ha) ?_⟩
  refine ⟨_, rfl, _, rfl, nd, _, rfl, d0, l0, _, rfl, .inl (.of e0), rfl, flat_strs _, _, rfl, ifF (nin_false hb) ?_⟩
  refine ⟨_, rfl, _, rfl, nd, _, rfl, d2, l2, _, rfl, .inl (.of e2), rfl, flat_strs _, _, rfl, ifT (in_true hk) ?_⟩
  exact ⟨_, rfl, _, rfl, nd, _, rfl, d1, u, l1, _, rfl, e1, hu, q H (Same.refl H)⟩
theorem ok_is_reply {f f2 : Addr} {fd fd2 : FuncData} (N : Nm5) (D : DefT K mg "is_reply" "is_reply" s_is_reply ["mark", "down", "frees", "names"] f fd) (Z : Zs mg) (D_is_one_or_none : DefT K mg "is_one_or_none" "is_one_or_none" s_is_one_or_none ["value", "names"] f2 fd2) :
    FnOk P w K mg base CX0 3 f fd ["mark", "down", "frees", "names"] (spReply N) := by
  have G_is_one_or_none := ok_one_or (P := P) (w := w) (base := base) D_is_one_or_none
  refine D.F.ok sc_is_reply (fun vs H Q E h => ?_) (fun cdv A outer s H vs Q E hr h => ?_)
  · obtain ⟨m, k, b, nd, rfl, _⟩ := h
    rfl
  obtain ⟨m, k, b, nd, rfl, hm, hk, hW, q⟩ := h
  obtain ⟨l2, d2, e2⟩ := hW.2.2.1.get
  obtain ⟨l3, d3, e3⟩ := hW.2.2.2.get
  refine ⟨_, (pss_one (ps_ret (pe_and (pe_cmpR op_in_seq (pv 0) (pe_dget (hu_of hr) (pv 3) pe_str (fun _ _ => rfl)) (by rfl)) (pe_and (pe_call G_is_one_or_none (hr.mono (by decide)) rfl D_is_one_or_none.m D_is_one_or_none.F.kp D_is_one_or_none.b .nil pass0 (pa_cons (pv 1) (pa_cons (pe_dget (hu_of hr) (pv 3) pe_str (fun _ _ => rfl)) pa_nil))) (pe_one (pe_callB call_isi (by rfl) Z.isinstance (by decide +kernel) (pa_cons (pv 2) (pa_cons (pe_bltn (v := .ty "bool") (by rfl) Z.bool (by decide +kernel) rfl) pa_nil)))))))), ?_⟩
  refine ⟨_, rfl, _, rfl, nd, _, rfl, d3, l3, _, rfl, .inl (.of e3), rfl, flat_strs _, _, rfl, ifT (in_true hm) ?_⟩
  have ty : TyX K H (.bl b) (.type "bool") := .base (.bl b)
  exact ⟨_, rfl, _, rfl, nd, _, rfl, d2, k, l2, _, rfl, e2, hk, _, rfl, iteT ⟨_, rfl, _, _, _, _, _, rfl, .ty _, ty, kit_ty (r := true) (by decide +kernel), q⟩⟩
theorem ok_is_idle {f f1 f2 : Addr} {fd fd1 fd2 : FuncData} (N : Nm5) (D : DefT K mg "is_idle" "is_idle" s_is_idle ["row", "names"] f fd) (Z : Zs mg) (D_has_length : DefT K mg "has_length" "has_length" s_has_length ["row", "many"] f1 fd1) (D_is_one_or_none : DefT K mg "is_one_or_none" "is_one_or_none" s_is_one_or_none ["value", "names"] f2 fd2)
    {f3 : Addr} {fd3 : FuncData} (D_is_reply : DefT K mg "is_reply" "is_reply" s_is_reply ["mark", "down", "frees", "names"] f3 fd3) :
    FnOk P w K mg base CX0 4 f fd ["row", "names"] (spItem (IsIdle N) (W5 N)) := by
  have G_has_length := ok_has_length (P := P) (w := w) (base := base) D_has_length Z
  have G_is_reply := ok_is_reply (P := P) (w := w) (base := base) N D_is_reply Z D_is_one_or_none
  refine D.F.ok sc_is_idle (fun vs H Q E h => ?_) (fun cdv A outer s H vs Q E hr h => ?_)
  · obtain ⟨v, d, fp, nd, rfl, _⟩ := h
    rfl
  obtain ⟨v, d, fp, nd, rfl, hD, hR, ⟨hW, hW5⟩, q⟩ := h
  obtain ⟨l1, d1, e1⟩ := hW.2.1.get
  obtain ⟨l3, d3, e3⟩ := hW.2.2.2.get
  obtain ⟨l4, d4, e4⟩ := hW5.get
  refine ⟨_, (pss_cons (ps_if (PW.pt (pw_and (pt_not (pt_val (pe_call G_has_length (hr.mono (by decide)) rfl D_has_length.m D_has_length.F.kp D_has_length.b .nil pass0 (pa_cons (pv 0) (pa_cons pe_int pa_nil))))) (pw_and1 (pt_not (pt_val (pe_call G_has_length (hr.mono (by decide)) rfl D_has_length.m D_has_length.F.kp D_has_length.b .nil pass0 (pa_cons (pv 0) (pa_cons pe_int pa_nil)))))))) (pss_one (ps_ret pe_bl)) pss_nil) (pss_cons (ps_if (PW.pt (pw_or (pt_cmpR op_notIn_seq (pe_ix ix_tup (pv 0) pe_int (fun _ _ => rfl)) (pe_dget (hu_of hr) (pv 1) pe_str (fun _ _ => rfl)) (by rfl)) (pw_or1 (pt_cmpR op_notIn_seq (pe_ix ix_tup (pv 0) pe_int (fun _ _ => rfl)) (pe_dget (hu_of hr) (pv 1) pe_str (fun _ _ => rfl)) (by rfl))))) (pss_one (ps_ret pe_bl)) pss_nil) (pss_cons (ps_if (pt_cmpR op_eq (pe_callB call_len_seq (by rfl) Z.len (by decide +kernel) (pa_cons (pv 0) pa_nil)) pe_int (nomark _)) (pss_one (ps_ret (pe_cmpR op_in_seq (pe_ix ix_tup (pv 0) pe_int (fun _ _ => rfl)) (pe_dget (hu_of hr) (pv 1) pe_str (fun _ _ => rfl)) (by rfl)))) pss_nil) (pss_one (ps_ret (pe_call G_is_reply (hr.mono (by decide)) rfl D_is_reply.m D_is_reply.F.kp D_is_reply.b .nil pass0 (pa_cons (pe_ix ix_tup (pv 0) pe_int (fun _ _ => rfl)) (pa_cons (pe_ix ix_tup (pv 0) pe_int (fun _ _ => rfl)) (pa_cons (pe_ix ix_tup (pv 0) pe_int (fun _ _ => rfl)) (pa_cons (pv 1) pa_nil)))))))))), ?_⟩
  rcases hR with ⟨m, u, tk, rfl, hm, hu, htk⟩ | ⟨m, u, n, k, b, rfl, hm, hu, hn, hk⟩
  · obtain ⟨t, xs, rfl, ht, x0, r0, g0, g1, rfl, rfl, ⟨rfl, rfl⟩, x1, r1, g2, g3, rfl, rfl, ⟨rfl, rfl⟩, x2, r2, g4, g5, rfl, rfl, ⟨rfl, rfl⟩, rfl, rfl⟩ := hD
    refine ⟨_, rfl, t, _, _, rfl, ht, _, rfl, iteNS (c := (V.int _ = V.int 3)) rfl ?_⟩
    refine ⟨_, rfl, t, _, _, _, rfl, rfl, .of ht, atI_nat (j := 0) rfl, _, rfl, nd, _, rfl, d3, l3, _, rfl, .inl (.of e3), rfl, flat_strs _, _, rfl, ifF (nin_false hm) ?_⟩
    refine ⟨_, rfl, t, _, _, _, rfl, rfl, .of ht, atI_nat (j := 1) rfl, _, rfl, nd, _, rfl, d1, l1, _, rfl, .inl (.of e1), rfl, flat_strs _, _, rfl, ifF (nin_false hu) ?_⟩
    refine ⟨_, rfl, t, _, rfl, .inr (.of ht), rfl, _, rfl, ifT (decide_eq_true rfl) ?_⟩
    refine ⟨_, rfl, t, _, _, _, rfl, rfl, .of ht, atI_nat (j := 2) rfl, _, rfl, nd, _, rfl, d4, l4, _, rfl, .inl (.of e4), rfl, flat_strs _, ?_⟩
    have e : inV (V.str tk) (N.tk.map V.str) = true := in_true htk
    show Q (.bl (if false = true then !inV (V.str tk) (N.tk.map V.str) else inV (V.str tk) (N.tk.map V.str))) H
    rw [e]
    exact q H (Same.refl H)
  · obtain ⟨t, xs, rfl, ht, x0, r0, g0, g1, rfl, rfl, ⟨rfl, rfl⟩, x1, r1, g2, g3, rfl, rfl, ⟨rfl, rfl⟩, x2, r2, g4, g5, rfl, rfl, ⟨rfl, rfl⟩, x3, r3, g6, g7, rfl, rfl, hD2, x4, r4, g8, g9, rfl, rfl, ⟨rfl, rfl⟩, rfl, rfl⟩ := hD
    have eo := oN_v hD2
    subst eo
    have n3 : ¬ (V.int ((5 : Nat) : Int) = V.int 3) := by decide
    refine ⟨_, rfl, t, _, _, rfl, ht, _, rfl, ifT (show (!decide (V.int ((5 : Nat) : Int) = V.int 3)) = true by rw [decide_eq_false n3]; rfl) ?_⟩
    refine ⟨_, rfl, t, _, _, rfl, ht, _, rfl, iteNS (c := (V.int ((5 : Nat) : Int) = V.int 5)) rfl ?_⟩
    refine ⟨_, rfl, t, _, _, _, rfl, rfl, .of ht, atI_nat (j := 0) rfl, _, rfl, nd, _, rfl, d3, l3, _, rfl, .inl (.of e3), rfl, flat_strs _, _, rfl, ifF (nin_false hm) ?_⟩
    refine ⟨_, rfl, t, _, _, _, rfl, rfl, .of ht, atI_nat (j := 1) rfl, _, rfl, nd, _, rfl, d1, l1, _, rfl, .inl (.of e1), rfl, flat_strs _, _, rfl, ifF (nin_false hu) ?_⟩
    refine ⟨_, rfl, t, _, rfl, .inr (.of ht), rfl, _, rfl, ifF (decide_eq_false n3) ?_⟩
    exact ⟨_, rfl, t, _, _, _, rfl, rfl, .of ht, atI_nat (j := 2) rfl, _, rfl, t, _, _, _, rfl, rfl, .of ht, atI_nat (j := 3) rfl, _, rfl, t, _, _, _, rfl, rfl, .of ht, atI_nat (j := 4) rfl, _, rfl, n, k, b, nd, rfl, hn, hk, hW, q H (Same.refl H)⟩
theorem ok_is_busy {f f1 f2 : Addr} {fd fd1 fd2 : FuncData} (N : Nm5) (D : DefT K mg "is_busy" "is_busy" s_is_busy ["row", "names"] f fd) (Z : Zs mg) (D_has_length : DefT K mg "has_length" "has_length" s_has_length ["row", "many"] f1 fd1) (D_is_one_or_none : DefT K mg "is_one_or_none" "is_one_or_none" s_is_one_or_none ["value", "names"] f2 fd2)
    {f3 : Addr} {fd3 : FuncData} (D_is_reply : DefT K mg "is_reply" "is_reply" s_is_reply ["mark", "down", "frees", "names"] f3 fd3) :
    FnOk P w K mg base CX0 4 f fd ["row", "names"] (spItem (IsBusy N) (W5 N)) := by
  have G_has_length := ok_has_length (P := P) (w := w) (base := base) D_has_length Z
  have G_is_reply := ok_is_reply (P := P) (w := w) (base := base) N D_is_reply Z D_is_one_or_none
  refine D.F.ok sc_is_busy (fun vs H Q E h => ?_) (fun cdv A outer s H vs Q E hr h => ?_)
  · obtain ⟨v, d, fp, nd, rfl, _⟩ := h
    rfl
  obtain ⟨v, d, fp, nd, rfl, hD, ⟨tk, m, u, n, k, b, rfl, htk, hm, hu, hn, hk⟩, ⟨hW, hW5⟩, q⟩ := h
  obtain ⟨l1, d1, e1⟩ := hW.2.1.get
  obtain ⟨l3, d3, e3⟩ := hW.2.2.2.get
  obtain ⟨l4, d4, e4⟩ := hW5.get
  obtain ⟨t, xs, rfl, ht, x0, r0, g0, g1, rfl, rfl, ⟨rfl, rfl⟩, x1, r1, g2, g3, rfl, rfl, ⟨rfl, rfl⟩, x2, r2, g4, g5, rfl, rfl, ⟨rfl, rfl⟩, x3, r3, g6, g7, rfl, rfl, ⟨rfl, rfl⟩, x4, r4, g8, g9, rfl, rfl, hD2, x5, r5, g10, g11, rfl, rfl, ⟨rfl, rfl⟩, rfl, rfl⟩ := hD
  have eo := oN_v hD2
  subst eo
  refine ⟨_, (pss_cons (ps_if (pt_not (pt_val (pe_call G_has_length (hr.mono (by decide)) rfl D_has_length.m D_has_length.F.kp D_has_length.b .nil pass0 (pa_cons (pv 0) (pa_cons pe_int pa_nil))))) (pss_one (ps_ret pe_bl)) pss_nil) (pss_cons (ps_asg (pv 0) (pg_tup rfl (pgs_cons (pg_name (i := 2) sc_is_busy.nd rfl (Or.inl rfl)) (pgs_cons (pg_name (i := 3) sc_is_busy.nd rfl (Or.inl rfl)) (pgs_cons (pg_name (i := 4) sc_is_busy.nd rfl (Or.inl rfl)) (pgs_cons (pg_name (i := 5) sc_is_busy.nd rfl (Or.inl rfl)) (pgs_cons (pg_name (i := 6) sc_is_busy.nd rfl (Or.inl rfl)) (pgs_cons (pg_name (i := 7) sc_is_busy.nd rfl (Or.inl rfl)) pgs_nil)))))))) (pss_cons (ps_if (PW.pt (pw_or (pt_cmpR op_notIn_seq (pv 2) (pe_dget (hu_of hr) (pv 1) pe_str (fun _ _ => rfl)) (by rfl)) (pw_or (pt_cmpR op_notIn_seq (pv 3) (pe_dget (hu_of hr) (pv 1) pe_str (fun _ _ => rfl)) (by rfl)) (pw_or1 (pt_cmpR op_notIn_seq (pv 4) (pe_dget (hu_of hr) (pv 1) pe_str (fun _ _ => rfl)) (by rfl)))))) (pss_one (ps_ret pe_bl)) pss_nil) (pss_one (ps_ret (pe_call G_is_reply (hr.mono (by decide)) rfl D_is_reply.m D_is_reply.F.kp D_is_reply.b .nil pass0 (pa_cons (pv 5) (pa_cons (pv 6) (pa_cons (pv 7) (pa_cons (pv 1) pa_nil)))))))))), ?_⟩
  refine ⟨_, rfl, t, _, _, rfl, ht, _, rfl, iteNS rfl ?_⟩
  refine ⟨_, rfl, t, _, rfl, .of ht, rfl, _, _, rfl, _, _, rfl, _, _, rfl, _, _, rfl, _, _, rfl, _, _, rfl, rfl, ?_⟩
  refine ⟨_, rfl, _, rfl, nd, _, rfl, d4, l4, _, rfl, .inl (.of e4), rfl, flat_strs _, _, rfl, ifF (nin_false htk) ?_⟩
  refine ⟨_, rfl, _, rfl, nd, _, rfl, d3, l3, _, rfl, .inl (.of e3), rfl, flat_strs _, _, rfl, ifF (nin_false hm) ?_⟩
  refine ⟨_, rfl, _, rfl, nd, _, rfl, d1, l1, _, rfl, .inl (.of e1), rfl, flat_strs _, _, rfl, ifF (nin_false hu) ?_⟩
  exact ⟨_, rfl, _, rfl, _, rfl, _, rfl, n, k, b, nd, rfl, hn, hk, hW, q H (Same.refl H)⟩
end
end My

namespace My
open PySem L2
abbrev s_are_calls : Stmt := top 20
abbrev s_are_quiet : Stmt := top 21
abbrev s_are_ends : Stmt := top 22
abbrev s_is_task : Stmt := top 23
theorem sc_are_calls : FnScope ["rows", "names", "row"] ["rows", "names"] (defScope s_are_calls) := ⟨rfl, rfl, rfl, by decide +kernel, rfl, by decide +kernel, by decide +kernel⟩
theorem sc_are_quiet : FnScope ["rows", "marks", "at", "mark"] ["rows", "marks"] (defScope s_are_quiet) := ⟨rfl, rfl, rfl, by decide +kernel, rfl, by decide +kernel, by decide +kernel⟩
theorem sc_are_ends : FnScope ["rows", "marks", "mark"] ["rows", "marks"] (defScope s_are_ends) := ⟨rfl, rfl, rfl, by decide +kernel, rfl, by decide +kernel, by decide +kernel⟩
theorem sc_is_task : FnScope ["row", "names", "name", "calls", "quiet", "ends", "mark", "down", "owner", "marks"] ["row", "names"] (defScope s_is_task) := ⟨rfl, rfl, rfl, by decide +kernel, rfl, by decide +kernel, by decide +kernel⟩
def spCalls (N : Nm5) : Sp := fun vs H Q _ => ∃ (v : V) (cs : List PyData) (fp : List Addr) (nd : Addr), vs = [v, .ref nd] ∧ Df H (.list cs) v fp ∧ cs.length = N.ma.length ∧ cs.length ≤ 6 ∧ (∀ c ∈ cs, IsCall N c) ∧ W4 N H nd ∧ ∀ H', Same H H' → Q (.bl true) H'
def spQuiet : Sp := fun vs H Q _ => ∃ (a b : Addr) (qs ms : List Str), vs = [.ref a, .ref b] ∧ H a = some (.lst (qs.map .str)) ∧ H b = some (.lst (ms.map .str)) ∧ qs.length ≤ 6 ∧ qs ≠ [] ∧ qs.Nodup ∧ (∀ q ∈ qs, q ∈ ms ∧ Nm q) ∧ ∀ H', Same H H' → Q (.bl true) H'
def spEnds : Sp := fun vs H Q _ => ∃ (a b : Addr) (es ms : List Str), vs = [.ref a, .ref b] ∧ H a = some (.lst (es.map .str)) ∧ H b = some (.lst (ms.map .str)) ∧ es.length = ms.length ∧ es.length ≤ 6 ∧ (∀ e ∈ es, e ∈ ms) ∧ ∀ H', Same H H' → Q (.bl true) H'
theorem DfL.at {H : Hp} : ∀ {ds : List PyData} {xs : List V} {fp : List Addr} {i : Nat} {x : V}, DfL H ds xs fp → xs[i]? = some x → ∃ d f, ds[i]? = some d ∧ Df H d x f ∧ ∀ a ∈ f, a ∈ fp
  | [], _, _, _, _, h, e => by
    rw [h.1] at e
    cases e
  | d :: ds, _, _, 0, _, h, e => by
    obtain ⟨y, r, f, g, rfl, rfl, hx, _⟩ := h
    cases e
    exact ⟨d, f, rfl, hx, fun a ha => List.mem_append_left _ ha⟩
  | d :: ds, _, _, i + 1, _, h, e => by
    obtain ⟨y, r, f, g, rfl, rfl, _, hr⟩ := h
    obtain ⟨d', f', h1, h2, h3⟩ := DfL.at (i := i) hr (by simpa using e)
    exact ⟨d', f', by simpa using h1, h2, fun a ha => List.mem_append_right _ (h3 a ha)⟩
theorem strs_v {H : Hp} : ∀ {ss : List Str} {xs : List V} {fp : List Addr}, DfL H (ss.map .str) xs fp → xs = ss.map V.str
  | [], _, _, h => h.1
  | s :: ss, _, _, h => by
    obtain ⟨x, r, f, g, rfl, rfl, hx, hr⟩ := h
    rw [strs_v hr, hx.1]
    rfl
theorem lt1000 {n : Nat} (h : n < 1000) : n < sizeLine := Nat.lt_of_lt_of_le h (by decide)
theorem cutTo (xs : List V) (i : Nat) (h : i ≤ xs.length) : cutV xs none (some (i : Int)) = xs.take i := by
  unfold cutV
  rw [HT.sIx_none, HT.sIx_nat, List.drop_zero, Nat.sub_zero, Nat.min_eq_left h]
section
variable {P : Program} {w : World} {K : PySem.W.Frag} {mg : Str → Option Value} {base : Heap} {tl : Tok} {aP aN aT aO aL aH aI : Addr}
theorem ok_are_calls {f f1 f2 : Addr} {fd fd1 fd2 : FuncData} (N : Nm5) (D : DefT K mg "are_calls" "are_calls" s_are_calls ["rows", "names"] f fd) (Z : Zs mg) (D_has_length : DefT K mg "has_length" "has_length" s_has_length ["row", "many"] f1 fd1) (D_is_one_or_none : DefT K mg "is_one_or_none" "is_one_or_none" s_is_one_or_none ["value", "names"] f2 fd2) :
    FnOk P w K mg base CX0 3 f fd ["rows", "names"] (spCalls N) := by
  have G_has_length := ok_has_length (P := P) (w := w) (base := base) D_has_length Z
  have G_is_one_or_none := ok_one_or (P := P) (w := w) (base := base) D_is_one_or_none
  refine D.F.ok sc_are_calls (fun vs H Q E h => ?_) (fun cdv A outer s H vs Q E hr h => ?_)
  · obtain ⟨v, cs, fp, nd, rfl, _⟩ := h
    rfl
  obtain ⟨v, cs, fp, nd, rfl, ⟨l, xs, gp, rfl, rfl, hl, hD⟩, hlen, h6, hcs, hW, q⟩ := h
  obtain ⟨l3, d3, e3⟩ := hW.2.2.2.get
  have hxl := hD.len
  refine ⟨_, (pss_cons (ps_if (PW.pt (pw_or (pt_not (pt_val (pe_callB call_isi (by rfl) Z.isinstance (by decide +kernel) (pa_cons (pv 0) (pa_cons (pe_bltn (v := .ty "list") (by rfl) Z.list (by decide +kernel) rfl) pa_nil))))) (pw_or1 (pt_cmpR op_ne (pe_callB call_len_seq (by rfl) Z.len (by decide +kernel) (pa_cons (pv 0) pa_nil)) (pe_callB call_len_seq (by rfl) Z.len (by decide +kernel) (pa_cons (pe_dget (hu_of hr) (pv 1) pe_str (fun _ _ => rfl)) pa_nil)) (nomark _))))) (pss_one (ps_ret pe_bl)) pss_nil) (pss_one (ps_ret (pe_callB (cr_all rfl) (by rfl) Z.all (by decide +kernel) (pa_cons (pe_lc (own := [("row", 2)]) (g := gName 2) rfl sc_are_calls.nd  (pi_list (pv 0)) (blkOk_by (own := [("row", 2)]) (N := ["rows", "names", "row"]) (sc := defScope s_are_calls) (by decide +kernel)) (fun _ _ _ _ _ => pg_name (i := 2) sc_are_calls.nd rfl (Or.inl rfl)) (fun _ _ _ _ _ => pts_nil) (fun _ _ _ _ _ => (pe_and (pe_call G_has_length (hr.mono (by decide)) rfl D_has_length.m D_has_length.F.kp D_has_length.b .nil pass0 (pa_cons (pv 2) (pa_cons pe_int pa_nil))) (pe_and (pe_cmpR (op_in_seqK (K := K) rfl) (pe_ix (ix_tupK (K := K) rfl) (pv 2) pe_int (fun _ _ => rfl)) (pe_dget (hu_of hr) (pv 1) pe_str (fun _ _ => rfl)) (by rfl)) (pe_one (pe_call G_is_one_or_none (hr.mono (by decide)) rfl D_is_one_or_none.m D_is_one_or_none.F.kp D_is_one_or_none.b .nil pass0 (pa_cons (pe_ix (ix_tupK (K := K) rfl) (pv 2) pe_int (fun _ _ => rfl)) (pa_cons (pe_dget (hu_of hr) (pv 1) pe_str (fun _ _ => rfl)) pa_nil)))))))) pa_nil))))), ?_⟩
  have ty : TyX K H (.ref l) (.type "list") := .base (.lst hl)
  refine ⟨_, rfl, _, _, _, _, _, rfl, .ty _, ty, kit_ty (r := true) (by decide +kernel), _, rfl, iteF ?_⟩
  refine ⟨_, rfl, l, _, rfl, .inl (.of hl), _, rfl, nd, _, rfl, d3, l3, _, rfl, .inl (.of e3), rfl, _, rfl, iteNS (by rw [hxl, hlen, List.length_map]) ?_⟩
  refine ⟨_, rfl, l, rfl, ⟨_, .of hl⟩, fun dl hdl => ?_⟩
  refine lc_it (walk_list (K := K) (a := l) (xs := xs)) (fun i G => G dl = some (.lst (List.replicate i (.bl true))) ∧ Same H G) ⟨upd_same, same_upd hdl⟩ (fun _ G _ ⟨_, sG⟩ => .of (sG _ _ hl)) ?_ ?_
  · rintro i x G H' hi ⟨hG, sG⟩ ⟨rfl, hx⟩
    obtain ⟨d, f', hd, hDx, _⟩ := hD.at hx
    obtain ⟨m, k, rfl, hm, hk⟩ := hcs d (List.mem_of_getElem? hd)
    obtain ⟨t, ys, rfl, ht, x0, r0, g0, g1, rfl, _, ⟨rfl, _⟩, x1, r1, g2, g3, rfl, _, hD2, rfl, _⟩ := hDx
    have eo := oN_v hD2
    subst eo
    obtain ⟨l2, d2, e2⟩ := (hW.2.2.1.on sG).get
    obtain ⟨l3', d3', e3'⟩ := (hW.2.2.2.on sG).get
    have htG := sG _ _ ht
    refine ⟨rfl, _, rfl, t, _, _, rfl, htG, _, rfl, ifT (decide_eq_true rfl) ?_⟩
    refine ⟨_, rfl, t, _, _, _, rfl, rfl, .of htG, atI_nat (j := 0) rfl, _, rfl, nd, _, rfl, d3', l3', _, rfl, .inl (.of e3'), rfl, flat_strs _, _, rfl, ifT (in_true hm) ?_⟩
    refine ⟨_, rfl, t, _, _, _, rfl, rfl, .of htG, atI_nat (j := 1) rfl, _, rfl, nd, _, rfl, d2, k, l2, _, rfl, e2, hk, ?_⟩
    refine ⟨_, hG, ?_, ?_, Same.put sG hdl⟩
    · rw [List.length_replicate]
      exact lt1000 (by omega)
    · rw [List.replicate_succ']
      exact upd_same
  rintro G ⟨hG, sG⟩
  refine ⟨dl, List.replicate xs.length true, rfl, .of (by rw [rep_bl]; exact hG), ?_⟩
  rw [rep_all]
  exact q G sG
theorem ok_are_ends {f : Addr} {fd : FuncData} (D : DefT K mg "are_ends" "are_ends" s_are_ends ["rows", "marks"] f fd) (Z : Zs mg) : FnOk P w K mg base CX0 1 f fd ["rows", "marks"] spEnds := by
  refine D.F.ok sc_are_ends (fun vs H Q E h => ?_) (fun cdv A outer s H vs Q E hr h => ?_)
  · obtain ⟨a, b, es, ms, rfl, _⟩ := h
    rfl
  obtain ⟨a, b, es, ms, rfl, ha, hb, hl, h6, hm, q⟩ := h
  refine ⟨_, (pss_one (ps_ret (pe_and (pe_callB call_isi (by rfl) Z.isinstance (by decide +kernel) (pa_cons (pv 0) (pa_cons (pe_bltn (v := .ty "list") (by rfl) Z.list (by decide +kernel) rfl) pa_nil))) (pe_and (pe_cmpR op_eq (pe_callB call_len_seq (by rfl) Z.len (by decide +kernel) (pa_cons (pv 0) pa_nil)) (pe_callB call_len_seq (by rfl) Z.len (by decide +kernel) (pa_cons (pv 1) pa_nil)) (nomark _)) (pe_one (pe_callB (cr_all rfl) (by rfl) Z.all (by decide +kernel) (pa_cons (pe_lc (own := [("mark", 2)]) (g := gName 2) rfl sc_are_ends.nd  (pi_list (pv 0)) (blkOk_by (own := [("mark", 2)]) (N := ["rows", "marks", "mark"]) (sc := defScope s_are_ends) (by decide +kernel)) (fun _ _ _ _ _ => pg_name (i := 2) sc_are_ends.nd rfl (Or.inl rfl)) (fun _ _ _ _ _ => pts_nil) (fun _ _ _ _ _ => (pe_cmpR (op_in_seqK (K := K) rfl) (pv 2) (pv 1) (by rfl)))) pa_nil))))))), ?_⟩
  have ty : TyX K H (.ref a) (.type "list") := .base (.lst ha)
  refine ⟨_, rfl, _, _, _, _, _, rfl, .ty _, ty, kit_ty (r := true) (by decide +kernel), _, rfl, iteT ?_⟩
  refine ⟨_, rfl, a, _, rfl, .inl (.of ha), _, rfl, b, _, rfl, .inl (.of hb), rfl, _, rfl, ifT (decide_eq_true (by rw [List.length_map, List.length_map, hl])) ?_⟩
  refine ⟨_, rfl, a, rfl, ⟨_, .of ha⟩, fun dl hdl => ?_⟩
  refine lc_it (walk_list (K := K) (a := a) (xs := es.map V.str)) (fun i G => G dl = some (.lst (List.replicate i (.bl true))) ∧ Same H G) ⟨upd_same, same_upd hdl⟩ (fun _ G _ ⟨_, sG⟩ => .of (sG _ _ ha)) ?_ ?_
  · rintro i x G H' hi ⟨hG, sG⟩ ⟨rfl, hx⟩
    obtain ⟨e, rfl, he⟩ := str_of hx
    rw [List.length_map] at hi
    refine ⟨rfl, _, rfl, _, rfl, b, _, rfl, .inl (.of (sG _ _ hb)), rfl, flat_strs _, _, hG, ?_, ?_, Same.put sG hdl⟩
    · rw [List.length_replicate]
      exact lt1000 (by omega)
    · have e1 : inV (V.str e) (ms.map V.str) = true := in_true (hm e he)
      show upd H' dl (.lst (List.replicate i (.bl true) ++ [.bl (if false = true then !inV (V.str e) (ms.map V.str) else inV (V.str e) (ms.map V.str))])) dl = _
      rw [e1, List.replicate_succ']
      exact upd_same
  rintro G ⟨hG, sG⟩
  refine ⟨dl, List.replicate (es.map V.str).length true, rfl, .of (by rw [rep_bl]; exact hG), ?_⟩
  rw [rep_all]
  exact q G sG
theorem ok_are_quiet {f : Addr} {fd : FuncData} (D : DefT K mg "are_quiet" "are_quiet" s_are_quiet ["rows", "marks"] f fd) (Z : Zs mg) : FnOk P w K mg base CX0 1 f fd ["rows", "marks"] spQuiet := by
  refine D.F.ok sc_are_quiet (fun vs H Q E h => ?_) (fun cdv A outer s H vs Q E hr h => ?_)
  · obtain ⟨a, b, qs, ms, rfl, _⟩ := h
    rfl
  obtain ⟨a, b, qs, ms, rfl, ha, hb, h6, hne, hnd, hm, q⟩ := h
  refine ⟨_, (pss_cons (ps_if (PW.pt (pw_or (pt_not (pt_val (pe_callB call_isi (by rfl) Z.isinstance (by decide +kernel) (pa_cons (pv 0) (pa_cons (pe_bltn (v := .ty "list") (by rfl) Z.list (by decide +kernel) rfl) pa_nil))))) (pw_or1 (pt_cmpR (op_eqD hr.units) (pv 0) (pe_lst pa_nil) (nomark _))))) (pss_one (ps_ret pe_bl)) pss_nil) (pss_one (ps_ret (pe_callB (cr_all rfl) (by rfl) Z.all (by decide +kernel) (pa_cons (pe_lc (own := [("at", 2), ("mark", 3)]) (g := gTup K 2 (gCons (gName 2) (gCons (gName 3) gNil))) rfl sc_are_quiet.nd  (pi_enum (by rfl) Z.enumerate (pa_cons (pv 0) pa_nil)) (blkOk_by (own := [("at", 2), ("mark", 3)]) (N := ["rows", "marks", "at", "mark"]) (sc := defScope s_are_quiet) (by decide +kernel)) (fun _ _ _ _ _ => pg_tupK (K := K) (n := 2) rfl rfl (pgs_cons (pg_name (i := 2) sc_are_quiet.nd rfl (Or.inl rfl)) (pgs_cons (pg_name (i := 3) sc_are_quiet.nd rfl (Or.inl rfl)) pgs_nil))) (fun _ _ _ _ _ => pts_nil) (fun _ _ _ _ _ => (pe_and (pe_cmpR (op_in_seqK (K := K) rfl) (pv 3) (pv 1) (by rfl)) (pe_one (pe_cmpR (op_notIn_seqK (K := K) rfl) (pv 3) (pe_slice (sl_listK (K := K) rfl) (pv 0) po_none (po_some (pv 2))) (by rfl)))))) pa_nil))))), ?_⟩
  have ty : TyX K H (.ref a) (.type "list") := .base (.lst ha)
  refine ⟨_, rfl, _, _, _, _, _, rfl, .ty _, ty, kit_ty (r := true) (by decide +kernel), _, rfl, iteF ?_⟩
  refine ⟨_, rfl, sz 0, fun l0 h0 => ?_⟩
  have s0 := same_upd (o := .lst []) h0
  have ha0 := s0 _ _ ha
  refine ⟨.list (qs.map .str), .list [], .lst (.of ha0) (DfL.dp _ _ [] (strs_df qs)), .lst (.of upd_same) .nil, shaped_list (n := 0) (fun d hd => ?_) (by decide), rfl, _, rfl, ?_⟩
  · obtain ⟨z, hz, rfl⟩ := List.mem_map.mp hd
    exact ⟨strOk_nm (hm z hz).2, Nat.le_refl _⟩
  have e0 : PyData.eqv (.list (qs.map .str)) (.list []) = false := by
    cases qs with
    | nil => exact absurd rfl hne
    | cons z r => rfl
  rw [e0]
  refine iteF ?_
  refine ⟨_, rfl, a, _, rfl, .of ha0, fun dl hdl => ?_⟩
  refine lc_it (walk_enum (K := K) (a := a) (xs := qs.map V.str)) (fun i G => G dl = some (.lst (List.replicate i (.bl true))) ∧ Same (upd H l0 (.lst [])) G) ⟨upd_same, same_upd hdl⟩ (fun _ G _ ⟨_, sG⟩ => .of (sG _ _ ha0)) ?_ ?_
  · rintro i x G H' hi ⟨hG, sG⟩ ⟨T, x0, x1, rfl, hT, rfl, e0, e1⟩
    cases e0
    obtain ⟨z, rfl, hz⟩ := str_at e1
    rw [List.length_map] at hi
    have sT := sG.trans (same_upd (o := .tup [.int (i : Int), .str z]) hT)
    refine ⟨T, _, rfl, .of upd_same, rfl, _, _, rfl, _, _, rfl, rfl, rfl, ?_⟩
    refine ⟨_, rfl, _, rfl, b, _, rfl, .inl (.of (sT _ _ (s0 _ _ hb))), rfl, flat_strs _, _, rfl, ifT (in_true (hm z (List.mem_of_getElem? hz)).1) ?_⟩
    refine ⟨_, rfl, _, rfl, _, rfl, _, rfl, a, _, rfl, .of (sT _ _ ha0), fun lc hlc => ?_⟩
    rw [cutTo _ i (by rw [List.length_map]; omega), ← List.map_take]
    have sC := sT.trans (same_upd (o := .lst ((qs.take i).map V.str)) hlc)
    refine ⟨lc, _, rfl, .inl (.of upd_same), rfl, flat_strs _, ?_⟩
    have nin : z ∉ qs.take i := fun hmem => by
      obtain ⟨j, hj, ej⟩ := List.mem_iff_getElem.mp hmem
      rw [List.length_take] at hj
      have hj2 : j < qs.length := by omega
      have e2 : qs[j] = z := by
        rw [← ej]
        exact (List.getElem_take ..).symm
      have hi2 : i < qs.length := by omega
      have e3 : qs[i] = z := by
        rw [List.getElem?_eq_getElem hi2] at hz
        exact Option.some.inj hz
      exact List.pairwise_iff_getElem.mp hnd j i hj2 hi2 (by omega) (e2.trans e3.symm)
    refine ⟨_, keep_new hlc _ _ (keep_new hT _ _ hG), ?_, ?_, ?_⟩
    · rw [List.length_replicate]
      exact lt1000 (by omega)
    · have e4 : (!inV (V.str z) ((qs.take i).map V.str)) = true := by
        rw [in_strs, decide_eq_false nin]
        rfl
      show upd _ dl (.lst (List.replicate i (.bl true) ++ [.bl (if true = true then !inV (V.str z) ((qs.take i).map V.str) else inV (V.str z) ((qs.take i).map V.str))])) dl = _
      rw [if_pos rfl, e4, List.replicate_succ']
      exact upd_same
    · exact Same.put sC hdl
  rintro G ⟨hG, sG⟩
  refine ⟨dl, List.replicate (qs.map V.str).length true, rfl, .of (by rw [rep_bl]; exact hG), ?_⟩
  rw [rep_all]
  exact q G (s0.trans sG)
theorem ok_is_task {f f1 f2 f3 f4 f5 f6 : Addr} {fd fd1 fd2 fd3 fd4 fd5 fd6 : FuncData} (N : Nm5) (hN : NOk N) (D : DefT K mg "is_task" "is_task" s_is_task ["row", "names"] f fd) (Z : Zs mg) (T : Tb K mg tl aP aN aT aO aL aH aI)
    (D_has_length : DefT K mg "has_length" "has_length" s_has_length ["row", "many"] f1 fd1) (D_is_one_or_none : DefT K mg "is_one_or_none" "is_one_or_none" s_is_one_or_none ["value", "names"] f2 fd2) (D_is_name : DefT K mg "is_name" "is_name" s_is_name ["value"] f3 fd3)
    (D_are_calls : DefT K mg "are_calls" "are_calls" s_are_calls ["rows", "names"] f4 fd4) (D_are_quiet : DefT K mg "are_quiet" "are_quiet" s_are_quiet ["rows", "marks"] f5 fd5) (D_are_ends : DefT K mg "are_ends" "are_ends" s_are_ends ["rows", "marks"] f6 fd6) :
    FnOk P w K mg base CX0 4 f fd ["row", "names"] (spItem (fun d => ∃ nm, Nm nm ∧ IsTask N nm d) (W4 N)) := by
  have G_has_length := ok_has_length (P := P) (w := w) (base := base) D_has_length Z
  have G_is_one_or_none := ok_one_or (P := P) (w := w) (base := base) D_is_one_or_none
  have G_is_name := ok_is_name (P := P) (w := w) (base := base) D_is_name Z T
  have G_are_calls := ok_are_calls (P := P) (w := w) (base := base) N D_are_calls Z D_has_length D_is_one_or_none
  have G_are_quiet := ok_are_quiet (P := P) (w := w) (base := base) D_are_quiet Z
  have G_are_ends := ok_are_ends (P := P) (w := w) (base := base) D_are_ends Z
  refine D.F.ok sc_is_task (fun vs H Q E h => ?_) (fun cdv A outer s H vs Q E hr h => ?_)
  · obtain ⟨v, d, fp, nd, rfl, _⟩ := h
    rfl
  obtain ⟨v, d, fp, nd, rfl, hD, ⟨nm, hnm, cs, qs, es, m, k, o, rfl, hcl, hcs, hqn, hqd, hqs, hel, hes, hm, hk, ho⟩, hW, q⟩ := h
  have b8 := hN.mk6
  obtain ⟨t, xs, rfl, ht, x0, r0, g0, g1, rfl, rfl, ⟨rfl, rfl⟩, x1, r1, g2, g3, rfl, rfl, hC, x2, r2, g4, g5, rfl, rfl, hQ, x3, r3, g6, g7, rfl, rfl, hE, x4, r4, g8, g9, rfl, rfl, ⟨rfl, rfl⟩, x5, r5, g10, g11, rfl, rfl, hD2, x6, r6, g12, g13, rfl, rfl, ⟨rfl, rfl⟩, rfl, rfl⟩ := hD
  have eo := oN_v hD2
  subst eo
  obtain ⟨lq, xq, gq, rfl, rfl, hlq, hQl⟩ := hQ
  obtain ⟨le, xe, ge, rfl, rfl, hle, hEl⟩ := hE
  have eq1 := strs_v hQl
  have eq2 := strs_v hEl
  subst eq1 eq2
  obtain ⟨l3, d3, e3⟩ := hW.2.2.2.get
  have q6 : qs.length ≤ 6 := Nat.le_trans (nodup_le hqd hqs) b8
  refine ⟨_, (pss_cons (ps_if (pt_not (pt_val (pe_call G_has_length (hr.mono (by decide)) rfl D_has_length.m D_has_length.F.kp D_has_length.b .nil pass0 (pa_cons (pv 0) (pa_cons pe_int pa_nil))))) (pss_one (ps_ret pe_bl)) pss_nil) (pss_cons (ps_asg (pv 0) (pg_tup rfl (pgs_cons (pg_name (i := 2) sc_is_task.nd rfl (Or.inl rfl)) (pgs_cons (pg_name (i := 3) sc_is_task.nd rfl (Or.inl rfl)) (pgs_cons (pg_name (i := 4) sc_is_task.nd rfl (Or.inl rfl)) (pgs_cons (pg_name (i := 5) sc_is_task.nd rfl (Or.inl rfl)) (pgs_cons (pg_name (i := 6) sc_is_task.nd rfl (Or.inl rfl)) (pgs_cons (pg_name (i := 7) sc_is_task.nd rfl (Or.inl rfl)) (pgs_cons (pg_name (i := 8) sc_is_task.nd rfl (Or.inl rfl)) pgs_nil))))))))) (pss_cons (ps_set (i := 9) sc_is_task.nd rfl (Or.inl rfl) (pe_dget (hu_of hr) (pv 1) pe_str (fun _ _ => rfl))) (pss_cons (ps_if (PW.pt (pw_or (pt_not (pt_val (pe_call G_is_name (hr.mono (by decide)) rfl D_is_name.m D_is_name.F.kp D_is_name.b .nil pass0 (pa_cons (pv 2) pa_nil)))) (pw_or1 (pt_not (pt_val (pe_call G_are_calls (hr.mono (by decide)) rfl D_are_calls.m D_are_calls.F.kp D_are_calls.b .nil pass0 (pa_cons (pv 3) (pa_cons (pv 1) pa_nil)))))))) (pss_one (ps_ret pe_bl)) pss_nil) (pss_cons (ps_if (PW.pt (pw_or (pt_not (pt_val (pe_call G_are_quiet (hr.mono (by decide)) rfl D_are_quiet.m D_are_quiet.F.kp D_are_quiet.b .nil pass0 (pa_cons (pv 4) (pa_cons (pv 9) pa_nil))))) (pw_or1 (pt_not (pt_val (pe_call G_are_ends (hr.mono (by decide)) rfl D_are_ends.m D_are_ends.F.kp D_are_ends.b .nil pass0 (pa_cons (pv 5) (pa_cons (pv 9) pa_nil)))))))) (pss_one (ps_ret pe_bl)) pss_nil) (pss_one (ps_ret (pe_and (pe_cmpR op_in_seq (pv 6) (pv 9) (by rfl)) (pe_and (pe_call G_is_one_or_none (hr.mono (by decide)) rfl D_is_one_or_none.m D_is_one_or_none.F.kp D_is_one_or_none.b .nil pass0 (pa_cons (pv 7) (pa_cons (pe_dget (hu_of hr) (pv 1) pe_str (fun _ _ => rfl)) pa_nil))) (pe_one (pe_cmpR op_in_seq (pv 8) (pe_glob (v := .ref aO) rfl T.owners rfl) (by rfl)))))))))))), ?_⟩
  refine ⟨_, rfl, t, _, _, rfl, ht, _, rfl, iteNS rfl ?_⟩
  refine ⟨_, rfl, t, _, rfl, .of ht, rfl, _, _, rfl, _, _, rfl, _, _, rfl, _, _, rfl, _, _, rfl, _, _, rfl, _, _, rfl, rfl, ?_⟩
  refine ⟨_, rfl, nd, _, rfl, d3, ?_⟩
  refine ⟨_, rfl, nm, rfl, hnm, fun H1 s1 => ⟨_, rfl, iteF ?_⟩⟩
  refine ⟨_, rfl, _, rfl, x1, cs, g2, nd, rfl, hC.same s1, hcl, by omega, hcs, hW.on s1, fun H2 s2 => ⟨_, rfl, iteF ?_⟩⟩
  have s12 := s1.trans s2
  refine ⟨_, rfl, _, rfl, lq, l3, qs, N.ma, rfl, s12 _ _ hlq, s12 _ _ e3, q6, hqn, hqd, fun z hz => ⟨hqs z hz, hN.mkn.2 z (hqs z hz)⟩, fun H3 s3 => ⟨_, rfl, iteF ?_⟩⟩
  have s13 := s12.trans s3
  refine ⟨_, rfl, _, rfl, le, l3, es, N.ma, rfl, s13 _ _ hle, s13 _ _ e3, hel, by omega, hes, fun H4 s4 => ⟨_, rfl, iteF ?_⟩⟩
  have s14 := s13.trans s4
  refine ⟨_, rfl, _, rfl, l3, _, rfl, .inl (.of (s14 _ _ e3)), rfl, flat_strs _, _, rfl, ifT (in_true hm) ?_⟩
  obtain ⟨l2, d2, e2⟩ := (hW.2.2.1.on s14).get
  refine ⟨_, rfl, _, rfl, nd, _, rfl, d2, k, l2, _, rfl, e2, hk, _, rfl, iteT ?_⟩
  refine ⟨_, rfl, aO, _, rfl, .inr (T.owners_.t _), rfl, flat_strs _, ?_⟩
  have e : inV (V.str o) (owners.map V.str) = true := in_true ho
  show Q (.bl (if false = true then !inV (V.str o) (owners.map V.str) else inV (V.str o) (owners.map V.str))) H4
  rw [e]
  exact q H4 s14
end
end My

namespace My
open PySem L2
abbrev s_may_stand : Stmt := top 28
theorem sc_may_stand : FnScope ["part", "row", "before", "many", "other"] ["part", "row", "before"] (defScope s_may_stand) := ⟨rfl, rfl, rfl, by decide +kernel, rfl, by decide +kernel, by decide +kernel⟩
inductive Pk where
  | ss | us | ks | ms | ws | as | ts | is | bs
def Pk.nm : Pk → Str
  | .ss => "states"
  | .us => "ups"
  | .ks => "downs"
  | .ms => "marks"
  | .ws => "wishes"
  | .as => "answers"
  | .ts => "tasks"
  | .is => "idles"
  | .bs => "busies"
def Pk.lo : Pk → Nat
  | .ss => 2
  | .us => 1
  | .ks => 1
  | .ms => 1
  | .ws => 0
  | .as => 0
  | .ts => 1
  | .is => 0
  | .bs => 0
def Pk.hi : Pk → Nat
  | .ss => 7
  | .us => 5
  | .ks => 5
  | .ms => 6
  | .ws => 30
  | .as => 30
  | .ts => 3
  | .is => 30
  | .bs => 30
def Pk.cut : Pk → Nat
  | .as => 2
  | .is => 2
  | .bs => 3
  | _ => 1
def ItemR (N : Nm5) : Pk → PyData → Prop
  | .ss => RState
  | .us => RLetter
  | .ks => RLetter
  | .ms => RMark
  | .ws => IsWish N
  | .as => IsAnswer N
  | .ts => fun d => ∃ nm, Nm nm ∧ IsTask N nm d
  | .is => IsIdle N
  | .bs => IsBusy N
def Wk (N : Nm5) : Pk → Hp → Addr → Prop
  | .ws => W4 N
  | .as => W4 N
  | .ts => W4 N
  | .is => W5 N
  | .bs => W5 N
  | _ => fun _ _ => True
/-- the dicts of the module -/
structure Td (K : PySem.W.Frag) (w : World) (aL aH aI : Addr) (it : Pk → Addr) : Prop where
  lengths : ∀ k : Pk, ∃ t, KDct K w aL k.nm (.ref t) ∧ SqK K t [.int (k.lo : Nat), .int (k.hi : Nat)]
  heads : ∀ k : Pk, k ≠ .ms → k ≠ .ws → KDct K w aH k.nm (.int (k.cut : Nat))
  items : ∀ k : Pk, KDct K w aI k.nm (.ref (it k))
/-- the row begins with n names, and goes on -/
def Cut (n : Nat) (d : PyData) : Prop := ∃ (ss : List Str) (r : List PyData), d = .tuple (ss.map .str ++ r) ∧ ss.length = n ∧ r ≠ [] ∧ ∀ s ∈ ss, Nm s
def Stand (k : Pk) (bs : List PyData) (d : PyData) : Prop := match k with
  | .ms => ∃ s, d = .str s ∧ Nm s ∧ ∀ z ∈ bs, ∃ t, z = .str t ∧ Nm t ∧ t ≠ s
  | .ws => True
  | k => Cut k.cut d ∧ (∀ z ∈ bs, Cut k.cut z ∧ PyData.eqv (cutD k.cut z) (cutD k.cut d) = false) ∧ (k = .ss → (bs = [] → ∃ s, d = .tuple [.str s, .str ""]) ∧ ∀ z ∈ bs, z.canLay0 = true ∧ z.depth ≤ 1)
theorem DfL.split {H : Hp} : ∀ {ds es : List PyData} {xs : List V} {fp : List Addr}, DfL H (ds ++ es) xs fp → ∃ ys zs f g, xs = ys ++ zs ∧ DfL H ds ys f ∧ DfL H es zs g ∧ fp = f ++ g
  | [], _, xs, fp, h => ⟨[], xs, [], fp, rfl, .n, h, rfl⟩
  | d :: ds, _, _, _, h => by
    obtain ⟨x, r, f, g, rfl, rfl, hx, hr⟩ := h
    obtain ⟨ys, zs, f2, g2, rfl, h1, h2, rfl⟩ := DfL.split hr
    exact ⟨x :: ys, zs, f ++ f2, g2, rfl, ⟨x, ys, f, f2, rfl, rfl, hx, h1⟩, h2, (List.append_assoc ..).symm⟩
theorem Cut.at {H : Hp} {n : Nat} {d : PyData} {v : V} {fp : List Addr} (c : Cut n d) (h : Df H d v fp) : ∃ (t : Addr) (xs : List V) (ss : List Str), v = .ref t ∧ H t = some (.tup xs) ∧ n < xs.length ∧ xs.take n = ss.map V.str ∧ cutD n d = .tuple (ss.map .str) ∧ ∀ s ∈ ss, Nm s := by
  obtain ⟨ss, r, rfl, hn, hr, hs⟩ := c
  obtain ⟨t, xs, rfl, ht, hl⟩ := h
  obtain ⟨ys, zs, f, g, rfl, h1, h2, _⟩ := hl.split
  have e1 := strs_v h1
  subst e1
  have hz : 0 < zs.length := by
    rw [h2.len]
    exact List.length_pos_iff.mpr hr
  refine ⟨t, _, ss, rfl, ht, ?_, ?_, ?_, hs⟩
  · rw [List.length_append, List.length_map]
    omega
  · rw [← hn]
    have : (ss.map V.str).length = ss.length := List.length_map _
    rw [← this, List.take_left]
  · show PyData.tuple ((ss.map PyData.str ++ r).take n) = _
    rw [← hn]
    have : (ss.map PyData.str).length = ss.length := List.length_map _
    rw [← this, List.take_left]
theorem sh_strs {ss : List Str} (h : ∀ s ∈ ss, Nm s) : Sh (.tuple (ss.map .str)) := sh_tup fun d hd => by
  obtain ⟨s, hs, rfl⟩ := List.mem_map.mp hd
  exact ⟨strOk_nm (h s hs), Nat.le_refl _⟩
theorem ite_both {b : Bool} {A B : Prop} (h : B) (g : b = true → B → A) : if b = true then A else B := by
  cases b with
  | false => exact h
  | true => exact g rfl h
def spStand (k : Pk) : Sp := fun vs H Q _ => ∃ (v : V) (d : PyData) (fp gp : List Addr) (l : Addr) (xs : List V) (bs : List PyData), vs = [.str k.nm, v, .ref l] ∧ Df H d v fp ∧ H l = some (.lst xs) ∧ DfL H bs xs gp ∧ bs.length ≤ 30 ∧ Stand k bs d ∧ ∀ H', Same H H' → Q (.bl true) H'
section
variable {P : Program} {w : World} {K : PySem.W.Frag} {mg : Str → Option Value} {base : Heap} {tl : Tok} {aP aN aT aO aL aH aI : Addr} {it : Pk → Addr}
theorem ok_may_stand {f : Addr} {fd : FuncData} (D : DefT K mg "may_stand" "may_stand" s_may_stand ["part", "row", "before"] f fd) (Z : Zs mg) (T : Tb K mg tl aP aN aT aO aL aH aI) (Td' : Td K w aL aH aI it) :
    FnOk P w K mg base CX0 1 f fd ["part", "row", "before"] (fun vs H Q E => ∃ k, spStand k vs H Q E) := by
  refine D.F.ok sc_may_stand (fun vs H Q E h => ?_) (fun cdv A outer s H vs Q E hr h => ?_)
  · obtain ⟨k, v, d, fp, gp, l, xs, bs, rfl, _⟩ := h
    rfl
  obtain ⟨k, v, d, fp, gp, l, xs, bs, rfl, hD, hl, hB, h30, hSt, q⟩ := h
  refine ⟨_, (pss_cons (ps_if (PW.pt (pw_and (pt_cmpR op_eq (pv 0) pe_str (nomark _)) (pw_and (pt_cmpR (op_eqD hr.units) (pv 2) (pe_lst pa_nil) (nomark _)) (pw_and1 (pt_cmpR op_ne (pe_ix ix_tup (pv 1) pe_int (fun _ _ => rfl)) pe_str (nomark _)))))) (pss_one (ps_ret pe_bl)) pss_nil) (pss_cons (ps_if (pt_cmpR op_eq (pv 0) pe_str (nomark _)) (pss_one (ps_ret (pe_cmpR (op_notInD (hu65 hr)) (pv 1) (pv 2) (by rfl)))) pss_nil) (pss_cons (ps_if (pt_cmpR op_eq (pv 0) pe_str (nomark _)) (pss_one (ps_ret pe_bl)) pss_nil) (pss_cons (ps_set (i := 3) sc_may_stand.nd rfl (Or.inr rfl) (pe_ix ix_kdict (pe_glob (v := .ref aH) rfl T.heads rfl) (pv 0) (fun _ _ => rfl))) (pss_one (ps_ret (pe_cmpR (op_notInD (hu65 hr)) (pe_slice sl_tup (pv 1) po_none (po_some (pv 3))) (pe_lc (own := [("other", 4)]) (g := gName 4) rfl sc_may_stand.nd  (pi_list (pv 2)) (blkOk_by (own := [("other", 4)]) (N := ["part", "row", "before", "many", "other"]) (sc := defScope s_may_stand) (by decide +kernel)) (fun _ _ _ _ _ => pg_name (i := 4) sc_may_stand.nd rfl (Or.inl rfl)) (fun _ _ _ _ _ => pts_nil) (fun _ _ _ _ _ => (pe_slice (sl_tupK (K := K) rfl) (pv 4) po_none (po_some (pv 3))))) (by rfl)))))))), ?_⟩
  cases k
  case ms =>
    obtain ⟨s, rfl, hs, hz⟩ := hSt
    have ev : v = .str s := hD.1
    subst ev
    refine ⟨_, rfl, rfl, _, rfl, ifF (by decide +kernel) (iteF ?_)⟩
    refine ⟨_, rfl, rfl, _, rfl, ifT (decide_eq_true rfl) ?_⟩
    refine ⟨_, rfl, _, rfl, .str s, bs, .str s, .lst (.of hl) (DfL.dp bs xs gp hB), shaped_of (n := 0) (strOk_nm hs) (Nat.le_refl _) (by decide), shaped_list (n := 0) (fun z hz' => ?_) (by decide), ?_⟩
    · obtain ⟨t, rfl, ht, _⟩ := hz z hz'
      exact ⟨strOk_nm ht, Nat.le_refl _⟩
    have e : (bs.any fun z => PyData.eqv z (.str s)) = false := by
      rw [List.any_eq_false]
      intro z hz'
      obtain ⟨t, rfl, _, ne⟩ := hz z hz'
      have e1 : (t == s) = false := by simpa using ne
      show ¬ (PyData.eqv (.str t) (.str s) = true)
      simp [PyData.eqv, ne]
    rw [e]
    exact q H (Same.refl H)
  case ws =>
    refine ⟨_, rfl, rfl, _, rfl, ifF (by decide +kernel) (iteF ?_)⟩
    refine ⟨_, rfl, rfl, _, rfl, ifF (by decide +kernel) ?_⟩
    refine ⟨_, rfl, rfl, _, rfl, ifT (decide_eq_true rfl) ?_⟩
    exact q H (Same.refl H)
  case ss =>
    obtain ⟨t, ys, ss, rfl, ht, hn, htk, hcd, hss⟩ := hSt.1.at hD
    refine ⟨_, rfl, rfl, _, rfl, ifT (by decide +kernel) ?_⟩
    refine ⟨_, rfl, sz 0, fun l0 h0 => ?_⟩
    have s0 := same_upd (o := .lst []) h0
    have hl0 := s0 _ _ hl
    have ht0 := s0 _ _ ht
    have hB0 := hB.same s0
    refine ⟨.list bs, .list [], .lst (.of hl0) (hB0.dp), .lst (.of upd_same) .nil, shaped_list (n := 1) (fun z hz => (hSt.2.2 rfl).2 z hz) (by decide), rfl, _, rfl, ?_⟩
    refine ite_both ?_ (fun e2 hB2 => ?_)
    case refine_2 =>
      have e3 : bs = [] := by
        cases bs with
        | nil => rfl
        | cons z r => cases e2
      obtain ⟨s1, rfl⟩ := (hSt.2.2 rfl).1 e3
      obtain ⟨t9, xs9, e9, ht9, hl9⟩ := hD
      cases e9
      have exs : xs9 = ys := by
        rw [ht] at ht9
        cases ht9
        rfl
      subst exs
      have e4 : xs9 = [.str s1, .str ""] := strs_v (ss := [s1, ""]) hl9
      subst e4
      refine ⟨_, rfl, t, _, 1, _, rfl, rfl, .of ht0, rfl, rfl, ?_⟩

      exact ⟨_, rfl, hB2⟩
    refine iteF ?_
    refine ⟨_, rfl, rfl, _, rfl, ifF (by decide +kernel) ?_⟩
    refine ⟨_, rfl, rfl, _, rfl, ifF (by decide +kernel) ?_⟩
    refine ⟨_, rfl, aH, _, _, rfl, rfl, Td'.heads .ss (fun z => nomatch z) (fun z => nomatch z), ?_⟩
    refine ⟨_, rfl, _, rfl, _, rfl, t, _, rfl, .of ht0, notwhole hn, fun t2 ht2 => ?_⟩
    rw [cutTo _ _ (Nat.le_of_lt hn), htk]
    have s2 := s0.trans (same_upd (o := .tup (ss.map V.str)) ht2)
    refine ⟨_, rfl, l, rfl, ⟨_, .of (s2 _ _ hl)⟩, fun dl hdl => ?_⟩
    have hxl := hB.len
    refine lc_it (walk_list (K := K) (a := l) (xs := xs)) (fun i G => ∃ acc : List V, G dl = some (.lst acc) ∧ acc.length = i ∧ DfL G ((bs.take i).map (cutD (Pk.cut .ss))) acc [] ∧ Same _ G) ⟨[], upd_same, rfl, .n, same_upd hdl⟩ (fun _ G _ ⟨_, _, _, _, sG⟩ => .of (sG _ _ (s2 _ _ hl))) ?_ ?_
    · rintro i x G H' hi ⟨acc, hG, hal, hacc, sG⟩ ⟨rfl, hx⟩
      obtain ⟨d', f', hd', hDx, _⟩ := hB.at hx
      obtain ⟨t', ys', ss', rfl, ht', hn', htk', hcd', hss'⟩ := (hSt.2.1 d' (List.mem_of_getElem? hd')).1.at hDx
      have htG := sG _ _ (s2 _ _ ht')
      refine ⟨rfl, _, rfl, _, rfl, _, rfl, t', _, rfl, .of htG, notwhole hn', fun t3 ht3 => ?_⟩
      rw [cutTo _ _ (Nat.le_of_lt hn'), htk']
      refine ⟨acc, keep_new ht3 _ _ hG, lt1000 (by omega), acc ++ [.ref t3], upd_same, by rw [List.length_append, hal]; rfl, ?_, Same.put (sG.trans (same_upd ht3)) hdl⟩
      have et : bs.take (i + 1) = bs.take i ++ [d'] := by
        rw [List.take_succ, hd']
        rfl
      rw [et, List.map_append]
      refine ((hacc.same (same_upd ht3)).snoc (g := []) ?_).put (keep_new ht3 _ _ hG) (by simp)
      rw [hcd']
      exact tD upd_same (strs_df ss')
    rintro G ⟨acc, hG, hal, hacc, sG⟩
    rw [hxl, List.take_length] at hacc
    have hcut : Df G (cutD (Pk.cut .ss) d) (.ref t2) [] := by
      rw [hcd]
      exact tD (sG _ _ upd_same) (strs_df ss)
    have hsh : Sh (cutD (Pk.cut .ss) d) := by
      rw [hcd]
      exact sh_strs hss
    refine ⟨_, _, hcut.dp, .lst (.of hG) (hacc.dp), shaped_of hsh.1 hsh.2 (by decide), shaped_list (n := 1) (fun z hz => ?_) (by decide), ?_⟩
    · obtain ⟨z', hz', rfl⟩ := List.mem_map.mp hz
      obtain ⟨ss', r', e', hn', _, hs'⟩ := (hSt.2.1 z' hz').1
      have e2 : cutD (Pk.cut .ss) z' = .tuple (ss'.map .str) := by
        rw [e', ← hn']
        show PyData.tuple ((ss'.map PyData.str ++ r').take ss'.length) = _
        have : (ss'.map PyData.str).length = ss'.length := List.length_map _
        rw [← this, List.take_left]
      rw [e2]
      exact sh_strs hs'
    have e : ((bs.map (cutD (Pk.cut .ss))).any fun z => PyData.eqv z (cutD (Pk.cut .ss) d)) = false := by
      rw [List.any_eq_false]
      intro z hz
      obtain ⟨z', hz', rfl⟩ := List.mem_map.mp hz
      rw [(hSt.2.1 z' hz').2]
      exact Bool.false_ne_true
    rw [e]
    exact q G (s2.trans sG)
  case us =>
    obtain ⟨t, ys, ss, rfl, ht, hn, htk, hcd, hss⟩ := hSt.1.at hD
    refine ⟨_, rfl, rfl, _, rfl, ifF (by decide +kernel) (iteF ?_)⟩
    refine ⟨_, rfl, rfl, _, rfl, ifF (by decide +kernel) ?_⟩
    refine ⟨_, rfl, rfl, _, rfl, ifF (by decide +kernel) ?_⟩
    refine ⟨_, rfl, aH, _, _, rfl, rfl, Td'.heads .us (fun z => nomatch z) (fun z => nomatch z), ?_⟩
    refine ⟨_, rfl, _, rfl, _, rfl, t, _, rfl, .of ht, notwhole hn, fun t2 ht2 => ?_⟩
    rw [cutTo _ _ (Nat.le_of_lt hn), htk]
    have s2 := (Same.refl H).trans (same_upd (o := .tup (ss.map V.str)) ht2)
    refine ⟨_, rfl, l, rfl, ⟨_, .of (s2 _ _ hl)⟩, fun dl hdl => ?_⟩
    have hxl := hB.len
    refine lc_it (walk_list (K := K) (a := l) (xs := xs)) (fun i G => ∃ acc : List V, G dl = some (.lst acc) ∧ acc.length = i ∧ DfL G ((bs.take i).map (cutD (Pk.cut .us))) acc [] ∧ Same _ G) ⟨[], upd_same, rfl, .n, same_upd hdl⟩ (fun _ G _ ⟨_, _, _, _, sG⟩ => .of (sG _ _ (s2 _ _ hl))) ?_ ?_
    · rintro i x G H' hi ⟨acc, hG, hal, hacc, sG⟩ ⟨rfl, hx⟩
      obtain ⟨d', f', hd', hDx, _⟩ := hB.at hx
      obtain ⟨t', ys', ss', rfl, ht', hn', htk', hcd', hss'⟩ := (hSt.2.1 d' (List.mem_of_getElem? hd')).1.at hDx
      have htG := sG _ _ (s2 _ _ ht')
      refine ⟨rfl, _, rfl, _, rfl, _, rfl, t', _, rfl, .of htG, notwhole hn', fun t3 ht3 => ?_⟩
      rw [cutTo _ _ (Nat.le_of_lt hn'), htk']
      refine ⟨acc, keep_new ht3 _ _ hG, lt1000 (by omega), acc ++ [.ref t3], upd_same, by rw [List.length_append, hal]; rfl, ?_, Same.put (sG.trans (same_upd ht3)) hdl⟩
      have et : bs.take (i + 1) = bs.take i ++ [d'] := by
        rw [List.take_succ, hd']
        rfl
      rw [et, List.map_append]
      refine ((hacc.same (same_upd ht3)).snoc (g := []) ?_).put (keep_new ht3 _ _ hG) (by simp)
      rw [hcd']
      exact tD upd_same (strs_df ss')
    rintro G ⟨acc, hG, hal, hacc, sG⟩
    rw [hxl, List.take_length] at hacc
    have hcut : Df G (cutD (Pk.cut .us) d) (.ref t2) [] := by
      rw [hcd]
      exact tD (sG _ _ upd_same) (strs_df ss)
    have hsh : Sh (cutD (Pk.cut .us) d) := by
      rw [hcd]
      exact sh_strs hss
    refine ⟨_, _, hcut.dp, .lst (.of hG) (hacc.dp), shaped_of hsh.1 hsh.2 (by decide), shaped_list (n := 1) (fun z hz => ?_) (by decide), ?_⟩
    · obtain ⟨z', hz', rfl⟩ := List.mem_map.mp hz
      obtain ⟨ss', r', e', hn', _, hs'⟩ := (hSt.2.1 z' hz').1
      have e2 : cutD (Pk.cut .us) z' = .tuple (ss'.map .str) := by
        rw [e', ← hn']
        show PyData.tuple ((ss'.map PyData.str ++ r').take ss'.length) = _
        have : (ss'.map PyData.str).length = ss'.length := List.length_map _
        rw [← this, List.take_left]
      rw [e2]
      exact sh_strs hs'
    have e : ((bs.map (cutD (Pk.cut .us))).any fun z => PyData.eqv z (cutD (Pk.cut .us) d)) = false := by
      rw [List.any_eq_false]
      intro z hz
      obtain ⟨z', hz', rfl⟩ := List.mem_map.mp hz
      rw [(hSt.2.1 z' hz').2]
      exact Bool.false_ne_true
    rw [e]
    exact q G (s2.trans sG)
  case ks =>
    obtain ⟨t, ys, ss, rfl, ht, hn, htk, hcd, hss⟩ := hSt.1.at hD
    refine ⟨_, rfl, rfl, _, rfl, ifF (by decide +kernel) (iteF ?_)⟩
    refine ⟨_, rfl, rfl, _, rfl, ifF (by decide +kernel) ?_⟩
    refine ⟨_, rfl, rfl, _, rfl, ifF (by decide +kernel) ?_⟩
    refine ⟨_, rfl, aH, _, _, rfl, rfl, Td'.heads .ks (fun z => nomatch z) (fun z => nomatch z), ?_⟩
    refine ⟨_, rfl, _, rfl, _, rfl, t, _, rfl, .of ht, notwhole hn, fun t2 ht2 => ?_⟩
    rw [cutTo _ _ (Nat.le_of_lt hn), htk]
    have s2 := (Same.refl H).trans (same_upd (o := .tup (ss.map V.str)) ht2)
    refine ⟨_, rfl, l, rfl, ⟨_, .of (s2 _ _ hl)⟩, fun dl hdl => ?_⟩
    have hxl := hB.len
    refine lc_it (walk_list (K := K) (a := l) (xs := xs)) (fun i G => ∃ acc : List V, G dl = some (.lst acc) ∧ acc.length = i ∧ DfL G ((bs.take i).map (cutD (Pk.cut .ks))) acc [] ∧ Same _ G) ⟨[], upd_same, rfl, .n, same_upd hdl⟩ (fun _ G _ ⟨_, _, _, _, sG⟩ => .of (sG _ _ (s2 _ _ hl))) ?_ ?_
    · rintro i x G H' hi ⟨acc, hG, hal, hacc, sG⟩ ⟨rfl, hx⟩
      obtain ⟨d', f', hd', hDx, _⟩ := hB.at hx
      obtain ⟨t', ys', ss', rfl, ht', hn', htk', hcd', hss'⟩ := (hSt.2.1 d' (List.mem_of_getElem? hd')).1.at hDx
      have htG := sG _ _ (s2 _ _ ht')
      refine ⟨rfl, _, rfl, _, rfl, _, rfl, t', _, rfl, .of htG, notwhole hn', fun t3 ht3 => ?_⟩
      rw [cutTo _ _ (Nat.le_of_lt hn'), htk']
      refine ⟨acc, keep_new ht3 _ _ hG, lt1000 (by omega), acc ++ [.ref t3], upd_same, by rw [List.length_append, hal]; rfl, ?_, Same.put (sG.trans (same_upd ht3)) hdl⟩
      have et : bs.take (i + 1) = bs.take i ++ [d'] := by
        rw [List.take_succ, hd']
        rfl
      rw [et, List.map_append]
      refine ((hacc.same (same_upd ht3)).snoc (g := []) ?_).put (keep_new ht3 _ _ hG) (by simp)
      rw [hcd']
      exact tD upd_same (strs_df ss')
    rintro G ⟨acc, hG, hal, hacc, sG⟩
    rw [hxl, List.take_length] at hacc
    have hcut : Df G (cutD (Pk.cut .ks) d) (.ref t2) [] := by
      rw [hcd]
      exact tD (sG _ _ upd_same) (strs_df ss)
    have hsh : Sh (cutD (Pk.cut .ks) d) := by
      rw [hcd]
      exact sh_strs hss
    refine ⟨_, _, hcut.dp, .lst (.of hG) (hacc.dp), shaped_of hsh.1 hsh.2 (by decide), shaped_list (n := 1) (fun z hz => ?_) (by decide), ?_⟩
    · obtain ⟨z', hz', rfl⟩ := List.mem_map.mp hz
      obtain ⟨ss', r', e', hn', _, hs'⟩ := (hSt.2.1 z' hz').1
      have e2 : cutD (Pk.cut .ks) z' = .tuple (ss'.map .str) := by
        rw [e', ← hn']
        show PyData.tuple ((ss'.map PyData.str ++ r').take ss'.length) = _
        have : (ss'.map PyData.str).length = ss'.length := List.length_map _
        rw [← this, List.take_left]
      rw [e2]
      exact sh_strs hs'
    have e : ((bs.map (cutD (Pk.cut .ks))).any fun z => PyData.eqv z (cutD (Pk.cut .ks) d)) = false := by
      rw [List.any_eq_false]
      intro z hz
      obtain ⟨z', hz', rfl⟩ := List.mem_map.mp hz
      rw [(hSt.2.1 z' hz').2]
      exact Bool.false_ne_true
    rw [e]
    exact q G (s2.trans sG)
  case as =>
    obtain ⟨t, ys, ss, rfl, ht, hn, htk, hcd, hss⟩ := hSt.1.at hD
    refine ⟨_, rfl, rfl, _, rfl, ifF (by decide +kernel) (iteF ?_)⟩
    refine ⟨_, rfl, rfl, _, rfl, ifF (by decide +kernel) ?_⟩
    refine ⟨_, rfl, rfl, _, rfl, ifF (by decide +kernel) ?_⟩
    refine ⟨_, rfl, aH, _, _, rfl, rfl, Td'.heads .as (fun z => nomatch z) (fun z => nomatch z), ?_⟩
    refine ⟨_, rfl, _, rfl, _, rfl, t, _, rfl, .of ht, notwhole hn, fun t2 ht2 => ?_⟩
    rw [cutTo _ _ (Nat.le_of_lt hn), htk]
    have s2 := (Same.refl H).trans (same_upd (o := .tup (ss.map V.str)) ht2)
    refine ⟨_, rfl, l, rfl, ⟨_, .of (s2 _ _ hl)⟩, fun dl hdl => ?_⟩
    have hxl := hB.len
    refine lc_it (walk_list (K := K) (a := l) (xs := xs)) (fun i G => ∃ acc : List V, G dl = some (.lst acc) ∧ acc.length = i ∧ DfL G ((bs.take i).map (cutD (Pk.cut .as))) acc [] ∧ Same _ G) ⟨[], upd_same, rfl, .n, same_upd hdl⟩ (fun _ G _ ⟨_, _, _, _, sG⟩ => .of (sG _ _ (s2 _ _ hl))) ?_ ?_
    · rintro i x G H' hi ⟨acc, hG, hal, hacc, sG⟩ ⟨rfl, hx⟩
      obtain ⟨d', f', hd', hDx, _⟩ := hB.at hx
      obtain ⟨t', ys', ss', rfl, ht', hn', htk', hcd', hss'⟩ := (hSt.2.1 d' (List.mem_of_getElem? hd')).1.at hDx
      have htG := sG _ _ (s2 _ _ ht')
      refine ⟨rfl, _, rfl, _, rfl, _, rfl, t', _, rfl, .of htG, notwhole hn', fun t3 ht3 => ?_⟩
      rw [cutTo _ _ (Nat.le_of_lt hn'), htk']
      refine ⟨acc, keep_new ht3 _ _ hG, lt1000 (by omega), acc ++ [.ref t3], upd_same, by rw [List.length_append, hal]; rfl, ?_, Same.put (sG.trans (same_upd ht3)) hdl⟩
      have et : bs.take (i + 1) = bs.take i ++ [d'] := by
        rw [List.take_succ, hd']
        rfl
      rw [et, List.map_append]
      refine ((hacc.same (same_upd ht3)).snoc (g := []) ?_).put (keep_new ht3 _ _ hG) (by simp)
      rw [hcd']
      exact tD upd_same (strs_df ss')
    rintro G ⟨acc, hG, hal, hacc, sG⟩
    rw [hxl, List.take_length] at hacc
    have hcut : Df G (cutD (Pk.cut .as) d) (.ref t2) [] := by
      rw [hcd]
      exact tD (sG _ _ upd_same) (strs_df ss)
    have hsh : Sh (cutD (Pk.cut .as) d) := by
      rw [hcd]
      exact sh_strs hss
    refine ⟨_, _, hcut.dp, .lst (.of hG) (hacc.dp), shaped_of hsh.1 hsh.2 (by decide), shaped_list (n := 1) (fun z hz => ?_) (by decide), ?_⟩
    · obtain ⟨z', hz', rfl⟩ := List.mem_map.mp hz
      obtain ⟨ss', r', e', hn', _, hs'⟩ := (hSt.2.1 z' hz').1
      have e2 : cutD (Pk.cut .as) z' = .tuple (ss'.map .str) := by
        rw [e', ← hn']
        show PyData.tuple ((ss'.map PyData.str ++ r').take ss'.length) = _
        have : (ss'.map PyData.str).length = ss'.length := List.length_map _
        rw [← this, List.take_left]
      rw [e2]
      exact sh_strs hs'
    have e : ((bs.map (cutD (Pk.cut .as))).any fun z => PyData.eqv z (cutD (Pk.cut .as) d)) = false := by
      rw [List.any_eq_false]
      intro z hz
      obtain ⟨z', hz', rfl⟩ := List.mem_map.mp hz
      rw [(hSt.2.1 z' hz').2]
      exact Bool.false_ne_true
    rw [e]
    exact q G (s2.trans sG)
  case ts =>
    obtain ⟨t, ys, ss, rfl, ht, hn, htk, hcd, hss⟩ := hSt.1.at hD
    refine ⟨_, rfl, rfl, _, rfl, ifF (by decide +kernel) (iteF ?_)⟩
    refine ⟨_, rfl, rfl, _, rfl, ifF (by decide +kernel) ?_⟩
    refine ⟨_, rfl, rfl, _, rfl, ifF (by decide +kernel) ?_⟩
    refine ⟨_, rfl, aH, _, _, rfl, rfl, Td'.heads .ts (fun z => nomatch z) (fun z => nomatch z), ?_⟩
    refine ⟨_, rfl, _, rfl, _, rfl, t, _, rfl, .of ht, notwhole hn, fun t2 ht2 => ?_⟩
    rw [cutTo _ _ (Nat.le_of_lt hn), htk]
    have s2 := (Same.refl H).trans (same_upd (o := .tup (ss.map V.str)) ht2)
    refine ⟨_, rfl, l, rfl, ⟨_, .of (s2 _ _ hl)⟩, fun dl hdl => ?_⟩
    have hxl := hB.len
    refine lc_it (walk_list (K := K) (a := l) (xs := xs)) (fun i G => ∃ acc : List V, G dl = some (.lst acc) ∧ acc.length = i ∧ DfL G ((bs.take i).map (cutD (Pk.cut .ts))) acc [] ∧ Same _ G) ⟨[], upd_same, rfl, .n, same_upd hdl⟩ (fun _ G _ ⟨_, _, _, _, sG⟩ => .of (sG _ _ (s2 _ _ hl))) ?_ ?_
    · rintro i x G H' hi ⟨acc, hG, hal, hacc, sG⟩ ⟨rfl, hx⟩
      obtain ⟨d', f', hd', hDx, _⟩ := hB.at hx
      obtain ⟨t', ys', ss', rfl, ht', hn', htk', hcd', hss'⟩ := (hSt.2.1 d' (List.mem_of_getElem? hd')).1.at hDx
      have htG := sG _ _ (s2 _ _ ht')
      refine ⟨rfl, _, rfl, _, rfl, _, rfl, t', _, rfl, .of htG, notwhole hn', fun t3 ht3 => ?_⟩
      rw [cutTo _ _ (Nat.le_of_lt hn'), htk']
      refine ⟨acc, keep_new ht3 _ _ hG, lt1000 (by omega), acc ++ [.ref t3], upd_same, by rw [List.length_append, hal]; rfl, ?_, Same.put (sG.trans (same_upd ht3)) hdl⟩
      have et : bs.take (i + 1) = bs.take i ++ [d'] := by
        rw [List.take_succ, hd']
        rfl
      rw [et, List.map_append]
      refine ((hacc.same (same_upd ht3)).snoc (g := []) ?_).put (keep_new ht3 _ _ hG) (by simp)
      rw [hcd']
      exact tD upd_same (strs_df ss')
    rintro G ⟨acc, hG, hal, hacc, sG⟩
    rw [hxl, List.take_length] at hacc
    have hcut : Df G (cutD (Pk.cut .ts) d) (.ref t2) [] := by
      rw [hcd]
      exact tD (sG _ _ upd_same) (strs_df ss)
    have hsh : Sh (cutD (Pk.cut .ts) d) := by
      rw [hcd]
      exact sh_strs hss
    refine ⟨_, _, hcut.dp, .lst (.of hG) (hacc.dp), shaped_of hsh.1 hsh.2 (by decide), shaped_list (n := 1) (fun z hz => ?_) (by decide), ?_⟩
    · obtain ⟨z', hz', rfl⟩ := List.mem_map.mp hz
      obtain ⟨ss', r', e', hn', _, hs'⟩ := (hSt.2.1 z' hz').1
      have e2 : cutD (Pk.cut .ts) z' = .tuple (ss'.map .str) := by
        rw [e', ← hn']
        show PyData.tuple ((ss'.map PyData.str ++ r').take ss'.length) = _
        have : (ss'.map PyData.str).length = ss'.length := List.length_map _
        rw [← this, List.take_left]
      rw [e2]
      exact sh_strs hs'
    have e : ((bs.map (cutD (Pk.cut .ts))).any fun z => PyData.eqv z (cutD (Pk.cut .ts) d)) = false := by
      rw [List.any_eq_false]
      intro z hz
      obtain ⟨z', hz', rfl⟩ := List.mem_map.mp hz
      rw [(hSt.2.1 z' hz').2]
      exact Bool.false_ne_true
    rw [e]
    exact q G (s2.trans sG)
  case is =>
    obtain ⟨t, ys, ss, rfl, ht, hn, htk, hcd, hss⟩ := hSt.1.at hD
    refine ⟨_, rfl, rfl, _, rfl, ifF (by decide +kernel) (iteF ?_)⟩
    refine ⟨_, rfl, rfl, _, rfl, ifF (by decide +kernel) ?_⟩
    refine ⟨_, rfl, rfl, _, rfl, ifF (by decide +kernel) ?_⟩
    refine ⟨_, rfl, aH, _, _, rfl, rfl, Td'.heads .is (fun z => nomatch z) (fun z => nomatch z), ?_⟩
    refine ⟨_, rfl, _, rfl, _, rfl, t, _, rfl, .of ht, notwhole hn, fun t2 ht2 => ?_⟩
    rw [cutTo _ _ (Nat.le_of_lt hn), htk]
    have s2 := (Same.refl H).trans (same_upd (o := .tup (ss.map V.str)) ht2)
    refine ⟨_, rfl, l, rfl, ⟨_, .of (s2 _ _ hl)⟩, fun dl hdl => ?_⟩
    have hxl := hB.len
    refine lc_it (walk_list (K := K) (a := l) (xs := xs)) (fun i G => ∃ acc : List V, G dl = some (.lst acc) ∧ acc.length = i ∧ DfL G ((bs.take i).map (cutD (Pk.cut .is))) acc [] ∧ Same _ G) ⟨[], upd_same, rfl, .n, same_upd hdl⟩ (fun _ G _ ⟨_, _, _, _, sG⟩ => .of (sG _ _ (s2 _ _ hl))) ?_ ?_
    · rintro i x G H' hi ⟨acc, hG, hal, hacc, sG⟩ ⟨rfl, hx⟩
      obtain ⟨d', f', hd', hDx, _⟩ := hB.at hx
      obtain ⟨t', ys', ss', rfl, ht', hn', htk', hcd', hss'⟩ := (hSt.2.1 d' (List.mem_of_getElem? hd')).1.at hDx
      have htG := sG _ _ (s2 _ _ ht')
      refine ⟨rfl, _, rfl, _, rfl, _, rfl, t', _, rfl, .of htG, notwhole hn', fun t3 ht3 => ?_⟩
      rw [cutTo _ _ (Nat.le_of_lt hn'), htk']
      refine ⟨acc, keep_new ht3 _ _ hG, lt1000 (by omega), acc ++ [.ref t3], upd_same, by rw [List.length_append, hal]; rfl, ?_, Same.put (sG.trans (same_upd ht3)) hdl⟩
      have et : bs.take (i + 1) = bs.take i ++ [d'] := by
        rw [List.take_succ, hd']
        rfl
      rw [et, List.map_append]
      refine ((hacc.same (same_upd ht3)).snoc (g := []) ?_).put (keep_new ht3 _ _ hG) (by simp)
      rw [hcd']
      exact tD upd_same (strs_df ss')
    rintro G ⟨acc, hG, hal, hacc, sG⟩
    rw [hxl, List.take_length] at hacc
    have hcut : Df G (cutD (Pk.cut .is) d) (.ref t2) [] := by
      rw [hcd]
      exact tD (sG _ _ upd_same) (strs_df ss)
    have hsh : Sh (cutD (Pk.cut .is) d) := by
      rw [hcd]
      exact sh_strs hss
    refine ⟨_, _, hcut.dp, .lst (.of hG) (hacc.dp), shaped_of hsh.1 hsh.2 (by decide), shaped_list (n := 1) (fun z hz => ?_) (by decide), ?_⟩
    · obtain ⟨z', hz', rfl⟩ := List.mem_map.mp hz
      obtain ⟨ss', r', e', hn', _, hs'⟩ := (hSt.2.1 z' hz').1
      have e2 : cutD (Pk.cut .is) z' = .tuple (ss'.map .str) := by
        rw [e', ← hn']
        show PyData.tuple ((ss'.map PyData.str ++ r').take ss'.length) = _
        have : (ss'.map PyData.str).length = ss'.length := List.length_map _
        rw [← this, List.take_left]
      rw [e2]
      exact sh_strs hs'
    have e : ((bs.map (cutD (Pk.cut .is))).any fun z => PyData.eqv z (cutD (Pk.cut .is) d)) = false := by
      rw [List.any_eq_false]
      intro z hz
      obtain ⟨z', hz', rfl⟩ := List.mem_map.mp hz
      rw [(hSt.2.1 z' hz').2]
      exact Bool.false_ne_true
    rw [e]
    exact q G (s2.trans sG)
  case bs =>
    obtain ⟨t, ys, ss, rfl, ht, hn, htk, hcd, hss⟩ := hSt.1.at hD
    refine ⟨_, rfl, rfl, _, rfl, ifF (by decide +kernel) (iteF ?_)⟩
    refine ⟨_, rfl, rfl, _, rfl, ifF (by decide +kernel) ?_⟩
    refine ⟨_, rfl, rfl, _, rfl, ifF (by decide +kernel) ?_⟩
    refine ⟨_, rfl, aH, _, _, rfl, rfl, Td'.heads .bs (fun z => nomatch z) (fun z => nomatch z), ?_⟩
    refine ⟨_, rfl, _, rfl, _, rfl, t, _, rfl, .of ht, notwhole hn, fun t2 ht2 => ?_⟩
    rw [cutTo _ _ (Nat.le_of_lt hn), htk]
    have s2 := (Same.refl H).trans (same_upd (o := .tup (ss.map V.str)) ht2)
    refine ⟨_, rfl, l, rfl, ⟨_, .of (s2 _ _ hl)⟩, fun dl hdl => ?_⟩
    have hxl := hB.len
    refine lc_it (walk_list (K := K) (a := l) (xs := xs)) (fun i G => ∃ acc : List V, G dl = some (.lst acc) ∧ acc.length = i ∧ DfL G ((bs.take i).map (cutD (Pk.cut .bs))) acc [] ∧ Same _ G) ⟨[], upd_same, rfl, .n, same_upd hdl⟩ (fun _ G _ ⟨_, _, _, _, sG⟩ => .of (sG _ _ (s2 _ _ hl))) ?_ ?_
    · rintro i x G H' hi ⟨acc, hG, hal, hacc, sG⟩ ⟨rfl, hx⟩
      obtain ⟨d', f', hd', hDx, _⟩ := hB.at hx
      obtain ⟨t', ys', ss', rfl, ht', hn', htk', hcd', hss'⟩ := (hSt.2.1 d' (List.mem_of_getElem? hd')).1.at hDx
      have htG := sG _ _ (s2 _ _ ht')
      refine ⟨rfl, _, rfl, _, rfl, _, rfl, t', _, rfl, .of htG, notwhole hn', fun t3 ht3 => ?_⟩
      rw [cutTo _ _ (Nat.le_of_lt hn'), htk']
      refine ⟨acc, keep_new ht3 _ _ hG, lt1000 (by omega), acc ++ [.ref t3], upd_same, by rw [List.length_append, hal]; rfl, ?_, Same.put (sG.trans (same_upd ht3)) hdl⟩
      have et : bs.take (i + 1) = bs.take i ++ [d'] := by
        rw [List.take_succ, hd']
        rfl
      rw [et, List.map_append]
      refine ((hacc.same (same_upd ht3)).snoc (g := []) ?_).put (keep_new ht3 _ _ hG) (by simp)
      rw [hcd']
      exact tD upd_same (strs_df ss')
    rintro G ⟨acc, hG, hal, hacc, sG⟩
    rw [hxl, List.take_length] at hacc
    have hcut : Df G (cutD (Pk.cut .bs) d) (.ref t2) [] := by
      rw [hcd]
      exact tD (sG _ _ upd_same) (strs_df ss)
    have hsh : Sh (cutD (Pk.cut .bs) d) := by
      rw [hcd]
      exact sh_strs hss
    refine ⟨_, _, hcut.dp, .lst (.of hG) (hacc.dp), shaped_of hsh.1 hsh.2 (by decide), shaped_list (n := 1) (fun z hz => ?_) (by decide), ?_⟩
    · obtain ⟨z', hz', rfl⟩ := List.mem_map.mp hz
      obtain ⟨ss', r', e', hn', _, hs'⟩ := (hSt.2.1 z' hz').1
      have e2 : cutD (Pk.cut .bs) z' = .tuple (ss'.map .str) := by
        rw [e', ← hn']
        show PyData.tuple ((ss'.map PyData.str ++ r').take ss'.length) = _
        have : (ss'.map PyData.str).length = ss'.length := List.length_map _
        rw [← this, List.take_left]
      rw [e2]
      exact sh_strs hs'
    have e : ((bs.map (cutD (Pk.cut .bs))).any fun z => PyData.eqv z (cutD (Pk.cut .bs) d)) = false := by
      rw [List.any_eq_false]
      intro z hz
      obtain ⟨z', hz', rfl⟩ := List.mem_map.mp hz
      rw [(hSt.2.1 z' hz').2]
      exact Bool.false_ne_true
    rw [e]
    exact q G (s2.trans sG)
end
end My

namespace My
open PySem L2
abbrev s_wrong_index : Stmt := top 29
abbrev s_names_in : Stmt := top 30
theorem sc_wrong_index : FnScope ["part", "rows", "names", "least", "greatest", "is_item", "index", "row"] ["part", "rows", "names"] (defScope s_wrong_index) := ⟨rfl, rfl, rfl, by decide +kernel, rfl, by decide +kernel, by decide +kernel⟩
theorem sc_names_in : FnScope ["part", "rows", "row"] ["part", "rows"] (defScope s_names_in) := ⟨rfl, rfl, rfl, by decide +kernel, rfl, by decide +kernel, by decide +kernel⟩
def spIndex (N : Nm5) (k : Pk) : Sp := fun vs H Q _ => ∃ (l : Addr) (xs : List V) (ds : List PyData) (fp : List Addr) (nd : Addr), vs = [.str k.nm, .ref l, .ref nd] ∧ H l = some (.lst xs) ∧ DfL H ds xs fp ∧ k.lo ≤ ds.length ∧ ds.length ≤ k.hi ∧ (∀ d ∈ ds, ItemR N k d) ∧ (∀ (i : Nat) (d : PyData), ds[i]? = some d → Stand k (ds.take i) d) ∧ Wk N k H nd ∧ ∀ H', Same H H' → Q .non H'
theorem Wk.on {N : Nm5} {k : Pk} {H H' : Hp} {nd : Addr} (h : Wk N k H nd) (s : Same H H') : Wk N k H' nd := by
  cases k
  case ss => trivial
  case us => trivial
  case ks => trivial
  case ms => trivial
  case ws => exact W4.on h s
  case as => exact W4.on h s
  case ts => exact W4.on h s
  case is => exact ⟨W4.on h.1 s, h.2.on s⟩
  case bs => exact ⟨W4.on h.1 s, h.2.on s⟩
theorem DfL.take {H : Hp} : ∀ {ds : List PyData} {xs : List V} {fp : List Addr} (i : Nat), DfL H ds xs fp → ∃ g, DfL H (ds.take i) (xs.take i) g
  | _, _, _, 0, _ => ⟨[], rfl, rfl⟩
  | [], _, _, _ + 1, h => ⟨[], by rw [h.1]; rfl, rfl⟩
  | d :: ds, _, _, i + 1, h => by
    obtain ⟨x, r, f, g, rfl, rfl, hx, hr⟩ := h
    obtain ⟨g', h'⟩ := DfL.take i hr
    exact ⟨f ++ g', x, r.take i, f, g', rfl, rfl, hx, h'⟩
theorem Pk.hi30 (k : Pk) : k.hi ≤ 30 := by cases k <;> decide
section
variable {P : Program} {w : World} {K : PySem.W.Frag} {mg : Str → Option Value} {base : Heap} {tl : Tok} {aP aN aT aO aL aH aI : Addr} {it : Pk → Addr}
theorem ok_wrong_index {f f1 : Addr} {fd fd1 : FuncData} (N : Nm5) (D : DefT K mg "wrong_index" "wrong_index" s_wrong_index ["part", "rows", "names"] f fd) (Z : Zs mg) (T : Tb K mg tl aP aN aT aO aL aH aI) (Td' : Td K w aL aH aI it)
    (D_may_stand : DefT K mg "may_stand" "may_stand" s_may_stand ["part", "row", "before"] f1 fd1) (hI : ∀ k, Held P w K mg base 4 (it k) (spItem (ItemR N k) (Wk N k))) :
    FnOk P w K mg base CX0 5 f fd ["part", "rows", "names"] (fun vs H Q E => ∃ k, spIndex N k vs H Q E) := by
  have G_may_stand := ok_may_stand (P := P) (w := w) (base := base) D_may_stand Z T Td'
  refine D.F.ok sc_wrong_index (fun vs H Q E h => ?_) (fun cdv A outer s H vs Q E hr h => ?_)
  · obtain ⟨k, l, xs, ds, fp, nd, rfl, _⟩ := h
    rfl
  obtain ⟨k, l, xs, ds, fp, nd, rfl, hl, hD, hlo, hhi, hIt, hSt, hW, q⟩ := h
  obtain ⟨fd5, ps5, F5, hk5, hb5⟩ := (hI k).ex
  obtain ⟨tL, hL, hLs⟩ := Td'.lengths k
  have hxl := hD.len
  have h30 := k.hi30
  refine ⟨_, (pss_cons (ps_asg (pe_ix ix_kdict (pe_glob (v := .ref aL) rfl T.lengths rfl) (pv 0) (fun _ _ => rfl)) (pg_tup rfl (pgs_cons (pg_name (i := 3) sc_wrong_index.nd rfl (Or.inl rfl)) (pgs_cons (pg_name (i := 4) sc_wrong_index.nd rfl (Or.inl rfl)) pgs_nil)))) (pss_cons (ps_if (PW.pt (pw_or (pt_not (pt_val (pe_callB call_isi (by rfl) Z.isinstance (by decide +kernel) (pa_cons (pv 1) (pa_cons (pe_bltn (v := .ty "list") (by rfl) Z.list (by decide +kernel) rfl) pa_nil))))) (pw_or1 (pt_not (pt_chain op_le op_le (pv 3) (pe_callB call_len_seq (by rfl) Z.len (by decide +kernel) (pa_cons (pv 1) pa_nil)) (pv 4)))))) (pss_one (ps_ret (pe_un un_neg pe_int))) pss_nil) (pss_cons (ps_set (i := 5) sc_wrong_index.nd rfl (Or.inl rfl) (pe_ix ix_kdict (pe_glob (v := .ref aI) rfl T.items rfl) (pv 0) (fun _ _ => rfl))) (pss_cons (ps_for PassesOwn.never rfl (pi_enum (by rfl) Z.enumerate (pa_cons (pv 1) pa_nil)) (pg_tup rfl (pgs_cons (pg_name (i := 6) sc_wrong_index.nd rfl (Or.inl rfl)) (pgs_cons (pg_name (i := 7) sc_wrong_index.nd rfl (Or.inl rfl)) pgs_nil))) (pss_one (ps_if (PW.pt (pw_or (pt_not (pt_val (pe_callL (i := 5) F5 (hr.mono (by decide)) rfl (Or.inl rfl) hk5 hb5 .nil pass0 (pa_cons (pv 7) (pa_cons (pv 2) pa_nil))))) (pw_or1 (pt_not (pt_val (pe_call G_may_stand (hr.mono (by decide)) rfl D_may_stand.m D_may_stand.F.kp D_may_stand.b .nil pass0 (pa_cons (pv 0) (pa_cons (pv 7) (pa_cons (pe_slice sl_list (pv 1) po_none (po_some (pv 6))) pa_nil))))))))) (pss_one (ps_ret (pv 6))) pss_nil))) (pss_one (ps_ret pe_non)))))), ?_⟩
  refine ⟨_, rfl, aL, _, _, rfl, rfl, hL, tL, _, rfl, hLs.t _, rfl, _, _, rfl, _, _, rfl, rfl, ?_⟩
  have ty : TyX K H (.ref l) (.type "list") := .base (.lst hl)
  refine ⟨_, rfl, _, _, _, _, _, rfl, .ty _, ty, kit_ty (r := true) (by decide +kernel), _, rfl, iteF ?_⟩
  refine ⟨_, rfl, _, rfl, l, _, rfl, .inl (.of hl), _, _, rfl, rfl, _, rfl, ifT (decide_eq_true (by omega)) ⟨_, rfl, _, _, rfl, rfl, _, rfl, ?_⟩⟩
  rw [decide_eq_true (show ((xs.length : Nat) : Int) ≤ (k.hi : Nat) by omega)]
  refine iteF ?_
  refine ⟨_, rfl, aI, _, _, rfl, rfl, Td'.items k, ?_⟩
  refine ⟨_, rfl, l, xs, rfl, .of hl, for_it (walk_enum (K := K) (a := l) (xs := xs)) (fun i σ G => ∃ v6 v7 : Option V, σ = [some (.str k.nm), some (.ref l), some (.ref nd), some (.int (k.lo : Nat)), some (.int (k.hi : Nat)), some (.ref (it k)), v6, v7] ∧ Same H G) ⟨_, _, rfl, Same.refl H⟩ (fun _ _ G _ ⟨_, _, _, sG⟩ => .of (sG _ _ hl)) ?_ ?_⟩
  · rintro i x σ G H' hi ⟨v6, v7, rfl, sG⟩ ⟨T0, x0, x1, rfl, hT, rfl, e0, e1⟩
    cases e0
    have sT := sG.trans (same_upd (o := .tup [.int (i : Int), x1]) hT)
    obtain ⟨d, f', hd, hDx, _⟩ := hD.at e1
    refine ⟨T0, _, rfl, .of upd_same, rfl, _, _, rfl, _, _, rfl, rfl, ?_⟩
    refine ⟨rfl, _, rfl, _, rfl, x1, d, f', nd, rfl, hDx.same sT, hIt d (List.mem_of_getElem? hd), hW.on sT, fun H2 s2 => ⟨_, rfl, iteF ?_⟩⟩
    have s12 := sT.trans s2
    refine ⟨_, rfl, _, rfl, _, rfl, _, rfl, _, rfl, l, _, rfl, .of (s12 _ _ hl), fun lc hlc => ?_⟩
    rw [cutTo _ i (by omega)]
    have sC := s12.trans (same_upd (o := .lst (xs.take i)) hlc)
    obtain ⟨gp, hTk⟩ := hD.take i
    refine ⟨k, x1, d, f', gp, lc, _, ds.take i, rfl, hDx.same sC, upd_same, hTk.same sC, by rw [List.length_take]; omega, hSt i d hd, fun H3 s3 => ⟨_, rfl, iteF ?_⟩⟩
    exact ⟨_, _, rfl, sC.trans s3⟩
  · rintro σ G ⟨_, _, rfl, sG⟩
    exact q G sG
/-- the names that a part's items have -/
def HasNm (k : Pk) (ds : List PyData) (nms : List Str) : Prop := match k with
  | .ms => ds = nms.map .str
  | .ws => nms = []
  | .as => nms = []
  | .is => nms = []
  | .bs => nms = []
  | _ => nms.length = ds.length ∧ ∀ (i : Nat) (d : PyData), ds[i]? = some d → ∃ s r, nms[i]? = some s ∧ d = .tuple (.str s :: r)
def Pk.nmd : Pk → Bool
  | .ss => true
  | .us => true
  | .ks => true
  | .ts => true
  | _ => false
def spNamesIn : Sp := fun vs H Q _ => ∃ (k : Pk) (l : Addr) (xs : List V) (ds : List PyData) (fp : List Addr) (nms : List Str), vs = [.str k.nm, .ref l] ∧ H l = some (.lst xs) ∧ DfL H ds xs fp ∧ ds.length ≤ 30 ∧ HasNm k ds nms ∧ ∀ l' H', Same H H' → H' l' = some (.lst (nms.map .str)) → H l' = none → Q (.ref l') H'
theorem nm_named {k : Pk} (h : k.nmd = true) : k.nm ∈ pNamed := by
  cases k <;> first | (revert h; decide) | (show _ ∈ pNamed; decide +kernel)
theorem nm_not {k : Pk} (h : k.nmd = false) : k.nm ∉ pNamed := by
  cases k <;> first | (revert h; decide) | (show _ ∉ pNamed; decide +kernel)
theorem ok_names_in {f : Addr} {fd : FuncData} (D : DefT K mg "names_in" "names_in" s_names_in ["part", "rows"] f fd) (Z : Zs mg) (T : Tb K mg tl aP aN aT aO aL aH aI) :
    FnOk P w K mg base CX0 1 f fd ["part", "rows"] spNamesIn := by
  refine D.F.ok sc_names_in (fun vs H Q E h => ?_) (fun cdv A outer s H vs Q E hr h => ?_)
  · obtain ⟨k, l, xs, ds, fp, nms, rfl, _⟩ := h
    rfl
  obtain ⟨k, l, xs, ds, fp, nms, rfl, hl, hD, h30, hN, q⟩ := h
  have hxl := hD.len
  refine ⟨_, (pss_cons (ps_if (pt_cmpR op_eq (pv 0) pe_str (nomark _)) (pss_one (ps_ret (pe_callTy call_list_of (by rfl) Z.list (by decide +kernel) (pa_cons (pv 1) pa_nil)))) pss_nil) (pss_one (ps_ret (pe_ifExp (pt_cmpR op_in_seq (pv 0) (pe_glob (v := .ref aN) rfl T.named rfl) (by rfl)) (pe_lc (own := [("row", 2)]) (g := gName 2) rfl sc_names_in.nd  (pi_list (pv 1)) (blkOk_by (own := [("row", 2)]) (N := ["part", "rows", "row"]) (sc := defScope s_names_in) (by decide +kernel)) (fun _ _ _ _ _ => pg_name (i := 2) sc_names_in.nd rfl (Or.inl rfl)) (fun _ _ _ _ _ => pts_nil) (fun _ _ _ _ _ => (pe_ix (ix_tupK (K := K) rfl) (pv 2) pe_int (fun _ _ => rfl)))) (pe_lst pa_nil))))), ?_⟩
  by_cases em : k = .ms
  · subst em
    have e1 : xs = nms.map V.str := strs_v (by
      have e2 : ds = nms.map PyData.str := hN
      rw [← e2]
      exact hD)
    subst e1
    refine ⟨_, rfl, rfl, _, rfl, ifT (by decide +kernel) ?_⟩
    refine ⟨_, rfl, l, _, rfl, .inl (.of hl), fun l2 h2 => ?_⟩
    exact q l2 _ (same_upd h2) upd_same h2
  have e0 : decide (V.str k.nm = V.str "marks") = false := by
    cases k <;> first | exact absurd rfl em | decide +kernel
  refine ⟨_, rfl, rfl, _, rfl, ifF e0 ?_⟩
  refine ⟨_, rfl, aN, _, rfl, .inr (T.named_.t _), rfl, flat_strs _, _, rfl, ?_⟩
  show if inV (V.str k.nm) (pNamed.map V.str) = true then _ else _
  cases hb : k.nmd with
  | false =>
    have e2 : inV (V.str k.nm) (pNamed.map V.str) = false := by
      rw [in_strs]
      exact decide_eq_false (nm_not hb)
    have e3 : nms = [] := by
      cases k <;> first | exact absurd rfl em | exact hN | (cases hb; done)
    subst e3
    refine ifF e2 ⟨sz 0, fun l2 h2 => ?_⟩
    exact q l2 _ (same_upd h2) upd_same h2
  | true =>
    have hN2 : nms.length = ds.length ∧ ∀ (i : Nat) (d : PyData), ds[i]? = some d → ∃ s r, nms[i]? = some s ∧ d = .tuple (.str s :: r) := by
      cases k <;> first | exact hN | (cases hb; done)
    obtain ⟨hnl, hN3⟩ := hN2
    refine ifT (in_true (nm_named hb)) ?_
    refine ⟨_, rfl, l, rfl, ⟨_, .of hl⟩, fun dl hdl => ?_⟩
    refine lc_it (walk_list (K := K) (a := l) (xs := xs)) (fun i G => G dl = some (.lst ((nms.take i).map V.str)) ∧ Same H G) ⟨upd_same, same_upd hdl⟩ (fun _ G _ ⟨_, sG⟩ => .of (sG _ _ hl)) ?_ ?_
    · rintro i x G H' hi ⟨hG, sG⟩ ⟨rfl, hx⟩
      obtain ⟨d, f', hd, hDx, _⟩ := hD.at hx
      obtain ⟨z, r, hz, rfl⟩ := hN3 i d hd
      obtain ⟨t, ys, rfl, ht, hDl⟩ := hDx
      obtain ⟨x0, r0, g0, g1, rfl, _, ⟨rfl, _⟩, _⟩ := hDl
      refine ⟨rfl, _, rfl, t, _, _, _, rfl, rfl, .of (sG _ _ ht), atI_nat (j := 0) rfl, _, hG, ?_, ?_, Same.put sG hdl⟩
      · rw [List.length_map, List.length_take]
        exact lt1000 (by omega)
      · have et : nms.take (i + 1) = nms.take i ++ [z] := by
          rw [List.take_succ, hz]
          rfl
        rw [et, List.map_append]
        exact upd_same
    rintro G ⟨hG, sG⟩
    rw [hxl, ← hnl, List.take_length] at hG
    exact q dl G sG hG hdl
end
end My

namespace My
open PySem L2
abbrev s_wrong_part : Stmt := top 31
theorem sc_wrong_part : FnScope ["parts", "names", "part", "rows", "index"] ["parts"] (defScope s_wrong_part) := ⟨rfl, rfl, rfl, by decide +kernel, rfl, by decide +kernel, by decide +kernel⟩
def allPk : List Pk := [.ss, .us, .ks, .ms, .ws, .as, .ts, .is, .bs]
def RB.ds (b : RB) : Pk → List PyData
  | .ss => b.ss
  | .us => b.us
  | .ks => b.ks
  | .ms => b.N.ma.map .str
  | .ws => b.ws
  | .as => b.as
  | .ts => b.ts
  | .is => b.is
  | .bs => b.bs
def RB.nms (b : RB) : Pk → List Str
  | .ss => b.N.st
  | .us => b.N.up
  | .ks => b.N.dn
  | .ms => b.N.ma
  | .ts => b.N.tk
  | _ => []
theorem nd_ne {L : List Str} (h : L.Nodup) {i j : Nat} {s t : Str} (hj : j < i) (e1 : L[j]? = some t) (e2 : L[i]? = some s) : t ≠ s := fun e => by
  obtain ⟨h1, e1⟩ := List.getElem?_eq_some_iff.mp e1
  obtain ⟨h2, e2⟩ := List.getElem?_eq_some_iff.mp e2
  exact List.pairwise_iff_getElem.mp h j i h1 h2 hj (by rw [e1, e2, e])
theorem take_at {α : Type} {L : List α} {i : Nat} {z : α} (h : z ∈ L.take i) : ∃ j, j < i ∧ L[j]? = some z := by
  obtain ⟨j, hj, e⟩ := List.mem_iff_getElem.mp h
  rw [List.length_take] at hj
  refine ⟨j, by omega, ?_⟩
  rw [← e, List.getElem_take]
  exact List.getElem?_eq_getElem (by omega)
theorem stand1 {L : List Str} {ds : List PyData} (hn : L.Nodup) (hm : ∀ s ∈ L, Nm s) (h : ∀ (i : Nat) (d : PyData), ds[i]? = some d → ∃ s r, L[i]? = some s ∧ d = .tuple (.str s :: r) ∧ r ≠ []) {i : Nat} {d : PyData} (e : ds[i]? = some d) :
    Cut 1 d ∧ ∀ z ∈ ds.take i, Cut 1 z ∧ PyData.eqv (cutD 1 z) (cutD 1 d) = false := by
  obtain ⟨s, r, es, rfl, hr⟩ := h i d e
  refine ⟨⟨[s], r, rfl, rfl, hr, fun x hx => ?_⟩, fun z hz => ?_⟩
  · rw [List.mem_singleton.mp hx]
    exact hm s (List.mem_of_getElem? es)
  obtain ⟨j, hj, ej⟩ := take_at hz
  obtain ⟨t, r', et, rfl, hr'⟩ := h j z ej
  refine ⟨⟨[t], r', rfl, rfl, hr', fun x hx => ?_⟩, ?_⟩
  · rw [List.mem_singleton.mp hx]
    exact hm t (List.mem_of_getElem? et)
  have ne := nd_ne hn hj et es
  show PyData.eqv (.tuple [.str t]) (.tuple [.str s]) = false
  simp [PyData.eqv, PyData.eqvAll, ne]
theorem standH {n : Nat} {ds : List PyData} (hA : Apart (ds.map (cutD n))) (h : ∀ d ∈ ds, Cut n d) {i : Nat} {d : PyData} (e : ds[i]? = some d) :
    Cut n d ∧ ∀ z ∈ ds.take i, Cut n z ∧ PyData.eqv (cutD n z) (cutD n d) = false := by
  refine ⟨h d (List.mem_of_getElem? e), fun z hz => ?_⟩
  obtain ⟨j, hj, ej⟩ := take_at hz
  refine ⟨h z (List.mem_of_getElem? ej), ?_⟩
  obtain ⟨h1, e1⟩ := List.getElem?_eq_some_iff.mp ej
  obtain ⟨h2, e2⟩ := List.getElem?_eq_some_iff.mp e
  have := List.pairwise_iff_getElem.mp hA j i (by rw [List.length_map]; exact h1) (by rw [List.length_map]; exact h2) hj
  rw [List.getElem_map, List.getElem_map, e1, e2] at this
  exact this
theorem RB.Ok.fact {b : RB} (ok : b.Ok) (k : Pk) : k.lo ≤ (b.ds k).length ∧ (b.ds k).length ≤ k.hi ∧ (∀ d ∈ b.ds k, ItemR b.N k d) ∧ (∀ (i : Nat) (d : PyData), (b.ds k)[i]? = some d → Stand k ((b.ds k).take i) d) ∧ HasNm k (b.ds k) (b.nms k) := by
  have n := ok.n
  cases k
  case ss =>
    have hl := ok.ss.1
    have h2 := n.st2
    have h7 := n.st7
    refine ⟨show 2 ≤ b.ss.length by omega, show b.ss.length ≤ 7 by omega, fun d hd => ?_, fun i d e => ?_, hl.symm, fun i d e => ?_⟩
    · obtain ⟨i, hi, e⟩ := List.mem_iff_getElem.mp hd
      obtain ⟨s, t, es, rfl, ht, _⟩ := ok.ss.2 i d (by rw [← e]; exact List.getElem?_eq_getElem hi)
      exact ⟨s, t, rfl, n.stn.2 s (List.mem_of_getElem? es), ht⟩
    · have h := stand1 (ds := b.ss) n.stn.1 n.stn.2 (fun i d e => by
        obtain ⟨s, t, es, rfl, ht, _⟩ := ok.ss.2 i d e
        exact ⟨s, _, es, rfl, by simp⟩) e
      refine ⟨h.1, h.2, fun _ => ⟨fun en => ?_, fun z hz => ?_⟩⟩
      · obtain ⟨s, t, es, rfl, ht, h0⟩ := ok.ss.2 i d e
        have ei : i = 0 := by
          have en2 : (b.ss.take i).length = 0 := by
            have en3 : b.ss.take i = [] := en
            rw [en3]
            rfl
          rw [List.length_take] at en2
          have := (List.getElem?_eq_some_iff.mp e).1
          omega
        rw [h0 ei]
        exact ⟨s, rfl⟩
      · obtain ⟨j, hj, ej⟩ := take_at hz
        obtain ⟨s, t, es, rfl, ht, h0⟩ := ok.ss.2 j z ej
        refine sh_tup fun x hx => ?_
        rcases List.mem_cons.mp hx with rfl | hx
        · exact ⟨strOk_nm (n.stn.2 s (List.mem_of_getElem? es)), Nat.le_refl _⟩
        · rw [List.mem_singleton.mp hx]
          refine ⟨?_, Nat.le_refl _⟩
          have : ∀ t ∈ traits, PyData.strOk t = true := by decide +kernel
          exact this t ht
    · obtain ⟨s, t, es, rfl, _⟩ := ok.ss.2 i d e
      exact ⟨s, _, es, rfl⟩
  case us =>
    have hl := ok.us.1
    have h2 := n.up1
    have h7 := n.up5
    refine ⟨show 1 ≤ b.us.length by omega, show b.us.length ≤ 5 by omega, fun d hd => ?_, fun i d e => ?_, hl.symm, fun i d e => ?_⟩
    · obtain ⟨i, hi, e⟩ := List.mem_iff_getElem.mp hd
      obtain ⟨s, t, es, rfl⟩ := ok.us.2 i d (by rw [← e]; exact List.getElem?_eq_getElem hi)
      exact ⟨s, t, rfl, n.upn.2 s (List.mem_of_getElem? es)⟩
    · have h := stand1 (ds := b.us) n.upn.1 n.upn.2 (fun i d e => by
        obtain ⟨s, t, es, rfl⟩ := ok.us.2 i d e
        exact ⟨s, _, es, rfl, by simp⟩) e
      exact ⟨h.1, h.2, nofun⟩
    · obtain ⟨s, t, es, rfl⟩ := ok.us.2 i d e
      exact ⟨s, _, es, rfl⟩
  case ks =>
    have hl := ok.ks.1
    have h2 := n.dn1
    have h7 := n.dn5
    refine ⟨show 1 ≤ b.ks.length by omega, show b.ks.length ≤ 5 by omega, fun d hd => ?_, fun i d e => ?_, hl.symm, fun i d e => ?_⟩
    · obtain ⟨i, hi, e⟩ := List.mem_iff_getElem.mp hd
      obtain ⟨s, t, es, rfl⟩ := ok.ks.2 i d (by rw [← e]; exact List.getElem?_eq_getElem hi)
      exact ⟨s, t, rfl, n.dnn.2 s (List.mem_of_getElem? es)⟩
    · have h := stand1 (ds := b.ks) n.dnn.1 n.dnn.2 (fun i d e => by
        obtain ⟨s, t, es, rfl⟩ := ok.ks.2 i d e
        exact ⟨s, _, es, rfl, by simp⟩) e
      exact ⟨h.1, h.2, nofun⟩
    · obtain ⟨s, t, es, rfl⟩ := ok.ks.2 i d e
      exact ⟨s, _, es, rfl⟩
  case ms =>
    have h2 := n.mk1
    have h7 := n.mk6
    have hl : (b.ds .ms).length = b.N.ma.length := List.length_map _
    refine ⟨show 1 ≤ (b.ds .ms).length by omega, show (b.ds .ms).length ≤ 6 by omega, fun d hd => ?_, fun i d e => ?_, rfl⟩
    · obtain ⟨s, hs, rfl⟩ := List.mem_map.mp hd
      exact ⟨s, rfl, n.mkn.2 s hs⟩
    · have at_ : ∀ {j : Nat} {z : PyData}, (b.ds .ms)[j]? = some z → ∃ t, b.N.ma[j]? = some t ∧ z = .str t := by
        intro j z e
        have e' : (b.N.ma.map PyData.str)[j]? = some z := e
        rw [List.getElem?_map] at e'
        cases hq : b.N.ma[j]? with
        | none =>
          rw [hq] at e'
          cases e'
        | some t =>
          rw [hq] at e'
          exact ⟨t, rfl, (Option.some.inj e').symm⟩
      obtain ⟨s, es, rfl⟩ := at_ e
      refine ⟨s, rfl, n.mkn.2 s (List.mem_of_getElem? es), fun z hz => ?_⟩
      obtain ⟨j, hj, ej⟩ := take_at hz
      obtain ⟨t, et, rfl⟩ := at_ ej
      exact ⟨t, rfl, n.mkn.2 t (List.mem_of_getElem? et), nd_ne n.mkn.1 hj et es⟩
  case ws => exact ⟨Nat.zero_le _, ok.ws.1, ok.ws.2, fun _ _ _ => trivial, rfl⟩
  case as =>
    refine ⟨Nat.zero_le _, ok.as.1, ok.as.2.1, fun i d e => ?_, rfl⟩
    have h := standH (n := 2) ok.as.2.2 (fun d hd => by
      obtain ⟨a, k, c, u, rfl, h1, h2, _⟩ := ok.as.2.1 d hd
      refine ⟨[a, k], _, rfl, rfl, by simp, fun x hx => ?_⟩
      rcases List.mem_cons.mp hx with rfl | hx
      · exact n.stn.2 _ h1
      · rw [List.mem_singleton.mp hx]
        exact n.dnn.2 _ h2) e
    exact ⟨h.1, h.2, nofun⟩
  case ts =>
    have hl := ok.ts.1
    have h2 := n.tk1
    have h7 := n.tk3
    refine ⟨show 1 ≤ b.ts.length by omega, show b.ts.length ≤ 3 by omega, fun d hd => ?_, fun i d e => ?_, hl.symm, fun i d e => ?_⟩
    · obtain ⟨i, hi, e⟩ := List.mem_iff_getElem.mp hd
      obtain ⟨s, es, ht⟩ := ok.ts.2 i d (by rw [← e]; exact List.getElem?_eq_getElem hi)
      exact ⟨s, n.tkn.2 s (List.mem_of_getElem? es), ht⟩
    · have h := stand1 (ds := b.ts) n.tkn.1 n.tkn.2 (fun i d e => by
        obtain ⟨s, es, cs, qs, es', m, k, o, rfl, _⟩ := ok.ts.2 i d e
        exact ⟨s, _, es, rfl, by simp⟩) e
      exact ⟨h.1, h.2, nofun⟩
    · obtain ⟨s, es, cs, qs, es', m, k, o, rfl, _⟩ := ok.ts.2 i d e
      exact ⟨s, _, es, rfl⟩
  case is =>
    refine ⟨Nat.zero_le _, ok.is.1, ok.is.2.1, fun i d e => ?_, rfl⟩
    have h := standH (n := 2) ok.is.2.2 (fun d hd => by
      have two : ∀ {m u : Str} {r : List PyData}, m ∈ b.N.ma → u ∈ b.N.up → r ≠ [] → Cut 2 (.tuple (.str m :: .str u :: r)) := fun {m u r} h1 h2 hr => ⟨[m, u], r, rfl, rfl, hr, fun x hx => by
        rcases List.mem_cons.mp hx with rfl | hx
        · exact n.mkn.2 _ h1
        · rw [List.mem_singleton.mp hx]
          exact n.upn.2 _ h2⟩
      rcases ok.is.2.1 d hd with ⟨m, u, t, rfl, h1, h2, _⟩ | ⟨m, u, c, k, f, rfl, h1, h2, _⟩
      · exact two h1 h2 (by simp)
      · exact two h1 h2 (by simp)) e
    exact ⟨h.1, h.2, nofun⟩
  case bs =>
    refine ⟨Nat.zero_le _, ok.bs.1, ok.bs.2.1, fun i d e => ?_, rfl⟩
    have h := standH (n := 3) ok.bs.2.2 (fun d hd => by
      obtain ⟨t, m, u, c, k, f, rfl, h0, h1, h2, _⟩ := ok.bs.2.1 d hd
      refine ⟨[t, m, u], _, rfl, rfl, by simp, fun x hx => ?_⟩
      rcases List.mem_cons.mp hx with rfl | hx
      · exact n.tkn.2 _ h0
      rcases List.mem_cons.mp hx with rfl | hx
      · exact n.mkn.2 _ h1
      · rw [List.mem_singleton.mp hx]
        exact n.upn.2 _ h2) e
    exact ⟨h.1, h.2, nofun⟩
theorem pParts_eq : pParts = allPk.map Pk.nm := by decide +kernel
theorem RB.parts_eq (b : RB) : b.parts = allPk.map fun k => .list (b.ds k) := rfl
theorem nm_inj : ∀ {i j : Nat} {k k' : Pk}, allPk[i]? = some k → allPk[j]? = some k' → i ≠ j → k'.nm ≠ k.nm := by
  have h : (allPk.map Pk.nm).Nodup := by decide +kernel
  intro i j k k' e1 e2 ne e
  have f1 : (allPk.map Pk.nm)[i]? = some k.nm := by rw [List.getElem?_map, e1]; rfl
  have f2 : (allPk.map Pk.nm)[j]? = some k'.nm := by rw [List.getElem?_map, e2]; rfl
  rcases Nat.lt_or_gt_of_ne ne with hh | hh
  · exact nd_ne h hh f1 f2 e.symm
  · exact nd_ne h hh f2 f1 e
theorem putK_len {κ : Type} [DecidableEq κ] {kvs : List (κ × V)} {k : κ} {v : V} : (putK kvs k v).length ≤ kvs.length + 1 := by
  unfold putK
  split
  · rw [List.length_map]
    omega
  · rw [List.length_append]
    exact Nat.le_refl _
/-- the names of the parts before i stand in the dict -/
def Told (b : RB) (i : Nat) (kvs : List (Key × V)) (G : Hp) : Prop := ∀ (j : Nat) (k : Pk), j < i → allPk[j]? = some k → ∃ l, valV kvs (Sum.inr k.nm) = some (.ref l) ∧ G l = some (.lst ((b.nms k).map V.str))
theorem Told.wk {b : RB} {i : Nat} {kvs : List (Key × V)} {G : Hp} {nd : Addr} {k : Pk} (h : Told b i kvs G) (e : G nd = some (.dK kvs)) (hk : allPk[i]? = some k) : Wk b.N k G nd := by
  have dn : ∀ (j : Nat) (k : Pk), j < i → allPk[j]? = some k → DN G nd k.nm (b.nms k) := fun j k hj hk => by
    obtain ⟨l, h1, h2⟩ := h j k hj hk
    exact ⟨kvs, l, e, h1, h2⟩
  have w4 : 4 ≤ i → W4 b.N G nd := fun hi => ⟨dn 0 .ss (by omega) rfl, dn 1 .us (by omega) rfl, dn 2 .ks (by omega) rfl, dn 3 .ms (by omega) rfl⟩
  have w5 : 7 ≤ i → W5 b.N G nd := fun hi => ⟨w4 (by omega), dn 6 .ts (by omega) rfl⟩
  have hi : i < 9 := (List.getElem?_eq_some_iff.mp hk).1
  have at_ : ∀ (j : Nat) (q : Pk), allPk[j]? = some q → i = j → q = k := fun j q hq e => by
    rw [e, hq] at hk
    exact Option.some.inj hk
  match i, hi with
  | 0, _ => cases hk; trivial
  | 1, _ => cases hk; trivial
  | 2, _ => cases hk; trivial
  | 3, _ => cases hk; trivial
  | 4, _ => cases hk; exact w4 (by decide)
  | 5, _ => cases hk; exact w4 (by decide)
  | 6, _ => cases hk; exact w4 (by decide)
  | 7, _ => cases hk; exact w5 (by decide)
  | 8, _ => cases hk; exact w5 (by decide)
def spPart : Sp := fun vs H Q _ => ∃ (v : V) (b : RB) (fp : List Addr), vs = [v] ∧ Df H (.tuple b.parts) v fp ∧ b.Ok ∧ ∀ H', Same H H' → Q .non H'
section
variable {P : Program} {w : World} {K : PySem.W.Frag} {mg : Str → Option Value} {base : Heap} {tl : Tok} {aP aN aT aO aL aH aI : Addr} {it : Pk → Addr}
theorem ok_wrong_part {f f1 f2 f3 : Addr} {fd fd1 fd2 fd3 : FuncData} (D : DefT K mg "wrong_part" "wrong_part" s_wrong_part ["parts"] f fd) (Z : Zs mg) (T : Tb K mg tl aP aN aT aO aL aH aI) (Td' : Td K w aL aH aI it)
    (D_may_stand : DefT K mg "may_stand" "may_stand" s_may_stand ["part", "row", "before"] f1 fd1) (D_wrong_index : DefT K mg "wrong_index" "wrong_index" s_wrong_index ["part", "rows", "names"] f2 fd2) (D_names_in : DefT K mg "names_in" "names_in" s_names_in ["part", "rows"] f3 fd3)
    (hI : ∀ N, NOk N → ∀ k, Held P w K mg base 4 (it k) (spItem (ItemR N k) (Wk N k))) :
    FnOk P w K mg base CX0 6 f fd ["parts"] spPart := by
  have G_names_in := ok_names_in (P := P) (w := w) (base := base) D_names_in Z T
  refine D.F.ok sc_wrong_part (fun vs H Q E h => ?_) (fun cdv A outer s H vs Q E hr h => ?_)
  · obtain ⟨v, b, fp, rfl, _⟩ := h
    rfl
  obtain ⟨v, b, fp, rfl, hD, ok, q⟩ := h
  have G_wrong_index := ok_wrong_index (P := P) (w := w) (base := base) b.N D_wrong_index Z T Td' D_may_stand (hI b.N ok.n)
  obtain ⟨tp, ps, rfl, ht, hDl⟩ := hD
  have hpl := hDl.len
  refine ⟨_, (pss_cons (ps_set (i := 1) sc_wrong_part.nd rfl (Or.inl rfl) (pe_dnewK)) (pss_cons (ps_for PassesOwn.never rfl (RZ.pi_zipA (by rfl) Z.zip (pa_cons (pe_glob (v := .ref aP) rfl T.parts rfl) (pa_cons (pv 0) pa_nil))) (pg_tup rfl (pgs_cons (pg_name (i := 2) sc_wrong_part.nd rfl (Or.inl rfl)) (pgs_cons (pg_name (i := 3) sc_wrong_part.nd rfl (Or.inl rfl)) pgs_nil))) (pss_cons (ps_set (i := 4) sc_wrong_part.nd rfl (Or.inl rfl) (pe_call G_wrong_index (hr.mono (by decide)) rfl D_wrong_index.m D_wrong_index.F.kp D_wrong_index.b .nil pass0 (pa_cons (pv 2) (pa_cons (pv 3) (pa_cons (pv 1) pa_nil))))) (pss_cons (ps_if (pt_cmpR op_notN (pv 4) pe_non (nomark _)) (pss_one (ps_ret (pe_tup (pa_cons (pv 2) (pa_cons (pv 4) pa_nil))))) pss_nil) (pss_one (ps_asg (pe_call G_names_in (hr.mono (by decide)) rfl D_names_in.m D_names_in.F.kp D_names_in.b .nil pass0 (pa_cons (pv 2) (pa_cons (pv 3) pa_nil))) (pg_sub (pv 1) (pv 2) (set_dict (hu_of hr)))))))) (pss_one (ps_ret pe_non)))), ?_⟩
  refine fun nd hnd => ?_
  have s0 := same_upd (o := .dK []) hnd
  refine ⟨_, rfl, aP, tp, pParts.map V.str, ps, rfl, .inr ⟨T.parts_.t _, .of (s0 _ _ ht), ?_⟩⟩
  refine RZ.for_zipT (by rw [hpl]; rfl) (fun i σ G => ∃ (v2 v3 v4 : Option V) (kvs : List (Key × V)), σ = [some (.ref tp), some (.ref nd), v2, v3, v4] ∧ Same H G ∧ G nd = some (.dK kvs) ∧ kvs.length ≤ i ∧ Told b i kvs G)
    ⟨_, _, _, [], rfl, s0, upd_same, Nat.le_refl _, fun _ _ h _ => absurd h (Nat.not_lt_zero _)⟩ (fun i σ G ⟨_, _, _, _, _, sG, _⟩ => ⟨T.parts_.t _, .of (sG _ _ ht)⟩) ?_ ?_
  · rintro i x y T0 σ G hx hy ⟨v2, v3, v4, kvs, rfl, sG, hnG, hlen, hTo⟩ hT
    obtain ⟨d, f', hd, hDx, _⟩ := hDl.at hy
    rw [pParts_eq] at hx
    obtain ⟨z, rfl, hz⟩ := str_at hx
    rw [List.getElem?_map] at hz
    obtain ⟨k, hk, rfl⟩ := Option.map_eq_some_iff.mp hz
    rw [RB.parts_eq, List.getElem?_map, hk] at hd
    obtain rfl := Option.some.inj hd
    obtain ⟨l, xs, gp, rfl, rfl, hl, hDk⟩ := hDx
    obtain ⟨flo, fhi, fit, fst, fnm⟩ := ok.fact k
    have i9 : i < 9 := (List.getElem?_eq_some_iff.mp hk).1
    have sT := sG.trans (same_upd (o := .tup [.str k.nm, .ref l]) hT)
    have sGT := same_upd (H := G) (o := .tup [.str k.nm, .ref l]) hT
    have hTT : Told b i kvs (upd G T0 (.tup [.str k.nm, .ref l])) := fun j q hj hq => by
      obtain ⟨l0, h1, h2⟩ := hTo j q hj hq
      exact ⟨l0, h1, sGT _ _ h2⟩
    refine ⟨T0, _, rfl, .of upd_same, rfl, _, _, rfl, _, _, rfl, rfl, ?_⟩
    refine ⟨_, rfl, _, rfl, _, rfl, k, l, xs, b.ds k, gp, nd, rfl, sT _ _ hl, hDk.same sT, flo, fhi, fit, fst, hTT.wk (sGT _ _ hnG) hk, fun H2 s2 => ?_⟩
    refine ⟨_, rfl, rfl, _, rfl, ifF (by decide +kernel) ?_⟩
    have sT2 := sT.trans s2
    have sG2 := sGT.trans s2
    refine ⟨_, rfl, _, rfl, k, l, xs, b.ds k, gp, b.nms k, rfl, sT2 _ _ hl, hDk.same sT2, Nat.le_trans fhi k.hi30, fnm, fun l' G3 s3 e3 n3 => ?_⟩
    have sG3 := sG2.trans s3
    refine ⟨_, rfl, _, rfl, nd, _, rfl, DPut.k (k := Sum.inr k.nm) (sG3 _ _ hnG) (lt1000 (by omega)), ?_⟩
    refine ⟨_, _, _, _, rfl, Same.put (sT2.trans s3) hnd, upd_same, Nat.le_trans putK_len (by omega), fun j q hj hq => ?_⟩
    by_cases ej : j = i
    · subst ej
      rw [hk] at hq
      cases hq
      refine ⟨l', by rw [valV_put, if_pos rfl], ?_⟩
      rw [upd_ne (ne_of e3 (sG3 _ _ hnG) (by intro z; cases z))]
      exact e3
    · obtain ⟨l0, h1, h2⟩ := hTo j q (by omega) hq
      have h3 := sG3 _ _ h2
      refine ⟨l0, ?_, ?_⟩
      · rw [valV_put, if_neg (fun z => nm_inj hk hq (fun w => ej w.symm) (Sum.inr.inj z))]
        exact h1
      · rw [upd_ne (ne_of h3 (sG3 _ _ hnG) (by intro z; cases z))]
        exact h3
  · rintro σ G ⟨v2, v3, v4, kvs, rfl, sG, _⟩
    exact q G sG
end
end My

namespace My
open PySem L2
abbrev s_copied_tasks : Stmt := top 32
theorem sc_copied_tasks : FnScope ["tasks", "name", "calls", "quiet", "ends", "mark", "down", "owner"] ["tasks"] (defScope s_copied_tasks) := ⟨rfl, rfl, rfl, by decide +kernel, rfl, by decide +kernel, by decide +kernel⟩
theorem call_list_ofK {X : Cx} {K : PySem.W.Frag} (h : X.K = K) : CallR X (.type "list") (fun xs H Q => ∃ p ys, xs = [.ref p] ∧ (SqL K H p ys ∨ SqT K H p ys) ∧ ∀ l, H l = none → Q (.ref l) (upd H l (.lst ys))) := by
  subst h
  exact call_list_of
theorem wipe_get {σ : St} {j : Nat} : ∀ {vs : List Nat}, (wipe σ vs)[j]? = if j ∈ vs then (if j < σ.length then some none else none) else σ[j]?
  | [] => by
    rw [if_neg (by simp)]
    rfl
  | v :: vs => by
    show ((wipe σ vs).set v none)[j]? = _
    rw [List.getElem?_set, wipe_length]
    by_cases e : v = j
    · subst e
      rw [if_pos rfl, if_pos (List.mem_cons_self)]
    · rw [if_neg e, wipe_get]
      by_cases m : j ∈ vs
      · rw [if_pos m, if_pos (List.mem_cons_of_mem _ m)]
      · rw [if_neg m, if_neg (fun h => by
          rcases List.mem_cons.mp h with h | h
          · exact e h.symm
          · exact m h)]
theorem wipe_set {σ : St} {i : Nat} {x : Option V} {vs : List Nat} (h : i ∈ vs) : wipe (σ.set i x) vs = wipe σ vs := by
  refine List.ext_getElem? fun j => ?_
  rw [wipe_get, wipe_get, List.length_set]
  by_cases m : j ∈ vs
  · rw [if_pos m, if_pos m]
  · rw [if_neg m, if_neg m, List.getElem?_set_ne (fun e => m (by rw [← e]; exact h))]
theorem wipe_wipe {σ : St} {vs : List Nat} : wipe (wipe σ vs) vs = wipe σ vs := by
  refine List.ext_getElem? fun j => ?_
  rw [wipe_get, wipe_get, wipe_length]
  by_cases m : j ∈ vs
  · rw [if_pos m, if_pos m]
  · rw [if_neg m, if_neg m]
theorem wipe7 {σ : St} {x1 x2 x3 x4 x5 x6 x7 : Option V} {vs : List Nat} (h : vs = [1, 2, 3, 4, 5, 6, 7]) : wipe (((((((wipe σ vs).set 1 x1).set 2 x2).set 3 x3).set 4 x4).set 5 x5).set 6 x6 |>.set 7 x7) vs = wipe σ vs := by
  subst h
  rw [wipe_set (by decide), wipe_set (by decide), wipe_set (by decide), wipe_set (by decide), wipe_set (by decide), wipe_set (by decide), wipe_set (by decide), wipe_wipe]
theorem look7 {w : St} {x1 x2 x3 x4 x5 x6 x7 : Option V} (h : w.length = 8) : (((((((w.set 1 x1).set 2 x2).set 3 x3).set 4 x4).set 5 x5).set 6 x6).set 7 x7)[1]? = some x1 ∧ (((((((w.set 1 x1).set 2 x2).set 3 x3).set 4 x4).set 5 x5).set 6 x6).set 7 x7)[2]? = some x2 ∧
    (((((((w.set 1 x1).set 2 x2).set 3 x3).set 4 x4).set 5 x5).set 6 x6).set 7 x7)[3]? = some x3 ∧ (((((((w.set 1 x1).set 2 x2).set 3 x3).set 4 x4).set 5 x5).set 6 x6).set 7 x7)[4]? = some x4 ∧ (((((((w.set 1 x1).set 2 x2).set 3 x3).set 4 x4).set 5 x5).set 6 x6).set 7 x7)[5]? = some x5 ∧
    (((((((w.set 1 x1).set 2 x2).set 3 x3).set 4 x4).set 5 x5).set 6 x6).set 7 x7)[6]? = some x6 ∧ (((((((w.set 1 x1).set 2 x2).set 3 x3).set 4 x4).set 5 x5).set 6 x6).set 7 x7)[7]? = some x7 := by
  match w, h with
  | [a, b, c, d, e, f, g, k], _ => exact ⟨rfl, rfl, rfl, rfl, rfl, rfl, rfl⟩
/-- addresses that are new -/
def Fr (H : Hp) (as : List Addr) : Prop := as.Nodup ∧ ∀ a ∈ as, H a = none
def Live (H : Hp) (as : List Addr) : Prop := ∀ a ∈ as, ∃ xs, H a = some (.lst xs)
theorem Live.same {H G : Hp} {as : List Addr} (h : Live H as) (s : Same H G) : Live G as := fun a ha => by
  obtain ⟨xs, e⟩ := h a ha
  exact ⟨xs, s _ _ e⟩
theorem Live.add {H : Hp} {as bs : List Addr} (h : Live H as) (g : Live H bs) : Live H (as ++ bs) := fun a ha => by
  rcases List.mem_append.mp ha with h1 | h1
  · exact h a h1
  · exact g a h1
theorem Same.free' {H G : Hp} (s : Same H G) {a : Addr} (h : G a = none) : H a = none := by
  cases e : H a with
  | none => rfl
  | some o =>
    rw [s _ _ e] at h
    cases h
theorem Fr.add {H G : Hp} {as : List Addr} (f : Fr H as) (l : Live G as) (s : Same H G) {a : Addr} (h : G a = none) : Fr H (as ++ [a]) := by
  refine ⟨?_, fun b hb => ?_⟩
  · rw [List.nodup_append]
    refine ⟨f.1, by simp, fun x hx y hy e => ?_⟩
    rcases List.mem_cons.mp hy with h1 | h1
    · obtain ⟨xs, ex⟩ := l x hx
      rw [e, h1, h] at ex
      cases ex
    · cases h1
  · rcases List.mem_append.mp hb with h1 | h1
    · exact f.2 b h1
    · rw [List.mem_singleton.mp h1]
      exact Same.free' s h
theorem Fr.add2 {H G : Hp} {as bs : List Addr} (f : Fr H as) (l : Live G as) (s : Same H G) (g : Fr G bs) : Fr H (as ++ bs) := by
  refine ⟨?_, fun b hb => ?_⟩
  · rw [List.nodup_append]
    refine ⟨f.1, g.1, fun x hx y hy e => ?_⟩
    obtain ⟨xs, ex⟩ := l x hx
    rw [e, g.2 y hy] at ex
    cases ex
  · rcases List.mem_append.mp hb with h1 | h1
    · exact f.2 b h1
    · exact Same.free' s (g.2 b h1)
mutual
theorem Df.live {H : Hp} : ∀ (d : PyData) (v : V) (fp : List Addr), Df H d v fp → Live H fp
  | .none, _, _, h => by
    rw [h.2]
    exact nofun
  | .bool _, _, _, h => by
    rw [h.2]
    exact nofun
  | .int _, _, _, h => by
    rw [h.2]
    exact nofun
  | .str _, _, _, h => by
    rw [h.2]
    exact nofun
  | .list ds, v, fp, h => by
    obtain ⟨a, xs, gp, e, ef, ha, hl⟩ := h
    rw [ef]
    intro b hb
    rcases List.mem_cons.mp hb with h1 | h1
    · rw [h1]
      exact ⟨xs, ha⟩
    · exact DfL.live ds xs gp hl b h1
  | .tuple ds, v, fp, h => by
    obtain ⟨a, xs, e, ha, hl⟩ := h
    exact DfL.live ds xs fp hl
  | .dict _, _, _, h => h.elim
theorem DfL.live {H : Hp} : ∀ (ds : List PyData) (xs : List V) (fp : List Addr), DfL H ds xs fp → Live H fp
  | [], _, _, h => by
    rw [h.2]
    exact nofun
  | d :: ds, xs, fp, h => by
    obtain ⟨x, r, f, g, e, ef, hx, hr⟩ := h
    rw [ef]
    exact Live.add (Df.live d x f hx) (DfL.live ds r g hr)
end
/-- no list in it -/
def Flat (d : PyData) : Prop := ∀ (H : Hp) (v : V) (f : List Addr), Df H d v f → f = []
theorem DfL.flat {H : Hp} : ∀ {ds : List PyData} {xs : List V} {fp : List Addr}, (∀ d ∈ ds, Flat d) → DfL H ds xs fp → fp = []
  | [], _, _, _, h => h.2
  | d :: ds, _, _, hf, h => by
    obtain ⟨x, r, f, g, rfl, rfl, hx, hr⟩ := h
    rw [hf d List.mem_cons_self _ _ _ hx, DfL.flat (fun z hz => hf z (List.mem_cons_of_mem _ hz)) hr]
    rfl
theorem flat_str (s : Str) : Flat (.str s) := fun _ _ _ h => h.2
theorem flat_oN (o : Option Str) : Flat (oN o) := by
  cases o with
  | none => exact fun _ _ _ h => h.2
  | some s => exact flat_str s
theorem flat_bool (b : Bool) : Flat (.bool b) := fun _ _ _ h => h.2
theorem flat_tup {ds : List PyData} (h : ∀ d ∈ ds, Flat d) : Flat (.tuple ds) := fun H v f g => by
  obtain ⟨a, xs, _, _, hl⟩ := g
  exact DfL.flat h hl
theorem flat_call {N : Nm5} {c : PyData} (h : IsCall N c) : Flat c := by
  obtain ⟨m, k, rfl, _⟩ := h
  exact flat_tup fun d hd => by
    rcases List.mem_cons.mp hd with rfl | hd
    · exact flat_str m
    · rw [List.mem_singleton.mp hd]
      exact flat_oN k
theorem flat_strs_d (ss : List Str) : ∀ d ∈ ss.map PyData.str, Flat d := fun d hd => by
  obtain ⟨s, _, rfl⟩ := List.mem_map.mp hd
  exact flat_str s
def spCopied : Sp := fun vs H Q _ => ∃ (l : Addr) (xs : List V) (ts : List PyData) (fp : List Addr), vs = [.ref l] ∧ H l = some (.lst xs) ∧ DfL H ts xs fp ∧ ts.length ≤ 30 ∧ (∀ t ∈ ts, ∃ N s, IsTask N s t) ∧
  ∀ (G : Hp) (l' : Addr) (ys : List V) (gp : List Addr), Same H G → G l' = some (.lst ys) → DfL G ts ys gp → Fr H (l' :: gp) → Q (.ref l') G
section
variable {P : Program} {w : World} {K : PySem.W.Frag} {mg : Str → Option Value} {base : Heap}
theorem ok_copied {f : Addr} {fd : FuncData} (D : DefT K mg "copied_tasks" "copied_tasks" s_copied_tasks ["tasks"] f fd) (Z : Zs mg) : FnOk P w K mg base CX0 1 f fd ["tasks"] spCopied := by
  refine D.F.ok sc_copied_tasks (fun vs H Q E h => ?_) (fun cdv A outer s H vs Q E hr h => ?_)
  · obtain ⟨l, xs, ts, fp, rfl, _⟩ := h
    rfl
  obtain ⟨l, xs, ts, fp, rfl, hl, hD, h30, hT, q⟩ := h
  have hxl := hD.len
  refine ⟨_, (pss_one (ps_ret (pe_lc (own := [("name", 1), ("calls", 2), ("quiet", 3), ("ends", 4), ("mark", 5), ("down", 6), ("owner", 7)]) (g := gTup K 7 (gCons (gName 1) (gCons (gName 2) (gCons (gName 3) (gCons (gName 4) (gCons (gName 5) (gCons (gName 6) (gCons (gName 7) gNil)))))))) rfl sc_copied_tasks.nd  (pi_list (pv 0)) (blkOk_by (own := [("name", 1), ("calls", 2), ("quiet", 3), ("ends", 4), ("mark", 5), ("down", 6), ("owner", 7)]) (N := ["tasks", "name", "calls", "quiet", "ends", "mark", "down", "owner"]) (sc := defScope s_copied_tasks) (by decide +kernel)) (fun _ _ _ _ _ => pg_tupK (K := K) (n := 7) rfl rfl (pgs_cons (pg_name (i := 1) sc_copied_tasks.nd rfl (Or.inl rfl)) (pgs_cons (pg_name (i := 2) sc_copied_tasks.nd rfl (Or.inl rfl)) (pgs_cons (pg_name (i := 3) sc_copied_tasks.nd rfl (Or.inl rfl)) (pgs_cons (pg_name (i := 4) sc_copied_tasks.nd rfl (Or.inl rfl)) (pgs_cons (pg_name (i := 5) sc_copied_tasks.nd rfl (Or.inl rfl)) (pgs_cons (pg_name (i := 6) sc_copied_tasks.nd rfl (Or.inl rfl)) (pgs_cons (pg_name (i := 7) sc_copied_tasks.nd rfl (Or.inl rfl)) pgs_nil)))))))) (fun _ _ _ _ _ => pts_nil) (fun _ _ _ _ _ => (pe_tup (pa_cons (pv 1) (pa_cons (pe_callTy (call_list_ofK (K := K) rfl) (by rfl) Z.list (by decide +kernel) (pa_cons (pv 2) pa_nil)) (pa_cons (pe_callTy (call_list_ofK (K := K) rfl) (by rfl) Z.list (by decide +kernel) (pa_cons (pv 3) pa_nil)) (pa_cons (pe_callTy (call_list_ofK (K := K) rfl) (by rfl) Z.list (by decide +kernel) (pa_cons (pv 4) pa_nil)) (pa_cons (pv 5) (pa_cons (pv 6) (pa_cons (pv 7) pa_nil)))))))))))), ?_⟩
  refine ⟨_, rfl, l, rfl, ⟨_, .of hl⟩, fun dl hdl => ?_⟩
  refine lc_it (walk_list (K := K) (a := l) (xs := xs)) (fun i G => ∃ (acc : List V) (gp : List Addr), G dl = some (.lst acc) ∧ acc.length = i ∧ DfL G (ts.take i) acc gp ∧ Fr H (dl :: gp) ∧ Same H G)
    ⟨[], [], upd_same, rfl, .n, ⟨by simp, fun a ha => by rw [List.mem_singleton.mp ha]; exact hdl⟩, same_upd hdl⟩ (fun _ G _ ⟨_, _, _, _, _, _, sG⟩ => .of (sG _ _ hl)) ?_ ?_
  · rintro i x G H' hi ⟨acc, gp, hG, hal, hacc, hF, sG⟩ ⟨rfl, hx⟩
    obtain ⟨d, f', hd, hDx, _⟩ := hD.at hx
    obtain ⟨N, nm, cs, qs, es, m, k, o, hdd, hcl, hcs, hqn, hqd, hqs, hel, hes, hm, hk, ho⟩ := hT d (List.mem_of_getElem? hd)
    subst hdd
    obtain ⟨t, ys, rfl, ht, x0, r0, g0, g1, rfl, rfl, ⟨rfl, rfl⟩, x1, r1, g2, g3, rfl, rfl, hC, x2, r2, g4, g5, rfl, rfl, hQ, x3, r3, g6, g7, rfl, rfl, hE, x4, r4, g8, g9, rfl, rfl, ⟨rfl, rfl⟩, x5, r5, g10, g11, rfl, rfl, hD2, x6, r6, g12, g13, rfl, rfl, ⟨rfl, rfl⟩, rfl, rfl⟩ := hDx
    have eo := oN_v hD2
    subst eo
    obtain ⟨lc, xc, gc, rfl, rfl, hlc, hCl⟩ := hC
    obtain ⟨lq, xq, gq, rfl, rfl, hlq, hQl⟩ := hQ
    obtain ⟨le, xe, ge, rfl, rfl, hle, hEl⟩ := hE
    have ec := DfL.flat (fun c hc => flat_call (hcs c hc)) hCl
    have eq := DfL.flat (flat_strs_d qs) hQl
    have ee := DfL.flat (flat_strs_d es) hEl
    subst ec eq ee
    have htG := sG _ _ ht
    have hw8 : (wipe (L2.start ["tasks", "name", "calls", "quiet", "ends", "mark", "down", "owner"] [V.ref l]) (List.map (fun x => x.2) [(("name" : Str), 1), ("calls", 2), ("quiet", 3), ("ends", 4), ("mark", 5), ("down", 6), ("owner", 7)])).length = 8 := (wipe_length _ _).trans rfl
    refine ⟨t, _, rfl, .of htG, rfl, _, _, rfl, _, _, rfl, _, _, rfl, _, _, rfl, _, _, rfl, _, _, rfl, _, _, rfl, rfl, wipe7 rfl, ?_⟩
    refine ⟨_, (look7 hw8).1, _, (look7 hw8).2.1, lc, xc, rfl, .inl (.of (sG _ _ hlc)), fun l1 h1 => ?_⟩
    have s1 := same_upd (o := .lst xc) h1
    have sG1 := sG.trans s1
    refine ⟨_, (look7 hw8).2.2.1, lq, xq, rfl, .inl (.of (sG1 _ _ hlq)), fun l2 h2 => ?_⟩
    have s2 := same_upd (o := .lst xq) h2
    have sG2 := sG1.trans s2
    refine ⟨_, (look7 hw8).2.2.2.1, le, xe, rfl, .inl (.of (sG2 _ _ hle)), fun l3 h3 => ?_⟩
    have s3 := same_upd (o := .lst xe) h3
    have sG3 := sG2.trans s3
    refine ⟨_, (look7 hw8).2.2.2.2.1, _, (look7 hw8).2.2.2.2.2.1, _, (look7 hw8).2.2.2.2.2.2, sz 7, fun tt htt => ?_⟩
    have s4 := same_upd (o := .tup [.str nm, .ref l1, .ref l2, .ref l3, .str m, oV k, .str o]) htt
    have sG4 := sG3.trans s4
    have s14 := ((s1.trans s2).trans s3).trans s4
    have s24 := (s2.trans s3).trans s4
    have s34 := s3.trans s4
    refine ⟨acc, s14 _ _ hG, lt1000 (by omega), acc ++ [.ref tt], gp ++ [l1, l2, l3], upd_same, by rw [List.length_append, hal]; rfl, ?_, ?_, Same.put sG4 hdl⟩
    · have et : ts.take (i + 1) = ts.take i ++ [.tuple [.str nm, .list cs, .list (qs.map .str), .list (es.map .str), .str m, oN k, .str o]] := by
        rw [List.take_succ, hd]
        rfl
      rw [et]
      have hnew : Df _ (.tuple [.str nm, .list cs, .list (qs.map .str), .list (es.map .str), .str m, oN k, .str o]) (.ref tt) [l1, l2, l3] := tD upd_same ⟨_, _, [], _, rfl, rfl, sD nm, _, _, [l1], [l2, l3], rfl, rfl, ⟨l1, xc, [], rfl, rfl, s24 _ _ upd_same, hCl.same sG4⟩, _, _, [l2], [l3], rfl, rfl, ⟨l2, xq, [], rfl, rfl, s34 _ _ upd_same, hQl.same sG4⟩, _, _, [l3], [], rfl, rfl, ⟨l3, xe, [], rfl, rfl, s4 _ _ upd_same, hEl.same sG4⟩, .c (sD _) (.c (oN_df _ k) (.c (sD _) .n))⟩
      refine ((hacc.same s14).snoc hnew).put (s14 _ _ hG) ?_
      have n1 : dl ≠ l1 := ne_of_none hG h1
      have n2 : dl ≠ l2 := ne_of_none (s1 _ _ hG) h2
      have n3 : dl ≠ l3 := ne_of_none ((s1.trans s2) _ _ hG) h3
      have n0 : dl ∉ gp := (List.nodup_cons.mp hF.1).1
      simp [n0, n1, n2, n3]
    · have L0 : Live H' (dl :: gp) := fun a ha => by
        rcases List.mem_cons.mp ha with h | h
        · rw [h]
          exact ⟨_, hG⟩
        · exact DfL.live _ _ _ hacc a h
      have F1 := hF.add L0 sG h1
      have L1 : Live _ (dl :: gp ++ [l1]) := (L0.same s1).add fun a ha => by
        rw [List.mem_singleton.mp ha]
        exact ⟨_, upd_same⟩
      have F2 := F1.add L1 sG1 h2
      have L2' : Live _ (dl :: gp ++ [l1] ++ [l2]) := (L1.same s2).add fun a ha => by
        rw [List.mem_singleton.mp ha]
        exact ⟨_, upd_same⟩
      have F3 := F2.add L2' sG2 h3
      have e : dl :: gp ++ [l1] ++ [l2] ++ [l3] = dl :: (gp ++ [l1, l2, l3]) := by simp
      rw [← e]
      exact F3
  rintro G ⟨acc, gp, hG, hal, hacc, hF, sG⟩
  rw [hxl, List.take_length] at hacc
  exact q G dl acc gp sG hG hacc hF
end
end My

namespace My
open PySem L2
abbrev s_Book__init_ : Stmt := inClass (top 34) 0
abbrev s_Book_states : Stmt := inClass (top 34) 1
abbrev s_Book_ups : Stmt := inClass (top 34) 2
abbrev s_Book_downs : Stmt := inClass (top 34) 3
abbrev s_Book_marks : Stmt := inClass (top 34) 4
abbrev s_Book_wishes : Stmt := inClass (top 34) 5
abbrev s_Book_answers : Stmt := inClass (top 34) 6
abbrev s_Book_tasks : Stmt := inClass (top 34) 7
abbrev s_Book_idles : Stmt := inClass (top 34) 8
abbrev s_Book_busies : Stmt := inClass (top 34) 9
theorem sc_Book__init_ : FnScope ["self", "states", "ups", "downs", "marks", "wishes", "answers", "tasks", "idles", "busies", "fault"] ["self", "states", "ups", "downs", "marks", "wishes", "answers", "tasks", "idles", "busies"] (defScope s_Book__init_) := ⟨rfl, rfl, rfl, by decide +kernel, rfl, by decide +kernel, by decide +kernel⟩
theorem sc_Book_states : FnScope ["self"] ["self"] (defScope s_Book_states) := ⟨rfl, rfl, rfl, by decide +kernel, rfl, by decide +kernel, by decide +kernel⟩
theorem sc_Book_ups : FnScope ["self"] ["self"] (defScope s_Book_ups) := ⟨rfl, rfl, rfl, by decide +kernel, rfl, by decide +kernel, by decide +kernel⟩
theorem sc_Book_downs : FnScope ["self"] ["self"] (defScope s_Book_downs) := ⟨rfl, rfl, rfl, by decide +kernel, rfl, by decide +kernel, by decide +kernel⟩
theorem sc_Book_marks : FnScope ["self"] ["self"] (defScope s_Book_marks) := ⟨rfl, rfl, rfl, by decide +kernel, rfl, by decide +kernel, by decide +kernel⟩
theorem sc_Book_wishes : FnScope ["self"] ["self"] (defScope s_Book_wishes) := ⟨rfl, rfl, rfl, by decide +kernel, rfl, by decide +kernel, by decide +kernel⟩
theorem sc_Book_answers : FnScope ["self"] ["self"] (defScope s_Book_answers) := ⟨rfl, rfl, rfl, by decide +kernel, rfl, by decide +kernel, by decide +kernel⟩
theorem sc_Book_tasks : FnScope ["self"] ["self"] (defScope s_Book_tasks) := ⟨rfl, rfl, rfl, by decide +kernel, rfl, by decide +kernel, by decide +kernel⟩
theorem sc_Book_idles : FnScope ["self"] ["self"] (defScope s_Book_idles) := ⟨rfl, rfl, rfl, by decide +kernel, rfl, by decide +kernel, by decide +kernel⟩
theorem sc_Book_busies : FnScope ["self"] ["self"] (defScope s_Book_busies) := ⟨rfl, rfl, rfl, by decide +kernel, rfl, by decide +kernel, by decide +kernel⟩
def Pk.fld : Pk → Str
  | .ss => "_states"
  | .us => "_ups"
  | .ks => "_downs"
  | .ms => "_marks"
  | .ws => "_wishes"
  | .as => "_answers"
  | .ts => "_tasks"
  | .is => "_idles"
  | .bs => "_busies"
def bookF9 (l0 l1 l2 l3 l4 l5 l6 l7 l8 : Addr) : List (Str × V) := putF "_busies" (.ref l8) (putF "_idles" (.ref l7) (putF "_tasks" (.ref l6) (putF "_answers" (.ref l5) (putF "_wishes" (.ref l4) (putF "_marks" (.ref l3) (putF "_downs" (.ref l2) (putF "_ups" (.ref l1) (putF "_states" (.ref l0) []))))))))
def lsOf (l0 l1 l2 l3 l4 l5 l6 l7 l8 : Addr) : Pk → Addr
  | .ss => l0
  | .us => l1
  | .ks => l2
  | .ms => l3
  | .ws => l4
  | .as => l5
  | .ts => l6
  | .is => l7
  | .bs => l8
def bookF (ls : Pk → Addr) (tp : Addr) : List (Str × V) := putF "_parts" (.ref tp) (bookF9 (ls .ss) (ls .us) (ls .ks) (ls .ms) (ls .ws) (ls .as) (ls .ts) (ls .is) (ls .bs))
theorem look9 (ls : Pk → Addr) (k : Pk) : (bookF9 (ls .ss) (ls .us) (ls .ks) (ls .ms) (ls .ws) (ls .as) (ls .ts) (ls .is) (ls .bs)).lookup k.fld = some (.ref (ls k)) := by
  cases k
  case ss =>
    unfold bookF9 Pk.fld
    rw [lookup_putF, if_neg (by decide +kernel), lookup_putF, if_neg (by decide +kernel), lookup_putF, if_neg (by decide +kernel), lookup_putF, if_neg (by decide +kernel), lookup_putF, if_neg (by decide +kernel), lookup_putF, if_neg (by decide +kernel), lookup_putF, if_neg (by decide +kernel), lookup_putF, if_neg (by decide +kernel), lookup_putF, if_pos rfl]
  case us =>
    unfold bookF9 Pk.fld
    rw [lookup_putF, if_neg (by decide +kernel), lookup_putF, if_neg (by decide +kernel), lookup_putF, if_neg (by decide +kernel), lookup_putF, if_neg (by decide +kernel), lookup_putF, if_neg (by decide +kernel), lookup_putF, if_neg (by decide +kernel), lookup_putF, if_neg (by decide +kernel), lookup_putF, if_pos rfl]
  case ks =>
    unfold bookF9 Pk.fld
    rw [lookup_putF, if_neg (by decide +kernel), lookup_putF, if_neg (by decide +kernel), lookup_putF, if_neg (by decide +kernel), lookup_putF, if_neg (by decide +kernel), lookup_putF, if_neg (by decide +kernel), lookup_putF, if_neg (by decide +kernel), lookup_putF, if_pos rfl]
  case ms =>
    unfold bookF9 Pk.fld
    rw [lookup_putF, if_neg (by decide +kernel), lookup_putF, if_neg (by decide +kernel), lookup_putF, if_neg (by decide +kernel), lookup_putF, if_neg (by decide +kernel), lookup_putF, if_neg (by decide +kernel), lookup_putF, if_pos rfl]
  case ws =>
    unfold bookF9 Pk.fld
    rw [lookup_putF, if_neg (by decide +kernel), lookup_putF, if_neg (by decide +kernel), lookup_putF, if_neg (by decide +kernel), lookup_putF, if_neg (by decide +kernel), lookup_putF, if_pos rfl]
  case as =>
    unfold bookF9 Pk.fld
    rw [lookup_putF, if_neg (by decide +kernel), lookup_putF, if_neg (by decide +kernel), lookup_putF, if_neg (by decide +kernel), lookup_putF, if_pos rfl]
  case ts =>
    unfold bookF9 Pk.fld
    rw [lookup_putF, if_neg (by decide +kernel), lookup_putF, if_neg (by decide +kernel), lookup_putF, if_pos rfl]
  case is =>
    unfold bookF9 Pk.fld
    rw [lookup_putF, if_neg (by decide +kernel), lookup_putF, if_pos rfl]
  case bs =>
    unfold bookF9 Pk.fld
    rw [lookup_putF, if_pos rfl]
theorem lookF (ls : Pk → Addr) (tp : Addr) (k : Pk) : (bookF ls tp).lookup k.fld = some (.ref (ls k)) := by
  unfold bookF
  rw [lookup_putF, if_neg (by cases k <;> decide +kernel)]
  exact look9 ls k
theorem lookM (ls : Pk → Addr) (tp : Addr) (k : Pk) : (bookF ls tp).lookup k.nm = none := by
  unfold bookF bookF9
  rw [lookup_putF, if_neg (by cases k <;> decide +kernel), lookup_putF, if_neg (by cases k <;> decide +kernel), lookup_putF, if_neg (by cases k <;> decide +kernel), lookup_putF, if_neg (by cases k <;> decide +kernel), lookup_putF, if_neg (by cases k <;> decide +kernel), lookup_putF, if_neg (by cases k <;> decide +kernel), lookup_putF, if_neg (by cases k <;> decide +kernel), lookup_putF, if_neg (by cases k <;> decide +kernel), lookup_putF, if_neg (by cases k <;> decide +kernel), lookup_putF, if_neg (by cases k <;> decide +kernel)]
  rfl
theorem putF_len {f : Str} {v : V} : ∀ {F : List (Str × V)}, (putF f v F).length ≤ F.length + 1
  | [] => Nat.le_refl _
  | (g, x) :: r => by
    unfold putF
    by_cases h : g = f
    · rw [if_pos h]
      show r.length + 1 ≤ r.length + 1 + 1
      omega
    · rw [if_neg h]
      have := putF_len (f := f) (v := v) (F := r)
      show (putF f v r).length + 1 ≤ r.length + 1 + 1
      omega
/-- the class -/
structure BK (K : PySem.W.Frag) (C : Addr) : Prop where
  c : Cls K C
  no : ∀ k : Pk, NoAttr K C k.fld
  noP : NoAttr K C "_parts"
/-- a book stands at p; its lists are among fp -/
def BookAt (C : Addr) (b : RB) (H : Hp) (p : Addr) (fp : List Addr) : Prop := Live H fp ∧ ∃ (dx tp : Addr) (ls : Pk → Addr), H p = some (.ins C dx (bookF ls tp)) ∧ H tp = some (.tup (allPk.map fun k => .ref (ls k))) ∧ ∀ k, ∃ xs gp, H (ls k) = some (.lst xs) ∧ DfL H (b.ds k) xs gp ∧ ∀ a ∈ ls k :: gp, a ∈ fp
theorem BookAt.same {C : Addr} {b : RB} {H G : Hp} {p : Addr} {fp : List Addr} (h : BookAt C b H p fp) (s : Same H G) : BookAt C b G p fp := by
  obtain ⟨hl, dx, tp, ls, e, et, hk⟩ := h
  refine ⟨hl.same s, dx, tp, ls, s _ _ e, s _ _ et, fun k => ?_⟩
  obtain ⟨xs, gp, h1, h2, h3⟩ := hk k
  exact ⟨xs, gp, s _ _ h1, h2.same s, h3⟩
/-- only lists of M are changed -/
def Fix (M : List Addr) (H G : Hp) : Prop := ∀ a o, a ∉ M → H a = some o → G a = some o
theorem BookAt.fix {C : Addr} {b : RB} {H G : Hp} {p : Addr} {fp M : List Addr} (h : BookAt C b H p fp) (f : Fix M H G) (hM : Live H M) (hd : ∀ a ∈ fp, a ∉ M) : BookAt C b G p fp := by
  obtain ⟨hl, dx, tp, ls, e, et, hk⟩ := h
  have nl : ∀ {a : Addr} {o : HO}, H a = some o → (∀ xs, o ≠ .lst xs) → G a = some o := fun {a o} e n => f a o (fun m => by
    obtain ⟨xs, ex⟩ := hM a m
    rw [e] at ex
    exact n xs (Option.some.inj ex)) e
  refine ⟨fun a ha => ?_, dx, tp, ls, nl e (fun _ z => by cases z), nl et (fun _ z => by cases z), fun k => ?_⟩
  · obtain ⟨xs, ex⟩ := hl a ha
    exact ⟨xs, f a _ (hd a ha) ex⟩
  obtain ⟨xs, gp, h1, h2, h3⟩ := hk k
  exact ⟨xs, gp, f _ _ (hd _ (h3 _ List.mem_cons_self)) h1, DfL.keep (fun a ys e => nl e (fun _ z => by cases z)) _ _ _ (fun a ha o e => f a o (hd a (h3 a (List.mem_cons_of_mem _ ha))) e) h2, h3⟩
/-- the nine lists -/
def Nine (H : Hp) (b : RB) (hs : Pk → Addr) : Prop := ∀ k, ∃ xs gp, H (hs k) = some (.lst xs) ∧ DfL H (b.ds k) xs gp
theorem Nine.dfl {H : Hp} {b : RB} {hs : Pk → Addr} (h : Nine H b hs) : ∀ L : List Pk, ∃ fp, DfL H (L.map fun k => .list (b.ds k)) (L.map fun k => .ref (hs k)) fp
  | [] => ⟨[], .n⟩
  | k :: L => by
    obtain ⟨xs, gp, h1, h2⟩ := h k
    obtain ⟨fp, h3⟩ := Nine.dfl h L
    exact ⟨(hs k :: gp) ++ fp, _, _, hs k :: gp, fp, rfl, rfl, ⟨hs k, xs, gp, rfl, rfl, h1, h2⟩, h3⟩
theorem Nine.same {H G : Hp} {b : RB} {hs : Pk → Addr} (h : Nine H b hs) (s : Same H G) : Nine G b hs := fun k => by
  obtain ⟨xs, gp, h1, h2⟩ := h k
  exact ⟨xs, gp, s _ _ h1, h2.same s⟩
theorem flat_item {N : Nm5} {k : Pk} (hk : k ≠ .ts) {d : PyData} (h : ItemR N k d) : Flat d := by
  have two : ∀ {ds : List PyData}, (∀ d ∈ ds, Flat d) → Flat (.tuple ds) := fun h => flat_tup h
  cases k
  case ss =>
    obtain ⟨s, t, rfl, _⟩ := h
    exact flat_tup (by simp [flat_str])
  case us =>
    obtain ⟨s, t, rfl, _⟩ := h
    exact flat_tup (by simp [flat_str, flat_bool])
  case ks =>
    obtain ⟨s, t, rfl, _⟩ := h
    exact flat_tup (by simp [flat_str, flat_bool])
  case ms =>
    obtain ⟨s, rfl, _⟩ := h
    exact flat_str s
  case ws =>
    obtain ⟨a, b, u, rfl, _⟩ := h
    exact flat_tup (by simp [flat_str, flat_oN])
  case as =>
    obtain ⟨a, k, b, u, rfl, _⟩ := h
    exact flat_tup (by simp [flat_str, flat_oN])
  case ts => exact absurd rfl hk
  case is =>
    rcases h with ⟨m, u, t, rfl, _⟩ | ⟨m, u, n, k, f, rfl, _⟩
    · exact flat_tup (by simp [flat_str])
    · exact flat_tup (by simp [flat_str, flat_oN, flat_bool])
  case bs =>
    obtain ⟨t, m, u, n, k, f, rfl, _⟩ := h
    exact flat_tup (by simp [flat_str, flat_oN, flat_bool])
theorem RB.Ok.flat {b : RB} (ok : b.Ok) {k : Pk} (hk : k ≠ .ts) {H : Hp} {xs : List V} {gp : List Addr} (h : DfL H (b.ds k) xs gp) : gp = [] := DfL.flat (fun d hd => flat_item hk ((ok.fact k).2.2.1 d hd)) h
/-- one step of the constructor -/
def Sp1 (p : Addr) (H G : Hp) : Prop := ∀ a o, a ≠ p → H a = some o → G a = some o
theorem Sp1.trans {p : Addr} {H G J : Hp} (h : Sp1 p H G) (g : Sp1 p G J) : Sp1 p H J := fun a o n e => g a o n (h a o n e)
theorem Sp1.of {p : Addr} {H G : Hp} {o : HO} (s : Same H G) : Sp1 p H (upd G p o) := fun a o' n e => by
  rw [upd_ne n]
  exact s _ _ e
theorem Sp1.same {p : Addr} {H0 H G : Hp} (s : Same H0 H) (h0 : H0 p = none) (g : Sp1 p H G) : Same H0 G := fun a o e => g a o (ne_of_none e h0) (s _ _ e)
theorem DfL.sp1 {p C dx : Addr} {H G : Hp} {fs : List (Str × V)} {ds : List PyData} {xs : List V} {fp : List Addr} (h : DfL H ds xs fp) (g : Sp1 p H G) (e : H p = some (.ins C dx fs)) : DfL G ds xs fp :=
  DfL.keep (fun a ys ea => g a _ (ne_of ea e (by intro z; cases z)) ea) _ _ _ (fun a ha o ea => g a o (fun z => by
    obtain ⟨xs, ex⟩ := DfL.live _ _ _ h a ha
    rw [z, e] at ex
    cases ex) ea) h
def spInit (C : Addr) : Sp := fun vs H Q _ => ∃ (H0 : Hp) (p dx : Addr) (b : RB) (hs : Pk → Addr), vs = [.ref p, .ref (hs .ss), .ref (hs .us), .ref (hs .ks), .ref (hs .ms), .ref (hs .ws), .ref (hs .as), .ref (hs .ts), .ref (hs .is), .ref (hs .bs)] ∧ Same H0 H ∧ H0 p = none ∧ H p = some (.ins C dx []) ∧ Nine H0 b hs ∧ b.Ok ∧
  ∀ (G : Hp) (fp : List Addr), Same H0 G → BookAt C b G p fp → (∀ a ∈ fp, H0 a = none) → Q .non G
def spRead (C : Addr) (k : Pk) : Sp := fun vs H Q _ => ∃ (p : Addr) (b : RB) (fp : List Addr), vs = [.ref p] ∧ BookAt C b H p fp ∧ b.Ok ∧
  ∀ (G : Hp) (l' : Addr) (xs : List V) (gp : List Addr), Same H G → G l' = some (.lst xs) → DfL G (b.ds k) xs gp → Fr H (l' :: gp) → Q (.ref l') G
structure DefM (K : PySem.W.Frag) (C : Addr) (m qual : Str) (st : Stmt) (ps : List Str) (f : Addr) (fd : FuncData) : Prop where
  mt : Meth K C m f
  F : Fun K m qual st f fd
  b : Binds K fd ps []
section
variable {P : Program} {w : World} {K : PySem.W.Frag} {mg : Str → Option Value} {base : Heap} {tl : Tok} {aP aN aT aO aL aH aI : Addr} {it : Pk → Addr}
theorem ok_m_ss {f C : Addr} {fd : FuncData} (D : DefM K C "states" "Book.states" s_Book_states ["self"] f fd) (Z : Zs mg) (B : BK K C) : FnOk P w K mg base CX0 1 f fd ["self"] (spRead C .ss) := by
  refine D.F.ok sc_Book_states (fun vs H Q E h => ?_) (fun cdv A outer s H vs Q E hr h => ?_)
  · obtain ⟨p, b, fp, rfl, _⟩ := h
    rfl
  obtain ⟨p, b, fp, rfl, ⟨hL, dx, tp, ls, hp, _, hk⟩, ok, q⟩ := h
  obtain ⟨xs, gp, h1, h2, h3⟩ := hk .ss
  have eg := ok.flat (k := .ss) (by intro z; cases z) h2
  subst eg
  refine ⟨_, pss_one (ps_ret (pe_callTy call_list_of (by rfl) Z.list (by decide +kernel) (pa_cons (pe_fld (pv 0) rfl) pa_nil))), ?_⟩
  refine ⟨_, rfl, p, C, dx, _, _, rfl, hp, B.c, B.no .ss, lookF ls tp .ss, ls .ss, xs, rfl, .inl (.of h1), fun l' hn => ?_⟩
  exact q _ l' xs [] (same_upd hn) upd_same (h2.same (same_upd hn)) ⟨by simp, fun a ha => by rw [List.mem_singleton.mp ha]; exact hn⟩
theorem ok_m_us {f C : Addr} {fd : FuncData} (D : DefM K C "ups" "Book.ups" s_Book_ups ["self"] f fd) (Z : Zs mg) (B : BK K C) : FnOk P w K mg base CX0 1 f fd ["self"] (spRead C .us) := by
  refine D.F.ok sc_Book_ups (fun vs H Q E h => ?_) (fun cdv A outer s H vs Q E hr h => ?_)
  · obtain ⟨p, b, fp, rfl, _⟩ := h
    rfl
  obtain ⟨p, b, fp, rfl, ⟨hL, dx, tp, ls, hp, _, hk⟩, ok, q⟩ := h
  obtain ⟨xs, gp, h1, h2, h3⟩ := hk .us
  have eg := ok.flat (k := .us) (by intro z; cases z) h2
  subst eg
  refine ⟨_, pss_one (ps_ret (pe_callTy call_list_of (by rfl) Z.list (by decide +kernel) (pa_cons (pe_fld (pv 0) rfl) pa_nil))), ?_⟩
  refine ⟨_, rfl, p, C, dx, _, _, rfl, hp, B.c, B.no .us, lookF ls tp .us, ls .us, xs, rfl, .inl (.of h1), fun l' hn => ?_⟩
  exact q _ l' xs [] (same_upd hn) upd_same (h2.same (same_upd hn)) ⟨by simp, fun a ha => by rw [List.mem_singleton.mp ha]; exact hn⟩
theorem ok_m_ks {f C : Addr} {fd : FuncData} (D : DefM K C "downs" "Book.downs" s_Book_downs ["self"] f fd) (Z : Zs mg) (B : BK K C) : FnOk P w K mg base CX0 1 f fd ["self"] (spRead C .ks) := by
  refine D.F.ok sc_Book_downs (fun vs H Q E h => ?_) (fun cdv A outer s H vs Q E hr h => ?_)
  · obtain ⟨p, b, fp, rfl, _⟩ := h
    rfl
  obtain ⟨p, b, fp, rfl, ⟨hL, dx, tp, ls, hp, _, hk⟩, ok, q⟩ := h
  obtain ⟨xs, gp, h1, h2, h3⟩ := hk .ks
  have eg := ok.flat (k := .ks) (by intro z; cases z) h2
  subst eg
  refine ⟨_, pss_one (ps_ret (pe_callTy call_list_of (by rfl) Z.list (by decide +kernel) (pa_cons (pe_fld (pv 0) rfl) pa_nil))), ?_⟩
  refine ⟨_, rfl, p, C, dx, _, _, rfl, hp, B.c, B.no .ks, lookF ls tp .ks, ls .ks, xs, rfl, .inl (.of h1), fun l' hn => ?_⟩
  exact q _ l' xs [] (same_upd hn) upd_same (h2.same (same_upd hn)) ⟨by simp, fun a ha => by rw [List.mem_singleton.mp ha]; exact hn⟩
theorem ok_m_ms {f C : Addr} {fd : FuncData} (D : DefM K C "marks" "Book.marks" s_Book_marks ["self"] f fd) (Z : Zs mg) (B : BK K C) : FnOk P w K mg base CX0 1 f fd ["self"] (spRead C .ms) := by
  refine D.F.ok sc_Book_marks (fun vs H Q E h => ?_) (fun cdv A outer s H vs Q E hr h => ?_)
  · obtain ⟨p, b, fp, rfl, _⟩ := h
    rfl
  obtain ⟨p, b, fp, rfl, ⟨hL, dx, tp, ls, hp, _, hk⟩, ok, q⟩ := h
  obtain ⟨xs, gp, h1, h2, h3⟩ := hk .ms
  have eg := ok.flat (k := .ms) (by intro z; cases z) h2
  subst eg
  refine ⟨_, pss_one (ps_ret (pe_callTy call_list_of (by rfl) Z.list (by decide +kernel) (pa_cons (pe_fld (pv 0) rfl) pa_nil))), ?_⟩
  refine ⟨_, rfl, p, C, dx, _, _, rfl, hp, B.c, B.no .ms, lookF ls tp .ms, ls .ms, xs, rfl, .inl (.of h1), fun l' hn => ?_⟩
  exact q _ l' xs [] (same_upd hn) upd_same (h2.same (same_upd hn)) ⟨by simp, fun a ha => by rw [List.mem_singleton.mp ha]; exact hn⟩
theorem ok_m_ws {f C : Addr} {fd : FuncData} (D : DefM K C "wishes" "Book.wishes" s_Book_wishes ["self"] f fd) (Z : Zs mg) (B : BK K C) : FnOk P w K mg base CX0 1 f fd ["self"] (spRead C .ws) := by
  refine D.F.ok sc_Book_wishes (fun vs H Q E h => ?_) (fun cdv A outer s H vs Q E hr h => ?_)
  · obtain ⟨p, b, fp, rfl, _⟩ := h
    rfl
  obtain ⟨p, b, fp, rfl, ⟨hL, dx, tp, ls, hp, _, hk⟩, ok, q⟩ := h
  obtain ⟨xs, gp, h1, h2, h3⟩ := hk .ws
  have eg := ok.flat (k := .ws) (by intro z; cases z) h2
  subst eg
  refine ⟨_, pss_one (ps_ret (pe_callTy call_list_of (by rfl) Z.list (by decide +kernel) (pa_cons (pe_fld (pv 0) rfl) pa_nil))), ?_⟩
  refine ⟨_, rfl, p, C, dx, _, _, rfl, hp, B.c, B.no .ws, lookF ls tp .ws, ls .ws, xs, rfl, .inl (.of h1), fun l' hn => ?_⟩
  exact q _ l' xs [] (same_upd hn) upd_same (h2.same (same_upd hn)) ⟨by simp, fun a ha => by rw [List.mem_singleton.mp ha]; exact hn⟩
theorem ok_m_as {f C : Addr} {fd : FuncData} (D : DefM K C "answers" "Book.answers" s_Book_answers ["self"] f fd) (Z : Zs mg) (B : BK K C) : FnOk P w K mg base CX0 1 f fd ["self"] (spRead C .as) := by
  refine D.F.ok sc_Book_answers (fun vs H Q E h => ?_) (fun cdv A outer s H vs Q E hr h => ?_)
  · obtain ⟨p, b, fp, rfl, _⟩ := h
    rfl
  obtain ⟨p, b, fp, rfl, ⟨hL, dx, tp, ls, hp, _, hk⟩, ok, q⟩ := h
  obtain ⟨xs, gp, h1, h2, h3⟩ := hk .as
  have eg := ok.flat (k := .as) (by intro z; cases z) h2
  subst eg
  refine ⟨_, pss_one (ps_ret (pe_callTy call_list_of (by rfl) Z.list (by decide +kernel) (pa_cons (pe_fld (pv 0) rfl) pa_nil))), ?_⟩
  refine ⟨_, rfl, p, C, dx, _, _, rfl, hp, B.c, B.no .as, lookF ls tp .as, ls .as, xs, rfl, .inl (.of h1), fun l' hn => ?_⟩
  exact q _ l' xs [] (same_upd hn) upd_same (h2.same (same_upd hn)) ⟨by simp, fun a ha => by rw [List.mem_singleton.mp ha]; exact hn⟩
theorem ok_m_ts {f f1 C : Addr} {fd fd1 : FuncData} (D : DefM K C "tasks" "Book.tasks" s_Book_tasks ["self"] f fd) (Z : Zs mg) (B : BK K C) (D_copied_tasks : DefT K mg "copied_tasks" "copied_tasks" s_copied_tasks ["tasks"] f1 fd1) : FnOk P w K mg base CX0 2 f fd ["self"] (spRead C .ts) := by
  have G_copied_tasks := ok_copied (P := P) (w := w) (base := base) D_copied_tasks Z
  refine D.F.ok sc_Book_tasks (fun vs H Q E h => ?_) (fun cdv A outer s H vs Q E hr h => ?_)
  · obtain ⟨p, b, fp, rfl, _⟩ := h
    rfl
  obtain ⟨p, b, fp, rfl, ⟨hL, dx, tp, ls, hp, _, hk⟩, ok, q⟩ := h
  obtain ⟨xs, gp, h1, h2, h3⟩ := hk .ts
  obtain ⟨flo, fhi, fit, _, _⟩ := ok.fact .ts
  refine ⟨_, pss_one (ps_ret (pe_call G_copied_tasks (hr.mono (by decide)) rfl D_copied_tasks.m D_copied_tasks.F.kp D_copied_tasks.b .nil pass0 (pa_cons (pe_fld (pv 0) rfl) pa_nil))), ?_⟩
  refine ⟨_, rfl, p, C, dx, _, _, rfl, hp, B.c, B.no .ts, lookF ls tp .ts, ls .ts, xs, b.ts, gp, rfl, h1, h2, Nat.le_trans fhi (by decide), fun t ht => ?_, fun G l' ys gp' sG e1 e2 e3 => q G l' ys gp' sG e1 e2 e3⟩
  obtain ⟨nm, _, h⟩ := fit t ht
  exact ⟨b.N, nm, h⟩
theorem ok_m_is {f C : Addr} {fd : FuncData} (D : DefM K C "idles" "Book.idles" s_Book_idles ["self"] f fd) (Z : Zs mg) (B : BK K C) : FnOk P w K mg base CX0 1 f fd ["self"] (spRead C .is) := by
  refine D.F.ok sc_Book_idles (fun vs H Q E h => ?_) (fun cdv A outer s H vs Q E hr h => ?_)
  · obtain ⟨p, b, fp, rfl, _⟩ := h
    rfl
  obtain ⟨p, b, fp, rfl, ⟨hL, dx, tp, ls, hp, _, hk⟩, ok, q⟩ := h
  obtain ⟨xs, gp, h1, h2, h3⟩ := hk .is
  have eg := ok.flat (k := .is) (by intro z; cases z) h2
  subst eg
  refine ⟨_, pss_one (ps_ret (pe_callTy call_list_of (by rfl) Z.list (by decide +kernel) (pa_cons (pe_fld (pv 0) rfl) pa_nil))), ?_⟩
  refine ⟨_, rfl, p, C, dx, _, _, rfl, hp, B.c, B.no .is, lookF ls tp .is, ls .is, xs, rfl, .inl (.of h1), fun l' hn => ?_⟩
  exact q _ l' xs [] (same_upd hn) upd_same (h2.same (same_upd hn)) ⟨by simp, fun a ha => by rw [List.mem_singleton.mp ha]; exact hn⟩
theorem ok_m_bs {f C : Addr} {fd : FuncData} (D : DefM K C "busies" "Book.busies" s_Book_busies ["self"] f fd) (Z : Zs mg) (B : BK K C) : FnOk P w K mg base CX0 1 f fd ["self"] (spRead C .bs) := by
  refine D.F.ok sc_Book_busies (fun vs H Q E h => ?_) (fun cdv A outer s H vs Q E hr h => ?_)
  · obtain ⟨p, b, fp, rfl, _⟩ := h
    rfl
  obtain ⟨p, b, fp, rfl, ⟨hL, dx, tp, ls, hp, _, hk⟩, ok, q⟩ := h
  obtain ⟨xs, gp, h1, h2, h3⟩ := hk .bs
  have eg := ok.flat (k := .bs) (by intro z; cases z) h2
  subst eg
  refine ⟨_, pss_one (ps_ret (pe_callTy call_list_of (by rfl) Z.list (by decide +kernel) (pa_cons (pe_fld (pv 0) rfl) pa_nil))), ?_⟩
  refine ⟨_, rfl, p, C, dx, _, _, rfl, hp, B.c, B.no .bs, lookF ls tp .bs, ls .bs, xs, rfl, .inl (.of h1), fun l' hn => ?_⟩
  exact q _ l' xs [] (same_upd hn) upd_same (h2.same (same_upd hn)) ⟨by simp, fun a ha => by rw [List.mem_singleton.mp ha]; exact hn⟩
theorem ok_init {f C f1 f2 f3 f4 f5 : Addr} {fd fd1 fd2 fd3 fd4 fd5 : FuncData} (F : Fun K "__init__" "Book.__init__" s_Book__init_ f fd) (Z : Zs mg) (B : BK K C) (T : Tb K mg tl aP aN aT aO aL aH aI) (Td' : Td K w aL aH aI it)
    (D_copied_tasks : DefT K mg "copied_tasks" "copied_tasks" s_copied_tasks ["tasks"] f1 fd1) (D_wrong_part : DefT K mg "wrong_part" "wrong_part" s_wrong_part ["parts"] f2 fd2) (D_may_stand : DefT K mg "may_stand" "may_stand" s_may_stand ["part", "row", "before"] f3 fd3)
    (D_wrong_index : DefT K mg "wrong_index" "wrong_index" s_wrong_index ["part", "rows", "names"] f4 fd4) (D_names_in : DefT K mg "names_in" "names_in" s_names_in ["part", "rows"] f5 fd5) (hI : ∀ N, NOk N → ∀ k, Held P w K mg base 4 (it k) (spItem (ItemR N k) (Wk N k))) :
    FnOk P w K mg base CX0 7 f fd ["self", "states", "ups", "downs", "marks", "wishes", "answers", "tasks", "idles", "busies"] (spInit C) := by
  have G_copied_tasks := ok_copied (P := P) (w := w) (base := base) D_copied_tasks Z
  have G_wrong_part := ok_wrong_part (P := P) (w := w) (base := base) D_wrong_part Z T Td' D_may_stand D_wrong_index D_names_in hI
  refine F.ok sc_Book__init_ (fun vs H Q E h => ?_) (fun cdv A outer s H vs Q E hr h => ?_)
  · obtain ⟨H0, p, dx, b, hs, rfl, _⟩ := h
    rfl
  obtain ⟨H0, p, dx, b, hs, rfl, s0, hp0, hp, hN, ok, q⟩ := h
  refine ⟨_, (pss_cons (ps_set (i := 10) sc_Book__init_.nd rfl (Or.inl rfl) (pe_call G_wrong_part (hr.mono (by decide)) rfl D_wrong_part.m D_wrong_part.F.kp D_wrong_part.b .nil pass0 (pa_cons (pe_tup (pa_cons (pv 1) (pa_cons (pv 2) (pa_cons (pv 3) (pa_cons (pv 4) (pa_cons (pv 5) (pa_cons (pv 6) (pa_cons (pv 7) (pa_cons (pv 8) (pa_cons (pv 9) pa_nil)))))))))) pa_nil))) (pss_cons (ps_if (pt_cmpR op_notN (pv 10) pe_non (nomark _)) pss_never pss_nil) (pss_cons (ps_fld (pv 0) (pe_callTy call_list_of (by rfl) Z.list (by decide +kernel) (pa_cons (pv 1) pa_nil)) rfl) (pss_cons (ps_fld (pv 0) (pe_callTy call_list_of (by rfl) Z.list (by decide +kernel) (pa_cons (pv 2) pa_nil)) rfl) (pss_cons (ps_fld (pv 0) (pe_callTy call_list_of (by rfl) Z.list (by decide +kernel) (pa_cons (pv 3) pa_nil)) rfl) (pss_cons (ps_fld (pv 0) (pe_callTy call_list_of (by rfl) Z.list (by decide +kernel) (pa_cons (pv 4) pa_nil)) rfl) (pss_cons (ps_fld (pv 0) (pe_callTy call_list_of (by rfl) Z.list (by decide +kernel) (pa_cons (pv 5) pa_nil)) rfl) (pss_cons (ps_fld (pv 0) (pe_callTy call_list_of (by rfl) Z.list (by decide +kernel) (pa_cons (pv 6) pa_nil)) rfl) (pss_cons (ps_fld (pv 0) (pe_call G_copied_tasks (hr.mono (by decide)) rfl D_copied_tasks.m D_copied_tasks.F.kp D_copied_tasks.b .nil pass0 (pa_cons (pv 7) pa_nil)) rfl) (pss_cons (ps_fld (pv 0) (pe_callTy call_list_of (by rfl) Z.list (by decide +kernel) (pa_cons (pv 8) pa_nil)) rfl) (pss_cons (ps_fld (pv 0) (pe_callTy call_list_of (by rfl) Z.list (by decide +kernel) (pa_cons (pv 9) pa_nil)) rfl) (pss_one (ps_fld (pv 0) (pe_tup (pa_cons (pe_fld (pv 0) rfl) (pa_cons (pe_fld (pv 0) rfl) (pa_cons (pe_fld (pv 0) rfl) (pa_cons (pe_fld (pv 0) rfl) (pa_cons (pe_fld (pv 0) rfl) (pa_cons (pe_fld (pv 0) rfl) (pa_cons (pe_fld (pv 0) rfl) (pa_cons (pe_fld (pv 0) rfl) (pa_cons (pe_fld (pv 0) rfl) pa_nil)))))))))) rfl))))))))))))), ?_⟩
  refine ⟨_, rfl, _, rfl, _, rfl, _, rfl, _, rfl, _, rfl, _, rfl, _, rfl, _, rfl, sz 9, fun t0 ht0 => ?_⟩
  have sA := same_upd (o := .tup [.ref (hs .ss), .ref (hs .us), .ref (hs .ks), .ref (hs .ms), .ref (hs .ws), .ref (hs .as), .ref (hs .ts), .ref (hs .is), .ref (hs .bs)]) ht0
  obtain ⟨fp0, hdf⟩ := (hN.same (s0.trans sA)).dfl allPk
  refine ⟨.ref t0, b, fp0, rfl, tD upd_same hdf, ok, fun A0 sA0 => ?_⟩
  have z0 : Same H0 A0 := (s0.trans sA).trans sA0
  have y0 : A0 p = some (.ins C dx []) := sA0 _ _ (sA _ _ hp)
  refine ⟨_, rfl, rfl, _, rfl, ifF (by decide +kernel) ?_⟩
  obtain ⟨xs0, gp0, e0, d0⟩ := hN .ss
  obtain ⟨xs1, gp1, e1, d1⟩ := hN .us
  obtain ⟨xs2, gp2, e2, d2⟩ := hN .ks
  obtain ⟨xs3, gp3, e3, d3⟩ := hN .ms
  obtain ⟨xs4, gp4, e4, d4⟩ := hN .ws
  obtain ⟨xs5, gp5, e5, d5⟩ := hN .as
  obtain ⟨xs6, gp6, e6, d6⟩ := hN .ts
  obtain ⟨xs7, gp7, e7, d7⟩ := hN .is
  obtain ⟨xs8, gp8, e8, d8⟩ := hN .bs
  -- _states
  refine ⟨_, rfl, hs .ss, xs0, rfl, .inl (.of (z0 _ _ e0)), fun l0 n0 => ?_⟩
  have np0 : p ≠ l0 := ne_of_none y0 n0
  have v0 := same_upd (o := .lst xs0) n0
  have f0 := Same.free' z0 n0
  have w0 := v0 _ _ y0
  refine ⟨_, rfl, p, C, dx, _, rfl, w0, B.c, B.no .ss, by decide, ?_⟩
  have g1 : (putF "_states" (.ref l0) []).length ≤ 1 := Nat.le_refl _
  have u0 := Sp1.of (p := p) (o := .ins C dx (putF "_states" (.ref l0) [])) v0
  have z1 := Sp1.same z0 hp0 u0
  have y1 : (upd (upd A0 l0 (.lst xs0)) p (.ins C dx (putF "_states" (.ref l0) []))) p = some (.ins C dx (putF "_states" (.ref l0) [])) := upd_same
  have x0 : (upd (upd A0 l0 (.lst xs0)) p (.ins C dx (putF "_states" (.ref l0) []))) l0 = some (.lst xs0) := (upd_ne np0.symm).trans upd_same
  -- _ups
  refine ⟨_, rfl, hs .us, xs1, rfl, .inl (.of (z1 _ _ e1)), fun l1 n1 => ?_⟩
  have np1 : p ≠ l1 := ne_of_none y1 n1
  have v1 := same_upd (o := .lst xs1) n1
  have f1 := Same.free' z1 n1
  have w1 := v1 _ _ y1
  refine ⟨_, rfl, p, C, dx, _, rfl, w1, B.c, B.no .us, by have := g1; omega, ?_⟩
  have g2 : (putF "_ups" (.ref l1) (putF "_states" (.ref l0) [])).length ≤ 2 := Nat.le_trans putF_len (by omega)
  have u1 := Sp1.of (p := p) (o := .ins C dx (putF "_ups" (.ref l1) (putF "_states" (.ref l0) []))) v1
  have z2 := Sp1.same z1 hp0 u1
  have y2 : (upd (upd (upd (upd A0 l0 (.lst xs0)) p (.ins C dx (putF "_states" (.ref l0) []))) l1 (.lst xs1)) p (.ins C dx (putF "_ups" (.ref l1) (putF "_states" (.ref l0) [])))) p = some (.ins C dx (putF "_ups" (.ref l1) (putF "_states" (.ref l0) []))) := upd_same
  have x1 : (upd (upd (upd (upd A0 l0 (.lst xs0)) p (.ins C dx (putF "_states" (.ref l0) []))) l1 (.lst xs1)) p (.ins C dx (putF "_ups" (.ref l1) (putF "_states" (.ref l0) [])))) l1 = some (.lst xs1) := (upd_ne np1.symm).trans upd_same
  -- _downs
  refine ⟨_, rfl, hs .ks, xs2, rfl, .inl (.of (z2 _ _ e2)), fun l2 n2 => ?_⟩
  have np2 : p ≠ l2 := ne_of_none y2 n2
  have v2 := same_upd (o := .lst xs2) n2
  have f2 := Same.free' z2 n2
  have w2 := v2 _ _ y2
  refine ⟨_, rfl, p, C, dx, _, rfl, w2, B.c, B.no .ks, by have := g2; omega, ?_⟩
  have g3 : (putF "_downs" (.ref l2) (putF "_ups" (.ref l1) (putF "_states" (.ref l0) []))).length ≤ 3 := Nat.le_trans putF_len (by omega)
  have u2 := Sp1.of (p := p) (o := .ins C dx (putF "_downs" (.ref l2) (putF "_ups" (.ref l1) (putF "_states" (.ref l0) [])))) v2
  have z3 := Sp1.same z2 hp0 u2
  have y3 : (upd (upd (upd (upd (upd (upd A0 l0 (.lst xs0)) p (.ins C dx (putF "_states" (.ref l0) []))) l1 (.lst xs1)) p (.ins C dx (putF "_ups" (.ref l1) (putF "_states" (.ref l0) [])))) l2 (.lst xs2)) p (.ins C dx (putF "_downs" (.ref l2) (putF "_ups" (.ref l1) (putF "_states" (.ref l0) []))))) p = some (.ins C dx (putF "_downs" (.ref l2) (putF "_ups" (.ref l1) (putF "_states" (.ref l0) [])))) := upd_same
  have x2 : (upd (upd (upd (upd (upd (upd A0 l0 (.lst xs0)) p (.ins C dx (putF "_states" (.ref l0) []))) l1 (.lst xs1)) p (.ins C dx (putF "_ups" (.ref l1) (putF "_states" (.ref l0) [])))) l2 (.lst xs2)) p (.ins C dx (putF "_downs" (.ref l2) (putF "_ups" (.ref l1) (putF "_states" (.ref l0) []))))) l2 = some (.lst xs2) := (upd_ne np2.symm).trans upd_same
  -- _marks
  refine ⟨_, rfl, hs .ms, xs3, rfl, .inl (.of (z3 _ _ e3)), fun l3 n3 => ?_⟩
  have np3 : p ≠ l3 := ne_of_none y3 n3
  have v3 := same_upd (o := .lst xs3) n3
  have f3 := Same.free' z3 n3
  have w3 := v3 _ _ y3
  refine ⟨_, rfl, p, C, dx, _, rfl, w3, B.c, B.no .ms, by have := g3; omega, ?_⟩
  have g4 : (putF "_marks" (.ref l3) (putF "_downs" (.ref l2) (putF "_ups" (.ref l1) (putF "_states" (.ref l0) [])))).length ≤ 4 := Nat.le_trans putF_len (by omega)
  have u3 := Sp1.of (p := p) (o := .ins C dx (putF "_marks" (.ref l3) (putF "_downs" (.ref l2) (putF "_ups" (.ref l1) (putF "_states" (.ref l0) []))))) v3
  have z4 := Sp1.same z3 hp0 u3
  have y4 : (upd (upd (upd (upd (upd (upd (upd (upd A0 l0 (.lst xs0)) p (.ins C dx (putF "_states" (.ref l0) []))) l1 (.lst xs1)) p (.ins C dx (putF "_ups" (.ref l1) (putF "_states" (.ref l0) [])))) l2 (.lst xs2)) p (.ins C dx (putF "_downs" (.ref l2) (putF "_ups" (.ref l1) (putF "_states" (.ref l0) []))))) l3 (.lst xs3)) p (.ins C dx (putF "_marks" (.ref l3) (putF "_downs" (.ref l2) (putF "_ups" (.ref l1) (putF "_states" (.ref l0) [])))))) p = some (.ins C dx (putF "_marks" (.ref l3) (putF "_downs" (.ref l2) (putF "_ups" (.ref l1) (putF "_states" (.ref l0) []))))) := upd_same
  have x3 : (upd (upd (upd (upd (upd (upd (upd (upd A0 l0 (.lst xs0)) p (.ins C dx (putF "_states" (.ref l0) []))) l1 (.lst xs1)) p (.ins C dx (putF "_ups" (.ref l1) (putF "_states" (.ref l0) [])))) l2 (.lst xs2)) p (.ins C dx (putF "_downs" (.ref l2) (putF "_ups" (.ref l1) (putF "_states" (.ref l0) []))))) l3 (.lst xs3)) p (.ins C dx (putF "_marks" (.ref l3) (putF "_downs" (.ref l2) (putF "_ups" (.ref l1) (putF "_states" (.ref l0) [])))))) l3 = some (.lst xs3) := (upd_ne np3.symm).trans upd_same
  -- _wishes
  refine ⟨_, rfl, hs .ws, xs4, rfl, .inl (.of (z4 _ _ e4)), fun l4 n4 => ?_⟩
  have np4 : p ≠ l4 := ne_of_none y4 n4
  have v4 := same_upd (o := .lst xs4) n4
  have f4 := Same.free' z4 n4
  have w4 := v4 _ _ y4
  refine ⟨_, rfl, p, C, dx, _, rfl, w4, B.c, B.no .ws, by have := g4; omega, ?_⟩
  have g5 : (putF "_wishes" (.ref l4) (putF "_marks" (.ref l3) (putF "_downs" (.ref l2) (putF "_ups" (.ref l1) (putF "_states" (.ref l0) []))))).length ≤ 5 := Nat.le_trans putF_len (by omega)
  have u4 := Sp1.of (p := p) (o := .ins C dx (putF "_wishes" (.ref l4) (putF "_marks" (.ref l3) (putF "_downs" (.ref l2) (putF "_ups" (.ref l1) (putF "_states" (.ref l0) [])))))) v4
  have z5 := Sp1.same z4 hp0 u4
  have y5 : (upd (upd (upd (upd (upd (upd (upd (upd (upd (upd A0 l0 (.lst xs0)) p (.ins C dx (putF "_states" (.ref l0) []))) l1 (.lst xs1)) p (.ins C dx (putF "_ups" (.ref l1) (putF "_states" (.ref l0) [])))) l2 (.lst xs2)) p (.ins C dx (putF "_downs" (.ref l2) (putF "_ups" (.ref l1) (putF "_states" (.ref l0) []))))) l3 (.lst xs3)) p (.ins C dx (putF "_marks" (.ref l3) (putF "_downs" (.ref l2) (putF "_ups" (.ref l1) (putF "_states" (.ref l0) [])))))) l4 (.lst xs4)) p (.ins C dx (putF "_wishes" (.ref l4) (putF "_marks" (.ref l3) (putF "_downs" (.ref l2) (putF "_ups" (.ref l1) (putF "_states" (.ref l0) []))))))) p = some (.ins C dx (putF "_wishes" (.ref l4) (putF "_marks" (.ref l3) (putF "_downs" (.ref l2) (putF "_ups" (.ref l1) (putF "_states" (.ref l0) [])))))) := upd_same
  have x4 : (upd (upd (upd (upd (upd (upd (upd (upd (upd (upd A0 l0 (.lst xs0)) p (.ins C dx (putF "_states" (.ref l0) []))) l1 (.lst xs1)) p (.ins C dx (putF "_ups" (.ref l1) (putF "_states" (.ref l0) [])))) l2 (.lst xs2)) p (.ins C dx (putF "_downs" (.ref l2) (putF "_ups" (.ref l1) (putF "_states" (.ref l0) []))))) l3 (.lst xs3)) p (.ins C dx (putF "_marks" (.ref l3) (putF "_downs" (.ref l2) (putF "_ups" (.ref l1) (putF "_states" (.ref l0) [])))))) l4 (.lst xs4)) p (.ins C dx (putF "_wishes" (.ref l4) (putF "_marks" (.ref l3) (putF "_downs" (.ref l2) (putF "_ups" (.ref l1) (putF "_states" (.ref l0) []))))))) l4 = some (.lst xs4) := (upd_ne np4.symm).trans upd_same
  -- _answers
  refine ⟨_, rfl, hs .as, xs5, rfl, .inl (.of (z5 _ _ e5)), fun l5 n5 => ?_⟩
  have np5 : p ≠ l5 := ne_of_none y5 n5
  have v5 := same_upd (o := .lst xs5) n5
  have f5 := Same.free' z5 n5
  have w5 := v5 _ _ y5
  refine ⟨_, rfl, p, C, dx, _, rfl, w5, B.c, B.no .as, by have := g5; omega, ?_⟩
  have g6 : (putF "_answers" (.ref l5) (putF "_wishes" (.ref l4) (putF "_marks" (.ref l3) (putF "_downs" (.ref l2) (putF "_ups" (.ref l1) (putF "_states" (.ref l0) [])))))).length ≤ 6 := Nat.le_trans putF_len (by omega)
  have u5 := Sp1.of (p := p) (o := .ins C dx (putF "_answers" (.ref l5) (putF "_wishes" (.ref l4) (putF "_marks" (.ref l3) (putF "_downs" (.ref l2) (putF "_ups" (.ref l1) (putF "_states" (.ref l0) []))))))) v5
  have z6 := Sp1.same z5 hp0 u5
  have y6 : (upd (upd (upd (upd (upd (upd (upd (upd (upd (upd (upd (upd A0 l0 (.lst xs0)) p (.ins C dx (putF "_states" (.ref l0) []))) l1 (.lst xs1)) p (.ins C dx (putF "_ups" (.ref l1) (putF "_states" (.ref l0) [])))) l2 (.lst xs2)) p (.ins C dx (putF "_downs" (.ref l2) (putF "_ups" (.ref l1) (putF "_states" (.ref l0) []))))) l3 (.lst xs3)) p (.ins C dx (putF "_marks" (.ref l3) (putF "_downs" (.ref l2) (putF "_ups" (.ref l1) (putF "_states" (.ref l0) [])))))) l4 (.lst xs4)) p (.ins C dx (putF "_wishes" (.ref l4) (putF "_marks" (.ref l3) (putF "_downs" (.ref l2) (putF "_ups" (.ref l1) (putF "_states" (.ref l0) []))))))) l5 (.lst xs5)) p (.ins C dx (putF "_answers" (.ref l5) (putF "_wishes" (.ref l4) (putF "_marks" (.ref l3) (putF "_downs" (.ref l2) (putF "_ups" (.ref l1) (putF "_states" (.ref l0) [])))))))) p = some (.ins C dx (putF "_answers" (.ref l5) (putF "_wishes" (.ref l4) (putF "_marks" (.ref l3) (putF "_downs" (.ref l2) (putF "_ups" (.ref l1) (putF "_states" (.ref l0) []))))))) := upd_same
  have x5 : (upd (upd (upd (upd (upd (upd (upd (upd (upd (upd (upd (upd A0 l0 (.lst xs0)) p (.ins C dx (putF "_states" (.ref l0) []))) l1 (.lst xs1)) p (.ins C dx (putF "_ups" (.ref l1) (putF "_states" (.ref l0) [])))) l2 (.lst xs2)) p (.ins C dx (putF "_downs" (.ref l2) (putF "_ups" (.ref l1) (putF "_states" (.ref l0) []))))) l3 (.lst xs3)) p (.ins C dx (putF "_marks" (.ref l3) (putF "_downs" (.ref l2) (putF "_ups" (.ref l1) (putF "_states" (.ref l0) [])))))) l4 (.lst xs4)) p (.ins C dx (putF "_wishes" (.ref l4) (putF "_marks" (.ref l3) (putF "_downs" (.ref l2) (putF "_ups" (.ref l1) (putF "_states" (.ref l0) []))))))) l5 (.lst xs5)) p (.ins C dx (putF "_answers" (.ref l5) (putF "_wishes" (.ref l4) (putF "_marks" (.ref l3) (putF "_downs" (.ref l2) (putF "_ups" (.ref l1) (putF "_states" (.ref l0) [])))))))) l5 = some (.lst xs5) := (upd_ne np5.symm).trans upd_same
  -- _tasks
  refine ⟨_, rfl, hs .ts, xs6, b.ts, gp6, rfl, z6 _ _ e6, d6.same z6, Nat.le_trans (ok.fact .ts).2.1 (by decide), fun t ht => ?_, fun A6 l6 ys6 gq6 v6 c6 d6' r6 => ?_⟩
  · obtain ⟨nm, _, h⟩ := (ok.fact .ts).2.2.1 t ht
    exact ⟨b.N, nm, h⟩
  have np6 : p ≠ l6 := ne_of_none y6 (r6.2 _ List.mem_cons_self)
  have w6 := v6 _ _ y6
  refine ⟨_, rfl, p, C, dx, _, rfl, w6, B.c, B.no .ts, by have := g6; omega, ?_⟩
  have g7 : (putF "_tasks" (.ref l6) (putF "_answers" (.ref l5) (putF "_wishes" (.ref l4) (putF "_marks" (.ref l3) (putF "_downs" (.ref l2) (putF "_ups" (.ref l1) (putF "_states" (.ref l0) []))))))).length ≤ 7 := Nat.le_trans putF_len (by omega)
  have u6 := Sp1.of (p := p) (o := .ins C dx (putF "_tasks" (.ref l6) (putF "_answers" (.ref l5) (putF "_wishes" (.ref l4) (putF "_marks" (.ref l3) (putF "_downs" (.ref l2) (putF "_ups" (.ref l1) (putF "_states" (.ref l0) [])))))))) v6
  have z7 := Sp1.same z6 hp0 u6
  have y7 : (upd A6 p (.ins C dx (putF "_tasks" (.ref l6) (putF "_answers" (.ref l5) (putF "_wishes" (.ref l4) (putF "_marks" (.ref l3) (putF "_downs" (.ref l2) (putF "_ups" (.ref l1) (putF "_states" (.ref l0) []))))))))) p = some (.ins C dx (putF "_tasks" (.ref l6) (putF "_answers" (.ref l5) (putF "_wishes" (.ref l4) (putF "_marks" (.ref l3) (putF "_downs" (.ref l2) (putF "_ups" (.ref l1) (putF "_states" (.ref l0) [])))))))) := upd_same
  have x6 : (upd A6 p (.ins C dx (putF "_tasks" (.ref l6) (putF "_answers" (.ref l5) (putF "_wishes" (.ref l4) (putF "_marks" (.ref l3) (putF "_downs" (.ref l2) (putF "_ups" (.ref l1) (putF "_states" (.ref l0) []))))))))) l6 = some (.lst ys6) := (upd_ne np6.symm).trans c6
  -- _idles
  refine ⟨_, rfl, hs .is, xs7, rfl, .inl (.of (z7 _ _ e7)), fun l7 n7 => ?_⟩
  have np7 : p ≠ l7 := ne_of_none y7 n7
  have v7 := same_upd (o := .lst xs7) n7
  have f7 := Same.free' z7 n7
  have w7 := v7 _ _ y7
  refine ⟨_, rfl, p, C, dx, _, rfl, w7, B.c, B.no .is, by have := g7; omega, ?_⟩
  have g8 : (putF "_idles" (.ref l7) (putF "_tasks" (.ref l6) (putF "_answers" (.ref l5) (putF "_wishes" (.ref l4) (putF "_marks" (.ref l3) (putF "_downs" (.ref l2) (putF "_ups" (.ref l1) (putF "_states" (.ref l0) [])))))))).length ≤ 8 := Nat.le_trans putF_len (by omega)
  have u7 := Sp1.of (p := p) (o := .ins C dx (putF "_idles" (.ref l7) (putF "_tasks" (.ref l6) (putF "_answers" (.ref l5) (putF "_wishes" (.ref l4) (putF "_marks" (.ref l3) (putF "_downs" (.ref l2) (putF "_ups" (.ref l1) (putF "_states" (.ref l0) []))))))))) v7
  have z8 := Sp1.same z7 hp0 u7
  have y8 : (upd (upd (upd A6 p (.ins C dx (putF "_tasks" (.ref l6) (putF "_answers" (.ref l5) (putF "_wishes" (.ref l4) (putF "_marks" (.ref l3) (putF "_downs" (.ref l2) (putF "_ups" (.ref l1) (putF "_states" (.ref l0) []))))))))) l7 (.lst xs7)) p (.ins C dx (putF "_idles" (.ref l7) (putF "_tasks" (.ref l6) (putF "_answers" (.ref l5) (putF "_wishes" (.ref l4) (putF "_marks" (.ref l3) (putF "_downs" (.ref l2) (putF "_ups" (.ref l1) (putF "_states" (.ref l0) [])))))))))) p = some (.ins C dx (putF "_idles" (.ref l7) (putF "_tasks" (.ref l6) (putF "_answers" (.ref l5) (putF "_wishes" (.ref l4) (putF "_marks" (.ref l3) (putF "_downs" (.ref l2) (putF "_ups" (.ref l1) (putF "_states" (.ref l0) []))))))))) := upd_same
  have x7 : (upd (upd (upd A6 p (.ins C dx (putF "_tasks" (.ref l6) (putF "_answers" (.ref l5) (putF "_wishes" (.ref l4) (putF "_marks" (.ref l3) (putF "_downs" (.ref l2) (putF "_ups" (.ref l1) (putF "_states" (.ref l0) []))))))))) l7 (.lst xs7)) p (.ins C dx (putF "_idles" (.ref l7) (putF "_tasks" (.ref l6) (putF "_answers" (.ref l5) (putF "_wishes" (.ref l4) (putF "_marks" (.ref l3) (putF "_downs" (.ref l2) (putF "_ups" (.ref l1) (putF "_states" (.ref l0) [])))))))))) l7 = some (.lst xs7) := (upd_ne np7.symm).trans upd_same
  -- _busies
  refine ⟨_, rfl, hs .bs, xs8, rfl, .inl (.of (z8 _ _ e8)), fun l8 n8 => ?_⟩
  have np8 : p ≠ l8 := ne_of_none y8 n8
  have v8 := same_upd (o := .lst xs8) n8
  have f8 := Same.free' z8 n8
  have w8 := v8 _ _ y8
  refine ⟨_, rfl, p, C, dx, _, rfl, w8, B.c, B.no .bs, by have := g8; omega, ?_⟩
  have g9 : (putF "_busies" (.ref l8) (putF "_idles" (.ref l7) (putF "_tasks" (.ref l6) (putF "_answers" (.ref l5) (putF "_wishes" (.ref l4) (putF "_marks" (.ref l3) (putF "_downs" (.ref l2) (putF "_ups" (.ref l1) (putF "_states" (.ref l0) []))))))))).length ≤ 9 := Nat.le_trans putF_len (by omega)
  have u8 := Sp1.of (p := p) (o := .ins C dx (putF "_busies" (.ref l8) (putF "_idles" (.ref l7) (putF "_tasks" (.ref l6) (putF "_answers" (.ref l5) (putF "_wishes" (.ref l4) (putF "_marks" (.ref l3) (putF "_downs" (.ref l2) (putF "_ups" (.ref l1) (putF "_states" (.ref l0) [])))))))))) v8
  have z9 := Sp1.same z8 hp0 u8
  have y9 : (upd (upd (upd (upd (upd A6 p (.ins C dx (putF "_tasks" (.ref l6) (putF "_answers" (.ref l5) (putF "_wishes" (.ref l4) (putF "_marks" (.ref l3) (putF "_downs" (.ref l2) (putF "_ups" (.ref l1) (putF "_states" (.ref l0) []))))))))) l7 (.lst xs7)) p (.ins C dx (putF "_idles" (.ref l7) (putF "_tasks" (.ref l6) (putF "_answers" (.ref l5) (putF "_wishes" (.ref l4) (putF "_marks" (.ref l3) (putF "_downs" (.ref l2) (putF "_ups" (.ref l1) (putF "_states" (.ref l0) [])))))))))) l8 (.lst xs8)) p (.ins C dx (putF "_busies" (.ref l8) (putF "_idles" (.ref l7) (putF "_tasks" (.ref l6) (putF "_answers" (.ref l5) (putF "_wishes" (.ref l4) (putF "_marks" (.ref l3) (putF "_downs" (.ref l2) (putF "_ups" (.ref l1) (putF "_states" (.ref l0) []))))))))))) p = some (.ins C dx (putF "_busies" (.ref l8) (putF "_idles" (.ref l7) (putF "_tasks" (.ref l6) (putF "_answers" (.ref l5) (putF "_wishes" (.ref l4) (putF "_marks" (.ref l3) (putF "_downs" (.ref l2) (putF "_ups" (.ref l1) (putF "_states" (.ref l0) [])))))))))) := upd_same
  have x8 : (upd (upd (upd (upd (upd A6 p (.ins C dx (putF "_tasks" (.ref l6) (putF "_answers" (.ref l5) (putF "_wishes" (.ref l4) (putF "_marks" (.ref l3) (putF "_downs" (.ref l2) (putF "_ups" (.ref l1) (putF "_states" (.ref l0) []))))))))) l7 (.lst xs7)) p (.ins C dx (putF "_idles" (.ref l7) (putF "_tasks" (.ref l6) (putF "_answers" (.ref l5) (putF "_wishes" (.ref l4) (putF "_marks" (.ref l3) (putF "_downs" (.ref l2) (putF "_ups" (.ref l1) (putF "_states" (.ref l0) [])))))))))) l8 (.lst xs8)) p (.ins C dx (putF "_busies" (.ref l8) (putF "_idles" (.ref l7) (putF "_tasks" (.ref l6) (putF "_answers" (.ref l5) (putF "_wishes" (.ref l4) (putF "_marks" (.ref l3) (putF "_downs" (.ref l2) (putF "_ups" (.ref l1) (putF "_states" (.ref l0) []))))))))))) l8 = some (.lst xs8) := (upd_ne np8.symm).trans upd_same
  have lk := look9 (lsOf l0 l1 l2 l3 l4 l5 l6 l7 l8)
  refine ⟨_, rfl, p, C, dx, _, _, rfl, y9, B.c, B.no .ss, lk .ss, _, rfl, p, C, dx, _, _, rfl, y9, B.c, B.no .us, lk .us, _, rfl, p, C, dx, _, _, rfl, y9, B.c, B.no .ks, lk .ks, _, rfl, p, C, dx, _, _, rfl, y9, B.c, B.no .ms, lk .ms, _, rfl, p, C, dx, _, _, rfl, y9, B.c, B.no .ws, lk .ws, _, rfl, p, C, dx, _, _, rfl, y9, B.c, B.no .as, lk .as, _, rfl, p, C, dx, _, _, rfl, y9, B.c, B.no .ts, lk .ts, _, rfl, p, C, dx, _, _, rfl, y9, B.c, B.no .is, lk .is, _, rfl, p, C, dx, _, _, rfl, y9, B.c, B.no .bs, lk .bs, sz 9, fun tp htp => ?_⟩
  have v9 := same_upd (o := .tup [.ref l0, .ref l1, .ref l2, .ref l3, .ref l4, .ref l5, .ref l6, .ref l7, .ref l8]) htp
  have w9 := v9 _ _ y9
  refine ⟨_, rfl, p, C, dx, _, rfl, w9, B.c, B.noP, by have := g9; omega, ?_⟩
  have uT := Sp1.of (p := p) (o := .ins C dx (bookF (lsOf l0 l1 l2 l3 l4 l5 l6 l7 l8) tp)) v9
  have zT := Sp1.same z9 hp0 uT
  have t8 := uT
  have X8 := t8 _ _ np8.symm x8
  have t7 := u8.trans t8
  have X7 := t7 _ _ np7.symm x7
  have t6 := u7.trans t7
  have X6 := t6 _ _ np6.symm x6
  have t5 := u6.trans t6
  have X5 := t5 _ _ np5.symm x5
  have t4 := u5.trans t5
  have X4 := t4 _ _ np4.symm x4
  have t3 := u4.trans t4
  have X3 := t3 _ _ np3.symm x3
  have t2 := u3.trans t3
  have X2 := t2 _ _ np2.symm x2
  have t1 := u2.trans t2
  have X1 := t1 _ _ np1.symm x1
  have t0 := u1.trans t1
  have X0 := t0 _ _ np0.symm x0
  have t66 := (Sp1.of (p := p) (o := .ins C dx (putF "_tasks" (.ref l6) (putF "_answers" (.ref l5) (putF "_wishes" (.ref l4) (putF "_marks" (.ref l3) (putF "_downs" (.ref l2) (putF "_ups" (.ref l1) (putF "_states" (.ref l0) [])))))))) (Same.refl A6)).trans t6
  have D6 := d6'.sp1 t66 w6
  have eg0 := ok.flat (k := .ss) (by intro z; cases z) d0
  subst eg0
  have eg1 := ok.flat (k := .us) (by intro z; cases z) d1
  subst eg1
  have eg2 := ok.flat (k := .ks) (by intro z; cases z) d2
  subst eg2
  have eg3 := ok.flat (k := .ms) (by intro z; cases z) d3
  subst eg3
  have eg4 := ok.flat (k := .ws) (by intro z; cases z) d4
  subst eg4
  have eg5 := ok.flat (k := .as) (by intro z; cases z) d5
  subst eg5
  have eg7 := ok.flat (k := .is) (by intro z; cases z) d7
  subst eg7
  have eg8 := ok.flat (k := .bs) (by intro z; cases z) d8
  subst eg8
  have L6 : Live _ gq6 := DfL.live _ _ _ D6
  have mem : ∀ {a : Addr}, a ∈ [l0, l1, l2, l3, l4, l5] ++ (l6 :: gq6) ++ [l7, l8] → a = l0 ∨ a = l1 ∨ a = l2 ∨ a = l3 ∨ a = l4 ∨ a = l5 ∨ a = l6 ∨ a ∈ gq6 ∨ a = l7 ∨ a = l8 := fun {a} ha => by
    simpa using ha
  refine q _ ([l0, l1, l2, l3, l4, l5] ++ (l6 :: gq6) ++ [l7, l8]) zT ⟨fun a ha => ?_, dx, tp, lsOf l0 l1 l2 l3 l4 l5 l6 l7 l8, upd_same, (upd_ne (ne_of_none y9 htp).symm).trans upd_same, fun k => ?_⟩ (fun a ha => ?_)
  · rcases mem ha with e | e | e | e | e | e | e | e | e | e
    · rw [e]; exact ⟨_, X0⟩
    · rw [e]; exact ⟨_, X1⟩
    · rw [e]; exact ⟨_, X2⟩
    · rw [e]; exact ⟨_, X3⟩
    · rw [e]; exact ⟨_, X4⟩
    · rw [e]; exact ⟨_, X5⟩
    · rw [e]; exact ⟨_, X6⟩
    · exact L6 a e
    · rw [e]; exact ⟨_, X7⟩
    · rw [e]; exact ⟨_, X8⟩
  · cases k
    case ss => exact ⟨xs0, [], X0, d0.same zT, fun a ha => by
      rw [List.mem_singleton.mp ha]
      simp [lsOf]⟩
    case us => exact ⟨xs1, [], X1, d1.same zT, fun a ha => by
      rw [List.mem_singleton.mp ha]
      simp [lsOf]⟩
    case ks => exact ⟨xs2, [], X2, d2.same zT, fun a ha => by
      rw [List.mem_singleton.mp ha]
      simp [lsOf]⟩
    case ms => exact ⟨xs3, [], X3, d3.same zT, fun a ha => by
      rw [List.mem_singleton.mp ha]
      simp [lsOf]⟩
    case ws => exact ⟨xs4, [], X4, d4.same zT, fun a ha => by
      rw [List.mem_singleton.mp ha]
      simp [lsOf]⟩
    case as => exact ⟨xs5, [], X5, d5.same zT, fun a ha => by
      rw [List.mem_singleton.mp ha]
      simp [lsOf]⟩
    case ts => exact ⟨ys6, gq6, X6, D6, fun a ha => by
      rcases List.mem_cons.mp ha with h | h
      · rw [h]
        simp [lsOf]
      · simp [h]⟩
    case is => exact ⟨xs7, [], X7, d7.same zT, fun a ha => by
      rw [List.mem_singleton.mp ha]
      simp [lsOf]⟩
    case bs => exact ⟨xs8, [], X8, d8.same zT, fun a ha => by
      rw [List.mem_singleton.mp ha]
      simp [lsOf]⟩
  · rcases mem ha with e | e | e | e | e | e | e | e | e | e
    · rw [e]; exact f0
    · rw [e]; exact f1
    · rw [e]; exact f2
    · rw [e]; exact f3
    · rw [e]; exact f4
    · rw [e]; exact f5
    · rw [e]; exact Same.free' z6 (r6.2 _ List.mem_cons_self)
    · exact Same.free' z6 (r6.2 _ (List.mem_cons_of_mem _ e))
    · rw [e]; exact f7
    · rw [e]; exact f8
end
end My

namespace My
open PySem L2
abbrev s_l_same : Stmt := top 54
theorem sc_l_same : FnScope ["_law_told_here", "_law_due", "_law_k"] ["_law_told_here", "_law_due"] (defScope s_l_same) := ⟨rfl, rfl, rfl, by decide +kernel, rfl, by decide +kernel, by decide +kernel⟩
mutual
def Dt (H : Hp) : PyData → V → Prop
  | .none, v => v = .non
  | .bool b, v => v = .bl b
  | .int i, v => v = .int i
  | .str s, v => v = .str s
  | .list ds, v => ∃ a xs, v = .ref a ∧ H a = some (.lst xs) ∧ DtL H ds xs
  | .tuple ds, v => ∃ a xs, v = .ref a ∧ H a = some (.tup xs) ∧ DtL H ds xs
  | .dict _, _ => False
def DtL (H : Hp) : List PyData → List V → Prop
  | [], xs => xs = []
  | d :: ds, xs => ∃ x r, xs = x :: r ∧ Dt H d x ∧ DtL H ds r
end
mutual
theorem Df.dt {H : Hp} : ∀ (d : PyData) (v : V) (fp : List Addr), Df H d v fp → Dt H d v
  | .none, _, _, h => h.1
  | .bool _, _, _, h => h.1
  | .int _, _, _, h => h.1
  | .str _, _, _, h => h.1
  | .list ds, v, fp, h => by
    obtain ⟨a, xs, gp, e, ef, ha, hl⟩ := h
    exact ⟨a, xs, e, ha, DfL.dt ds xs gp hl⟩
  | .tuple ds, v, fp, h => by
    obtain ⟨a, xs, e, ha, hl⟩ := h
    exact ⟨a, xs, e, ha, DfL.dt ds xs fp hl⟩
  | .dict _, _, _, h => h.elim
theorem DfL.dt {H : Hp} : ∀ (ds : List PyData) (xs : List V) (fp : List Addr), DfL H ds xs fp → DtL H ds xs
  | [], xs, _, h => h.1
  | d :: ds, xs, fp, h => by
    obtain ⟨x, r, f, g, e, ef, hx, hr⟩ := h
    exact ⟨x, r, e, Df.dt d x f hx, DfL.dt ds r g hr⟩
end
theorem DtL.len {H : Hp} : ∀ {ds : List PyData} {xs : List V}, DtL H ds xs → xs.length = ds.length
  | [], xs, h => by
    have e : xs = [] := h
    rw [e]
    rfl
  | d :: ds, _, h => by
    obtain ⟨x, r, rfl, _, hr⟩ := h
    show r.length + 1 = ds.length + 1
    rw [DtL.len hr]
theorem DtL.get {H : Hp} : ∀ {ds : List PyData} {xs : List V} {i : Nat} {d : PyData}, DtL H ds xs → ds[i]? = some d → ∃ x, xs[i]? = some x ∧ Dt H d x
  | [], _, _, _, _, e => by simp at e
  | d :: ds, _, 0, _, h, e => by
    obtain ⟨x, r, rfl, hx, _⟩ := h
    simp at e
    subst e
    exact ⟨x, rfl, hx⟩
  | d :: ds, _, i + 1, _, h, e => by
    obtain ⟨x, r, rfl, _, hr⟩ := h
    obtain ⟨y, h1, h2⟩ := DtL.get (i := i) hr (by simpa using e)
    exact ⟨y, by simpa using h1, h2⟩
/-- no longer than 1000, no deeper than n -/
def okd : Nat → PyData → Prop
  | _, .none => True
  | _, .bool _ => True
  | _, .int _ => True
  | _, .str _ => True
  | n + 1, .list ds => ds.length ≤ 1000 ∧ ∀ d ∈ ds, okd n d
  | n + 1, .tuple ds => ds.length ≤ 1000 ∧ ∀ d ∈ ds, okd n d
  | 0, .list _ => False
  | 0, .tuple _ => False
  | _, .dict _ => False
theorem okd_str {n : Nat} {s : Str} : okd n (.str s) := by cases n <;> trivial
theorem okd_bool {n : Nat} {s : Bool} : okd n (.bool s) := by cases n <;> trivial
theorem okd_oN {n : Nat} {o : Option Str} : okd n (oN o) := by cases o <;> cases n <;> trivial
theorem okd_strs {n : Nat} {ss : List Str} (h : ss.length ≤ 1000) : okd (n + 1) (.list (ss.map .str)) := ⟨by rw [List.length_map]; exact h, fun d hd => by
  obtain ⟨s, _, rfl⟩ := List.mem_map.mp hd
  exact okd_str⟩
theorem okd_item {N : Nm5} (hN : NOk N) {k : Pk} {d : PyData} (h : ItemR N k d) : okd 3 d := by
  cases k
  case ss =>
    obtain ⟨s, t, rfl, _⟩ := h
    exact ⟨by simp, by simp [okd_str]⟩
  case us =>
    obtain ⟨s, t, rfl, _⟩ := h
    exact ⟨by simp, by simp [okd_str, okd_bool]⟩
  case ks =>
    obtain ⟨s, t, rfl, _⟩ := h
    exact ⟨by simp, by simp [okd_str, okd_bool]⟩
  case ms =>
    obtain ⟨s, rfl, _⟩ := h
    exact okd_str
  case ws =>
    obtain ⟨a, b, u, rfl, _⟩ := h
    exact ⟨by simp, by simp [okd_str, okd_oN]⟩
  case as =>
    obtain ⟨a, k, b, u, rfl, _⟩ := h
    exact ⟨by simp, by simp [okd_str, okd_oN]⟩
  case ts =>
    obtain ⟨nm, _, cs, qs, es, m, k, o, rfl, hcl, hcs, hqn, hqd, hqs, hel, hes, hm, hk, ho⟩ := h
    have b6 := hN.mk6
    have q6 : qs.length ≤ 6 := Nat.le_trans (nodup_le hqd hqs) b6
    have hc : okd 2 (.list cs) := ⟨by omega, fun c hc => by
      obtain ⟨m, k, rfl, _⟩ := hcs c hc
      exact ⟨by simp, by simp [okd_str, okd_oN]⟩⟩
    have hq : okd 2 (.list (qs.map .str)) := okd_strs (by omega)
    have he : okd 2 (.list (es.map .str)) := okd_strs (by omega)
    refine ⟨by show 7 ≤ 1000; decide, fun d hd => ?_⟩
    rcases List.mem_cons.mp hd with rfl | hd
    · exact okd_str
    rcases List.mem_cons.mp hd with rfl | hd
    · exact hc
    rcases List.mem_cons.mp hd with rfl | hd
    · exact hq
    rcases List.mem_cons.mp hd with rfl | hd
    · exact he
    rcases List.mem_cons.mp hd with rfl | hd
    · exact okd_str
    rcases List.mem_cons.mp hd with rfl | hd
    · exact okd_oN
    rw [List.mem_singleton.mp hd]
    exact okd_str
  case is =>
    rcases h with ⟨m, u, t, rfl, _⟩ | ⟨m, u, n, k, f, rfl, _⟩
    · exact ⟨by simp, by simp [okd_str]⟩
    · exact ⟨by show 5 ≤ 1000; decide, by simp [okd_str, okd_oN, okd_bool]⟩
  case bs =>
    obtain ⟨t, m, u, n, k, f, rfl, _⟩ := h
    exact ⟨by show 6 ≤ 1000; decide, by simp [okd_str, okd_oN, okd_bool]⟩
theorem RB.Ok.okd {b : RB} (ok : b.Ok) : okd 5 (.list b.parts) := ⟨by show 9 ≤ 1000; decide, fun d hd => by
  rw [RB.parts_eq] at hd
  obtain ⟨k, _, rfl⟩ := List.mem_map.mp hd
  obtain ⟨_, hhi, hit, _⟩ := ok.fact k
  exact ⟨Nat.le_trans hhi (Nat.le_trans k.hi30 (by decide)), fun d hd => okd_item ok.n (hit d hd)⟩⟩
def spSame (n : Nat) : Sp := fun vs H Q _ => ∃ (t u : V) (d : PyData), vs = [t, u] ∧ Dt H d t ∧ Dt H d u ∧ okd n d ∧ Q (.bl true) H
section
variable {P : Program} {w : World} {K : PySem.W.Frag} {mg : Str → Option Value} {base : Heap}
theorem none_left {f : Addr} {fd : FuncData} : FnOk P w K mg base CX0 0 f fd ["_law_told_here", "_law_due"] (fun _ _ _ _ => False) := ⟨fun vs H Q E h => h.elim, fun A outer s H args us vs Q E _ _ _ _ h => h.elim⟩
theorem same_step {f : Addr} {fd : FuncData} {n : Nat} {sp : Sp} (D_l_same : DefT K mg "_law_same" "_law_same" s_l_same ["_law_told_here", "_law_due"] f fd) (Z : Zs mg)
    (G_l_same : FnOk P w K mg base CX0 n f fd ["_law_told_here", "_law_due"] sp) (hsp : ∀ m, n = m + 1 → sp = spSame m) : FnOk P w K mg base CX0 (n + 1) f fd ["_law_told_here", "_law_due"] (spSame n) := by
  refine D_l_same.F.ok sc_l_same (fun vs H Q E h => ?_) (fun cdv A outer s H vs Q E hr h => ?_)
  · obtain ⟨t, u, d, rfl, _⟩ := h
    rfl
  obtain ⟨t, u, d, rfl, ht, hu, hd, q⟩ := h
  refine ⟨_, (pss_cons (ps_if (pt_cmpR op_isN (pv 1) pe_non (nomark _)) (pss_one (ps_ret (pe_cmpR op_isN (pv 0) pe_non (nomark _)))) pss_nil) (pss_cons (ps_if (pt_val (pe_callB call_isi (by rfl) Z.isinstance (by decide +kernel) (pa_cons (pv 1) (pa_cons (pe_bltn (v := .ty "bool") (by rfl) Z.bool (by decide +kernel) rfl) pa_nil)))) (pss_one (ps_ret (pe_and (pe_callB call_isi (by rfl) Z.isinstance (by decide +kernel) (pa_cons (pv 0) (pa_cons (pe_bltn (v := .ty "bool") (by rfl) Z.bool (by decide +kernel) rfl) pa_nil))) (pe_one (pe_cmpR op_eq (pv 0) (pv 1) (nomark _)))))) pss_nil) (pss_cons (ps_if (pt_val (pe_callB call_isi (by rfl) Z.isinstance (by decide +kernel) (pa_cons (pv 1) (pa_cons (pe_bltn (v := .ty "str") (by rfl) Z.str (by decide +kernel) rfl) pa_nil)))) (pss_one (ps_ret (pe_and (pe_callB call_isi (by rfl) Z.isinstance (by decide +kernel) (pa_cons (pv 0) (pa_cons (pe_bltn (v := .ty "str") (by rfl) Z.str (by decide +kernel) rfl) pa_nil))) (pe_one (pe_cmpR op_eq (pv 0) (pv 1) (nomark _)))))) pss_nil) (pss_cons (ps_if (pt_val (pe_callB call_isi (by rfl) Z.isinstance (by decide +kernel) (pa_cons (pv 1) (pa_cons (pe_bltn (v := .ty "int") (by rfl) Z.int (by decide +kernel) rfl) pa_nil)))) (pss_one (ps_ret (pe_and (pe_callB call_isi (by rfl) Z.isinstance (by decide +kernel) (pa_cons (pv 0) (pa_cons (pe_bltn (v := .ty "int") (by rfl) Z.int (by decide +kernel) rfl) pa_nil))) (pe_and (pe_not (pe_callB call_isi (by rfl) Z.isinstance (by decide +kernel) (pa_cons (pv 0) (pa_cons (pe_bltn (v := .ty "bool") (by rfl) Z.bool (by decide +kernel) rfl) pa_nil)))) (pe_one (pe_cmpR op_eq (pv 0) (pv 1) (nomark _))))))) pss_nil) (pss_cons (ps_if (PW.pt (pw_or (PW.pt (pw_and (pt_val (pe_callB call_isi (by rfl) Z.isinstance (by decide +kernel) (pa_cons (pv 1) (pa_cons (pe_bltn (v := .ty "tuple") (by rfl) Z.tuple (by decide +kernel) rfl) pa_nil)))) (pw_and1 (pt_not (pt_val (pe_callB call_isi (by rfl) Z.isinstance (by decide +kernel) (pa_cons (pv 0) (pa_cons (pe_bltn (v := .ty "tuple") (by rfl) Z.tuple (by decide +kernel) rfl) pa_nil)))))))) (pw_or1 (PW.pt (pw_and (pt_val (pe_callB call_isi (by rfl) Z.isinstance (by decide +kernel) (pa_cons (pv 1) (pa_cons (pe_bltn (v := .ty "list") (by rfl) Z.list (by decide +kernel) rfl) pa_nil)))) (pw_and1 (pt_not (pt_val (pe_callB call_isi (by rfl) Z.isinstance (by decide +kernel) (pa_cons (pv 0) (pa_cons (pe_bltn (v := .ty "list") (by rfl) Z.list (by decide +kernel) rfl) pa_nil))))))))))) (pss_one (ps_ret pe_bl)) pss_nil) (pss_cons (ps_if (pt_cmpR op_ne (pe_callB call_len_seq (by rfl) Z.len (by decide +kernel) (pa_cons (pv 0) pa_nil)) (pe_callB call_len_seq (by rfl) Z.len (by decide +kernel) (pa_cons (pv 1) pa_nil)) (nomark _)) (pss_one (ps_ret pe_bl)) pss_nil) (pss_cons (ps_for PassesOwn.never rfl (pi_range1 rfl Z.range (pa_cons (pe_callB call_len_seq (by rfl) Z.len (by decide +kernel) (pa_cons (pv 1) pa_nil)) pa_nil)) (pg_name (i := 2) sc_l_same.nd rfl (Or.inl rfl)) (pss_one (ps_if (pt_not (pt_val (pe_call G_l_same hr rfl D_l_same.m D_l_same.F.kp D_l_same.b .nil pass0 (pa_cons (pe_ix ix_seq (pv 0) (pv 2) (fun _ _ => rfl)) (pa_cons (pe_ix ix_seq (pv 1) (pv 2) (fun _ _ => rfl)) pa_nil))))) (pss_one (ps_ret pe_bl)) pss_nil))) (pss_one (ps_ret pe_bl))))))))), ?_⟩
  cases d with
  | none =>
    have et : t = .non := ht
    have eu : u = .non := hu
    subst et eu
    refine ⟨_, rfl, rfl, _, rfl, iteT ?_⟩
    exact ⟨_, rfl, rfl, q⟩
  | bool b =>
    have et : t = .bl b := ht
    have eu : u = .bl b := hu
    subst et eu
    refine ⟨_, rfl, rfl, _, rfl, iteF ?_⟩
    have ty : TyX K H (.bl b) (.type "bool") := .base (.bl b)
    refine ⟨_, rfl, _, _, _, _, _, rfl, .ty _, ty, kit_ty (r := true) (by decide +kernel), _, rfl, iteT ?_⟩
    refine ⟨_, rfl, _, _, _, _, _, rfl, .ty _, ty, kit_ty (r := true) (by decide +kernel), _, rfl, iteT ?_⟩
    refine ⟨_, rfl, _, rfl, rfl, ?_⟩
    rw [decide_eq_true rfl]
    exact q
  | str x =>
    have et : t = .str x := ht
    have eu : u = .str x := hu
    subst et eu
    refine ⟨_, rfl, rfl, _, rfl, iteF ?_⟩
    have ty : TyX K H (.str x) (.type "str") := .base (.str x)
    refine ⟨_, rfl, _, _, _, _, _, rfl, .ty _, ty, kit_ty (r := false) (by decide +kernel), _, rfl, iteF ?_⟩
    refine ⟨_, rfl, _, _, _, _, _, rfl, .ty _, ty, kit_ty (r := true) (by decide +kernel), _, rfl, iteT ?_⟩
    refine ⟨_, rfl, _, _, _, _, _, rfl, .ty _, ty, kit_ty (r := true) (by decide +kernel), _, rfl, iteT ?_⟩
    refine ⟨_, rfl, _, rfl, rfl, ?_⟩
    rw [decide_eq_true rfl]
    exact q
  | int i =>
    have et : t = .int i := ht
    have eu : u = .int i := hu
    subst et eu
    refine ⟨_, rfl, rfl, _, rfl, iteF ?_⟩
    have ty : TyX K H (.int i) (.type "int") := .base (.int i)
    refine ⟨_, rfl, _, _, _, _, _, rfl, .ty _, ty, kit_ty (r := false) (by decide +kernel), _, rfl, iteF ?_⟩
    refine ⟨_, rfl, _, _, _, _, _, rfl, .ty _, ty, kit_ty (r := false) (by decide +kernel), _, rfl, iteF ?_⟩
    refine ⟨_, rfl, _, _, _, _, _, rfl, .ty _, ty, kit_ty (r := true) (by decide +kernel), _, rfl, iteT ?_⟩
    refine ⟨_, rfl, _, _, _, _, _, rfl, .ty _, ty, kit_ty (r := true) (by decide +kernel), _, rfl, iteT ?_⟩
    refine ⟨_, rfl, _, _, _, _, _, rfl, .ty _, ty, kit_ty (r := false) (by decide +kernel), _, rfl, _, rfl, iteT ?_⟩
    refine ⟨_, rfl, _, rfl, rfl, ?_⟩
    rw [decide_eq_true rfl]
    exact q
  | list ds =>
    obtain ⟨a, xs, rfl, ha, hl⟩ := ht
    obtain ⟨b, ys, rfl, hb, gl⟩ := hu
    refine ⟨_, rfl, rfl, _, rfl, iteF ?_⟩
    have ty : TyX K H (.ref a) (.type "list") := .base (.lst ha)
    have tz : TyX K H (.ref b) (.type "list") := .base (.lst hb)
    refine ⟨_, rfl, _, _, _, _, _, rfl, .ty _, tz, kit_ty (r := false) (by decide +kernel), _, rfl, iteF ?_⟩
    refine ⟨_, rfl, _, _, _, _, _, rfl, .ty _, tz, kit_ty (r := false) (by decide +kernel), _, rfl, iteF ?_⟩
    refine ⟨_, rfl, _, _, _, _, _, rfl, .ty _, tz, kit_ty (r := false) (by decide +kernel), _, rfl, iteF ?_⟩
    refine ⟨_, rfl, _, _, _, _, _, rfl, .ty _, tz, kit_ty (r := false) (by decide +kernel), _, rfl, iteF (iteF ?_)⟩
    refine ⟨_, rfl, _, _, _, _, _, rfl, .ty _, tz, kit_ty (r := true) (by decide +kernel), _, rfl, iteT ?_⟩
    refine ⟨_, rfl, _, _, _, _, _, rfl, .ty _, ty, kit_ty (r := true) (by decide +kernel), _, rfl, iteF ?_⟩
    cases n with
    | zero => exact hd.elim
    | succ n =>
      have hsp' := hsp n rfl
      subst hsp'
      obtain ⟨hd1, hd2⟩ := hd
      have lx := hl.len
      have ly := gl.len
      have l0 : ¬ (V.int ((xs.length : Nat) : Int) ≠ V.int ((ys.length : Nat) : Int)) := fun z => z (by rw [lx, ly])
      -- if len(told) != len(due)
      refine ⟨_, rfl, a, xs, rfl, .inl (SqL.of ha), _, rfl, b, ys, rfl, .inl (SqL.of hb), rfl, _, rfl, ?_⟩
      rw [lx, ly]
      refine iteNS rfl ?_
      -- for k in range(len(due))
      refine ⟨_, rfl, b, ys, rfl, .inl (SqL.of hb), _, rfl, by omega, by omega, ?_⟩
      have en : ((ys.length : Nat) : Int).toNat = ys.length := by omega
      rw [en]
      refine for_range (fun i σ H' => i ≤ ys.length ∧ H' = H ∧ ∃ v, σ = [some (.ref a), some (.ref b), v]) ⟨Nat.zero_le _, rfl, none, rfl⟩ ?_ ?_
      · rintro i σ H' hi ⟨_, rfl, v, rfl⟩
        have hi2 : i < ds.length := by omega
        obtain ⟨x, hx, dx⟩ := hl.get (List.getElem?_eq_getElem hi2)
        obtain ⟨y, hy, dy⟩ := gl.get (List.getElem?_eq_getElem hi2)
        have e : (0 : Int) + (i : Int) = ((i : Nat) : Int) := by omega
        rw [e]
        refine ⟨_, rfl, _, rfl, .inl ⟨a, xs, _, x, rfl, rfl, SqL.of ha, atI_nat hx, _, rfl, _, rfl, .inl ⟨b, ys, _, y, rfl, rfl, SqL.of hb, atI_nat hy, ?_⟩⟩⟩
        refine ⟨x, y, ds[i], rfl, dx, dy, hd2 _ (List.getElem_mem hi2), _, rfl, iteF ?_⟩
        exact ⟨hi, rfl, _, rfl⟩
      · rintro σ H' ⟨_, rfl, v, rfl⟩
        exact q
  | tuple ds =>
    obtain ⟨a, xs, rfl, ha, hl⟩ := ht
    obtain ⟨b, ys, rfl, hb, gl⟩ := hu
    refine ⟨_, rfl, rfl, _, rfl, iteF ?_⟩
    have ty : TyX K H (.ref a) (.type "tuple") := .base (.tup ha)
    have tz : TyX K H (.ref b) (.type "tuple") := .base (.tup hb)
    refine ⟨_, rfl, _, _, _, _, _, rfl, .ty _, tz, kit_ty (r := false) (by decide +kernel), _, rfl, iteF ?_⟩
    refine ⟨_, rfl, _, _, _, _, _, rfl, .ty _, tz, kit_ty (r := false) (by decide +kernel), _, rfl, iteF ?_⟩
    refine ⟨_, rfl, _, _, _, _, _, rfl, .ty _, tz, kit_ty (r := false) (by decide +kernel), _, rfl, iteF ?_⟩
    refine ⟨_, rfl, _, _, _, _, _, rfl, .ty _, tz, kit_ty (r := true) (by decide +kernel), _, rfl, iteT ?_⟩
    refine ⟨_, rfl, _, _, _, _, _, rfl, .ty _, ty, kit_ty (r := true) (by decide +kernel), _, rfl, iteF ?_⟩
    refine ⟨_, rfl, _, _, _, _, _, rfl, .ty _, tz, kit_ty (r := false) (by decide +kernel), _, rfl, iteF (iteF ?_)⟩
    cases n with
    | zero => exact hd.elim
    | succ n =>
      have hsp' := hsp n rfl
      subst hsp'
      obtain ⟨hd1, hd2⟩ := hd
      have lx := hl.len
      have ly := gl.len
      have l0 : ¬ (V.int ((xs.length : Nat) : Int) ≠ V.int ((ys.length : Nat) : Int)) := fun z => z (by rw [lx, ly])
      -- if len(told) != len(due)
      refine ⟨_, rfl, a, xs, rfl, .inr (SqT.of ha), _, rfl, b, ys, rfl, .inr (SqT.of hb), rfl, _, rfl, ?_⟩
      rw [lx, ly]
      refine iteNS rfl ?_
      -- for k in range(len(due))
      refine ⟨_, rfl, b, ys, rfl, .inr (SqT.of hb), _, rfl, by omega, by omega, ?_⟩
      have en : ((ys.length : Nat) : Int).toNat = ys.length := by omega
      rw [en]
      refine for_range (fun i σ H' => i ≤ ys.length ∧ H' = H ∧ ∃ v, σ = [some (.ref a), some (.ref b), v]) ⟨Nat.zero_le _, rfl, none, rfl⟩ ?_ ?_
      · rintro i σ H' hi ⟨_, rfl, v, rfl⟩
        have hi2 : i < ds.length := by omega
        obtain ⟨x, hx, dx⟩ := hl.get (List.getElem?_eq_getElem hi2)
        obtain ⟨y, hy, dy⟩ := gl.get (List.getElem?_eq_getElem hi2)
        have e : (0 : Int) + (i : Int) = ((i : Nat) : Int) := by omega
        rw [e]
        refine ⟨_, rfl, _, rfl, .inr (.inl ⟨a, xs, _, x, rfl, rfl, SqT.of ha, atI_nat hx, _, rfl, _, rfl, .inr (.inl ⟨b, ys, _, y, rfl, rfl, SqT.of hb, atI_nat hy, ?_⟩)⟩)⟩
        refine ⟨x, y, ds[i], rfl, dx, dy, hd2 _ (List.getElem_mem hi2), _, rfl, iteF ?_⟩
        exact ⟨hi, rfl, _, rfl⟩
      · rintro σ H' ⟨_, rfl, v, rfl⟩
        exact q
  | dict _ => exact ht.elim
theorem ok_same {f : Addr} {fd : FuncData} (D : DefT K mg "_law_same" "_law_same" s_l_same ["_law_told_here", "_law_due"] f fd) (Z : Zs mg) : ∀ n : Nat, FnOk P w K mg base CX0 (n + 1) f fd ["_law_told_here", "_law_due"] (spSame n)
  | 0 => same_step D Z (none_left) fun m h => by omega
  | n + 1 => same_step D Z (ok_same D Z n) fun m h => by
    have e : n = m := by omega
    rw [e]
end
end My

namespace My
open PySem L2
abbrev s_l_copy : Stmt := top 51
abbrev s_l_book : Stmt := top 52
abbrev s_l_told : Stmt := top 53
theorem sc_l_copy : FnScope ["_law_parts_here", "_law_made", "_law_part", "_law_row"] ["_law_parts_here"] (defScope s_l_copy) := ⟨rfl, rfl, rfl, by decide +kernel, rfl, by decide +kernel, by decide +kernel⟩
theorem sc_l_book : FnScope ["_law_parts_here"] ["_law_parts_here"] (defScope s_l_book) := ⟨rfl, rfl, rfl, by decide +kernel, rfl, by decide +kernel, by decide +kernel⟩
theorem sc_l_told : FnScope ["_law_book_here", "_law_first"] ["_law_book_here"] (defScope s_l_told) := ⟨rfl, rfl, rfl, by decide +kernel, rfl, by decide +kernel, by decide +kernel⟩
def refs (hs : Pk → Addr) : List V := [.ref (hs .ss), .ref (hs .us), .ref (hs .ks), .ref (hs .ms), .ref (hs .ws), .ref (hs .as), .ref (hs .ts), .ref (hs .is), .ref (hs .bs)]
theorem refs_eq (hs : Pk → Addr) : refs hs = allPk.map fun k => .ref (hs k) := rfl
/-- the lists that a stranger may change -/
def mts (hs : Pk → Addr) (gt : List Addr) : List Addr := [hs .ss, hs .us, hs .ks, hs .ms, hs .ws, hs .as, hs .is, hs .bs] ++ (hs .ts :: gt)
/-- the list of the nine lists -/
def Hand (G : Hp) (b : RB) (m : Addr) (hs : Pk → Addr) (xt : List V) (gt : List Addr) : Prop :=
  G m = some (.lst (refs hs)) ∧ (∀ k, k ≠ .ts → ∃ xs, G (hs k) = some (.lst xs) ∧ DfL G (b.ds k) xs []) ∧ G (hs .ts) = some (.lst xt) ∧ DfL G b.ts xt gt
def Copy (H G : Hp) (b : RB) (m : Addr) (hs : Pk → Addr) (xt : List V) (gt : List Addr) : Prop := Same H G ∧ Hand G b m hs xt gt ∧ Fr H (mts hs gt) ∧ H m = none ∧ m ∉ mts hs gt
theorem Hand.nine {G : Hp} {b : RB} {m : Addr} {hs : Pk → Addr} {xt : List V} {gt : List Addr} (h : Hand G b m hs xt gt) : Nine G b hs := fun k => by
  by_cases e : k = .ts
  · subst e
    exact ⟨xt, gt, h.2.2.1, h.2.2.2⟩
  · obtain ⟨xs, h1, h2⟩ := h.2.1 k e
    exact ⟨xs, [], h1, h2⟩
theorem Nine.df {G : Hp} {b : RB} {m : Addr} {hs : Pk → Addr} (h : Nine G b hs) (e : G m = some (.lst (refs hs))) : ∃ fp, Df G (.list b.parts) (.ref m) fp := by
  obtain ⟨fp, hd⟩ := h.dfl allPk
  exact ⟨_, m, _, fp, rfl, rfl, e, hd⟩
theorem Hand.live {G : Hp} {b : RB} {m : Addr} {hs : Pk → Addr} {xt : List V} {gt : List Addr} (h : Hand G b m hs xt gt) : Live G (mts hs gt) := by
  have hk : ∀ k, ∃ xs, G (hs k) = some (.lst xs) := fun k => by
    obtain ⟨xs, _, e, _⟩ := h.nine k
    exact ⟨xs, e⟩
  refine Live.add (fun a ha => ?_) (fun a ha => ?_)
  · simp only [List.mem_cons, List.not_mem_nil, or_false] at ha
    rcases ha with e | e | e | e | e | e | e | e <;> (rw [e]; exact hk _)
  · rcases List.mem_cons.mp ha with e | e
    · rw [e]
      exact hk _
    · exact DfL.live _ _ _ h.2.2.2 a e
theorem Fr.sub {H : Hp} {as bs : List Addr} (f : Fr H bs) (s : as.Sublist bs) : Fr H as := ⟨f.1.sublist s, fun a ha => f.2 a (s.subset ha)⟩
theorem Fr.perm {H : Hp} {as bs : List Addr} (f : Fr H bs) (s : bs.Perm as) : Fr H as := ⟨s.nodup_iff.mp f.1, fun a ha => f.2 a (s.mem_iff.mpr ha)⟩
theorem len9 : ∀ {as : List Addr}, as.length = 9 → ∃ a0 a1 a2 a3 a4 a5 a6 a7 a8, as = [a0, a1, a2, a3, a4, a5, a6, a7, a8]
  | [a0, a1, a2, a3, a4, a5, a6, a7, a8], _ => ⟨_, _, _, _, _, _, _, _, _, rfl⟩
theorem DfL.nine {H : Hp} {b : RB} {xs : List V} {fp : List Addr} (h : DfL H b.parts xs fp) : ∃ hs : Pk → Addr, xs = refs hs ∧ Nine H b hs := by
  obtain ⟨x0, r0, f0, q0, rfl, rfl, ⟨l0, y0, g0, rfl, rfl, e0, d0⟩, x1, r1, f1, q1, rfl, rfl, ⟨l1, y1, g1, rfl, rfl, e1, d1⟩, x2, r2, f2, q2, rfl, rfl, ⟨l2, y2, g2, rfl, rfl, e2, d2⟩, x3, r3, f3, q3, rfl, rfl, ⟨l3, y3, g3, rfl, rfl, e3, d3⟩, x4, r4, f4, q4, rfl, rfl, ⟨l4, y4, g4, rfl, rfl, e4, d4⟩, x5, r5, f5, q5, rfl, rfl, ⟨l5, y5, g5, rfl, rfl, e5, d5⟩, x6, r6, f6, q6, rfl, rfl, ⟨l6, y6, g6, rfl, rfl, e6, d6⟩, x7, r7, f7, q7, rfl, rfl, ⟨l7, y7, g7, rfl, rfl, e7, d7⟩, x8, r8, f8, q8, rfl, rfl, ⟨l8, y8, g8, rfl, rfl, e8, d8⟩, rfl, rfl⟩ := h
  refine ⟨lsOf l0 l1 l2 l3 l4 l5 l6 l7 l8, rfl, fun k => ?_⟩
  cases k
  case ss => exact ⟨y0, g0, e0, d0⟩
  case us => exact ⟨y1, g1, e1, d1⟩
  case ks => exact ⟨y2, g2, e2, d2⟩
  case ms => exact ⟨y3, g3, e3, d3⟩
  case ws => exact ⟨y4, g4, e4, d4⟩
  case as => exact ⟨y5, g5, e5, d5⟩
  case ts => exact ⟨y6, g6, e6, d6⟩
  case is => exact ⟨y7, g7, e7, d7⟩
  case bs => exact ⟨y8, g8, e8, d8⟩
theorem F8p (l0 l1 l2 l3 l4 l5 l6 l7 l8 : Addr) (g6 : List Addr) : List.Perm ([l0, l1, l2, l3, l4, l5] ++ (l6 :: g6) ++ [l7] ++ [l8]) (mts (lsOf l0 l1 l2 l3 l4 l5 l6 l7 l8) g6) := by
  show List.Perm ([l0, l1, l2, l3, l4, l5] ++ (l6 :: g6) ++ [l7] ++ [l8]) ([l0, l1, l2, l3, l4, l5, l7, l8] ++ (l6 :: g6))
  rw [List.append_assoc, List.append_assoc]
  show List.Perm ([l0, l1, l2, l3, l4, l5] ++ ((l6 :: g6) ++ ([l7] ++ [l8]))) ([l0, l1, l2, l3, l4, l5] ++ ([l7, l8] ++ (l6 :: g6)))
  exact List.Perm.append_left _ List.perm_append_comm
def spCopy : Sp := fun vs H Q _ => ∃ (a : Addr) (hs0 : Pk → Addr) (b : RB), vs = [.ref a] ∧ H a = some (.lst (refs hs0)) ∧ Nine H b hs0 ∧ b.Ok ∧ ∀ (G : Hp) (m : Addr) (hs : Pk → Addr) (xt : List V) (gt : List Addr), Copy H G b m hs xt gt → Q (.ref m) G
def spTold (C : Addr) : Sp := fun vs H Q _ => ∃ (p : Addr) (b : RB) (fp : List Addr), vs = [.ref p] ∧ BookAt C b H p fp ∧ b.Ok ∧ ∀ (G : Hp) (m : Addr) (hs : Pk → Addr) (xt : List V) (gt : List Addr), Copy H G b m hs xt gt → Q (.ref m) G
def spBook (C : Addr) : Sp := fun vs H Q _ => ∃ (a : Addr) (hs0 : Pk → Addr) (b : RB), vs = [.ref a] ∧ H a = some (.lst (refs hs0)) ∧ Nine H b hs0 ∧ b.Ok ∧ ∀ (G : Hp) (p : Addr) (fp : List Addr), Same H G → BookAt C b G p fp → (∀ a ∈ fp, H a = none) → Q (.ref p) G
structure Meths (K : PySem.W.Frag) (C : Addr) (fs : Pk → Addr) (fds : Pk → FuncData) : Prop where
  ss_ : DefM K C "states" "Book.states" s_Book_states ["self"] (fs .ss) (fds .ss)
  us_ : DefM K C "ups" "Book.ups" s_Book_ups ["self"] (fs .us) (fds .us)
  ks_ : DefM K C "downs" "Book.downs" s_Book_downs ["self"] (fs .ks) (fds .ks)
  ms_ : DefM K C "marks" "Book.marks" s_Book_marks ["self"] (fs .ms) (fds .ms)
  ws_ : DefM K C "wishes" "Book.wishes" s_Book_wishes ["self"] (fs .ws) (fds .ws)
  as_ : DefM K C "answers" "Book.answers" s_Book_answers ["self"] (fs .as) (fds .as)
  ts_ : DefM K C "tasks" "Book.tasks" s_Book_tasks ["self"] (fs .ts) (fds .ts)
  is_ : DefM K C "idles" "Book.idles" s_Book_idles ["self"] (fs .is) (fds .is)
  bs_ : DefM K C "busies" "Book.busies" s_Book_busies ["self"] (fs .bs) (fds .bs)
section
variable {P : Program} {w : World} {K : PySem.W.Frag} {mg : Str → Option Value} {base : Heap} {tl : Tok} {aP aN aT aO aL aH aI : Addr} {it : Pk → Addr}
theorem ok_copy {f : Addr} {fd : FuncData} (D : DefT K mg "_law_copy" "_law_copy" s_l_copy ["_law_parts_here"] f fd) (Z : Zs mg) : FnOk P w K mg base CX0 1 f fd ["_law_parts_here"] spCopy := by
  refine D.F.ok sc_l_copy (fun vs H Q E h => ?_) (fun cdv A outer s H vs Q E hr h => ?_)
  · obtain ⟨a, hs0, b, rfl, _⟩ := h
    rfl
  obtain ⟨a, hs0, b, rfl, ha, hN, ok, q⟩ := h
  refine ⟨_, (pss_cons (ps_setLc (i := 1) (own := [("_law_part", 2)]) (g := gName 2) rfl sc_l_copy.nd rfl rfl (sw_true rfl rfl rfl (by decide +kernel)) (pi_list (pv 0)) (blkOk_by (own := [("_law_part", 2)]) (N := ["_law_parts_here", "_law_made", "_law_part", "_law_row"]) (sc := defScope s_l_copy) (by decide +kernel)) (fun _ _ _ _ _ => pg_name (i := 2) sc_l_copy.nd rfl (Or.inl rfl)) (fun _ _ _ _ _ => pts_nil) (fun _ _ _ _ _ => (pe_callTy (call_list_ofK (K := K) rfl) (by rfl) Z.list (by decide +kernel) (pa_cons (pv 2) pa_nil)))) (pss_cons (ps_asg (pe_lc (own := [("_law_row", 3)]) (g := gName 3) rfl sc_l_copy.nd  (pi_list (pe_ix ix_list (pv 0) pe_int (fun _ _ => rfl))) (blkOk_by (own := [("_law_row", 3)]) (N := ["_law_parts_here", "_law_made", "_law_part", "_law_row"]) (sc := defScope s_l_copy) (by decide +kernel)) (fun _ _ _ _ _ => pg_name (i := 3) sc_l_copy.nd rfl (Or.inl rfl)) (fun _ _ _ _ _ => pts_nil) (fun _ _ _ _ _ => (pe_tup (pa_cons (pe_ix (ix_tupK (K := K) rfl) (pv 3) pe_int (fun _ _ => rfl)) (pa_cons (pe_callTy (call_list_ofK (K := K) rfl) (by rfl) Z.list (by decide +kernel) (pa_cons (pe_ix (ix_tupK (K := K) rfl) (pv 3) pe_int (fun _ _ => rfl)) pa_nil)) (pa_cons (pe_callTy (call_list_ofK (K := K) rfl) (by rfl) Z.list (by decide +kernel) (pa_cons (pe_ix (ix_tupK (K := K) rfl) (pv 3) pe_int (fun _ _ => rfl)) pa_nil)) (pa_cons (pe_callTy (call_list_ofK (K := K) rfl) (by rfl) Z.list (by decide +kernel) (pa_cons (pe_ix (ix_tupK (K := K) rfl) (pv 3) pe_int (fun _ _ => rfl)) pa_nil)) (pa_cons (pe_ix (ix_tupK (K := K) rfl) (pv 3) pe_int (fun _ _ => rfl)) (pa_cons (pe_ix (ix_tupK (K := K) rfl) (pv 3) pe_int (fun _ _ => rfl)) (pa_cons (pe_ix (ix_tupK (K := K) rfl) (pv 3) pe_int (fun _ _ => rfl)) pa_nil)))))))))) (pg_sub (pv 1) pe_int set_list)) (pss_one (ps_ret (pv 1))))), ?_⟩
  refine ⟨_, rfl, a, rfl, ⟨_, .of ha⟩, fun dl hdl => ?_⟩
  refine lc_it (walk_list (K := K) (a := a) (xs := refs hs0)) (fun i G => ∃ as : List Addr, G dl = some (.lst (as.map V.ref)) ∧ as.length = i ∧ Fr H (dl :: as) ∧ Same H G ∧ ∀ (j : Nat) (k : Pk), j < i → allPk[j]? = some k → ∃ xs c, as[j]? = some c ∧ H (hs0 k) = some (.lst xs) ∧ G c = some (.lst xs))
    ⟨[], upd_same, rfl, ⟨by simp, fun a ha => by rw [List.mem_singleton.mp ha]; exact hdl⟩, same_upd hdl, fun j k hj _ => absurd hj (Nat.not_lt_zero _)⟩ (fun _ G _ ⟨_, _, _, _, sG, _⟩ => .of (sG _ _ ha)) ?_ ?_
  · rintro i x G H' hi ⟨as, hG, hal, hF, sG, hA⟩ ⟨rfl, hx⟩
    rw [refs_eq, List.getElem?_map] at hx
    obtain ⟨k, hk, rfl⟩ := Option.map_eq_some_iff.mp hx
    obtain ⟨xs, gp, e1, d1⟩ := hN k
    refine ⟨rfl, _, rfl, hs0 k, xs, rfl, .inl (.of (sG _ _ e1)), fun l1 h1 => ?_⟩
    have s1 := same_upd (o := .lst xs) h1
    have L0 : Live H' (dl :: as) := fun c hc => by
      rcases List.mem_cons.mp hc with e | e
      · rw [e]
        exact ⟨_, hG⟩
      · obtain ⟨j, hj, ej⟩ := List.mem_iff_getElem.mp e
        have j9 : j < 9 := by
          have : (refs hs0).length = 9 := rfl
          omega
        obtain ⟨xs', c', e2, _, e3⟩ := hA j (allPk[j]'j9) (by omega) (List.getElem?_eq_getElem j9)
        rw [List.getElem?_eq_getElem hj, ej] at e2
        cases e2
        exact ⟨_, e3⟩
    have F1 := hF.add L0 sG h1
    refine ⟨_, s1 _ _ hG, ?_, as ++ [l1], by rw [List.map_append]; exact upd_same, by rw [List.length_append, hal]; rfl, F1, Same.put (sG.trans s1) hdl, ?_⟩
    · rw [List.length_map, hal]
      exact lt1000 (by have : (refs hs0).length = 9 := rfl; omega)
    · intro j k' hj hk'
      have n1 : dl ≠ l1 := ne_of_none hG h1
      by_cases ej : j = i
      · subst ej
        rw [hk] at hk'
        cases hk'
        refine ⟨xs, l1, ?_, e1, ?_⟩
        · rw [List.getElem?_append_right (by omega), hal, Nat.sub_self]
          rfl
        · rw [upd_ne n1.symm]
          exact upd_same
      · obtain ⟨xs', c', e2, e4, e3⟩ := hA j k' (by omega) hk'
        have hc : c' ∈ as := List.mem_of_getElem? e2
        refine ⟨xs', c', by rw [List.getElem?_append_left (by omega)]; exact e2, e4, ?_⟩
        have n2 : c' ≠ dl := fun z => (List.nodup_cons.mp hF.1).1 (by rw [← z]; exact hc)
        rw [upd_ne n2]
        exact s1 _ _ e3
  rintro G1 ⟨as, hG1, hal, hF, sG1, hA⟩
  obtain ⟨a0, a1, a2, a3, a4, a5, a6, a7, a8, rfl⟩ := len9 hal
  obtain ⟨xs, fp, ht, hD⟩ := hN .ts
  have h30 : b.ts.length ≤ 30 := Nat.le_trans (ok.fact .ts).2.1 (by decide)
  have hT := (ok.fact .ts).2.2.1
  have hxl : xs.length = b.ts.length := hD.len
  have L1 : Live G1 (dl :: [a0, a1, a2, a3, a4, a5, a6, a7, a8]) := fun c hc => by
    rcases List.mem_cons.mp hc with e | e
    · rw [e]
      exact ⟨_, hG1⟩
    · obtain ⟨j, hj, ej⟩ := List.mem_iff_getElem.mp e
      have j9 : j < 9 := hj
      obtain ⟨xs', c', e2, _, e3⟩ := hA j (allPk[j]'j9) j9 (List.getElem?_eq_getElem j9)
      rw [List.getElem?_eq_getElem hj, ej] at e2
      cases e2
      exact ⟨_, e3⟩
  refine ⟨_, rfl, a, _, _, _, rfl, rfl, .of (sG1 _ _ ha), atI_nat (j := 6) rfl, hs0 .ts, rfl, ⟨_, .of (sG1 _ _ ht)⟩, fun dt hdt => ?_⟩
  refine lc_it (walk_list (K := K) (a := hs0 .ts) (xs := xs)) (fun i G => ∃ (acc : List V) (gp : List Addr), G dt = some (.lst acc) ∧ acc.length = i ∧ DfL G (b.ts.take i) acc gp ∧ Fr G1 (dt :: gp) ∧ Same G1 G)
    ⟨[], [], upd_same, rfl, .n, ⟨by simp, fun a ha => by rw [List.mem_singleton.mp ha]; exact hdt⟩, same_upd hdt⟩ (fun _ G _ ⟨_, _, _, _, _, _, sG⟩ => .of (sG _ _ (sG1 _ _ ht))) ?_ ?_
  · rintro i x G H' hi ⟨acc, gp, hG, hal, hacc, hF, sG⟩ ⟨rfl, hx⟩
    obtain ⟨d, f', hd, hDx, _⟩ := hD.at hx
    obtain ⟨nm, _, cs, qs, es, m, k, o, hdd, hcl, hcs, hqn, hqd, hqs, hel, hes, hm, hk, ho⟩ := hT d (List.mem_of_getElem? hd)
    subst hdd
    obtain ⟨t, ys, rfl, ht, x0, r0, g0, g1, rfl, rfl, ⟨rfl, rfl⟩, x1, r1, g2, g3, rfl, rfl, hC, x2, r2, g4, g5, rfl, rfl, hQ, x3, r3, g6, g7, rfl, rfl, hE, x4, r4, g8, g9, rfl, rfl, ⟨rfl, rfl⟩, x5, r5, g10, g11, rfl, rfl, hD2, x6, r6, g12, g13, rfl, rfl, ⟨rfl, rfl⟩, rfl, rfl⟩ := hDx
    have eo := oN_v hD2
    subst eo
    obtain ⟨lc, xc, gc, rfl, rfl, hlc, hCl⟩ := hC
    obtain ⟨lq, xq, gq, rfl, rfl, hlq, hQl⟩ := hQ
    obtain ⟨le, xe, ge, rfl, rfl, hle, hEl⟩ := hE
    have ec := DfL.flat (fun c hc => flat_call (hcs c hc)) hCl
    have eq := DfL.flat (flat_strs_d qs) hQl
    have ee := DfL.flat (flat_strs_d es) hEl
    subst ec eq ee
    have sX := sG1.trans sG
    have htG := sX _ _ ht
    refine ⟨rfl, _, rfl, t, _, _, _, rfl, rfl, .of htG, atI_nat (j := 0) rfl, _, rfl, t, _, _, _, rfl, rfl, .of htG, atI_nat (j := 1) rfl, lc, xc, rfl, .inl (.of (sX _ _ hlc)), fun l1 h1 => ?_⟩
    have s1 := same_upd (o := .lst xc) h1
    have sX1 := sX.trans s1
    refine ⟨_, rfl, t, _, _, _, rfl, rfl, .of (sX1 _ _ ht), atI_nat (j := 2) rfl, lq, xq, rfl, .inl (.of (sX1 _ _ hlq)), fun l2 h2 => ?_⟩
    have s2 := same_upd (o := .lst xq) h2
    have sX2 := sX1.trans s2
    refine ⟨_, rfl, t, _, _, _, rfl, rfl, .of (sX2 _ _ ht), atI_nat (j := 3) rfl, le, xe, rfl, .inl (.of (sX2 _ _ hle)), fun l3 h3 => ?_⟩
    have s3 := same_upd (o := .lst xe) h3
    have sX3 := sX2.trans s3
    refine ⟨_, rfl, t, _, _, _, rfl, rfl, .of (sX3 _ _ ht), atI_nat (j := 4) rfl, _, rfl, t, _, _, _, rfl, rfl, .of (sX3 _ _ ht), atI_nat (j := 5) rfl, _, rfl, t, _, _, _, rfl, rfl, .of (sX3 _ _ ht), atI_nat (j := 6) rfl, sz 7, fun tt htt => ?_⟩
    have s4 := same_upd (o := .tup [.str nm, .ref l1, .ref l2, .ref l3, .str m, oV k, .str o]) htt
    have sX4 := sX3.trans s4
    have sG4 := (((sG.trans s1).trans s2).trans s3).trans s4
    have s14 := ((s1.trans s2).trans s3).trans s4
    have s24 := (s2.trans s3).trans s4
    have s34 := s3.trans s4
    refine ⟨acc, s14 _ _ hG, lt1000 (by omega), acc ++ [.ref tt], gp ++ [l1, l2, l3], upd_same, by rw [List.length_append, hal]; rfl, ?_, ?_, Same.put sG4 hdt⟩
    · have et : b.ts.take (i + 1) = b.ts.take i ++ [.tuple [.str nm, .list cs, .list (qs.map .str), .list (es.map .str), .str m, oN k, .str o]] := by
        rw [List.take_succ, show b.ts[i]? = _ from hd]
        rfl
      rw [et]
      have hnew : Df _ (.tuple [.str nm, .list cs, .list (qs.map .str), .list (es.map .str), .str m, oN k, .str o]) (.ref tt) [l1, l2, l3] := tD upd_same ⟨_, _, [], _, rfl, rfl, sD nm, _, _, [l1], [l2, l3], rfl, rfl, ⟨l1, xc, [], rfl, rfl, s24 _ _ upd_same, hCl.same sX4⟩, _, _, [l2], [l3], rfl, rfl, ⟨l2, xq, [], rfl, rfl, s34 _ _ upd_same, hQl.same sX4⟩, _, _, [l3], [], rfl, rfl, ⟨l3, xe, [], rfl, rfl, s4 _ _ upd_same, hEl.same sX4⟩, .c (sD _) (.c (oN_df _ k) (.c (sD _) .n))⟩
      refine ((hacc.same s14).snoc hnew).put (s14 _ _ hG) ?_
      have n1 : dt ≠ l1 := ne_of_none hG h1
      have n2 : dt ≠ l2 := ne_of_none (s1 _ _ hG) h2
      have n3 : dt ≠ l3 := ne_of_none ((s1.trans s2) _ _ hG) h3
      have n0 : dt ∉ gp := (List.nodup_cons.mp hF.1).1
      simp [n0, n1, n2, n3]
    · have L0 : Live H' (dt :: gp) := fun a ha => by
        rcases List.mem_cons.mp ha with h | h
        · rw [h]
          exact ⟨_, hG⟩
        · exact DfL.live _ _ _ hacc a h
      have F1 := hF.add L0 sG h1
      have L1 : Live _ (dt :: gp ++ [l1]) := (L0.same s1).add fun a ha => by
        rw [List.mem_singleton.mp ha]
        exact ⟨_, upd_same⟩
      have F2 := F1.add L1 (sG.trans s1) h2
      have L2' : Live _ (dt :: gp ++ [l1] ++ [l2]) := (L1.same s2).add fun a ha => by
        rw [List.mem_singleton.mp ha]
        exact ⟨_, upd_same⟩
      have F3 := F2.add L2' ((sG.trans s1).trans s2) h3
      have e : dt :: gp ++ [l1] ++ [l2] ++ [l3] = dt :: (gp ++ [l1, l2, l3]) := by simp
      rw [← e]
      exact F3
  rintro G2 ⟨acc, gt, hG2, hal2, hacc, hF2, sG2⟩
  rw [hxl, List.take_length] at hacc
  have hd2 := sG2 _ _ hG1
  refine ⟨_, rfl, dl, _, _, _, rfl, rfl, hd2, rfl, ?_⟩
  have FA := hF.add2 L1 sG1 hF2
  have big : Fr H (mts (lsOf a0 a1 a2 a3 a4 a5 dt a7 a8) gt) := FA.sub (by
    show [a0, a1, a2, a3, a4, a5, a7, a8, dt].append gt |>.Sublist _
    exact .cons _ (.cons_cons _ (.cons_cons _ (.cons_cons _ (.cons_cons _ (.cons_cons _ (.cons_cons _ (.cons _ (.cons_cons _ (.cons_cons _ (List.Sublist.refl _)))))))))))
  have dn : dl ∉ mts (lsOf a0 a1 a2 a3 a4 a5 dt a7 a8) gt := fun hm => by
    have h1 := FA.1
    have h2 : dl ∉ [a0, a1, a2, a3, a4, a5, a6, a7, a8] ++ (dt :: gt) := (List.nodup_cons.mp h1).1
    refine h2 ?_
    have hm' : dl ∈ [a0, a1, a2, a3, a4, a5, a7, a8] ++ (dt :: gt) := hm
    simp only [List.cons_append, List.nil_append, List.mem_cons] at hm' ⊢
    rcases hm' with e | e | e | e | e | e | e | e | e | e <;> simp [e]
  have keep : ∀ {a : Addr}, a ∈ mts (lsOf a0 a1 a2 a3 a4 a5 dt a7 a8) gt → ∀ {o : HO} {z : HO}, G2 a = some o → upd G2 dl z a = some o := fun {a} hm {o z} e => by
    rw [upd_ne (fun w => dn (by rw [← w]; exact hm))]
    exact e
  refine ⟨_, rfl, q _ dl (lsOf a0 a1 a2 a3 a4 a5 dt a7 a8) acc gt ⟨Same.put (sG1.trans sG2) hdl, ⟨upd_same, fun k hk => ?_, keep (by simp [mts, lsOf]) hG2, hacc.put hd2 (fun h => dn (by simp [mts, h]))⟩, big, hdl, dn⟩⟩
  obtain ⟨xs0, gp0, e0, d0⟩ := hN k
  have eg := ok.flat hk d0
  subst eg
  have D := ((d0.same sG1).same sG2).put (zs := ([V.ref a0, .ref a1, .ref a2, .ref a3, .ref a4, .ref a5, .ref a6, .ref a7, .ref a8] : List V).set 6 (.ref dt)) hd2 (by simp)
  cases k
  case ss =>
    obtain ⟨xs', c', e2, e4, e3⟩ := hA 0 .ss (show 0 < 9 by decide) rfl
    cases e2
    rw [e0] at e4
    cases e4
    exact ⟨xs0, keep (by simp [mts, lsOf]) (sG2 _ _ e3), D⟩
  case us =>
    obtain ⟨xs', c', e2, e4, e3⟩ := hA 1 .us (show 1 < 9 by decide) rfl
    cases e2
    rw [e0] at e4
    cases e4
    exact ⟨xs0, keep (by simp [mts, lsOf]) (sG2 _ _ e3), D⟩
  case ks =>
    obtain ⟨xs', c', e2, e4, e3⟩ := hA 2 .ks (show 2 < 9 by decide) rfl
    cases e2
    rw [e0] at e4
    cases e4
    exact ⟨xs0, keep (by simp [mts, lsOf]) (sG2 _ _ e3), D⟩
  case ms =>
    obtain ⟨xs', c', e2, e4, e3⟩ := hA 3 .ms (show 3 < 9 by decide) rfl
    cases e2
    rw [e0] at e4
    cases e4
    exact ⟨xs0, keep (by simp [mts, lsOf]) (sG2 _ _ e3), D⟩
  case ws =>
    obtain ⟨xs', c', e2, e4, e3⟩ := hA 4 .ws (show 4 < 9 by decide) rfl
    cases e2
    rw [e0] at e4
    cases e4
    exact ⟨xs0, keep (by simp [mts, lsOf]) (sG2 _ _ e3), D⟩
  case as =>
    obtain ⟨xs', c', e2, e4, e3⟩ := hA 5 .as (show 5 < 9 by decide) rfl
    cases e2
    rw [e0] at e4
    cases e4
    exact ⟨xs0, keep (by simp [mts, lsOf]) (sG2 _ _ e3), D⟩
  case ts => exact absurd rfl hk
  case is =>
    obtain ⟨xs', c', e2, e4, e3⟩ := hA 7 .is (show 7 < 9 by decide) rfl
    cases e2
    rw [e0] at e4
    cases e4
    exact ⟨xs0, keep (by simp [mts, lsOf]) (sG2 _ _ e3), D⟩
  case bs =>
    obtain ⟨xs', c', e2, e4, e3⟩ := hA 8 .bs (show 8 < 9 by decide) rfl
    cases e2
    rw [e0] at e4
    cases e4
    exact ⟨xs0, keep (by simp [mts, lsOf]) (sG2 _ _ e3), D⟩
theorem ok_book {f f0 C : Addr} {fd fd0 : FuncData} (D : DefT K mg "_law_book" "_law_book" s_l_book ["_law_parts_here"] f fd) (M : Mk K C f0) (GI : FnOk P w K mg base CX0 7 f0 fd0 ["self", "states", "ups", "downs", "marks", "wishes", "answers", "tasks", "idles", "busies"] (spInit C)) (mC : mg "Book" = some (.ref C)) (bI : Binds K fd0 ["self", "states", "ups", "downs", "marks", "wishes", "answers", "tasks", "idles", "busies"] []) :
    FnOk P w K mg base CX0 9 f fd ["_law_parts_here"] (spBook C) := by
  refine D.F.ok sc_l_book (fun vs H Q E h => ?_) (fun cdv A outer s H vs Q E hr h => ?_)
  · obtain ⟨a, hs0, b, rfl, _⟩ := h
    rfl
  obtain ⟨a, hs0, b, rfl, ha, hN, ok, q⟩ := h
  refine ⟨_, pss_one (ps_ret (pe_make M GI (hr.mono (by decide)) rfl mC bI .nil pass0 (pa_cons (pe_ix ix_list (pv 0) pe_int (fun _ _ => rfl)) (pa_cons (pe_ix ix_list (pv 0) pe_int (fun _ _ => rfl)) (pa_cons (pe_ix ix_list (pv 0) pe_int (fun _ _ => rfl)) (pa_cons (pe_ix ix_list (pv 0) pe_int (fun _ _ => rfl)) (pa_cons (pe_ix ix_list (pv 0) pe_int (fun _ _ => rfl)) (pa_cons (pe_ix ix_list (pv 0) pe_int (fun _ _ => rfl)) (pa_cons (pe_ix ix_list (pv 0) pe_int (fun _ _ => rfl)) (pa_cons (pe_ix ix_list (pv 0) pe_int (fun _ _ => rfl)) (pa_cons (pe_ix ix_list (pv 0) pe_int (fun _ _ => rfl)) pa_nil))))))))))), ?_⟩
  refine ⟨_, rfl, a, _, _, _, rfl, rfl, .of ha, atI_nat (j := 0) rfl, _, rfl, a, _, _, _, rfl, rfl, .of ha, atI_nat (j := 1) rfl, _, rfl, a, _, _, _, rfl, rfl, .of ha, atI_nat (j := 2) rfl, _, rfl, a, _, _, _, rfl, rfl, .of ha, atI_nat (j := 3) rfl, _, rfl, a, _, _, _, rfl, rfl, .of ha, atI_nat (j := 4) rfl, _, rfl, a, _, _, _, rfl, rfl, .of ha, atI_nat (j := 5) rfl, _, rfl, a, _, _, _, rfl, rfl, .of ha, atI_nat (j := 6) rfl, _, rfl, a, _, _, _, rfl, rfl, .of ha, atI_nat (j := 7) rfl, _, rfl, a, _, _, _, rfl, rfl, .of ha, atI_nat (j := 8) rfl, ?_⟩
  intro x dx nx ndx nex
  have s0 : Same H (upd (upd H dx (.own x)) x (.ins C dx [])) := fun b o e => by
    rw [upd_ne (ne_of_none e nx), upd_ne (ne_of_none e ndx)]
    exact e
  refine ⟨H, x, dx, b, hs0, rfl, s0, nx, upd_same, hN, ok, fun G fp sG hB hf => ⟨rfl, ?_⟩⟩
  exact q G x fp sG hB hf
theorem ok_told {f f1 C : Addr} {fd fd1 : FuncData} {fs : Pk → Addr} {fds : Pk → FuncData} (D : DefT K mg "_law_told" "_law_told" s_l_told ["_law_book_here"] f fd) (Z : Zs mg) (B : BK K C) (M : Meths K C fs fds) (D_copied_tasks : DefT K mg "copied_tasks" "copied_tasks" s_copied_tasks ["tasks"] f1 fd1) :
    FnOk P w K mg base CX0 3 f fd ["_law_book_here"] (spTold C) := by
  have G_ss := ok_m_ss (P := P) (w := w) (base := base) M.ss_ Z B
  have G_us := ok_m_us (P := P) (w := w) (base := base) M.us_ Z B
  have G_ks := ok_m_ks (P := P) (w := w) (base := base) M.ks_ Z B
  have G_ms := ok_m_ms (P := P) (w := w) (base := base) M.ms_ Z B
  have G_ws := ok_m_ws (P := P) (w := w) (base := base) M.ws_ Z B
  have G_as := ok_m_as (P := P) (w := w) (base := base) M.as_ Z B
  have G_ts := ok_m_ts (P := P) (w := w) (base := base) M.ts_ Z B D_copied_tasks
  have G_is := ok_m_is (P := P) (w := w) (base := base) M.is_ Z B
  have G_bs := ok_m_bs (P := P) (w := w) (base := base) M.bs_ Z B
  refine D.F.ok sc_l_told (fun vs H Q E h => ?_) (fun cdv A outer s H vs Q E hr h => ?_)
  · obtain ⟨p, b, fp, rfl, _⟩ := h
    rfl
  obtain ⟨p, b, fp, rfl, hB, ok, q⟩ := h
  obtain ⟨_, dx, tp, ls, hp, _⟩ := id hB
  refine ⟨_, (pss_cons (ps_set (i := 1) sc_l_told.nd rfl (Or.inl rfl) (pe_lst (pa_cons (pe_meth0 (pv 0) B.c M.ss_.mt G_ss (hr.mono (by decide)) M.ss_.b .nil pass0) (pa_cons (pe_meth0 (pv 0) B.c M.us_.mt G_us (hr.mono (by decide)) M.us_.b .nil pass0) (pa_cons (pe_meth0 (pv 0) B.c M.ks_.mt G_ks (hr.mono (by decide)) M.ks_.b .nil pass0) (pa_cons (pe_meth0 (pv 0) B.c M.ms_.mt G_ms (hr.mono (by decide)) M.ms_.b .nil pass0) (pa_cons (pe_meth0 (pv 0) B.c M.ws_.mt G_ws (hr.mono (by decide)) M.ws_.b .nil pass0) pa_nil))))))) (pss_one (ps_ret (pe_op op_cat (pv 1) (pe_lst (pa_cons (pe_meth0 (pv 0) B.c M.as_.mt G_as (hr.mono (by decide)) M.as_.b .nil pass0) (pa_cons (pe_meth0 (pv 0) B.c M.ts_.mt G_ts (hr.mono (by decide)) M.ts_.b .nil pass0) (pa_cons (pe_meth0 (pv 0) B.c M.is_.mt G_is (hr.mono (by decide)) M.is_.b .nil pass0) (pa_cons (pe_meth0 (pv 0) B.c M.bs_.mt G_bs (hr.mono (by decide)) M.bs_.b .nil pass0) pa_nil))))))))), ?_⟩
  have z0 := Same.refl H
  refine ⟨_, rfl, p, dx, _, rfl, z0 _ _ hp, lookM ls tp .ss, p, b, fp, rfl, hB.same z0, ok, fun G0 l0 x0 g0 s0 e0 d0 r0 => ?_⟩
  have eg0 := ok.flat (k := .ss) (by intro z; cases z) d0
  subst eg0
  have z1 := z0.trans s0
  refine ⟨_, rfl, p, dx, _, rfl, z1 _ _ hp, lookM ls tp .us, p, b, fp, rfl, hB.same z1, ok, fun G1 l1 x1 g1 s1 e1 d1 r1 => ?_⟩
  have eg1 := ok.flat (k := .us) (by intro z; cases z) d1
  subst eg1
  have z2 := z1.trans s1
  refine ⟨_, rfl, p, dx, _, rfl, z2 _ _ hp, lookM ls tp .ks, p, b, fp, rfl, hB.same z2, ok, fun G2 l2 x2 g2 s2 e2 d2 r2 => ?_⟩
  have eg2 := ok.flat (k := .ks) (by intro z; cases z) d2
  subst eg2
  have z3 := z2.trans s2
  refine ⟨_, rfl, p, dx, _, rfl, z3 _ _ hp, lookM ls tp .ms, p, b, fp, rfl, hB.same z3, ok, fun G3 l3 x3 g3 s3 e3 d3 r3 => ?_⟩
  have eg3 := ok.flat (k := .ms) (by intro z; cases z) d3
  subst eg3
  have z4 := z3.trans s3
  refine ⟨_, rfl, p, dx, _, rfl, z4 _ _ hp, lookM ls tp .ws, p, b, fp, rfl, hB.same z4, ok, fun G4 l4 x4 g4 s4 e4 d4 r4 => ?_⟩
  have eg4 := ok.flat (k := .ws) (by intro z; cases z) d4
  subst eg4
  have z5 := z4.trans s4
  refine ⟨sz 5, fun q1 n1 => ?_⟩
  have sq1 := same_upd (o := .lst [.ref l0, .ref l1, .ref l2, .ref l3, .ref l4]) n1
  have z5' := z5
  have z5 := z5.trans sq1
  refine ⟨_, rfl, ?_⟩
  refine ⟨_, rfl, p, dx, _, rfl, z5 _ _ hp, lookM ls tp .as, p, b, fp, rfl, hB.same z5, ok, fun G5 l5 x5 g5 s5 e5 d5 r5 => ?_⟩
  have eg5 := ok.flat (k := .as) (by intro z; cases z) d5
  subst eg5
  have z6 := z5.trans s5
  refine ⟨_, rfl, p, dx, _, rfl, z6 _ _ hp, lookM ls tp .ts, p, b, fp, rfl, hB.same z6, ok, fun G6 l6 x6 g6 s6 e6 d6 r6 => ?_⟩
  have z7 := z6.trans s6
  refine ⟨_, rfl, p, dx, _, rfl, z7 _ _ hp, lookM ls tp .is, p, b, fp, rfl, hB.same z7, ok, fun G7 l7 x7 g7 s7 e7 d7 r7 => ?_⟩
  have eg7 := ok.flat (k := .is) (by intro z; cases z) d7
  subst eg7
  have z8 := z7.trans s7
  refine ⟨_, rfl, p, dx, _, rfl, z8 _ _ hp, lookM ls tp .bs, p, b, fp, rfl, hB.same z8, ok, fun G8 l8 x8 g8 s8 e8 d8 r8 => ?_⟩
  have eg8 := ok.flat (k := .bs) (by intro z; cases z) d8
  subst eg8
  have z9 := z8.trans s8
  refine ⟨sz 4, fun q2 n2 => ?_⟩
  have sq2 := same_upd (o := .lst [.ref l5, .ref l6, .ref l7, .ref l8]) n2
  have b8 := sq2
  have b7 := s8.trans b8
  have b6 := s7.trans b7
  have b5 := s6.trans b6
  have b4 := sq1.trans (s5.trans b5)
  have b3 := s4.trans b4
  have b2 := s3.trans b3
  have b1 := s2.trans b2
  have b0 := s1.trans b1
  have bq := s5.trans b5
  refine ⟨q1, q2, _, _, rfl, rfl, bq _ _ upd_same, upd_same, sz 9, fun m nm => ?_⟩
  have sm := same_upd (o := .lst ([.ref l0, .ref l1, .ref l2, .ref l3, .ref l4] ++ [.ref l5, .ref l6, .ref l7, .ref l8])) nm
  have zz := (z9.trans sq2).trans sm
  have c0 := b0.trans sm
  have c1 := b1.trans sm
  have c2 := b2.trans sm
  have c3 := b3.trans sm
  have c4 := b4.trans sm
  have c5 := b5.trans sm
  have c6 := b6.trans sm
  have c7 := b7.trans sm
  have c8 := b8.trans sm
  have one : ∀ {G : Hp} {l : Addr} {xs : List V}, G l = some (.lst xs) → Live G [l] := fun e a ha => by
    rw [List.mem_singleton.mp ha]
    exact ⟨_, e⟩
  have F0 : Fr H [l0] := r0
  have V0 := one e0
  have F1 := F0.add2 V0 z1 r1
  have V1 := (V0.same s1).add (one e1)
  have F2 := F1.add2 V1 z2 r2
  have V2 := (V1.same s2).add (one e2)
  have F3 := F2.add2 V2 z3 r3
  have V3 := (V2.same s3).add (one e3)
  have F4 := F3.add2 V3 z4 r4
  have V4 := (V3.same s4).add (one e4)
  have V4' := V4.same sq1
  have F5 := F4.add2 V4' z5 r5
  have V5 := (V4'.same s5).add (one e5)
  have F6 := F5.add2 V5 z6 r6
  have V6 := (V5.same s6).add (show Live G6 (l6 :: g6) from fun a ha => by
    rcases List.mem_cons.mp ha with h | h
    · rw [h]
      exact ⟨_, e6⟩
    · exact DfL.live _ _ _ d6 a h)
  have F7 := F6.add2 V6 z7 r7
  have V7 := (V6.same s7).add (one e7)
  have F8 := F7.add2 V7 z8 r8
  have V8 := (V7.same s8).add (one e8)
  have FF : Fr H (mts (lsOf l0 l1 l2 l3 l4 l5 l6 l7 l8) g6) := F8.perm (F8p l0 l1 l2 l3 l4 l5 l6 l7 l8 g6)
  refine q _ m (lsOf l0 l1 l2 l3 l4 l5 l6 l7 l8) x6 g6 ⟨zz, ⟨upd_same, fun k hk => ?_, c6 _ _ e6, d6.same c6⟩, FF, Same.free' (z9.trans sq2) nm, fun hm => ?_⟩
  rotate_left
  · have LL := V8.same sq2
    obtain ⟨xs, ex⟩ := LL m ((F8p l0 l1 l2 l3 l4 l5 l6 l7 l8 g6).mem_iff.mpr hm)
    rw [nm] at ex
    cases ex
  cases k
  case ss => exact ⟨x0, c0 _ _ e0, d0.same c0⟩
  case us => exact ⟨x1, c1 _ _ e1, d1.same c1⟩
  case ks => exact ⟨x2, c2 _ _ e2, d2.same c2⟩
  case ms => exact ⟨x3, c3 _ _ e3, d3.same c3⟩
  case ws => exact ⟨x4, c4 _ _ e4, d4.same c4⟩
  case as => exact ⟨x5, c5 _ _ e5, d5.same c5⟩
  case ts => exact absurd rfl hk
  case is => exact ⟨x7, c7 _ _ e7, d7.same c7⟩
  case bs => exact ⟨x8, c8 _ _ e8, d8.same c8⟩
end
end My

namespace My
open PySem L2
/-- x == y by the own def of x's class, both of one class; whatever it answers (a flag) -/
def rEqI (C : Addr) (sp : Sp) : R2 := fun x y H Q => ∃ a b dx dy fs gs, x = .ref a ∧ y = .ref b ∧ H a = some (.ins C dx fs) ∧ H b = some (.ins C dy gs) ∧ sp [.ref a, .ref b] H (fun v H' => ∃ r, v = .bl r ∧ Q v H') (fun _ _ _ => False)
theorem op_eqI {X : Cx} {n : Nat} {C f : Addr} {fd : FuncData} {ps : List Str} {sp : Sp} (F : FnOk X.prog X.w X.K X.mg X.base CX0 n f fd ps sp) (hs : PySem.W.findIn X.K (.ref C) "__eq__" = some (some (.ref f))) (hf : PySem.W.isFn X.K (.ref f) = true) (hb : Binds X.K fd ps []) (hr : Room n X.A) :
    OpR X (compareOp .Eq) (rEqI C sp) := by
  intro pins s σ H x y u v Q I rx ry d
  obtain ⟨a, b, dx, dy, fs, gs, rfl, rfl, ha, hb', hsp⟩ := d
  cases rx
  cases ry
  show wpAny (model X.prog X.w) X.A (richCompare .Eq (.ref a) (.ref b)) (EP X pins σ Q) X.xe s
  obtain ⟨mA, J, _⟩ := ins_get I.hok ha
  obtain ⟨mB, J', _⟩ := ins_get I.hok hb'
  obtain ⟨od, J, _⟩ := J.look
  obtain ⟨od', J', _⟩ := J'.look
  obtain ⟨m, hF⟩ := I.fr
  refine PySem.W.cmp_K (op := .Eq) (tb := .ref C) hr.units0 hF I.ok.mod.kin J J'.type (by simp [PySem.W.notFirst]) hs hf ?_
  have hl := F.len _ _ _ _ hsp
  have r2 : Vals [V.ref a, V.ref b] [Value.ref a, Value.ref b] := .cons rfl (.cons rfl .nil)
  refine wpAny_call (codeAny_mono (F.run X.A X.stack s H ⟨[.ref a, .ref b], []⟩ [.ref a, .ref b] [.ref a, .ref b] _ _ hr I.env0 (by
    have := hb s [.ref a, .ref b] I.kIn (by simpa using hl)
    simpa using this) r2 hsp) fun r s' hq => ?_)
  cases r with
  | error e => exact (pass0 : Passes CX0 X fun _ _ _ => False) pins σ H s e s' I hq
  | ok fl =>
    cases fl with
    | ret w =>
      obtain ⟨z, H', I', rz, r, ez, q⟩ := I.after hq
      subst ez
      cases rz
      exact ⟨.bl r, H', I', rfl, q⟩
    | next => exact False.elim hq
    | brk => exact False.elim hq
    | cont => exact False.elim hq
end My

namespace My
open PySem L2
abbrev s_Book__eq_ : Stmt := inClass (top 34) 10
theorem sc_Book__eq_ : FnScope ["self", "other"] ["self", "other"] (defScope s_Book__eq_) := ⟨rfl, rfl, rfl, by decide +kernel, rfl, by decide +kernel, by decide +kernel⟩
def LayN (n : Nat) (d : PyData) : Prop := d.canLay0 = true ∧ d.depth ≤ n
theorem layN_tup {n : Nat} {ds : List PyData} (h : ∀ d ∈ ds, LayN n d) : LayN (n + 1) (.tuple ds) := ⟨layAll_of fun d hd => (h d hd).1, by
  show PyData.depthAll ds + 1 ≤ n + 1
  have := deepAll_of fun d hd => (h d hd).2
  omega⟩
theorem layN_list {n : Nat} {ds : List PyData} (h : ∀ d ∈ ds, LayN n d) : LayN (n + 1) (.list ds) := ⟨layAll_of fun d hd => (h d hd).1, by
  show PyData.depthAll ds + 1 ≤ n + 1
  have := deepAll_of fun d hd => (h d hd).2
  omega⟩
theorem layN_nm {n : Nat} {s : Str} (h : Nm s) : LayN n (.str s) := ⟨strOk_nm h, Nat.zero_le _⟩
theorem layN_bool {n : Nat} {b : Bool} : LayN n (.bool b) := ⟨rfl, Nat.zero_le _⟩
theorem layN_oN {n : Nat} {o : Option Str} (h : ∀ s, o = some s → Nm s) : LayN n (oN o) := by
  cases o with
  | none => exact ⟨rfl, Nat.zero_le _⟩
  | some s => exact layN_nm (h s rfl)
theorem layN_on {n : Nat} {o : Option Str} {L : List Str} (h : OnIn o L) (g : ∀ s ∈ L, Nm s) : LayN n (oN o) := by
  cases o with
  | none => exact ⟨rfl, Nat.zero_le _⟩
  | some s => exact layN_nm (g s (h s rfl))
theorem lay_item {N : Nm5} (hN : NOk N) {k : Pk} {d : PyData} (h : ItemR N k d) : LayN 3 d := by
  have st := hN.stn.2
  have up := hN.upn.2
  have dn := hN.dnn.2
  have mk := hN.mkn.2
  have tk := hN.tkn.2
  cases k
  case ss =>
    obtain ⟨s, t, rfl, hs, ht⟩ := h
    refine layN_tup (n := 2) fun d hd => ?_
    rcases List.mem_cons.mp hd with rfl | hd
    · exact layN_nm hs
    · rw [List.mem_singleton.mp hd]
      have : ∀ t ∈ traits, PyData.strOk t = true := by decide +kernel
      exact ⟨this t ht, Nat.zero_le _⟩
  case us =>
    obtain ⟨s, t, rfl, hs⟩ := h
    exact layN_tup (n := 2) (by simp [layN_nm hs, layN_bool])
  case ks =>
    obtain ⟨s, t, rfl, hs⟩ := h
    exact layN_tup (n := 2) (by simp [layN_nm hs, layN_bool])
  case ms =>
    obtain ⟨s, rfl, hs⟩ := h
    exact layN_nm hs
  case ws =>
    obtain ⟨a, b, u, rfl, h1, h2, h3⟩ := h
    exact layN_tup (n := 2) (by simp [layN_nm (st _ h1), layN_nm (st _ h2), layN_on h3 up])
  case as =>
    obtain ⟨a, k, b, u, rfl, h1, h2, h3, h4⟩ := h
    exact layN_tup (n := 2) (by simp [layN_nm (st _ h1), layN_nm (dn _ h2), layN_nm (st _ h3), layN_on h4 up])
  case ts =>
    obtain ⟨nm, hnm, cs, qs, es, m, k, o, rfl, hcl, hcs, hqn, hqd, hqs, hel, hes, hm, hk, ho⟩ := h
    have lstrs : ∀ ss : List Str, (∀ s ∈ ss, s ∈ N.ma) → LayN 2 (.list (ss.map .str)) := fun ss hs => layN_list (n := 1) fun d hd => by
      obtain ⟨s, h, rfl⟩ := List.mem_map.mp hd
      exact layN_nm (mk _ (hs s h))
    have hc : LayN 2 (.list cs) := layN_list (n := 1) fun c hc => by
      obtain ⟨m, k, rfl, h1, h2⟩ := hcs c hc
      exact layN_tup (n := 0) (by simp [layN_nm (mk _ h1), layN_on h2 dn])
    have hoo : LayN 2 (.str o) := by
      have : ∀ t ∈ owners, PyData.strOk t = true := by decide +kernel
      exact ⟨this o ho, Nat.zero_le _⟩
    exact layN_tup (n := 2) (by simp [layN_nm hnm, hc, lstrs qs hqs, lstrs es hes, layN_nm (mk _ hm), layN_on hk dn, hoo])
  case is =>
    rcases h with ⟨m, u, t, rfl, h1, h2, h3⟩ | ⟨m, u, n, k, f, rfl, h1, h2, h3, h4⟩
    · exact layN_tup (n := 2) (by simp [layN_nm (mk _ h1), layN_nm (up _ h2), layN_nm (tk _ h3)])
    · exact layN_tup (n := 2) (by simp [layN_nm (mk _ h1), layN_nm (up _ h2), layN_nm (mk _ h3), layN_on h4 dn, layN_bool])
  case bs =>
    obtain ⟨t, m, u, n, k, f, rfl, h1, h2, h3, h4, h5⟩ := h
    exact layN_tup (n := 2) (by simp [layN_nm (tk _ h1), layN_nm (mk _ h2), layN_nm (up _ h3), layN_nm (mk _ h4), layN_on h5 dn, layN_bool])
theorem RB.Ok.lay {b : RB} (ok : b.Ok) : LayN 5 (.tuple b.parts) := layN_tup fun d hd => by
  rw [RB.parts_eq] at hd
  obtain ⟨k, _, rfl⟩ := List.mem_map.mp hd
  exact layN_list fun d hd => lay_item ok.n ((ok.fact k).2.2.1 d hd)
/-- what == and isinstance ask of the class -/
structure IsB (K : PySem.W.Frag) (C : Addr) : Prop where
  ha : PySem.W.findIn K (.ref C) "__class__" = some (some (.builtin "object.__class__"))
  hn : PySem.W.specialIn K (.builtin "object.__class__") "__get__" = some (some (.builtin "getset_descriptor.__get__"))
  ht : PySem.W.takesIn K (.builtin "object.__class__") = some true
  hm : PySem.W.mroIn K C (.type "object") = some true
  kk : PySem.W.kitOne K (.ref C) (.ref C) = some true
theorem lookP (ls : Pk → Addr) (tp : Addr) : (bookF ls tp).lookup ("_parts" : Str) = some (.ref tp) := by
  unfold bookF
  rw [lookup_putF, if_pos rfl]
def spEqB (C : Addr) : Sp := fun vs H Q _ => ∃ (p q : Addr) (b c : RB) (fp fq : List Addr), vs = [.ref p, .ref q] ∧ BookAt C b H p fp ∧ BookAt C c H q fq ∧ b.Ok ∧ c.Ok ∧ Q (.bl (PyData.eqv (.tuple b.parts) (.tuple c.parts))) H
section
variable {P : Program} {w : World} {K : PySem.W.Frag} {mg : Str → Option Value} {base : Heap}
theorem BookAt.dp {C : Addr} {b : RB} {H : Hp} {p : Addr} {fp : List Addr} (h : BookAt C b H p fp) : ∃ dx tp ls, H p = some (.ins C dx (bookF ls tp)) ∧ ∃ gp, Df H (.tuple b.parts) (.ref tp) gp := by
  obtain ⟨_, dx, tp, ls, e, et, hk⟩ := h
  have n : Nine H b ls := fun k => by
    obtain ⟨xs, gp, h1, h2, _⟩ := hk k
    exact ⟨xs, gp, h1, h2⟩
  obtain ⟨gp, hd⟩ := n.dfl allPk
  exact ⟨dx, tp, ls, e, gp, tD et hd⟩
theorem ok_eq {f C : Addr} {fd : FuncData} (D : DefM K C "__eq__" "Book.__eq__" s_Book__eq_ ["self", "other"] f fd) (Z : Zs mg) (B : BK K C) (I : IsB K C) (mC : mg "Book" = some (.ref C)) : FnOk P w K mg base CX0 5 f fd ["self", "other"] (spEqB C) := by
  refine D.F.ok sc_Book__eq_ (fun vs H Q E h => ?_) (fun cdv A outer s H vs Q E hr h => ?_)
  · obtain ⟨p, q, b, c, fp, fq, rfl, _⟩ := h
    rfl
  obtain ⟨p, q, b, c, fp, fq, rfl, hb, hc, okb, okc, qq⟩ := h
  obtain ⟨dx, tp, ls, e1, g1, d1⟩ := hb.dp
  obtain ⟨dy, tq, ms, e2, g2, d2⟩ := hc.dp
  refine ⟨_, pss_one (ps_ret (pe_and (pe_callB call_isi (by rfl) Z.isinstance (by decide +kernel) (pa_cons (pv 1) (pa_cons (pe_glob (v := .ref C) rfl mC rfl) pa_nil))) (pe_one (pe_cmpR (op_eqD hr.units) (pe_fld (pv 0) rfl) (pe_fld (pv 1) rfl) (nomark _))))), ?_⟩
  have ty : TyX K H (.ref q) (.ref C) := .base (.ins e2 B.c I.ha I.hn I.ht I.hm)
  refine ⟨_, rfl, _, _, _, _, _, rfl, .own _, ty, I.kk, _, rfl, iteT ?_⟩
  refine ⟨_, rfl, p, C, dx, _, _, rfl, e1, B.c, B.noP, lookP ls tp, _, rfl, q, C, dy, _, _, rfl, e2, B.c, B.noP, lookP ms tq, ?_⟩
  exact ⟨_, _, d1.dp, d2.dp, shaped_of okb.lay.1 okb.lay.2 (by decide), shaped_of okc.lay.1 okc.lay.2 (by decide), qq⟩
end
end My

namespace My
open PySem L2
/-- no longer than 1000, no deeper than n, no number in it -/
def okx : Nat → PyData → Prop
  | _, .none => True
  | _, .bool _ => True
  | _, .int _ => False
  | _, .str _ => True
  | n + 1, .list ds => ds.length ≤ 1000 ∧ ∀ d ∈ ds, okx n d
  | n + 1, .tuple ds => ds.length ≤ 1000 ∧ ∀ d ∈ ds, okx n d
  | 0, .list _ => False
  | 0, .tuple _ => False
  | _, .dict _ => False
def tyN : PyData → String
  | .none => "NoneType"
  | .bool _ => "bool"
  | .int _ => "int"
  | .str _ => "str"
  | .list _ => "list"
  | .tuple _ => "tuple"
  | .dict _ => "dict"
def isB : PyData → Bool
  | .bool _ => true
  | _ => false
def isS : PyData → Bool
  | .str _ => true
  | _ => false
def isL : PyData → Bool
  | .list _ => true
  | _ => false
def isU : PyData → Bool
  | .tuple _ => true
  | _ => false
theorem okx_int {n : Nat} {i : Int} (h : okx n (.int i)) : False := by cases n <;> exact h
theorem okx_dict {n : Nat} {i : List (PyData × PyData)} (h : okx n (.dict i)) : False := by cases n <;> exact h
theorem ty_d {K : PySem.W.Frag} {H : Hp} {d : PyData} {t : V} {n : Nat} (h : Dt H d t) (o : okx n d) : TyX K H t (.type (tyN d)) := by
  cases d with
  | none =>
    have e : t = .non := h
    subst e
    exact .base .non
  | bool b =>
    have e : t = .bl b := h
    subst e
    exact .base (.bl b)
  | int i => exact (okx_int o).elim
  | str s =>
    have e : t = .str s := h
    subst e
    exact .base (.str s)
  | list ds =>
    obtain ⟨a, xs, rfl, ha, _⟩ := h
    exact .base (.lst ha)
  | tuple ds =>
    obtain ⟨a, xs, rfl, ha, _⟩ := h
    exact .base (.tup ha)
  | dict _ => exact (okx_dict o).elim
theorem kit_B {K : PySem.W.Frag} {d : PyData} {n : Nat} (o : okx n d) : PySem.W.kitOne K (.type (tyN d)) (.type "bool") = some (isB d) := by
  cases d with
  | none => exact kit_ty (a := "NoneType") (r := false) (by decide +kernel)
  | bool b => exact kit_ty (a := "bool") (r := true) (by decide +kernel)
  | int i => exact (okx_int o).elim
  | str s => exact kit_ty (a := "str") (r := false) (by decide +kernel)
  | list ds => exact kit_ty (a := "list") (r := false) (by decide +kernel)
  | tuple ds => exact kit_ty (a := "tuple") (r := false) (by decide +kernel)
  | dict _ => exact (okx_dict o).elim
theorem kit_S {K : PySem.W.Frag} {d : PyData} {n : Nat} (o : okx n d) : PySem.W.kitOne K (.type (tyN d)) (.type "str") = some (isS d) := by
  cases d with
  | none => exact kit_ty (a := "NoneType") (r := false) (by decide +kernel)
  | bool b => exact kit_ty (a := "bool") (r := false) (by decide +kernel)
  | int i => exact (okx_int o).elim
  | str s => exact kit_ty (a := "str") (r := true) (by decide +kernel)
  | list ds => exact kit_ty (a := "list") (r := false) (by decide +kernel)
  | tuple ds => exact kit_ty (a := "tuple") (r := false) (by decide +kernel)
  | dict _ => exact (okx_dict o).elim
theorem kit_L {K : PySem.W.Frag} {d : PyData} {n : Nat} (o : okx n d) : PySem.W.kitOne K (.type (tyN d)) (.type "list") = some (isL d) := by
  cases d with
  | none => exact kit_ty (a := "NoneType") (r := false) (by decide +kernel)
  | bool b => exact kit_ty (a := "bool") (r := false) (by decide +kernel)
  | int i => exact (okx_int o).elim
  | str s => exact kit_ty (a := "str") (r := false) (by decide +kernel)
  | list ds => exact kit_ty (a := "list") (r := true) (by decide +kernel)
  | tuple ds => exact kit_ty (a := "tuple") (r := false) (by decide +kernel)
  | dict _ => exact (okx_dict o).elim
theorem kit_U {K : PySem.W.Frag} {d : PyData} {n : Nat} (o : okx n d) : PySem.W.kitOne K (.type (tyN d)) (.type "tuple") = some (isU d) := by
  cases d with
  | none => exact kit_ty (a := "NoneType") (r := false) (by decide +kernel)
  | bool b => exact kit_ty (a := "bool") (r := false) (by decide +kernel)
  | int i => exact (okx_int o).elim
  | str s => exact kit_ty (a := "str") (r := false) (by decide +kernel)
  | list ds => exact kit_ty (a := "list") (r := false) (by decide +kernel)
  | tuple ds => exact kit_ty (a := "tuple") (r := true) (by decide +kernel)
  | dict _ => exact (okx_dict o).elim
/-- the exact answer of the law's own comparison -/
def spSameX (n : Nat) : Sp := fun vs H Q _ => ∃ (t u : V) (d e : PyData), vs = [t, u] ∧ Dt H d t ∧ Dt H e u ∧ okx n d ∧ okx n e ∧ ∀ r, (r = true ↔ d = e) → Q (.bl r) H
section
variable {P : Program} {w : World} {K : PySem.W.Frag} {mg : Str → Option Value} {base : Heap}
theorem sameX_step {f : Addr} {fd : FuncData} {n : Nat} {sp : Sp} (D_l_same : DefT K mg "_law_same" "_law_same" s_l_same ["_law_told_here", "_law_due"] f fd) (Z : Zs mg)
    (G_l_same : FnOk P w K mg base CX0 n f fd ["_law_told_here", "_law_due"] sp) (hsp : ∀ m, n = m + 1 → sp = spSameX m) : FnOk P w K mg base CX0 (n + 1) f fd ["_law_told_here", "_law_due"] (spSameX n) := by
  refine D_l_same.F.ok sc_l_same (fun vs H Q E h => ?_) (fun cdv A outer s H vs Q E hr h => ?_)
  · obtain ⟨t, u, d, e, rfl, _⟩ := h
    rfl
  obtain ⟨t, u, d, e, rfl, ht, hu, hd, he, q⟩ := h
  refine ⟨_, (pss_cons (ps_if (pt_cmpR op_isN (pv 1) pe_non (nomark _)) (pss_one (ps_ret (pe_cmpR op_isN (pv 0) pe_non (nomark _)))) pss_nil) (pss_cons (ps_if (pt_val (pe_callB call_isi (by rfl) Z.isinstance (by decide +kernel) (pa_cons (pv 1) (pa_cons (pe_bltn (v := .ty "bool") (by rfl) Z.bool (by decide +kernel) rfl) pa_nil)))) (pss_one (ps_ret (pe_and (pe_callB call_isi (by rfl) Z.isinstance (by decide +kernel) (pa_cons (pv 0) (pa_cons (pe_bltn (v := .ty "bool") (by rfl) Z.bool (by decide +kernel) rfl) pa_nil))) (pe_one (pe_cmpR op_eq (pv 0) (pv 1) (nomark _)))))) pss_nil) (pss_cons (ps_if (pt_val (pe_callB call_isi (by rfl) Z.isinstance (by decide +kernel) (pa_cons (pv 1) (pa_cons (pe_bltn (v := .ty "str") (by rfl) Z.str (by decide +kernel) rfl) pa_nil)))) (pss_one (ps_ret (pe_and (pe_callB call_isi (by rfl) Z.isinstance (by decide +kernel) (pa_cons (pv 0) (pa_cons (pe_bltn (v := .ty "str") (by rfl) Z.str (by decide +kernel) rfl) pa_nil))) (pe_one (pe_cmpR op_eq (pv 0) (pv 1) (nomark _)))))) pss_nil) (pss_cons (ps_if (pt_val (pe_callB call_isi (by rfl) Z.isinstance (by decide +kernel) (pa_cons (pv 1) (pa_cons (pe_bltn (v := .ty "int") (by rfl) Z.int (by decide +kernel) rfl) pa_nil)))) (pss_one (ps_ret (pe_and (pe_callB call_isi (by rfl) Z.isinstance (by decide +kernel) (pa_cons (pv 0) (pa_cons (pe_bltn (v := .ty "int") (by rfl) Z.int (by decide +kernel) rfl) pa_nil))) (pe_and (pe_not (pe_callB call_isi (by rfl) Z.isinstance (by decide +kernel) (pa_cons (pv 0) (pa_cons (pe_bltn (v := .ty "bool") (by rfl) Z.bool (by decide +kernel) rfl) pa_nil)))) (pe_one (pe_cmpR op_eq (pv 0) (pv 1) (nomark _))))))) pss_nil) (pss_cons (ps_if (PW.pt (pw_or (PW.pt (pw_and (pt_val (pe_callB call_isi (by rfl) Z.isinstance (by decide +kernel) (pa_cons (pv 1) (pa_cons (pe_bltn (v := .ty "tuple") (by rfl) Z.tuple (by decide +kernel) rfl) pa_nil)))) (pw_and1 (pt_not (pt_val (pe_callB call_isi (by rfl) Z.isinstance (by decide +kernel) (pa_cons (pv 0) (pa_cons (pe_bltn (v := .ty "tuple") (by rfl) Z.tuple (by decide +kernel) rfl) pa_nil)))))))) (pw_or1 (PW.pt (pw_and (pt_val (pe_callB call_isi (by rfl) Z.isinstance (by decide +kernel) (pa_cons (pv 1) (pa_cons (pe_bltn (v := .ty "list") (by rfl) Z.list (by decide +kernel) rfl) pa_nil)))) (pw_and1 (pt_not (pt_val (pe_callB call_isi (by rfl) Z.isinstance (by decide +kernel) (pa_cons (pv 0) (pa_cons (pe_bltn (v := .ty "list") (by rfl) Z.list (by decide +kernel) rfl) pa_nil))))))))))) (pss_one (ps_ret pe_bl)) pss_nil) (pss_cons (ps_if (pt_cmpR op_ne (pe_callB call_len_seq (by rfl) Z.len (by decide +kernel) (pa_cons (pv 0) pa_nil)) (pe_callB call_len_seq (by rfl) Z.len (by decide +kernel) (pa_cons (pv 1) pa_nil)) (nomark _)) (pss_one (ps_ret pe_bl)) pss_nil) (pss_cons (ps_for PassesOwn.never rfl (pi_range1 rfl Z.range (pa_cons (pe_callB call_len_seq (by rfl) Z.len (by decide +kernel) (pa_cons (pv 1) pa_nil)) pa_nil)) (pg_name (i := 2) sc_l_same.nd rfl (Or.inl rfl)) (pss_one (ps_if (pt_not (pt_val (pe_call G_l_same hr rfl D_l_same.m D_l_same.F.kp D_l_same.b .nil pass0 (pa_cons (pe_ix ix_seq (pv 0) (pv 2) (fun _ _ => rfl)) (pa_cons (pe_ix ix_seq (pv 1) (pv 2) (fun _ _ => rfl)) pa_nil))))) (pss_one (ps_ret pe_bl)) pss_nil))) (pss_one (ps_ret pe_bl))))))))), ?_⟩
  have ty := ty_d (K := K) ht hd
  cases e with
  | none =>
    have eu : u = .non := hu
    subst eu
    refine ⟨_, rfl, rfl, _, rfl, iteT ?_⟩
    refine ⟨_, rfl, rfl, q _ ?_⟩
    cases d with
    | none =>
      have et : t = .non := ht
      subst et
      simp
    | bool b =>
      have et : t = .bl b := ht
      subst et
      simp
    | int i => exact (okx_int hd).elim
    | str s =>
      have et : t = .str s := ht
      subst et
      simp
    | list ds =>
      obtain ⟨a, xs, rfl, _⟩ := ht
      simp
    | tuple ds =>
      obtain ⟨a, xs, rfl, _⟩ := ht
      simp
    | dict _ => exact (okx_dict hd).elim
  | bool b =>
    have eu : u = .bl b := hu
    subst eu
    refine ⟨_, rfl, rfl, _, rfl, iteF ?_⟩
    have tz : TyX K H (.bl b) (.type "bool") := .base (.bl b)
    refine ⟨_, rfl, _, _, _, _, _, rfl, .ty _, tz, kit_ty (r := true) (by decide +kernel), _, rfl, iteT ?_⟩
    refine ⟨_, rfl, _, _, _, _, _, rfl, .ty _, ty, kit_B hd, _, rfl, ?_⟩
    cases d with
    | none => exact iteF (q _ (by simp))
    | bool c =>
      have et : t = .bl c := ht
      subst et
      refine iteT ⟨_, rfl, _, rfl, rfl, q _ ?_⟩
      simp
    | int i => exact (okx_int hd).elim
    | str s => exact iteF (q _ (by simp))
    | list ds => exact iteF (q _ (by simp))
    | tuple ds => exact iteF (q _ (by simp))
    | dict _ => exact (okx_dict hd).elim
  | int i => exact (okx_int he).elim
  | str x =>
    have eu : u = .str x := hu
    subst eu
    refine ⟨_, rfl, rfl, _, rfl, iteF ?_⟩
    have tz : TyX K H (.str x) (.type "str") := .base (.str x)
    refine ⟨_, rfl, _, _, _, _, _, rfl, .ty _, tz, kit_ty (r := false) (by decide +kernel), _, rfl, iteF ?_⟩
    refine ⟨_, rfl, _, _, _, _, _, rfl, .ty _, tz, kit_ty (r := true) (by decide +kernel), _, rfl, iteT ?_⟩
    refine ⟨_, rfl, _, _, _, _, _, rfl, .ty _, ty, kit_S hd, _, rfl, ?_⟩
    cases d with
    | none => exact iteF (q _ (by simp))
    | bool c => exact iteF (q _ (by simp))
    | int i => exact (okx_int hd).elim
    | str s =>
      have et : t = .str s := ht
      subst et
      refine iteT ⟨_, rfl, _, rfl, rfl, q _ ?_⟩
      simp
    | list ds => exact iteF (q _ (by simp))
    | tuple ds => exact iteF (q _ (by simp))
    | dict _ => exact (okx_dict hd).elim
  | list es =>
    obtain ⟨b, ys, rfl, hb, gl⟩ := hu
    refine ⟨_, rfl, rfl, _, rfl, iteF ?_⟩
    have tz : TyX K H (.ref b) (.type "list") := .base (.lst hb)
    refine ⟨_, rfl, _, _, _, _, _, rfl, .ty _, tz, kit_ty (r := false) (by decide +kernel), _, rfl, iteF ?_⟩
    refine ⟨_, rfl, _, _, _, _, _, rfl, .ty _, tz, kit_ty (r := false) (by decide +kernel), _, rfl, iteF ?_⟩
    refine ⟨_, rfl, _, _, _, _, _, rfl, .ty _, tz, kit_ty (r := false) (by decide +kernel), _, rfl, iteF ?_⟩
    refine ⟨_, rfl, _, _, _, _, _, rfl, .ty _, tz, kit_ty (r := false) (by decide +kernel), _, rfl, iteF (iteF ?_)⟩
    refine ⟨_, rfl, _, _, _, _, _, rfl, .ty _, tz, kit_ty (r := true) (by decide +kernel), _, rfl, iteT ?_⟩
    refine ⟨_, rfl, _, _, _, _, _, rfl, .ty _, ty, kit_L hd, _, rfl, ?_⟩
    cases d with
    | none => exact iteT (q _ (by simp))
    | bool c => exact iteT (q _ (by simp))
    | int i => exact (okx_int hd).elim
    | str s => exact iteT (q _ (by simp))
    | tuple ds => exact iteT (q _ (by simp))
    | dict _ => exact (okx_dict hd).elim
    | list ds =>
      obtain ⟨a, xs, rfl, ha, hl⟩ := ht
      refine iteF ?_
      cases n with
      | zero => exact hd.elim
      | succ n =>
        have hsp' := hsp n rfl
        subst hsp'
        obtain ⟨hd1, hd2⟩ := hd
        obtain ⟨he1, he2⟩ := he
        have lx := hl.len
        have ly := gl.len
        refine ⟨_, rfl, a, xs, rfl, .inl (SqL.of ha), _, rfl, b, ys, rfl, .inl (SqL.of hb), rfl, _, rfl, ?_⟩
        by_cases hll : ds.length = es.length
        · rw [lx, ly, hll]
          refine iteNS rfl ?_
          refine ⟨_, rfl, b, ys, rfl, .inl (SqL.of hb), _, rfl, by omega, by omega, ?_⟩
          have en : ((ys.length : Nat) : Int).toNat = ys.length := by omega
          rw [en]
          refine for_range (fun i σ H' => i ≤ ys.length ∧ H' = H ∧ (∃ v, σ = [some (.ref a), some (.ref b), v]) ∧ ∀ j, j < i → ds[j]? = es[j]?) ⟨Nat.zero_le _, rfl, ⟨none, rfl⟩, fun j hj => absurd hj (Nat.not_lt_zero _)⟩ ?_ ?_
          · rintro i σ H' hi ⟨_, rfl, ⟨v, rfl⟩, hall⟩
            have hi2 : i < ds.length := by omega
            have hi3 : i < es.length := by omega
            obtain ⟨x, hx, dx⟩ := hl.get (List.getElem?_eq_getElem hi2)
            obtain ⟨y, hy, dy⟩ := gl.get (List.getElem?_eq_getElem hi3)
            have e : (0 : Int) + (i : Int) = ((i : Nat) : Int) := by omega
            rw [e]
            refine ⟨_, rfl, _, rfl, .inl ⟨a, xs, _, x, rfl, rfl, SqL.of ha, atI_nat hx, _, rfl, _, rfl, .inl ⟨b, ys, _, y, rfl, rfl, SqL.of hb, atI_nat hy, ?_⟩⟩⟩
            refine ⟨x, y, ds[i], es[i], rfl, dx, dy, hd2 _ (List.getElem_mem hi2), he2 _ (List.getElem_mem hi3), fun r hr' => ⟨_, rfl, ?_⟩⟩
            cases r with
            | false =>
              refine iteT (q _ ?_)
              refine ⟨fun z => (by cases z), fun z => ?_⟩
              have z2 : ds = es := by injection z
              subst z2
              exact absurd (hr'.mpr rfl) (by simp)
            | true =>
              refine iteF ⟨hi, rfl, ⟨_, rfl⟩, fun j hj => ?_⟩
              by_cases ej : j = i
              · subst ej
                rw [List.getElem?_eq_getElem hi2, List.getElem?_eq_getElem hi3, hr'.mp rfl]
              · exact hall j (by omega)
          · rintro σ H' ⟨_, rfl, ⟨v, rfl⟩, hall⟩
            refine q _ ⟨fun _ => ?_, fun _ => rfl⟩
            have : ds = es := List.ext_getElem? fun j => by
              by_cases hj : j < ys.length
              · exact hall j hj
              · rw [List.getElem?_eq_none_iff.mpr (by omega), List.getElem?_eq_none_iff.mpr (by omega)]
            rw [this]
        · have nd : decide (V.int ((xs.length : Nat) : Int) = V.int ((ys.length : Nat) : Int)) = false := decide_eq_false (fun z => hll (by
            have z2 : ((xs.length : Nat) : Int) = ((ys.length : Nat) : Int) := by injection z
            omega))
          rw [nd]
          refine iteT (q _ ⟨fun z => (by cases z), fun z => ?_⟩)
          have z2 : ds = es := by injection z
          exact absurd (by rw [z2]) hll
  | tuple es =>
    obtain ⟨b, ys, rfl, hb, gl⟩ := hu
    refine ⟨_, rfl, rfl, _, rfl, iteF ?_⟩
    have tz : TyX K H (.ref b) (.type "tuple") := .base (.tup hb)
    refine ⟨_, rfl, _, _, _, _, _, rfl, .ty _, tz, kit_ty (r := false) (by decide +kernel), _, rfl, iteF ?_⟩
    refine ⟨_, rfl, _, _, _, _, _, rfl, .ty _, tz, kit_ty (r := false) (by decide +kernel), _, rfl, iteF ?_⟩
    refine ⟨_, rfl, _, _, _, _, _, rfl, .ty _, tz, kit_ty (r := false) (by decide +kernel), _, rfl, iteF ?_⟩
    refine ⟨_, rfl, _, _, _, _, _, rfl, .ty _, tz, kit_ty (r := true) (by decide +kernel), _, rfl, iteT ?_⟩
    refine ⟨_, rfl, _, _, _, _, _, rfl, .ty _, ty, kit_U hd, _, rfl, ?_⟩
    cases d with
    | none => exact iteT (q _ (by simp))
    | bool c => exact iteT (q _ (by simp))
    | int i => exact (okx_int hd).elim
    | str s => exact iteT (q _ (by simp))
    | list ds => exact iteT (q _ (by simp))
    | dict _ => exact (okx_dict hd).elim
    | tuple ds =>
      obtain ⟨a, xs, rfl, ha, hl⟩ := ht
      refine iteF ?_
      refine ⟨_, rfl, _, _, _, _, _, rfl, .ty _, tz, kit_ty (r := false) (by decide +kernel), _, rfl, iteF (iteF ?_)⟩
      cases n with
      | zero => exact hd.elim
      | succ n =>
        have hsp' := hsp n rfl
        subst hsp'
        obtain ⟨hd1, hd2⟩ := hd
        obtain ⟨he1, he2⟩ := he
        have lx := hl.len
        have ly := gl.len
        refine ⟨_, rfl, a, xs, rfl, .inr (SqT.of ha), _, rfl, b, ys, rfl, .inr (SqT.of hb), rfl, _, rfl, ?_⟩
        by_cases hll : ds.length = es.length
        · rw [lx, ly, hll]
          refine iteNS rfl ?_
          refine ⟨_, rfl, b, ys, rfl, .inr (SqT.of hb), _, rfl, by omega, by omega, ?_⟩
          have en : ((ys.length : Nat) : Int).toNat = ys.length := by omega
          rw [en]
          refine for_range (fun i σ H' => i ≤ ys.length ∧ H' = H ∧ (∃ v, σ = [some (.ref a), some (.ref b), v]) ∧ ∀ j, j < i → ds[j]? = es[j]?) ⟨Nat.zero_le _, rfl, ⟨none, rfl⟩, fun j hj => absurd hj (Nat.not_lt_zero _)⟩ ?_ ?_
          · rintro i σ H' hi ⟨_, rfl, ⟨v, rfl⟩, hall⟩
            have hi2 : i < ds.length := by omega
            have hi3 : i < es.length := by omega
            obtain ⟨x, hx, dx⟩ := hl.get (List.getElem?_eq_getElem hi2)
            obtain ⟨y, hy, dy⟩ := gl.get (List.getElem?_eq_getElem hi3)
            have e : (0 : Int) + (i : Int) = ((i : Nat) : Int) := by omega
            rw [e]
            refine ⟨_, rfl, _, rfl, .inr (.inl ⟨a, xs, _, x, rfl, rfl, SqT.of ha, atI_nat hx, _, rfl, _, rfl, .inr (.inl ⟨b, ys, _, y, rfl, rfl, SqT.of hb, atI_nat hy, ?_⟩)⟩)⟩
            refine ⟨x, y, ds[i], es[i], rfl, dx, dy, hd2 _ (List.getElem_mem hi2), he2 _ (List.getElem_mem hi3), fun r hr' => ⟨_, rfl, ?_⟩⟩
            cases r with
            | false =>
              refine iteT (q _ ?_)
              refine ⟨fun z => (by cases z), fun z => ?_⟩
              have z2 : ds = es := by injection z
              subst z2
              exact absurd (hr'.mpr rfl) (by simp)
            | true =>
              refine iteF ⟨hi, rfl, ⟨_, rfl⟩, fun j hj => ?_⟩
              by_cases ej : j = i
              · subst ej
                rw [List.getElem?_eq_getElem hi2, List.getElem?_eq_getElem hi3, hr'.mp rfl]
              · exact hall j (by omega)
          · rintro σ H' ⟨_, rfl, ⟨v, rfl⟩, hall⟩
            refine q _ ⟨fun _ => ?_, fun _ => rfl⟩
            have : ds = es := List.ext_getElem? fun j => by
              by_cases hj : j < ys.length
              · exact hall j hj
              · rw [List.getElem?_eq_none_iff.mpr (by omega), List.getElem?_eq_none_iff.mpr (by omega)]
            rw [this]
        · have nd : decide (V.int ((xs.length : Nat) : Int) = V.int ((ys.length : Nat) : Int)) = false := decide_eq_false (fun z => hll (by
            have z2 : ((xs.length : Nat) : Int) = ((ys.length : Nat) : Int) := by injection z
            omega))
          rw [nd]
          refine iteT (q _ ⟨fun z => (by cases z), fun z => ?_⟩)
          have z2 : ds = es := by injection z
          exact absurd (by rw [z2]) hll
  | dict _ => exact (okx_dict he).elim
theorem noneX {f : Addr} {fd : FuncData} : FnOk P w K mg base CX0 0 f fd ["_law_told_here", "_law_due"] (fun _ _ _ _ => False) := ⟨fun vs H Q E h => h.elim, fun A outer s H args us vs Q E _ _ _ _ h => h.elim⟩
theorem ok_sameX {f : Addr} {fd : FuncData} (D : DefT K mg "_law_same" "_law_same" s_l_same ["_law_told_here", "_law_due"] f fd) (Z : Zs mg) : ∀ n : Nat, FnOk P w K mg base CX0 (n + 1) f fd ["_law_told_here", "_law_due"] (spSameX n)
  | 0 => sameX_step D Z noneX fun m h => by omega
  | n + 1 => sameX_step D Z (ok_sameX D Z n) fun m h => by
    have e : n = m := by omega
    rw [e]
end
end My

namespace My
open PySem L2
theorem eqvAll_x : ∀ {ds es : List PyData}, (∀ d ∈ ds, ∀ e ∈ es, (PyData.eqv d e = true ↔ d = e)) → (PyData.eqvAll ds es = true ↔ ds = es)
  | [], [], _ => by simp [PyData.eqvAll]
  | [], e :: es, _ => by simp [PyData.eqvAll]
  | d :: ds, [], _ => by simp [PyData.eqvAll]
  | d :: ds, e :: es, h => by
    have h1 := h d List.mem_cons_self e List.mem_cons_self
    have h2 := eqvAll_x (ds := ds) (es := es) fun x hx y hy => h x (List.mem_cons_of_mem _ hx) y (List.mem_cons_of_mem _ hy)
    show (PyData.eqv d e && PyData.eqvAll ds es) = true ↔ _
    rw [Bool.and_eq_true, h1, h2, List.cons.injEq]
/-- == of plain data is equality -/
theorem eqv_x : ∀ (n : Nat) (d e : PyData), okx n d → okx n e → (PyData.eqv d e = true ↔ d = e) := by
  intro n
  induction n with
  | zero =>
    intro d e hd he
    cases d <;> cases e <;> first | exact (okx_int hd).elim | exact (okx_int he).elim | exact (okx_dict hd).elim | exact (okx_dict he).elim | exact hd.elim | exact he.elim | simp [PyData.eqv]
  | succ n ih =>
    intro d e hd he
    cases d with
    | list ds =>
      cases e with
      | list es =>
        show PyData.eqvAll ds es = true ↔ _
        rw [eqvAll_x fun x hx y hy => ih x y (hd.2 x hx) (he.2 y hy)]
        simp
      | _ => first | exact (okx_int he).elim | exact (okx_dict he).elim | simp [PyData.eqv]
    | tuple ds =>
      cases e with
      | tuple es =>
        show PyData.eqvAll ds es = true ↔ _
        rw [eqvAll_x fun x hx y hy => ih x y (hd.2 x hx) (he.2 y hy)]
        simp
      | _ => first | exact (okx_int he).elim | exact (okx_dict he).elim | simp [PyData.eqv]
    | _ => cases e <;> first | exact (okx_int hd).elim | exact (okx_int he).elim | exact (okx_dict hd).elim | exact (okx_dict he).elim | simp [PyData.eqv]
theorem okx_str {n : Nat} {s : Str} : okx n (.str s) := by cases n <;> trivial
theorem okx_bool {n : Nat} {s : Bool} : okx n (.bool s) := by cases n <;> trivial
theorem okx_oN {n : Nat} {o : Option Str} : okx n (oN o) := by cases o <;> cases n <;> trivial
theorem okx_strs {n : Nat} {ss : List Str} (h : ss.length ≤ 1000) : okx (n + 1) (.list (ss.map .str)) := ⟨by rw [List.length_map]; exact h, fun d hd => by
  obtain ⟨s, _, rfl⟩ := List.mem_map.mp hd
  exact okx_str⟩
theorem okx_item {N : Nm5} (hN : NOk N) {k : Pk} {d : PyData} (h : ItemR N k d) : okx 3 d := by
  cases k
  case ss =>
    obtain ⟨s, t, rfl, _⟩ := h
    exact ⟨by simp, by simp [okx_str]⟩
  case us =>
    obtain ⟨s, t, rfl, _⟩ := h
    exact ⟨by simp, by simp [okx_str, okx_bool]⟩
  case ks =>
    obtain ⟨s, t, rfl, _⟩ := h
    exact ⟨by simp, by simp [okx_str, okx_bool]⟩
  case ms =>
    obtain ⟨s, rfl, _⟩ := h
    exact okx_str
  case ws =>
    obtain ⟨a, b, u, rfl, _⟩ := h
    exact ⟨by simp, by simp [okx_str, okx_oN]⟩
  case as =>
    obtain ⟨a, k, b, u, rfl, _⟩ := h
    exact ⟨by simp, by simp [okx_str, okx_oN]⟩
  case ts =>
    obtain ⟨nm, _, cs, qs, es, m, k, o, rfl, hcl, hcs, hqn, hqd, hqs, hel, hes, hm, hk, ho⟩ := h
    have b6 := hN.mk6
    have q6 : qs.length ≤ 6 := Nat.le_trans (nodup_le hqd hqs) b6
    have hc : okx 2 (.list cs) := ⟨by omega, fun c hc => by
      obtain ⟨m, k, rfl, _⟩ := hcs c hc
      exact ⟨by simp, by simp [okx_str, okx_oN]⟩⟩
    have hq : okx 2 (.list (qs.map .str)) := okx_strs (by omega)
    have he : okx 2 (.list (es.map .str)) := okx_strs (by omega)
    exact ⟨by simp, by simp [okx_str, okx_oN, hc, hq, he]⟩
  case is =>
    rcases h with ⟨m, u, t, rfl, _⟩ | ⟨m, u, n, k, f, rfl, _⟩
    · exact ⟨by simp, by simp [okx_str]⟩
    · exact ⟨by simp, by simp [okx_str, okx_oN, okx_bool]⟩
  case bs =>
    obtain ⟨t, m, u, n, k, f, rfl, _⟩ := h
    exact ⟨by simp, by simp [okx_str, okx_oN, okx_bool]⟩
theorem RB.Ok.okx {b : RB} (ok : b.Ok) : okx 5 (.list b.parts) := ⟨by show 9 ≤ 1000; decide, fun d hd => by
  rw [RB.parts_eq] at hd
  obtain ⟨k, _, rfl⟩ := List.mem_map.mp hd
  obtain ⟨_, hhi, hit, _⟩ := ok.fact k
  exact ⟨Nat.le_trans hhi (Nat.le_trans k.hi30 (by decide)), fun d hd => okx_item ok.n (hit d hd)⟩⟩
/-- what == of two books answers -/
theorem books_eqv {b c : RB} (hb : b.Ok) (hc : c.Ok) : PyData.eqv (.tuple b.parts) (.tuple c.parts) = true ↔ b.parts = c.parts := by
  have h := eqv_x 5 (.tuple b.parts) (.tuple c.parts) ⟨hb.okx.1, hb.okx.2⟩ ⟨hc.okx.1, hc.okx.2⟩
  rw [h]
  simp
end My

namespace My
open PySem L2
/-! ### what keeps a book right -/
/-- the names of N are names of M, too; as many marks -/
structure Sub5 (N M : Nm5) : Prop where
  st : ∀ s ∈ N.st, s ∈ M.st
  up : ∀ s ∈ N.up, s ∈ M.up
  dn : ∀ s ∈ N.dn, s ∈ M.dn
  ma : ∀ s ∈ N.ma, s ∈ M.ma
  tk : ∀ s ∈ N.tk, s ∈ M.tk
  ml : N.ma.length = M.ma.length
theorem Sub5.on {L M : List Str} (h : ∀ s ∈ L, s ∈ M) {o : Option Str} (g : OnIn o L) : OnIn o M := fun s e => h s (g s e)
theorem Sub5.wish {N M : Nm5} (h : Sub5 N M) {d : PyData} (g : IsWish N d) : IsWish M d := by
  obtain ⟨a, b, u, rfl, h1, h2, h3⟩ := g
  exact ⟨a, b, u, rfl, h.st _ h1, h.st _ h2, Sub5.on h.up h3⟩
theorem Sub5.answer {N M : Nm5} (h : Sub5 N M) {d : PyData} (g : IsAnswer N d) : IsAnswer M d := by
  obtain ⟨a, k, b, u, rfl, h1, h2, h3, h4⟩ := g
  exact ⟨a, k, b, u, rfl, h.st _ h1, h.dn _ h2, h.st _ h3, Sub5.on h.up h4⟩
theorem Sub5.idle {N M : Nm5} (h : Sub5 N M) {d : PyData} (g : IsIdle N d) : IsIdle M d := by
  rcases g with ⟨m, u, t, rfl, h1, h2, h3⟩ | ⟨m, u, n, k, f, rfl, h1, h2, h3, h4⟩
  · exact .inl ⟨m, u, t, rfl, h.ma _ h1, h.up _ h2, h.tk _ h3⟩
  · exact .inr ⟨m, u, n, k, f, rfl, h.ma _ h1, h.up _ h2, h.ma _ h3, Sub5.on h.dn h4⟩
theorem Sub5.busy {N M : Nm5} (h : Sub5 N M) {d : PyData} (g : IsBusy N d) : IsBusy M d := by
  obtain ⟨t, m, u, n, k, f, rfl, h1, h2, h3, h4, h5⟩ := g
  exact ⟨t, m, u, n, k, f, rfl, h.tk _ h1, h.ma _ h2, h.up _ h3, h.ma _ h4, Sub5.on h.dn h5⟩
theorem Sub5.task {N M : Nm5} (h : Sub5 N M) {nm : Str} {d : PyData} (g : IsTask N nm d) : IsTask M nm d := by
  obtain ⟨cs, qs, es, m, k, o, rfl, hcl, hcs, hqn, hqd, hqs, hel, hes, hm, hk, ho⟩ := g
  refine ⟨cs, qs, es, m, k, o, rfl, by rw [hcl, h.ml], fun c hc => ?_, hqn, hqd, fun q hq => h.ma _ (hqs q hq), by rw [hel, h.ml], fun e he => h.ma _ (hes e he), h.ma _ hm, Sub5.on h.dn hk, ho⟩
  obtain ⟨m', k', rfl, h1, h2⟩ := hcs c hc
  exact ⟨m', k', rfl, h.ma _ h1, Sub5.on h.dn h2⟩
/-- rows apart: heads none twice -/
theorem apart_iff {n : Nat} {hs : List PyData} (h : ∀ d ∈ hs, okx n d) : Apart hs ↔ hs.Nodup := by
  unfold Apart List.Nodup
  constructor
  · intro p
    refine List.Pairwise.imp_of_mem (fun {a b} ha hb q e => ?_) p
    rw [(eqv_x n a b (h a ha) (h b hb)).mpr e] at q
    cases q
  · intro p
    refine List.Pairwise.imp_of_mem (fun {a b} ha hb q => ?_) p
    cases e : PyData.eqv a b with
    | false => rfl
    | true => exact absurd ((eqv_x n a b (h a ha) (h b hb)).mp e) q
theorem okx_cut {n m : Nat} {d : PyData} (h : okx (n + 1) d) : okx (n + 1) (cutD m d) := by
  cases d with
  | tuple ds => exact ⟨by
      rw [List.length_take]
      have := h.1
      omega, fun x hx => h.2 x (List.mem_of_mem_take hx)⟩
  | _ => exact h
theorem apart_perm {n : Nat} {hs gs : List PyData} (h : ∀ d ∈ hs, okx n d) (a : Apart hs) (p : hs.Perm gs) : Apart gs :=
  (apart_iff fun d hd => h d (p.mem_iff.mpr hd)).mpr (p.nodup_iff.mp ((apart_iff h).mp a))
theorem apart_sub {hs gs : List PyData} (a : Apart hs) (p : gs.Sublist hs) : Apart gs := List.Pairwise.sublist p a
/-- other rules of a part: the same ones in another order, or fewer -/
theorem RB.Ok.wishes {b : RB} (ok : b.Ok) {ws : List PyData} (hl : ws.length ≤ 30) (h : ∀ d ∈ ws, d ∈ b.ws) : RB.Ok { b with ws := ws } :=
  ⟨ok.n, ok.ss, ok.us, ok.ks, ⟨hl, fun d hd => ok.ws.2 d (h d hd)⟩, ok.as, ok.ts, ok.is, ok.bs⟩
theorem RB.Ok.answers {b : RB} (ok : b.Ok) {as : List PyData} (h : b.as.Perm as ∨ as.Sublist b.as) : RB.Ok { b with as := as } := by
  have hx : ∀ d ∈ b.as.map (cutD 2), My.okx 3 d := fun d hd => by
    obtain ⟨e, he, rfl⟩ := List.mem_map.mp hd
    exact okx_cut (n := 2) (okx_item (k := .as) ok.n (ok.as.2.1 e he))
  refine ⟨ok.n, ok.ss, ok.us, ok.ks, ok.ws, ?_, ok.ts, ok.is, ok.bs⟩
  rcases h with h | h
  · exact ⟨by rw [← h.length_eq]; exact ok.as.1, fun d hd => ok.as.2.1 d (h.mem_iff.mpr hd), apart_perm hx ok.as.2.2 (h.map _)⟩
  · exact ⟨Nat.le_trans h.length_le ok.as.1, fun d hd => ok.as.2.1 d (h.subset hd), apart_sub ok.as.2.2 (h.map _)⟩
theorem RB.Ok.idles {b : RB} (ok : b.Ok) {is : List PyData} (h : b.is.Perm is ∨ is.Sublist b.is) : RB.Ok { b with is := is } := by
  have hx : ∀ d ∈ b.is.map (cutD 2), My.okx 3 d := fun d hd => by
    obtain ⟨e, he, rfl⟩ := List.mem_map.mp hd
    exact okx_cut (n := 2) (okx_item (k := .is) ok.n (ok.is.2.1 e he))
  refine ⟨ok.n, ok.ss, ok.us, ok.ks, ok.ws, ok.as, ok.ts, ?_, ok.bs⟩
  rcases h with h | h
  · exact ⟨by rw [← h.length_eq]; exact ok.is.1, fun d hd => ok.is.2.1 d (h.mem_iff.mpr hd), apart_perm hx ok.is.2.2 (h.map _)⟩
  · exact ⟨Nat.le_trans h.length_le ok.is.1, fun d hd => ok.is.2.1 d (h.subset hd), apart_sub ok.is.2.2 (h.map _)⟩
theorem RB.Ok.busies {b : RB} (ok : b.Ok) {bs : List PyData} (h : b.bs.Perm bs ∨ bs.Sublist b.bs) : RB.Ok { b with bs := bs } := by
  have hx : ∀ d ∈ b.bs.map (cutD 3), My.okx 3 d := fun d hd => by
    obtain ⟨e, he, rfl⟩ := List.mem_map.mp hd
    exact okx_cut (n := 2) (okx_item (k := .bs) ok.n (ok.bs.2.1 e he))
  refine ⟨ok.n, ok.ss, ok.us, ok.ks, ok.ws, ok.as, ok.ts, ok.is, ?_⟩
  rcases h with h | h
  · exact ⟨by rw [← h.length_eq]; exact ok.bs.1, fun d hd => ok.bs.2.1 d (h.mem_iff.mpr hd), apart_perm hx ok.bs.2.2 (h.map _)⟩
  · exact ⟨Nat.le_trans h.length_le ok.bs.1, fun d hd => ok.bs.2.1 d (h.subset hd), apart_sub ok.bs.2.2 (h.map _)⟩
end My

namespace My
open PySem L2
/-! ### two items of a list exchanged -/
def tr (i j k : Nat) : Nat := if k = j then i else if k = i then j else k
theorem tr_inj {i j a b : Nat} (h : tr i j a = tr i j b) : a = b := by
  unfold tr at h
  split at h <;> split at h <;> (try split at h) <;> (try split at h) <;> omega
/-- M is L with the items at i and j exchanged -/
def Sw {α : Type} (i j : Nat) (L M : List α) : Prop := M.length = L.length ∧ ∀ k, M[k]? = L[tr i j k]?
theorem sw_of {α : Type} {L : List α} {i j : Nat} {x y : α} (hx : L[i]? = some x) (hy : L[j]? = some y) : Sw i j L ((L.set i y).set j x) := by
  obtain ⟨hi, _⟩ := List.getElem?_eq_some_iff.mp hx
  obtain ⟨hj, _⟩ := List.getElem?_eq_some_iff.mp hy
  refine ⟨by rw [List.length_set, List.length_set], fun k => ?_⟩
  unfold tr
  by_cases h1 : k = j
  · subst h1
    rw [if_pos rfl, List.getElem?_set_self (by rw [List.length_set]; exact hj), hx]
  · rw [if_neg h1, List.getElem?_set_ne (fun e => h1 e.symm)]
    by_cases h2 : k = i
    · subst h2
      rw [if_pos rfl, List.getElem?_set_self hi, hy]
    · rw [if_neg h2, List.getElem?_set_ne (fun e => h2 e.symm)]
theorem Sw.mem {α : Type} {i j : Nat} {L M : List α} (h : Sw i j L M) {x : α} (m : x ∈ M) : x ∈ L := by
  obtain ⟨k, hk, e⟩ := List.mem_iff_getElem.mp m
  have e1 := h.2 k
  rw [List.getElem?_eq_getElem hk, e] at e1
  exact List.mem_of_getElem? e1.symm
theorem Sw.nodup {α : Type} {i j : Nat} {L M : List α} (h : Sw i j L M) (n : L.Nodup) : M.Nodup := by
  refine List.pairwise_iff_getElem.mpr fun a b ha hb hab e => ?_
  have e1 := h.2 a
  have e2 := h.2 b
  rw [List.getElem?_eq_getElem ha] at e1
  rw [List.getElem?_eq_getElem hb] at e2
  obtain ⟨h1, g1⟩ := List.getElem?_eq_some_iff.mp e1.symm
  obtain ⟨h2, g2⟩ := List.getElem?_eq_some_iff.mp e2.symm
  have ne : tr i j a ≠ tr i j b := fun z => by
    have := tr_inj z
    omega
  have g : L[tr i j a] = L[tr i j b] := by rw [g1, g2]; exact e
  rcases Nat.lt_or_gt_of_ne ne with hh | hh
  · exact List.pairwise_iff_getElem.mp n _ _ h1 h2 hh g
  · exact List.pairwise_iff_getElem.mp n _ _ h2 h1 hh g.symm
theorem Sw.map {α β : Type} {i j : Nat} {L M : List α} (h : Sw i j L M) (f : α → β) : Sw i j (L.map f) (M.map f) := ⟨by rw [List.length_map, List.length_map, h.1], fun k => by
  rw [List.getElem?_map, List.getElem?_map, h.2]⟩
theorem Sw.back {α : Type} {i j : Nat} {L M : List α} (h : Sw i j L M) {x : α} (m : x ∈ L) (hi : i < L.length) (hj : j < L.length) : x ∈ M := by
  obtain ⟨k, hk, e⟩ := List.mem_iff_getElem.mp m
  have h1 := h.2 (tr i j k)
  have e2 : tr i j (tr i j k) = k := by
    unfold tr
    split <;> split <;> (try split) <;> omega
  rw [e2, List.getElem?_eq_getElem hk, e] at h1
  exact List.mem_of_getElem? h1
theorem Sw.apart {n : Nat} {i j : Nat} {hs gs : List PyData} (h : Sw i j hs gs) (o : ∀ d ∈ hs, okx n d) (a : Apart hs) : Apart gs :=
  (apart_iff fun d hd => o d (h.mem hd)).mpr (h.nodup ((apart_iff o).mp a))
/-- names go with their rows -/
theorem Sw.kinds {L M : List Str} {ds es : List PyData} {i j : Nat} (h : Sw i j L M) (g : Sw i j ds es) (o : ds.length = L.length ∧ ∀ (k : Nat) (d : PyData), ds[k]? = some d → ∃ s f, L[k]? = some s ∧ d = .tuple [.str s, .bool f]) :
    es.length = M.length ∧ ∀ (k : Nat) (d : PyData), es[k]? = some d → ∃ s f, M[k]? = some s ∧ d = .tuple [.str s, .bool f] := by
  refine ⟨by rw [g.1, h.1, o.1], fun k d e => ?_⟩
  rw [g.2] at e
  obtain ⟨s, f, es, ed⟩ := o.2 _ d e
  exact ⟨s, f, by rw [h.2]; exact es, ed⟩
end My

namespace My
open PySem L2
theorem Sw.uniq {α : Type} {i j : Nat} {L M M' : List α} (h : Sw i j L M) (g : Sw i j L M') : M = M' := List.ext_getElem? fun k => by rw [h.2, g.2]
theorem Sub5.rest {N M : Nm5} {b : RB} (h : Sub5 N M) (e : b.N = N) (ok : b.Ok) : (∀ d ∈ b.ws, IsWish M d) ∧ (∀ d ∈ b.as, IsAnswer M d) ∧ (∀ (i : Nat) (d : PyData), b.ts[i]? = some d → ∃ s, N.tk[i]? = some s ∧ IsTask M s d) ∧ (∀ d ∈ b.is, IsIdle M d) ∧ (∀ d ∈ b.bs, IsBusy M d) := by
  subst e
  refine ⟨fun d hd => h.wish (ok.ws.2 d hd), fun d hd => h.answer (ok.as.2.1 d hd), fun i d e => ?_, fun d hd => h.idle (ok.is.2.1 d hd), fun d hd => h.busy (ok.bs.2.1 d hd)⟩
  obtain ⟨s, es, ht⟩ := ok.ts.2 i d e
  exact ⟨s, es, h.task ht⟩
theorem sw_name {L : List Str} {i j : Nat} (hi : i < L.length) (hj : j < L.length) : ∃ M, Sw i j L M := ⟨_, sw_of (List.getElem?_eq_getElem hi) (List.getElem?_eq_getElem hj)⟩
theorem RB.Ok.exch {b : RB} (ok : b.Ok) (k : Pk) {i j : Nat} {es : List PyData} (hi : i < (b.ds k).length) (hj : j < (b.ds k).length) (h : Sw i j (b.ds k) es) (h0 : k = .ss → 1 ≤ i ∧ 1 ≤ j) :
    ∃ c : RB, c.Ok ∧ c.ds k = es ∧ ∀ q, q ≠ k → c.ds q = b.ds q := by
  have n := ok.n
  cases k
  case ss =>
    obtain ⟨h1, h2⟩ := h0 rfl
    have hi' : i < b.N.st.length := by rw [← ok.ss.1]; exact hi
    have hj' : j < b.N.st.length := by rw [← ok.ss.1]; exact hj
    obtain ⟨M, hM⟩ := sw_name hi' hj'
    have sub : Sub5 b.N { b.N with st := M } := ⟨fun s hs => hM.back hs hi' hj', fun _ z => z, fun _ z => z, fun _ z => z, fun _ z => z, rfl⟩
    obtain ⟨r1, r2, r3, r4, r5⟩ := sub.rest rfl ok
    refine ⟨{ b with N := { b.N with st := M }, ss := es }, ⟨{ n with st2 := by show 2 ≤ M.length; rw [hM.1]; exact n.st2, st7 := by show M.length ≤ 7; rw [hM.1]; exact n.st7, stn := ⟨hM.nodup n.stn.1, fun s hs => n.stn.2 s (hM.mem hs)⟩ }, ⟨by show es.length = M.length; rw [h.1, hM.1]; exact ok.ss.1, fun q d e => ?_⟩, ok.us, ok.ks, ⟨ok.ws.1, r1⟩, ⟨ok.as.1, r2, ok.as.2.2⟩, ⟨ok.ts.1, r3⟩, ⟨ok.is.1, r4, ok.is.2.2⟩, ⟨ok.bs.1, r5, ok.bs.2.2⟩⟩, rfl, fun q hq => ?_⟩
    · have e' : es[q]? = some d := e
      rw [h.2] at e'
      obtain ⟨s, t, e1, e2, e3, e4⟩ := ok.ss.2 _ d e'
      refine ⟨s, t, by show M[q]? = some s; rw [hM.2]; exact e1, e2, e3, fun z => e4 ?_⟩
      subst z
      unfold tr
      rw [if_neg (by omega), if_neg (by omega)]
    · cases q <;> first | exact absurd rfl hq | rfl
  case us =>
    have hi' : i < b.N.up.length := by rw [← ok.us.1]; exact hi
    have hj' : j < b.N.up.length := by rw [← ok.us.1]; exact hj
    obtain ⟨M, hM⟩ := sw_name hi' hj'
    have sub : Sub5 b.N { b.N with up := M } := ⟨fun _ z => z, fun s hs => hM.back hs hi' hj', fun _ z => z, fun _ z => z, fun _ z => z, rfl⟩
    obtain ⟨r1, r2, r3, r4, r5⟩ := sub.rest rfl ok
    refine ⟨{ b with N := { b.N with up := M }, us := es }, ⟨{ n with up1 := by show 1 ≤ M.length; rw [hM.1]; exact n.up1, up5 := by show M.length ≤ 5; rw [hM.1]; exact n.up5, upn := ⟨hM.nodup n.upn.1, fun s hs => n.upn.2 s (hM.mem hs)⟩ }, ok.ss, hM.kinds h ok.us, ok.ks, ⟨ok.ws.1, r1⟩, ⟨ok.as.1, r2, ok.as.2.2⟩, ⟨ok.ts.1, r3⟩, ⟨ok.is.1, r4, ok.is.2.2⟩, ⟨ok.bs.1, r5, ok.bs.2.2⟩⟩, rfl, fun q hq => ?_⟩
    cases q <;> first | exact absurd rfl hq | rfl
  case ks =>
    have hi' : i < b.N.dn.length := by rw [← ok.ks.1]; exact hi
    have hj' : j < b.N.dn.length := by rw [← ok.ks.1]; exact hj
    obtain ⟨M, hM⟩ := sw_name hi' hj'
    have sub : Sub5 b.N { b.N with dn := M } := ⟨fun _ z => z, fun _ z => z, fun s hs => hM.back hs hi' hj', fun _ z => z, fun _ z => z, rfl⟩
    obtain ⟨r1, r2, r3, r4, r5⟩ := sub.rest rfl ok
    refine ⟨{ b with N := { b.N with dn := M }, ks := es }, ⟨{ n with dn1 := by show 1 ≤ M.length; rw [hM.1]; exact n.dn1, dn5 := by show M.length ≤ 5; rw [hM.1]; exact n.dn5, dnn := ⟨hM.nodup n.dnn.1, fun s hs => n.dnn.2 s (hM.mem hs)⟩ }, ok.ss, ok.us, hM.kinds h ok.ks, ⟨ok.ws.1, r1⟩, ⟨ok.as.1, r2, ok.as.2.2⟩, ⟨ok.ts.1, r3⟩, ⟨ok.is.1, r4, ok.is.2.2⟩, ⟨ok.bs.1, r5, ok.bs.2.2⟩⟩, rfl, fun q hq => ?_⟩
    cases q <;> first | exact absurd rfl hq | rfl
  case ms =>
    have el : (b.ds .ms).length = b.N.ma.length := List.length_map _
    have hi' : i < b.N.ma.length := by rw [← el]; exact hi
    have hj' : j < b.N.ma.length := by rw [← el]; exact hj
    obtain ⟨M, hM⟩ := sw_name hi' hj'
    have sub : Sub5 b.N { b.N with ma := M } := ⟨fun _ z => z, fun _ z => z, fun _ z => z, fun s hs => hM.back hs hi' hj', fun _ z => z, hM.1.symm⟩
    obtain ⟨r1, r2, r3, r4, r5⟩ := sub.rest rfl ok
    refine ⟨{ b with N := { b.N with ma := M } }, ⟨{ n with mk1 := by show 1 ≤ M.length; rw [hM.1]; exact n.mk1, mk6 := by show M.length ≤ 6; rw [hM.1]; exact n.mk6, mkn := ⟨hM.nodup n.mkn.1, fun s hs => n.mkn.2 s (hM.mem hs)⟩ }, ok.ss, ok.us, ok.ks, ⟨ok.ws.1, r1⟩, ⟨ok.as.1, r2, ok.as.2.2⟩, ⟨ok.ts.1, r3⟩, ⟨ok.is.1, r4, ok.is.2.2⟩, ⟨ok.bs.1, r5, ok.bs.2.2⟩⟩, (hM.map PyData.str).uniq h, fun q hq => ?_⟩
    cases q <;> first | exact absurd rfl hq | rfl
  case ws =>
    refine ⟨{ b with ws := es }, ok.wishes (by rw [h.1]; exact ok.ws.1) (fun d hd => h.mem hd), rfl, fun q hq => ?_⟩
    cases q <;> first | exact absurd rfl hq | rfl
  case as =>
    refine ⟨{ b with as := es }, ⟨ok.n, ok.ss, ok.us, ok.ks, ok.ws, ⟨by rw [h.1]; exact ok.as.1, fun d hd => ok.as.2.1 d (h.mem hd), (h.map (cutD 2)).apart (n := 3) (fun d hd => ?_) ok.as.2.2⟩, ok.ts, ok.is, ok.bs⟩, rfl, fun q hq => ?_⟩
    · obtain ⟨e, he, rfl⟩ := List.mem_map.mp hd
      exact okx_cut (n := 2) (okx_item (k := .as) ok.n (ok.as.2.1 e he))
    cases q <;> first | exact absurd rfl hq | rfl
  case ts =>
    have hi' : i < b.N.tk.length := by rw [← ok.ts.1]; exact hi
    have hj' : j < b.N.tk.length := by rw [← ok.ts.1]; exact hj
    obtain ⟨M, hM⟩ := sw_name hi' hj'
    have sub : Sub5 b.N { b.N with tk := M } := ⟨fun _ z => z, fun _ z => z, fun _ z => z, fun _ z => z, fun s hs => hM.back hs hi' hj', rfl⟩
    obtain ⟨r1, r2, r3, r4, r5⟩ := sub.rest rfl ok
    refine ⟨{ b with N := { b.N with tk := M }, ts := es }, ⟨{ n with tk1 := by show 1 ≤ M.length; rw [hM.1]; exact n.tk1, tk3 := by show M.length ≤ 3; rw [hM.1]; exact n.tk3, tkn := ⟨hM.nodup n.tkn.1, fun s hs => n.tkn.2 s (hM.mem hs)⟩ }, ok.ss, ok.us, ok.ks, ⟨ok.ws.1, r1⟩, ⟨ok.as.1, r2, ok.as.2.2⟩, ⟨by show es.length = M.length; rw [h.1, hM.1]; exact ok.ts.1, fun q d e => ?_⟩, ⟨ok.is.1, r4, ok.is.2.2⟩, ⟨ok.bs.1, r5, ok.bs.2.2⟩⟩, rfl, fun q hq => ?_⟩
    · have e' : es[q]? = some d := e
      rw [h.2] at e'
      obtain ⟨s, e1, e2⟩ := r3 _ d e'
      exact ⟨s, by show M[q]? = some s; rw [hM.2]; exact e1, e2⟩
    cases q <;> first | exact absurd rfl hq | rfl
  case is =>
    refine ⟨{ b with is := es }, ⟨ok.n, ok.ss, ok.us, ok.ks, ok.ws, ok.as, ok.ts, ⟨by rw [h.1]; exact ok.is.1, fun d hd => ok.is.2.1 d (h.mem hd), (h.map (cutD 2)).apart (n := 3) (fun d hd => ?_) ok.is.2.2⟩, ok.bs⟩, rfl, fun q hq => ?_⟩
    · obtain ⟨e, he, rfl⟩ := List.mem_map.mp hd
      exact okx_cut (n := 2) (okx_item (k := .is) ok.n (ok.is.2.1 e he))
    cases q <;> first | exact absurd rfl hq | rfl
  case bs =>
    refine ⟨{ b with bs := es }, ⟨ok.n, ok.ss, ok.us, ok.ks, ok.ws, ok.as, ok.ts, ok.is, ⟨by rw [h.1]; exact ok.bs.1, fun d hd => ok.bs.2.1 d (h.mem hd), (h.map (cutD 3)).apart (n := 3) (fun d hd => ?_) ok.bs.2.2⟩⟩, rfl, fun q hq => ?_⟩
    · obtain ⟨e, he, rfl⟩ := List.mem_map.mp hd
      exact okx_cut (n := 2) (okx_item (k := .bs) ok.n (ok.bs.2.1 e he))
    cases q <;> first | exact absurd rfl hq | rfl
end My

namespace My
open PySem L2
/-! ### one item changed -/
theorem set_at {α : Type} {L : List α} {i k : Nat} {x d : α} (e : (L.set i x)[k]? = some d) : (k = i ∧ d = x) ∨ (k ≠ i ∧ L[k]? = some d) := by
  by_cases h : k = i
  · subst h
    have hk : k < L.length := by
      have := (List.getElem?_eq_some_iff.mp e).1
      rw [List.length_set] at this
      exact this
    rw [List.getElem?_set_self hk] at e
    exact .inl ⟨rfl, (Option.some.inj e).symm⟩
  · rw [List.getElem?_set_ne (fun z => h z.symm)] at e
    exact .inr ⟨h, e⟩
theorem RB.Ok.flag {b : RB} (ok : b.Ok) {i : Nat} {s : Str} {f g : Bool} (e : b.us[i]? = some (.tuple [.str s, .bool f])) : RB.Ok { b with us := b.us.set i (.tuple [.str s, .bool g]) } := by
  refine ⟨ok.n, ok.ss, ⟨by show (b.us.set i _).length = _; rw [List.length_set]; exact ok.us.1, fun k d ek => ?_⟩, ok.ks, ok.ws, ok.as, ok.ts, ok.is, ok.bs⟩
  rcases set_at ek with ⟨rfl, rfl⟩ | ⟨_, h⟩
  · obtain ⟨s', f', e1, e2⟩ := ok.us.2 _ _ e
    have e3 : s = s' := by
      have := e2
      simp at this
      exact this.1
    subst e3
    exact ⟨s, g, e1, rfl⟩
  · exact ok.us.2 k d h
theorem RB.Ok.trait {b : RB} (ok : b.Ok) {i : Nat} {s t u : Str} (e : b.ss[i]? = some (.tuple [.str s, .str t])) (hi : 1 ≤ i) (hu : u ∈ traits) : RB.Ok { b with ss := b.ss.set i (.tuple [.str s, .str u]) } := by
  refine ⟨ok.n, ⟨by show (b.ss.set i _).length = _; rw [List.length_set]; exact ok.ss.1, fun k d ek => ?_⟩, ok.us, ok.ks, ok.ws, ok.as, ok.ts, ok.is, ok.bs⟩
  rcases set_at ek with ⟨rfl, rfl⟩ | ⟨_, h⟩
  · obtain ⟨s', t', e1, e2, _⟩ := ok.ss.2 _ _ e
    have e3 : s = s' := by
      have := e2
      simp at this
      exact this.1
    subst e3
    exact ⟨s, u, e1, rfl, hu, fun z => by omega⟩
  · exact ok.ss.2 k d h
theorem RB.Ok.task1 {b : RB} (ok : b.Ok) {i : Nat} {d e : PyData} (h : ∀ s, b.N.tk[i]? = some s → IsTask b.N s d → IsTask b.N s e) (hd : b.ts[i]? = some d) : RB.Ok { b with ts := b.ts.set i e } := by
  refine ⟨ok.n, ok.ss, ok.us, ok.ks, ok.ws, ok.as, ⟨by show (b.ts.set i _).length = _; rw [List.length_set]; exact ok.ts.1, fun k x ek => ?_⟩, ok.is, ok.bs⟩
  rcases set_at ek with ⟨rfl, rfl⟩ | ⟨_, g⟩
  · obtain ⟨s, es, ht⟩ := ok.ts.2 _ _ hd
    exact ⟨s, es, h s es ht⟩
  · exact ok.ts.2 k x g
/-- what a task's change may be -/
theorem task_change {N : Nm5} {nm : Str} {cs : List PyData} {qs es : List Str} {m : Str} {k : Option Str} {o : Str} (h : IsTask N nm (.tuple [.str nm, .list cs, .list (qs.map .str), .list (es.map .str), .str m, oN k, .str o])) :
    cs.length = N.ma.length ∧ (∀ c ∈ cs, IsCall N c) ∧ qs ≠ [] ∧ qs.Nodup ∧ (∀ q ∈ qs, q ∈ N.ma) ∧ es.length = N.ma.length ∧ (∀ e ∈ es, e ∈ N.ma) ∧ m ∈ N.ma ∧ OnIn k N.dn ∧ o ∈ owners := by
  obtain ⟨cs', qs', es', m', k', o', e, h1, h2, h3, h4, h5, h6, h7, h8, h9, h10⟩ := h
  have inj : ∀ {L M : List Str}, L.map PyData.str = M.map PyData.str → L = M := fun {L M} e => by
    have : ∀ {L M : List Str}, L.map PyData.str = M.map PyData.str → L = M := by
      intro L
      induction L with
      | nil =>
        intro M e
        cases M with
        | nil => rfl
        | cons _ _ => cases e
      | cons x r ih =>
        intro M e
        cases M with
        | nil => cases e
        | cons y t =>
          simp only [List.map_cons, List.cons.injEq, PyData.str.injEq] at e
          rw [e.1, ih e.2]
    exact this e
  have oinj : ∀ {a c : Option Str}, oN a = oN c → a = c := fun {a c} e => by
    cases a <;> cases c <;> first | rfl | (cases e; done) | (cases e; rfl)
  simp only [PyData.tuple.injEq, List.cons.injEq, PyData.list.injEq, PyData.str.injEq, true_and, and_true] at e
  obtain ⟨e1, e2, e3, e4, e5, e6⟩ := e
  have e2 := inj e2
  have e3 := inj e3
  have e5 := oinj e5
  subst e1 e2 e3 e4 e5 e6
  exact ⟨h1, h2, h3, h4, h5, h6, h7, h8, h9, h10⟩
end My

namespace My
open PySem L2
abbrev s_l_exchange : Stmt := top 55
theorem sc_l_exchange : FnScope ["_law_script", "_law_pool_here", "_law_row", "_law_least", "_law_one_here", "_law_two", "_law_kept"] ["_law_script", "_law_pool_here", "_law_row", "_law_least"] (defScope s_l_exchange) := ⟨rfl, rfl, rfl, by decide +kernel, rfl, by decide +kernel, by decide +kernel⟩
/-- all but the pool and one list is kept -/
structure KL (p l : Addr) (H G : Hp) : Prop where
  keep : ∀ b o, b ≠ p → b ≠ l → H b = some o → G b = some o
  pool : Pool G p
def spExch (K : PySem.W.Frag) : Sp := fun vs H Q _ => ∃ (a p l : Addr) (ns : List Int) (xs : List V) (m : Nat), vs = [.ref a, .ref p, .ref l, .int (m : Int)] ∧ Scr K H a p ns ∧ Pool H p ∧ l ≠ p ∧ H l = some (.lst xs) ∧ xs.length ≤ 30 ∧
  ∀ (G : Hp) (ys : List V), KL p l H G → G l = some (.lst ys) → (ys = xs ∨ ∃ i j, m ≤ i ∧ m ≤ j ∧ i < xs.length ∧ j < xs.length ∧ Sw i j xs ys) → Q .non G
section
variable {P : Program} {w : World} {K : PySem.W.Frag} {mg : Str → Option Value} {base : Heap}
theorem ok_exch {f fD : Addr} {fd fdD : FuncData} (D : DefT K mg "_law_exchange" "_law_exchange" s_l_exchange ["_law_script", "_law_pool_here", "_law_row", "_law_least"] f fd) (Z : Zs mg) (D_l_draw : DefT K mg "_law_draw" "_law_draw" s_l_draw ["_law_script", "_law_pool_here", "_law_limit"] fD fdD) :
    FnOk P w K mg base CX0 2 f fd ["_law_script", "_law_pool_here", "_law_row", "_law_least"] (spExch K) := by
  have G_l_draw := ok_draw (P := P) (w := w) (base := base) D_l_draw Z
  refine D.F.ok sc_l_exchange (fun vs H Q E h => ?_) (fun cdv A outer s H vs Q E hr h => ?_)
  · obtain ⟨a, p, l, ns, xs, m, rfl, _⟩ := h
    rfl
  obtain ⟨a, p, l, ns, xs, m, rfl, hS, hP, nl, hl, h30, q⟩ := h
  refine ⟨_, (pss_one (ps_if (pt_cmpR op_gt (pe_callB call_len_seq (by rfl) Z.len (by decide +kernel) (pa_cons (pv 2) pa_nil)) (pe_op op_add (pv 3) pe_int) (nomark _)) (pss_cons (ps_set (i := 4) sc_l_exchange.nd rfl (Or.inl rfl) (pe_op op_add (pv 3) (pe_call G_l_draw (hr.mono (by decide)) rfl D_l_draw.m D_l_draw.F.kp D_l_draw.b .nil pass0 (pa_cons (pv 0) (pa_cons (pv 1) (pa_cons (pe_op op_sub (pe_callB call_len_seq (by rfl) Z.len (by decide +kernel) (pa_cons (pv 2) pa_nil)) (pv 3)) pa_nil)))))) (pss_cons (ps_set (i := 5) sc_l_exchange.nd rfl (Or.inl rfl) (pe_op op_add (pv 3) (pe_call G_l_draw (hr.mono (by decide)) rfl D_l_draw.m D_l_draw.F.kp D_l_draw.b .nil pass0 (pa_cons (pv 0) (pa_cons (pv 1) (pa_cons (pe_op op_sub (pe_callB call_len_seq (by rfl) Z.len (by decide +kernel) (pa_cons (pv 2) pa_nil)) (pv 3)) pa_nil)))))) (pss_cons (ps_set (i := 6) sc_l_exchange.nd rfl (Or.inl rfl) (pe_ix ix_list (pv 2) (pv 4) (fun _ _ => rfl))) (pss_cons (ps_asg (pe_ix ix_list (pv 2) (pv 5) (fun _ _ => rfl)) (pg_sub (pv 2) (pv 4) set_list)) (pss_one (ps_asg (pv 6) (pg_sub (pv 2) (pv 5) set_list))))))) pss_nil)), ?_⟩
  refine ⟨_, rfl, l, _, rfl, .inl (.of hl), _, rfl, _, _, rfl, rfl, _, _, rfl, rfl, _, rfl, ?_⟩
  by_cases hm : xs.length ≤ m + 1
  · rw [decide_eq_false (by omega)]
    exact iteF (q H xs ⟨fun _ _ _ _ e => e, hP⟩ hl (.inl rfl))
  rw [decide_eq_true (by omega)]
  refine iteT ?_
  refine ⟨_, rfl, _, rfl, _, rfl, _, rfl, l, _, rfl, .inl (.of hl), _, rfl, _, _, rfl, rfl, a, p, ns, _, rfl, hS, hP, by omega, by omega, fun r H1 r0 r1 k1 => ?_⟩
  refine ⟨_, _, rfl, rfl, ?_⟩
  have hl1 := k1.keep _ _ nl hl
  refine ⟨_, rfl, _, rfl, _, rfl, _, rfl, l, _, rfl, .inl (.of hl1), _, rfl, _, _, rfl, rfl, a, p, ns, _, rfl, hS.on k1, k1.pool, by omega, by omega, fun t H2 t0 t1 k2 => ?_⟩
  refine ⟨_, _, rfl, rfl, ?_⟩
  have hl2 := k2.keep _ _ nl hl1
  obtain ⟨i, hi, ei⟩ : ∃ i : Nat, i < xs.length ∧ (m : Int) + r = (i : Int) := ⟨((m : Int) + r).toNat, by omega, by omega⟩
  obtain ⟨j, hj, ej⟩ : ∃ j : Nat, j < xs.length ∧ (m : Int) + t = (j : Int) := ⟨((m : Int) + t).toNat, by omega, by omega⟩
  obtain ⟨x, hx⟩ : ∃ x, xs[i]? = some x := ⟨_, List.getElem?_eq_getElem hi⟩
  obtain ⟨y, hy⟩ : ∃ y, xs[j]? = some y := ⟨_, List.getElem?_eq_getElem hj⟩
  have ai : atI xs ((m : Int) + r) = some x := by rw [ei]; exact atI_nat hx
  have aj : atI xs ((m : Int) + t) = some y := by rw [ej]; exact atI_nat hy
  have ixn : ∀ {n k : Nat}, k < n → ixN n (k : Int) = some k := fun {n k} h => by
    unfold ixN
    rw [if_pos (by omega), if_pos (by omega)]
    simp
  have ni : ixN xs.length ((m : Int) + r) = some i := by rw [ei]; exact ixn hi
  have nj : ixN (xs.set i y).length ((m : Int) + t) = some j := by rw [ej, List.length_set]; exact ixn hj
  have k12 := k1.trans k2
  refine ⟨_, rfl, _, rfl, l, _, _, _, rfl, rfl, .of hl2, ai, ?_⟩
  refine ⟨_, rfl, _, rfl, l, _, _, _, rfl, rfl, .of hl2, aj, _, rfl, _, rfl, l, _, _, i, rfl, rfl, hl2, ni, ?_⟩
  refine ⟨_, rfl, _, rfl, _, rfl, l, _, _, j, rfl, rfl, upd_same, nj, ?_⟩
  refine q _ ((xs.set i y).set j x) ⟨fun b o n1 n2 e => ?_, ?_⟩ upd_same (.inr ⟨i, j, by omega, by omega, hi, hj, sw_of hx hy⟩)
  · rw [upd_ne n2, upd_ne n2]
    exact k12.keep _ _ n1 e
  · obtain ⟨x0, x1, x2, x3, h1, e⟩ := k12.pool
    exact ⟨x0, x1, x2, x3, h1, by rw [upd_ne nl.symm, upd_ne nl.symm]; exact e⟩
end
end My

namespace My
open PySem L2
abbrev s_l_leave_out : Stmt := top 56
theorem sc_l_leave_out : FnScope ["_law_script", "_law_pool_here", "_law_row"] ["_law_script", "_law_pool_here", "_law_row"] (defScope s_l_leave_out) := ⟨rfl, rfl, rfl, by decide +kernel, rfl, by decide +kernel, by decide +kernel⟩
def spLeave (K : PySem.W.Frag) : Sp := fun vs H Q _ => ∃ (a p l : Addr) (ns : List Int) (xs : List V), vs = [.ref a, .ref p, .ref l] ∧ Scr K H a p ns ∧ Pool H p ∧ l ≠ p ∧ H l = some (.lst xs) ∧ xs.length ≤ 30 ∧
  ∀ (G : Hp) (ys : List V), KL p l H G → G l = some (.lst ys) → (ys = xs ∨ ∃ i, i < xs.length ∧ ys = xs.eraseIdx i) → Q .non G
section
variable {P : Program} {w : World} {K : PySem.W.Frag} {mg : Str → Option Value} {base : Heap}
theorem ok_leave {f fD : Addr} {fd fdD : FuncData} (D : DefT K mg "_law_leave_out" "_law_leave_out" s_l_leave_out ["_law_script", "_law_pool_here", "_law_row"] f fd) (Z : Zs mg) (D_l_draw : DefT K mg "_law_draw" "_law_draw" s_l_draw ["_law_script", "_law_pool_here", "_law_limit"] fD fdD) :
    FnOk P w K mg base CX0 2 f fd ["_law_script", "_law_pool_here", "_law_row"] (spLeave K) := by
  have G_l_draw := ok_draw (P := P) (w := w) (base := base) D_l_draw Z
  refine D.F.ok sc_l_leave_out (fun vs H Q E h => ?_) (fun cdv A outer s H vs Q E hr h => ?_)
  · obtain ⟨a, p, l, ns, xs, rfl, _⟩ := h
    rfl
  obtain ⟨a, p, l, ns, xs, rfl, hS, hP, nl, hl, h30, q⟩ := h
  refine ⟨_, (pss_one (ps_if (pt_cmpR op_gt (pe_callB call_len_seq (by rfl) Z.len (by decide +kernel) (pa_cons (pv 2) pa_nil)) pe_int (nomark _)) (pss_one (ps_expr (pe_bm PySem.F.plainAttrs_list PySem.F.slot_list_pop PySem.F.type_list_pop mt_popAt (pv 2) (pa_cons (pe_call G_l_draw (hr.mono (by decide)) rfl D_l_draw.m D_l_draw.F.kp D_l_draw.b .nil pass0 (pa_cons (pv 0) (pa_cons (pv 1) (pa_cons (pe_callB call_len_seq (by rfl) Z.len (by decide +kernel) (pa_cons (pv 2) pa_nil)) pa_nil)))) pa_nil)))) pss_nil)), ?_⟩
  refine ⟨_, rfl, l, _, rfl, .inl (.of hl), _, _, rfl, rfl, _, rfl, ?_⟩
  by_cases hm : xs.length = 0
  · rw [decide_eq_false (by omega)]
    exact iteF (q H xs ⟨fun _ _ _ _ e => e, hP⟩ hl (.inl rfl))
  rw [decide_eq_true (by omega)]
  refine iteT ?_
  refine ⟨_, rfl, .inl ⟨rfl, _, SqL.of hl⟩, _, rfl, _, rfl, _, rfl, l, _, rfl, .inl (.of hl), a, p, ns, _, rfl, hS, hP, by omega, by omega, fun r H1 r0 r1 k1 => ?_⟩
  have hl1 := k1.keep _ _ nl hl
  obtain ⟨i, hi, ei⟩ : ∃ i : Nat, i < xs.length ∧ r = (i : Int) := ⟨r.toNat, by omega, by omega⟩
  subst ei
  have sq : seqIndex? (i : Int) xs.length = some i := (ixN_seq (show ixN xs.length (i : Int) = some i by
    unfold ixN
    rw [if_pos (by omega), if_pos (by omega)]
    simp)).1
  refine ⟨l, xs, _, i, _, rfl, rfl, hl1, by omega, by omega, sq, List.getElem?_eq_getElem hi, ?_⟩
  refine q _ (xs.eraseIdx i) ⟨fun b o n1 n2 e => ?_, ?_⟩ upd_same (.inr ⟨i, hi, rfl⟩)
  · rw [upd_ne n2]
    exact k1.keep _ _ n1 e
  · obtain ⟨x0, x1, x2, x3, h1, e⟩ := k1.pool
    exact ⟨x0, x1, x2, x3, h1, by rw [upd_ne nl.symm]; exact e⟩
end
end My

namespace My
open PySem L2
/-! ### what a change of one list leaves of the others -/
def Only (S : List Addr) (J G : Hp) : Prop := ∀ a o, a ∉ S → J a = some o → G a = some o
theorem Only.tup {S : List Addr} {J G : Hp} (h : Only S J G) (l : Live J S) : ∀ a xs, J a = some (.tup xs) → G a = some (.tup xs) := fun a xs e => h a _ (fun m => by
  obtain ⟨ys, ey⟩ := l a m
  rw [e] at ey
  cases ey) e
/-- one item of data and its place changed -/
theorem DfL.set {J : Hp} : ∀ {ds : List PyData} {xs : List V} {fp : List Addr} {i : Nat} {d : PyData}, DfL J ds xs fp → ds[i]? = some d → ∃ x g1 f g2, xs[i]? = some x ∧ fp = g1 ++ (f ++ g2) ∧ Df J d x f ∧
    ∀ (G : Hp) (e : PyData) (y : V) (f' : List Addr), (∀ a xs, J a = some (.tup xs) → G a = some (.tup xs)) → (∀ a ∈ g1 ++ g2, ∀ o, J a = some o → G a = some o) → Df G e y f' → DfL G (ds.set i e) (xs.set i y) (g1 ++ (f' ++ g2))
  | [], _, _, i, _, _, e => by simp at e
  | c :: ds, _, _, 0, d, h, e => by
    obtain ⟨x, r, f, g, rfl, rfl, hx, hr⟩ := h
    cases e
    exact ⟨x, [], f, g, rfl, rfl, hx, fun G e y f' kt k he => ⟨y, r, f', g, rfl, rfl, he, DfL.keep kt _ _ _ (fun a ha => k a ha) hr⟩⟩
  | c :: ds, _, _, i + 1, d, h, e => by
    obtain ⟨x, r, f, g, rfl, rfl, hx, hr⟩ := h
    obtain ⟨x', g1, f1, g2, e1, e2, h1, h2⟩ := DfL.set hr (by simpa using e)
    subst e2
    refine ⟨x', f ++ g1, f1, g2, by simpa using e1, by simp, h1, fun G e y f' kt k he => ?_⟩
    have := h2 G e y f' kt (fun a ha => k a (by
      rw [List.append_assoc]
      exact List.mem_append_right _ ha)) he
    exact ⟨x, r.set i y, f, g1 ++ (f' ++ g2), rfl, by simp, Df.keep kt _ _ _ (fun a ha => k a (by
      rw [List.append_assoc]
      exact List.mem_append_left _ ha)) hx, this⟩
theorem DfL.take2 {H : Hp} : ∀ {ds : List PyData} {xs : List V} {fp : List Addr} (n : Nat), DfL H ds xs fp → ∃ f g, DfL H (ds.take n) (xs.take n) f ∧ DfL H (ds.drop n) (xs.drop n) g
  | ds, xs, fp, 0, h => ⟨[], fp, ⟨by simp, rfl⟩, by simpa using h⟩
  | [], xs, fp, n + 1, h => by
    obtain ⟨rfl, rfl⟩ := h
    exact ⟨[], [], ⟨rfl, rfl⟩, ⟨rfl, rfl⟩⟩
  | d :: ds, _, _, n + 1, h => by
    obtain ⟨x, r, f, g, rfl, rfl, hx, hr⟩ := h
    obtain ⟨f1, g1, h1, h2⟩ := DfL.take2 n hr
    exact ⟨f ++ f1, g1, ⟨x, _, f, f1, rfl, rfl, hx, h1⟩, h2⟩
theorem DfL.erase {H : Hp} : ∀ {ds : List PyData} {xs : List V} {fp : List Addr} (i : Nat), DfL H ds xs fp → ∃ g, DfL H (ds.eraseIdx i) (xs.eraseIdx i) g
  | [], xs, fp, i, h => by
    obtain ⟨rfl, rfl⟩ := h
    exact ⟨[], by simpa using DfL.n⟩
  | d :: ds, _, _, 0, h => by
    obtain ⟨x, r, f, g, rfl, rfl, hx, hr⟩ := h
    exact ⟨g, hr⟩
  | d :: ds, _, _, i + 1, h => by
    obtain ⟨x, r, f, g, rfl, rfl, hx, hr⟩ := h
    obtain ⟨g1, h1⟩ := DfL.erase i hr
    exact ⟨f ++ g1, x, _, f, g1, rfl, rfl, hx, h1⟩
/-- place by place -/
def DfP (H : Hp) (ds : List PyData) (xs : List V) : Prop := xs.length = ds.length ∧ ∀ (i : Nat) (d : PyData) (x : V), ds[i]? = some d → xs[i]? = some x → ∃ f, Df H d x f
theorem DfP.of {H : Hp} : ∀ {ds : List PyData} {xs : List V} {fp : List Addr}, DfL H ds xs fp → DfP H ds xs := fun {ds xs fp} h => ⟨h.len, fun i d x e1 e2 => by
  obtain ⟨d', f, e3, hd, _⟩ := h.at e2
  rw [e1] at e3
  cases e3
  exact ⟨f, hd⟩⟩
theorem DfP.dfl {H : Hp} : ∀ {ds : List PyData} {xs : List V}, DfP H ds xs → ∃ fp, DfL H ds xs fp
  | [], [], _ => ⟨[], .n⟩
  | [], _ :: _, h => by cases h.1
  | _ :: _, [], h => by cases h.1
  | d :: ds, x :: xs, h => by
    obtain ⟨f, hf⟩ := h.2 0 d x rfl rfl
    obtain ⟨g, hg⟩ := DfP.dfl (ds := ds) (xs := xs) ⟨by simpa using h.1, fun i d' x' e1 e2 => h.2 (i + 1) d' x' (by simpa using e1) (by simpa using e2)⟩
    exact ⟨f ++ g, x, xs, f, g, rfl, rfl, hf, hg⟩
theorem DfL.sw {H : Hp} {ds : List PyData} {xs ys : List V} {fp : List Addr} {i j : Nat} (h : DfL H ds xs fp) (s : Sw i j xs ys) (hi : i < xs.length) (hj : j < xs.length) : ∃ es gp, Sw i j ds es ∧ DfL H es ys gp := by
  have hp := DfP.of h
  have hl := hp.1
  obtain ⟨es, hes⟩ := sw_name (L := ds.map fun _ => ([] : List Char).asString) (i := i) (j := j) (by rw [List.length_map]; omega) (by rw [List.length_map]; omega)
  have s2 : Sw i j ds ((ds.set i (ds[j]'(by omega))).set j (ds[i]'(by omega))) := sw_of (List.getElem?_eq_getElem _) (List.getElem?_eq_getElem _)
  obtain ⟨gp, hg⟩ := DfP.dfl (H := H) (ds := (ds.set i (ds[j]'(by omega))).set j (ds[i]'(by omega))) (xs := ys) ⟨by rw [s.1, s2.1, hl], fun k d x e1 e2 => by
    rw [s2.2] at e1
    rw [s.2] at e2
    exact hp.2 _ d x e1 e2⟩
  exact ⟨_, gp, s2, hg⟩
theorem Hand.memk {hs : Pk → Addr} {gt : List Addr} (k : Pk) : hs k ∈ mts hs gt := by cases k <;> simp [mts]
theorem mts_perm (hs : Pk → Addr) (gt : List Addr) : List.Perm (mts hs gt) (gt ++ allPk.map hs) := by
  have h1 : List.Perm (mts hs gt) ((hs .ts :: gt) ++ [hs .ss, hs .us, hs .ks, hs .ms, hs .ws, hs .as, hs .is, hs .bs]) := List.perm_append_comm
  have h2 : List.Perm ((hs .ts :: gt) ++ [hs .ss, hs .us, hs .ks, hs .ms, hs .ws, hs .as, hs .is, hs .bs]) (gt ++ (hs .ts :: [hs .ss, hs .us, hs .ks, hs .ms, hs .ws, hs .as, hs .is, hs .bs])) := List.perm_middle.symm
  have h3 : List.Perm (hs .ts :: ([hs .ss, hs .us, hs .ks, hs .ms, hs .ws, hs .as] ++ [hs .is, hs .bs])) ([hs .ss, hs .us, hs .ks, hs .ms, hs .ws, hs .as] ++ hs .ts :: [hs .is, hs .bs]) := List.perm_middle.symm
  exact h1.trans (h2.trans (List.Perm.append_left _ h3))
theorem mts_ne {hs : Pk → Addr} {gt : List Addr} (nd : (mts hs gt).Nodup) {k q : Pk} (h : q ≠ k) : hs q ≠ hs k := by
  have n2 : (gt ++ allPk.map hs).Nodup := (mts_perm hs gt).nodup_iff.mp nd
  have n3 : (allPk.map hs).Nodup := (List.nodup_append.mp n2).2.1
  simp only [allPk, List.map_cons, List.map_nil, List.nodup_cons, List.mem_cons, List.not_mem_nil, or_false, not_or, not_false_eq_true, and_true, List.nodup_nil] at n3
  obtain ⟨⟨a1, a2, a3, a4, a5, a6, a7, a8⟩, ⟨b1, b2, b3, b4, b5, b6, b7⟩, ⟨c1, c2, c3, c4, c5, c6⟩, ⟨d1, d2, d3, d4, d5⟩, ⟨e1, e2, e3, e4⟩, ⟨f1, f2, f3⟩, ⟨g1, g2⟩, h1⟩ := n3
  cases k <;> cases q <;> first | exact absurd rfl h | assumption | (intro z; have z := z.symm; contradiction)
theorem mts_gt {hs : Pk → Addr} {gt : List Addr} (nd : (mts hs gt).Nodup) (k : Pk) : hs k ∉ gt := fun m => by
  have n2 : (gt ++ allPk.map hs).Nodup := (mts_perm hs gt).nodup_iff.mp nd
  exact (List.nodup_append.mp n2).2.2 _ m _ (List.mem_map.mpr ⟨k, by cases k <;> simp [allPk], rfl⟩) rfl
theorem mts_gd {hs : Pk → Addr} {gt : List Addr} (nd : (mts hs gt).Nodup) : gt.Nodup := (List.nodup_append.mp ((mts_perm hs gt).nodup_iff.mp nd)).1
/-- one part made anew -/
theorem Hand.set_part {J G : Hp} {b c : RB} {p m : Addr} {hs : Pk → Addr} {xt : List V} {gt : List Addr} (h : Hand J b m hs xt gt) (nd : (mts hs gt).Nodup) (hp : ∃ zs, J p = some (.lst zs)) (hpm : p ∉ mts hs gt) {k : Pk} {ys : List V} {gp : List Addr}
    (o : Only [p, hs k] J G) (e : G (hs k) = some (.lst ys)) (d : DfL G (c.ds k) ys gp) (hq : ∀ q, q ≠ k → c.ds q = b.ds q) : Nine G c hs := fun q => by
  by_cases ek : q = k
  · subst ek
    exact ⟨ys, gp, e, d⟩
  have lv : Live J [p, hs k] := fun a ha => by
    rcases List.mem_cons.mp ha with z | z
    · rw [z]
      exact hp
    · exact h.live a (by rw [List.mem_singleton.mp z]; exact Hand.memk k)
  rw [hq q ek]
  have nk : hs q ∉ [p, hs k] := fun z => by
    rcases List.mem_cons.mp z with z | z
    · exact hpm (by rw [← z]; exact Hand.memk q)
    · exact mts_ne nd ek (List.mem_singleton.mp z)
  by_cases et : q = .ts
  · subst et
    refine ⟨xt, gt, o _ _ nk h.2.2.1, DfL.keep (o.tup lv) _ _ _ (fun a ha w e => o a w (fun z => ?_) e) h.2.2.2⟩
    rcases List.mem_cons.mp z with z | z
    · exact hpm (by rw [← z]; simp [mts, ha])
    · exact mts_gt nd k (by rw [← List.mem_singleton.mp z]; exact ha)
  · obtain ⟨xs, e1, d1⟩ := h.2.1 q et
    exact ⟨xs, [], o _ _ nk e1, DfL.keep (o.tup lv) _ _ _ (fun a ha => absurd ha (by simp)) d1⟩
/-- what the items of a part are elsewhere -/
theorem Hand.part_on {J G : Hp} {b : RB} {p m : Addr} {hs : Pk → Addr} {xt : List V} {gt : List Addr} (h : Hand J b m hs xt gt) (nd : (mts hs gt).Nodup) (hp : ∃ zs, J p = some (.lst zs)) (hpm : p ∉ mts hs gt) {k : Pk} {xs : List V} (e : J (hs k) = some (.lst xs)) (o : Only [p, hs k] J G) :
    ∃ gp, DfL J (b.ds k) xs gp ∧ DfL G (b.ds k) xs gp := by
  have lv : Live J [p, hs k] := fun a ha => by
    rcases List.mem_cons.mp ha with z | z
    · rw [z]
      exact hp
    · exact h.live a (by rw [List.mem_singleton.mp z]; exact Hand.memk k)
  by_cases et : k = .ts
  · subst et
    have e2 := h.2.2.1
    rw [e] at e2
    cases e2
    refine ⟨gt, h.2.2.2, DfL.keep (o.tup lv) _ _ _ (fun a ha w e => o a w (fun z => ?_) e) h.2.2.2⟩
    rcases List.mem_cons.mp z with z | z
    · exact hpm (by rw [← z]; simp [mts, ha])
    · exact mts_gt nd .ts (by rw [← List.mem_singleton.mp z]; exact ha)
  · obtain ⟨xs', e1, d1⟩ := h.2.1 k et
    rw [e] at e1
    cases e1
    exact ⟨[], d1, DfL.keep (o.tup lv) _ _ _ (fun a ha => absurd ha (by simp)) d1⟩
/-- one task made anew -/
theorem Hand.set_task {J : Hp} {b : RB} {p m : Addr} {hs : Pk → Addr} {xt : List V} {gt : List Addr} (h : Hand J b m hs xt gt) (nd : (mts hs gt).Nodup) (hp : ∃ zs, J p = some (.lst zs)) (hpm : p ∉ mts hs gt) {i : Nat} {d : PyData} (hd : b.ts[i]? = some d) :
    ∃ x f, xt[i]? = some x ∧ Df J d x f ∧ (∀ a ∈ f, a ∈ gt) ∧ f.Nodup ∧ ∀ (G : Hp) (e : PyData) (y : V) (f' : List Addr), Only (p :: hs .ts :: f) J G → G (hs .ts) = some (.lst (xt.set i y)) → Df G e y f' → Nine G { b with ts := b.ts.set i e } hs := by
  obtain ⟨x, g1, f, g2, e1, e2, h1, h2⟩ := h.2.2.2.set hd
  have ndg := mts_gd nd
  have sub : ∀ a ∈ f, a ∈ gt := fun a ha => by rw [e2]; exact List.mem_append_right _ (List.mem_append_left _ ha)
  have lv : Live J (p :: hs .ts :: f) := fun a ha => by
    rcases List.mem_cons.mp ha with z | z
    · rw [z]
      exact hp
    rcases List.mem_cons.mp z with z | z
    · rw [z]
      exact h.live _ (Hand.memk .ts)
    · exact DfL.live _ _ _ h.2.2.2 a (sub a z)
  rw [e2] at ndg
  have ndf : f.Nodup := (List.nodup_append.mp (List.nodup_append.mp ndg).2.1).1
  refine ⟨x, f, e1, h1, sub, ndf, fun G e y f' o eG hD q => ?_⟩
  by_cases et : q = .ts
  · subst et
    refine ⟨xt.set i y, _, eG, h2 G e y f' (o.tup lv) (fun a ha w ea => o a w (fun z => ?_) ea) hD⟩
    have hag : a ∈ gt := by
      rw [e2]
      rcases List.mem_append.mp ha with z | z
      · exact List.mem_append_left _ z
      · exact List.mem_append_right _ (List.mem_append_right _ z)
    rcases List.mem_cons.mp z with z | z
    · exact hpm (by rw [← z]; simp [mts, hag])
    rcases List.mem_cons.mp z with z | z
    · exact mts_gt nd .ts (by rw [← z]; exact hag)
    · rcases List.mem_append.mp ha with w | w
      · exact (List.nodup_append.mp ndg).2.2 a w a (List.mem_append_left _ z) rfl
      · exact (List.nodup_append.mp (List.nodup_append.mp ndg).2.1).2.2 a z a w rfl
  · obtain ⟨xs, e3, d3⟩ := h.2.1 q et
    have nk : hs q ∉ p :: hs .ts :: f := fun z => by
      rcases List.mem_cons.mp z with z | z
      · exact hpm (by rw [← z]; exact Hand.memk q)
      rcases List.mem_cons.mp z with z | z
      · exact mts_ne nd et z
      · exact mts_gt nd q (sub _ z)
    have eq : ({ b with ts := b.ts.set i e } : RB).ds q = b.ds q := by cases q <;> first | rfl | exact absurd rfl et
    rw [eq]
    exact ⟨xs, [], o _ _ nk e3, DfL.keep (o.tup lv) _ _ _ (fun a ha => absurd ha (by simp)) d3⟩
theorem Hand.kp {H G : Hp} {b : RB} {p m : Addr} {hs : Pk → Addr} {xt : List V} {gt : List Addr} (h : Hand H b m hs xt gt) (k : Kp p H G) (hP : Pool H p) (hp : p ∉ mts hs gt) (hm : m ≠ p) : Hand G b m hs xt gt := by
  have nk : ∀ k, hs k ≠ p := fun k z => hp (by rw [← z]; exact Hand.memk k)
  refine ⟨k.keep _ _ hm h.1, fun q hq => ?_, k.keep _ _ (nk _) h.2.2.1, h.2.2.2.kp k hP (fun z => hp (by simp [mts, z]))⟩
  obtain ⟨xs, e, d⟩ := h.2.1 q hq
  exact ⟨xs, k.keep _ _ (nk _) e, d.kp k hP (by simp)⟩
theorem Hand.ms {H : Hp} {b : RB} {m : Addr} {hs : Pk → Addr} {xt : List V} {gt : List Addr} (h : Hand H b m hs xt gt) : H (hs .ms) = some (.lst (b.N.ma.map V.str)) := by
  obtain ⟨xs, e, d⟩ := h.2.1 .ms (by intro z; cases z)
  rw [e, strs_v d]
end My

namespace My
open PySem L2
abbrev s_l_change_task : Stmt := top 57
theorem sc_l_change_task : FnScope ["_law_script", "_law_pool_here", "_law_parts_here", "_law_at", "_law_row", "_law_kind", "_law_call"] ["_law_script", "_law_pool_here", "_law_parts_here"] (defScope s_l_change_task) := ⟨rfl, rfl, rfl, by decide +kernel, rfl, by decide +kernel, by decide +kernel⟩
/-- all but the pool and the lists of M is kept -/
structure KM (p : Addr) (M : List Addr) (H G : Hp) : Prop where
  keep : ∀ b o, b ≠ p → b ∉ M → H b = some o → G b = some o
  pool : Pool G p
theorem KM.kp {p : Addr} {M : List Addr} {H G J : Hp} (k : Kp p H G) (m : KM p M G J) : KM p M H J := ⟨fun b o n1 n2 e => m.keep b o n1 n2 (k.keep b o n1 e), m.pool⟩
theorem ixn_nat {n k : Nat} (h : k < n) : ixN n (k : Int) = some k := by
  unfold ixN
  rw [if_pos (by omega), if_pos (by omega)]
  simp
theorem Pool.lst {H : Hp} {p : Addr} (h : Pool H p) : ∃ zs, H p = some (.lst zs) := by
  obtain ⟨_, _, _, _, _, e⟩ := h
  exact ⟨_, e⟩
theorem Pool.elsewhere {H : Hp} {p l : Addr} {o : HO} (h : Pool H p) (n : l ≠ p) : Pool (upd H l o) p := by
  obtain ⟨a, b, c, d, h0, e⟩ := h
  exact ⟨a, b, c, d, h0, by rw [upd_ne n.symm]; exact e⟩
def spChTask (K : PySem.W.Frag) : Sp := fun vs H Q _ => ∃ (a p m : Addr) (ns : List Int) (hs : Pk → Addr) (b : RB) (xt : List V) (gt : List Addr), vs = [.ref a, .ref p, .ref m] ∧ Scr K H a p ns ∧ Pool H p ∧ Hand H b m hs xt gt ∧ (mts hs gt).Nodup ∧ p ∉ mts hs gt ∧ m ∉ mts hs gt ∧ m ≠ p ∧ b.Ok ∧
  ∀ (G : Hp) (c : RB), KM p (mts hs gt) H G → c.Ok → Nine G c hs → Q .non G
theorem isTask_mk {N : Nm5} {s : Str} {cs : List PyData} {qs es : List Str} {m : Str} {k : Option Str} {o : Str} (h1 : cs.length = N.ma.length) (h2 : ∀ c ∈ cs, IsCall N c) (h3 : qs ≠ []) (h4 : qs.Nodup) (h5 : ∀ q ∈ qs, q ∈ N.ma) (h6 : es.length = N.ma.length) (h7 : ∀ e ∈ es, e ∈ N.ma) (h8 : m ∈ N.ma) (h9 : OnIn k N.dn) (h10 : o ∈ owners) :
    IsTask N s (.tuple [.str s, .list cs, .list (qs.map .str), .list (es.map .str), .str m, oN k, .str o]) := ⟨cs, qs, es, m, k, o, rfl, h1, h2, h3, h4, h5, h6, h7, h8, h9, h10⟩
theorem set_mem {α : Type} {L : List α} {i : Nat} {x y : α} {p : α → Prop} (h : ∀ z ∈ L, p z) (hx : p x) (m : y ∈ L.set i x) : p y := by
  rcases List.mem_or_eq_of_mem_set m with z | z
  · exact h y z
  · rw [z]
    exact hx
theorem map_set {i : Nat} {x : Str} {L : List Str} : (L.map V.str).set i (.str x) = (L.set i x).map V.str := by rw [List.map_set]
section
variable {P : Program} {w : World} {K : PySem.W.Frag} {mg : Str → Option Value} {base : Heap}
theorem ok_chtask {f fD fO : Addr} {fd fdD fdO : FuncData} (D : DefT K mg "_law_change_task" "_law_change_task" s_l_change_task ["_law_script", "_law_pool_here", "_law_parts_here"] f fd) (Z : Zs mg) (D_l_draw : DefT K mg "_law_draw" "_law_draw" s_l_draw ["_law_script", "_law_pool_here", "_law_limit"] fD fdD)
    (D_l_one : DefT K mg "_law_one" "_law_one" s_l_one ["_law_script", "_law_pool_here", "_law_row"] fO fdO) :
    FnOk P w K mg base CX0 4 f fd ["_law_script", "_law_pool_here", "_law_parts_here"] (spChTask K) := by
  have G_l_draw := ok_draw (P := P) (w := w) (base := base) D_l_draw Z
  have G_l_one := ok_one (P := P) (w := w) (base := base) D_l_one Z D_l_draw
  refine D.F.ok sc_l_change_task (fun vs H Q E h => ?_) (fun cdv A outer s H vs Q E hr h => ?_)
  · obtain ⟨a, p, m, ns, hs, b, xt, gt, rfl, _⟩ := h
    rfl
  obtain ⟨a, p, m, ns, hs, b, xt, gt, rfl, hS, hP, hand, nd, hpm, hmm, nmp, ok, q⟩ := h
  have nts : hs .ts ≠ p := fun z => hpm (by rw [← z]; exact Hand.memk .ts)
  have nms : hs .ms ≠ p := fun z => hpm (by rw [← z]; exact Hand.memk .ms)
  have hl := hand.2.2.2.len
  have htl := ok.ts.1
  have n1 := ok.n.tk1
  have n3 := ok.n.tk3
  have m1 := ok.n.mk1
  have m6 := ok.n.mk6
  have hml : (b.N.ma.map V.str).length = b.N.ma.length := List.length_map _
  have nmt : m ≠ hs .ts := fun z => hmm (by rw [z]; exact Hand.memk .ts)
  refine ⟨_, (pss_cons (ps_set (i := 3) sc_l_change_task.nd rfl (Or.inl rfl) (pe_call G_l_draw (hr.mono (by decide)) rfl D_l_draw.m D_l_draw.F.kp D_l_draw.b .nil pass0 (pa_cons (pv 0) (pa_cons (pv 1) (pa_cons (pe_callB call_len_seq (by rfl) Z.len (by decide +kernel) (pa_cons (pe_ix ix_list (pv 2) pe_int (fun _ _ => rfl)) pa_nil)) pa_nil))))) (pss_cons (ps_set (i := 4) sc_l_change_task.nd rfl (Or.inl rfl) (pe_ix ix_list (pe_ix ix_list (pv 2) pe_int (fun _ _ => rfl)) (pv 3) (fun _ _ => rfl))) (pss_cons (ps_set (i := 5) sc_l_change_task.nd rfl (Or.inl rfl) (pe_call G_l_draw (hr.mono (by decide)) rfl D_l_draw.m D_l_draw.F.kp D_l_draw.b .nil pass0 (pa_cons (pv 0) (pa_cons (pv 1) (pa_cons pe_int pa_nil))))) (pss_one (ps_if (pt_cmpR op_eq (pv 5) pe_int (nomark _)) (pss_one (ps_asg (pe_tup (pa_cons (pe_ix ix_tup (pv 4) pe_int (fun _ _ => rfl)) (pa_cons (pe_ix ix_tup (pv 4) pe_int (fun _ _ => rfl)) (pa_cons (pe_ix ix_tup (pv 4) pe_int (fun _ _ => rfl)) (pa_cons (pe_ix ix_tup (pv 4) pe_int (fun _ _ => rfl)) (pa_cons (pe_ix ix_tup (pv 4) pe_int (fun _ _ => rfl)) (pa_cons (pe_ix ix_tup (pv 4) pe_int (fun _ _ => rfl)) (pa_cons (pe_call G_l_one (hr.mono (by decide)) rfl D_l_one.m D_l_one.F.kp D_l_one.b .nil pass0 (pa_cons (pv 0) (pa_cons (pv 1) (pa_cons (pe_lst (pa_cons pe_str (pa_cons pe_str (pa_cons pe_str pa_nil)))) pa_nil)))) pa_nil)))))))) (pg_sub (pe_ix ix_list (pv 2) pe_int (fun _ _ => rfl)) (pv 3) set_list))) (pss_one (ps_if (pt_cmpR op_eq (pv 5) pe_int (nomark _)) (pss_one (ps_asg (pe_tup (pa_cons (pe_ix ix_tup (pv 4) pe_int (fun _ _ => rfl)) (pa_cons (pe_ix ix_tup (pv 4) pe_int (fun _ _ => rfl)) (pa_cons (pe_ix ix_tup (pv 4) pe_int (fun _ _ => rfl)) (pa_cons (pe_ix ix_tup (pv 4) pe_int (fun _ _ => rfl)) (pa_cons (pe_call G_l_one (hr.mono (by decide)) rfl D_l_one.m D_l_one.F.kp D_l_one.b .nil pass0 (pa_cons (pv 0) (pa_cons (pv 1) (pa_cons (pe_ix ix_list (pv 2) pe_int (fun _ _ => rfl)) pa_nil)))) (pa_cons (pe_ix ix_tup (pv 4) pe_int (fun _ _ => rfl)) (pa_cons (pe_ix ix_tup (pv 4) pe_int (fun _ _ => rfl)) pa_nil)))))))) (pg_sub (pe_ix ix_list (pv 2) pe_int (fun _ _ => rfl)) (pv 3) set_list))) (pss_one (ps_if (pt_cmpR op_eq (pv 5) pe_int (nomark _)) (pss_one (ps_asg (pe_tup (pa_cons (pe_ix ix_tup (pv 4) pe_int (fun _ _ => rfl)) (pa_cons (pe_ix ix_tup (pv 4) pe_int (fun _ _ => rfl)) (pa_cons (pe_revL (pe_ix ix_tup (pv 4) pe_int (fun _ _ => rfl))) (pa_cons (pe_ix ix_tup (pv 4) pe_int (fun _ _ => rfl)) (pa_cons (pe_ix ix_tup (pv 4) pe_int (fun _ _ => rfl)) (pa_cons (pe_ix ix_tup (pv 4) pe_int (fun _ _ => rfl)) (pa_cons (pe_ix ix_tup (pv 4) pe_int (fun _ _ => rfl)) pa_nil)))))))) (pg_sub (pe_ix ix_list (pv 2) pe_int (fun _ _ => rfl)) (pv 3) set_list))) (pss_one (ps_if (pt_cmpR op_eq (pv 5) pe_int (nomark _)) (pss_one (ps_asg (pe_call G_l_one (hr.mono (by decide)) rfl D_l_one.m D_l_one.F.kp D_l_one.b .nil pass0 (pa_cons (pv 0) (pa_cons (pv 1) (pa_cons (pe_ix ix_list (pv 2) pe_int (fun _ _ => rfl)) pa_nil)))) (pg_sub (pe_ix ix_tup (pv 4) pe_int (fun _ _ => rfl)) (pe_call G_l_draw (hr.mono (by decide)) rfl D_l_draw.m D_l_draw.F.kp D_l_draw.b .nil pass0 (pa_cons (pv 0) (pa_cons (pv 1) (pa_cons (pe_callB call_len_seq (by rfl) Z.len (by decide +kernel) (pa_cons (pe_ix ix_tup (pv 4) pe_int (fun _ _ => rfl)) pa_nil)) pa_nil)))) set_list))) (pss_cons (ps_set (i := 6) sc_l_change_task.nd rfl (Or.inl rfl) (pe_call G_l_draw (hr.mono (by decide)) rfl D_l_draw.m D_l_draw.F.kp D_l_draw.b .nil pass0 (pa_cons (pv 0) (pa_cons (pv 1) (pa_cons (pe_callB call_len_seq (by rfl) Z.len (by decide +kernel) (pa_cons (pe_ix ix_tup (pv 4) pe_int (fun _ _ => rfl)) pa_nil)) pa_nil))))) (pss_one (ps_asg (pe_tup (pa_cons (pe_call G_l_one (hr.mono (by decide)) rfl D_l_one.m D_l_one.F.kp D_l_one.b .nil pass0 (pa_cons (pv 0) (pa_cons (pv 1) (pa_cons (pe_ix ix_list (pv 2) pe_int (fun _ _ => rfl)) pa_nil)))) (pa_cons (pe_ix ix_tup (pe_ix ix_list (pe_ix ix_tup (pv 4) pe_int (fun _ _ => rfl)) (pv 6) (fun _ _ => rfl)) pe_int (fun _ _ => rfl)) pa_nil))) (pg_sub (pe_ix ix_tup (pv 4) pe_int (fun _ _ => rfl)) (pv 6) set_list))))))))))))))), ?_⟩
  refine ⟨_, rfl, _, rfl, _, rfl, m, _, _, _, rfl, rfl, .of hand.1, atI_nat (j := 6) rfl, hs .ts, xt, rfl, .inl (.of hand.2.2.1), a, p, ns, _, rfl, hS, hP, by omega, by omega, fun r H1 r0 r1 k1 => ?_⟩
  have hand1 := hand.kp k1 hP hpm nmp
  obtain ⟨i, hi, rfl⟩ : ∃ i : Nat, i < xt.length ∧ r = (i : Int) := ⟨r.toNat, by omega, by omega⟩
  have hib : i < b.ts.length := by omega
  refine ⟨_, rfl, m, _, _, _, rfl, rfl, .of hand1.1, atI_nat (j := 6) rfl, _, rfl, hs .ts, _, _, _, rfl, rfl, .of hand1.2.2.1, atI_nat (List.getElem?_eq_getElem hi), ?_⟩
  refine ⟨_, rfl, _, rfl, a, p, ns, _, rfl, hS.on k1, k1.pool, by decide, by decide, fun kq H2 q0 q1 k2 => ?_⟩
  have k12 := k1.trans k2
  have hand2 := hand1.kp k2 k1.pool hpm nmp
  have hS2 := hS.on k12
  have hd : b.ts[i]? = some b.ts[i] := List.getElem?_eq_getElem hib
  obtain ⟨x, fs, hx, hDx, sub, ndf, fin⟩ := hand2.set_task nd k2.pool.lst hpm hd
  rw [List.getElem?_eq_getElem hi] at hx
  obtain ⟨nm, enm, cs, qs, es, mk, dk, ow, hdd, hcl, hcs, hqn, hqd, hqs, hel, hes, hmk, hdk, how⟩ := ok.ts.2 _ _ hd
  rw [hdd] at hDx
  obtain ⟨t, ys, rfl, ht, x0, w0, g0, g1, rfl, rfl, ⟨rfl, rfl⟩, x1, w1, g2, g3, rfl, rfl, hC, x2, w2, g4, g5, rfl, rfl, hQ, x3, w3, g6, g7, rfl, rfl, hE, x4, w4, g8, g9, rfl, rfl, ⟨rfl, rfl⟩, x5, w5, g10, g11, rfl, rfl, hD2, x6, w6, g12, g13, rfl, rfl, ⟨rfl, rfl⟩, rfl, rfl⟩ := hDx
  have eo := oN_v hD2
  subst eo
  have eg := flat_oN dk _ _ _ hD2
  subst eg
  obtain ⟨lc, xc, gc, rfl, rfl, hlc, hCl⟩ := hC
  obtain ⟨lq, xq, gq, rfl, rfl, hlq, hQl⟩ := hQ
  obtain ⟨le, xe, ge, rfl, rfl, hle, hEl⟩ := hE
  have ec := DfL.flat (fun c hc => flat_call (hcs c hc)) hCl
  have eq := DfL.flat (flat_strs_d qs) hQl
  have ee := DfL.flat (flat_strs_d es) hEl
  subst ec eq ee
  have exq := strs_v hQl
  have exe := strs_v hEl
  subst exq exe
  have hx := Option.some.inj hx
  have subm : ∀ z ∈ [lc, lq, le], z ∈ mts hs gt := fun z hz => by
    have := sub z (by simpa using hz)
    simp [mts, this]
  have nlc : lc ≠ p := fun z => hpm (by rw [← z]; exact subm _ (by simp))
  have nlq : lq ≠ p := fun z => hpm (by rw [← z]; exact subm _ (by simp))
  have nle : le ≠ p := fun z => hpm (by rw [← z]; exact subm _ (by simp))
  have nltc : hs .ts ≠ lc := fun z => mts_gt nd .ts (by rw [z]; exact sub _ (by simp))
  have nltq : hs .ts ≠ lq := fun z => mts_gt nd .ts (by rw [z]; exact sub _ (by simp))
  have nlte : hs .ts ≠ le := fun z => mts_gt nd .ts (by rw [z]; exact sub _ (by simp))
  have ndf' : [lc, lq, le].Nodup := by simpa using ndf
  simp only [List.nodup_cons, List.mem_cons, List.not_mem_nil, or_false, not_or, not_false_eq_true, List.nodup_nil, and_true] at ndf'
  obtain ⟨⟨ncq, nce⟩, nqe⟩ := ndf'
  have tp : ∀ {G : Hp}, Kp p H2 G → G t = some (.tup [.str nm, .ref lc, .ref lq, .ref le, .str mk, oV dk, .str ow]) := fun k => k.tup k2.pool ht
  -- a new row at its place
  have newrow : ∀ (J : Hp) (t2 : Addr) (o : HO) (e : PyData) (f' : List Addr), Kp p H2 J → J (hs .ts) = some (.lst xt) → Df (upd J (hs .ts) (.lst (xt.set i (.ref t2)))) e (.ref t2) f' → (∀ s, b.N.tk[i]? = some s → IsTask b.N s e) → Q .non (upd J (hs .ts) (.lst (xt.set i (.ref t2)))) := fun J t2 o e f' kj ej hD hT => by
    refine q _ { b with ts := b.ts.set i e } (KM.kp (k12.trans kj) ⟨fun c o n1 n2 ec => ?_, kj.pool.elsewhere nts⟩) (ok.task1 (fun s es _ => hT s es) hd) (fin _ e _ f' (fun c o n ec => ?_) upd_same hD)
    · rw [upd_ne (fun z => n2 (by rw [z]; exact Hand.memk .ts))]
      exact ec
    · rw [upd_ne (fun z => n (by rw [z]; simp))]
      exact kj.keep c o (fun z => n (by rw [z]; simp)) ec
  have nms2 : ∀ {G : Hp}, Kp p H2 G → G (hs .ms) = some (.lst (b.N.ma.map V.str)) := fun k => k.keep _ _ nms hand2.ms
  have mm2 : ∀ {G : Hp}, Kp p H2 G → G m = some (.lst (refs hs)) := fun k => k.keep _ _ nmp hand2.1
  have tt2 : ∀ {G : Hp}, Kp p H2 G → G (hs .ts) = some (.lst xt) := fun k => k.keep _ _ nts hand2.2.2.1
  have kr := Kp.refl k2.pool
  -- the lists of the row elsewhere
  have dC : ∀ {G : Hp}, Kp p H2 G → ∀ {l : Addr} {z : List V}, l = hs .ts → Df (upd G l (.lst z)) (.list cs) (.ref lc) [lc] := fun {G} k {l z} el => by
    subst el
    exact ⟨lc, xc, [], rfl, rfl, by rw [upd_ne nltc.symm]; exact k.keep _ _ nlc hlc, (hCl.kp k k2.pool (by simp)).put (tt2 k) (by simp)⟩
  have dQ : ∀ {G : Hp}, Kp p H2 G → ∀ {l : Addr} {z : List V}, l = hs .ts → Df (upd G l (.lst z)) (.list (qs.map .str)) (.ref lq) [lq] := fun {G} k {l z} el => by
    subst el
    exact ⟨lq, _, [], rfl, rfl, by rw [upd_ne nltq.symm]; exact k.keep _ _ nlq hlq, strs_df qs⟩
  have dE : ∀ {G : Hp}, Kp p H2 G → ∀ {l : Addr} {z : List V}, l = hs .ts → Df (upd G l (.lst z)) (.list (es.map .str)) (.ref le) [le] := fun {G} k {l z} el => by
    subst el
    exact ⟨le, _, [], rfl, rfl, by rw [upd_ne nlte.symm]; exact k.keep _ _ nle hle, strs_df es⟩
  have row7 : ∀ {G : Hp} {t2 : Addr} {lq' : Addr} {qs' : List Str} {mk' ow' : Str}, G t2 = some (.tup [.str nm, .ref lc, .ref lq', .ref le, .str mk', oV dk, .str ow']) → Df G (.list cs) (.ref lc) [lc] → Df G (.list (qs'.map .str)) (.ref lq') [lq'] → Df G (.list (es.map .str)) (.ref le) [le] →
      Df G (.tuple [.str nm, .list cs, .list (qs'.map .str), .list (es.map .str), .str mk', oN dk, .str ow']) (.ref t2) [lc, lq', le] := fun e1 e2 e3 e4 => tD e1 ⟨_, _, [], _, rfl, rfl, sD nm, _, _, [lc], [_, le], rfl, rfl, e2, _, _, [_], [le], rfl, rfl, e3, _, _, [le], [], rfl, rfl, e4, .c (sD _) (.c (oN_df _ dk) (.c (sD _) .n))⟩
  have nmi : ∀ s, b.N.tk[i]? = some s → s = nm := fun s es => by
    rw [enm] at es
    exact (Option.some.inj es).symm
  rw [hx]
  refine ⟨_, rfl, rfl, _, rfl, ite2 (fun _ => ?_) (fun _ => ?_)⟩
  · -- the owner
    have htk := tp kr
    refine ⟨_, rfl, t, _, _, _, rfl, rfl, .of htk, atI_nat (j := 0) rfl, _, rfl, t, _, _, _, rfl, rfl, .of htk, atI_nat (j := 1) rfl, _, rfl, t, _, _, _, rfl, rfl, .of htk, atI_nat (j := 2) rfl, _, rfl, t, _, _, _, rfl, rfl, .of htk, atI_nat (j := 3) rfl, _, rfl, t, _, _, _, rfl, rfl, .of htk, atI_nat (j := 4) rfl, _, rfl, t, _, _, _, rfl, rfl, .of htk, atI_nat (j := 5) rfl, ?_⟩
    refine ⟨_, rfl, _, rfl, sz 3, fun lo hlo => ?_⟩
    have k3 := kr.new (o := .lst (owners.map V.str)) hlo
    refine ⟨a, p, lo, ns, owners.map V.str, rfl, hS2.on k3, .of upd_same (kr.ne hlo), k3.pool, by decide, by decide, fun j y H4 hy k4 => ?_⟩
    obtain ⟨so, rfl, hso⟩ := str_of hy
    have k34 := k3.trans k4
    refine ⟨sz 7, fun t2 ht2 => ?_⟩
    have k5 := k34.new (o := .tup [.str nm, .ref lc, .ref lq, .ref le, .str mk, oV dk, .str so]) ht2
    refine ⟨_, rfl, m, _, _, _, rfl, rfl, .of (mm2 k5), atI_nat (j := 6) rfl, _, rfl, hs .ts, _, _, i, rfl, rfl, tt2 k5, ixn_nat hi, ?_⟩
    have ntt : t2 ≠ hs .ts := fun z => by
      have := tt2 k34
      rw [← z, ht2] at this
      cases this
    exact newrow _ t2 (.own t2) _ _ k5 (tt2 k5) (row7 (by rw [upd_ne ntt]; exact upd_same) (dC k5 rfl) (dQ k5 rfl) (dE k5 rfl)) fun s hs' => by
      rw [nmi s hs']
      exact isTask_mk hcl hcs hqn hqd hqs hel hes hmk hdk hso
  refine ⟨_, rfl, rfl, _, rfl, ite2 (fun _ => ?_) (fun _ => ?_)⟩
  · -- the mark
    have htk := tp kr
    refine ⟨_, rfl, t, _, _, _, rfl, rfl, .of htk, atI_nat (j := 0) rfl, _, rfl, t, _, _, _, rfl, rfl, .of htk, atI_nat (j := 1) rfl, _, rfl, t, _, _, _, rfl, rfl, .of htk, atI_nat (j := 2) rfl, _, rfl, t, _, _, _, rfl, rfl, .of htk, atI_nat (j := 3) rfl, ?_⟩
    refine ⟨_, rfl, _, rfl, _, rfl, m, _, _, _, rfl, rfl, .of (mm2 kr), atI_nat (j := 3) rfl, a, p, hs .ms, ns, _, rfl, hS2, .of (nms2 kr) nms, k2.pool, by omega, by omega, fun j y H4 hy k4 => ?_⟩
    obtain ⟨so, rfl, hso⟩ := str_of hy
    have ht4 := tp k4
    refine ⟨_, rfl, t, _, _, _, rfl, rfl, .of ht4, atI_nat (j := 5) rfl, _, rfl, t, _, _, _, rfl, rfl, .of ht4, atI_nat (j := 6) rfl, ?_⟩
    refine ⟨sz 7, fun t2 ht2 => ?_⟩
    have k5 := k4.new (o := .tup [.str nm, .ref lc, .ref lq, .ref le, .str so, oV dk, .str ow]) ht2
    refine ⟨_, rfl, m, _, _, _, rfl, rfl, .of (mm2 k5), atI_nat (j := 6) rfl, _, rfl, hs .ts, _, _, i, rfl, rfl, tt2 k5, ixn_nat hi, ?_⟩
    have ntt : t2 ≠ hs .ts := fun z => by
      have := tt2 k4
      rw [← z, ht2] at this
      cases this
    exact newrow _ t2 (.own t2) _ _ k5 (tt2 k5) (row7 (by rw [upd_ne ntt]; exact upd_same) (dC k5 rfl) (dQ k5 rfl) (dE k5 rfl)) fun s hs' => by
      rw [nmi s hs']
      exact isTask_mk hcl hcs hqn hqd hqs hel hes hso hdk how
  refine ⟨_, rfl, rfl, _, rfl, ite2 (fun _ => ?_) (fun _ => ?_)⟩
  · -- quiet marks turned
    have htk := tp kr
    refine ⟨_, rfl, t, _, _, _, rfl, rfl, .of htk, atI_nat (j := 0) rfl, _, rfl, t, _, _, _, rfl, rfl, .of htk, atI_nat (j := 1) rfl, _, rfl, t, _, _, _, rfl, rfl, .of htk, atI_nat (j := 2) rfl, ?_⟩
    refine ⟨lq, _, rfl, .of hlq, fun lr hlr => ?_⟩
    have k3 := kr.new (o := .lst (qs.map V.str).reverse) hlr
    have ht3 := tp k3
    refine ⟨_, rfl, t, _, _, _, rfl, rfl, .of ht3, atI_nat (j := 3) rfl, _, rfl, t, _, _, _, rfl, rfl, .of ht3, atI_nat (j := 4) rfl, _, rfl, t, _, _, _, rfl, rfl, .of ht3, atI_nat (j := 5) rfl, _, rfl, t, _, _, _, rfl, rfl, .of ht3, atI_nat (j := 6) rfl, ?_⟩
    refine ⟨sz 7, fun t2 ht2 => ?_⟩
    have k5 := k3.new (o := .tup [.str nm, .ref lc, .ref lr, .ref le, .str mk, oV dk, .str ow]) ht2
    refine ⟨_, rfl, m, _, _, _, rfl, rfl, .of (mm2 k5), atI_nat (j := 6) rfl, _, rfl, hs .ts, _, _, i, rfl, rfl, tt2 k5, ixn_nat hi, ?_⟩
    have ntt : t2 ≠ hs .ts := fun z => by
      have := tt2 k3
      rw [← z, ht2] at this
      cases this
    have nrt : lr ≠ hs .ts := fun z => by
      have := tt2 kr
      rw [← z, hlr] at this
      cases this
    have nrt2 : lr ≠ t2 := ne_of_none upd_same ht2
    have dR : ∀ {z : List V}, Df (upd (upd (upd H2 lr (.lst (qs.map V.str).reverse)) t2 (.tup [.str nm, .ref lc, .ref lr, .ref le, .str mk, oV dk, .str ow])) (hs .ts) (.lst z)) (.list (qs.reverse.map .str)) (.ref lr) [lr] := ⟨lr, _, [], rfl, rfl, by rw [upd_ne nrt, upd_ne nrt2, upd_same, ← List.map_reverse], strs_df _⟩
    exact newrow _ t2 (.own t2) _ _ k5 (tt2 k5) (row7 (by rw [upd_ne ntt]; exact upd_same) (dC k5 rfl) dR (dE k5 rfl)) fun s hs' => by
      rw [nmi s hs']
      exact isTask_mk hcl hcs (by simpa using hqn) ((List.reverse_perm qs).nodup_iff.mpr hqd) (fun z hz => hqs z (List.mem_reverse.mp hz)) hel hes hmk hdk how
  -- a list of the row changed
  have inner : ∀ (J : Hp) (l : Addr) (zs : List V) (e : PyData), Kp p H2 J → l ∈ [lc, lq, le] → Df (upd J l (.lst zs)) e (.ref t) [lc, lq, le] → (∀ s, b.N.tk[i]? = some s → IsTask b.N s e) → Q .non (upd J l (.lst zs)) := fun J l zs e kj ml hD hT => by
    have nl : l ≠ p := fun z => hpm (by rw [← z]; exact subm _ ml)
    have nlt : l ≠ hs .ts := fun z => mts_gt nd .ts (by rw [← z]; exact sub _ (by simpa using ml))
    refine q _ { b with ts := b.ts.set i e } (KM.kp (k12.trans kj) ⟨fun c o n1 n2 ec => ?_, kj.pool.elsewhere nl⟩) (ok.task1 (fun s es _ => hT s es) hd) (fin _ e (.ref t) [lc, lq, le] (fun c o n ec => ?_) ?_ hD)
    · rw [upd_ne (fun z => n2 (by rw [z]; exact subm _ ml))]
      exact ec
    · rw [upd_ne (fun z => n (by rw [z]; simp only [List.mem_cons]; exact .inr (.inr (by simpa using ml))))]
      exact kj.keep c o (fun z => n (by rw [z]; simp)) ec
    · rw [upd_ne nlt.symm, tt2 kj]
      rw [show xt.set i (.ref t) = xt by rw [← hx]; exact List.set_getElem_self hi]
  refine ⟨_, rfl, rfl, _, rfl, ite2 (fun _ => ?_) (fun _ => ?_)⟩
  · -- the ends
    refine ⟨_, rfl, _, rfl, _, rfl, m, _, _, _, rfl, rfl, .of (mm2 kr), atI_nat (j := 3) rfl, a, p, hs .ms, ns, _, rfl, hS2, .of (nms2 kr) nms, k2.pool, by omega, by omega, fun j y H4 hy k4 => ?_⟩
    obtain ⟨so, rfl, hso⟩ := str_of hy
    have ht4 := tp k4
    have hle4 := k4.keep _ _ nle hle
    refine ⟨_, rfl, t, _, _, _, rfl, rfl, .of ht4, atI_nat (j := 3) rfl, ?_⟩
    have hel' : (es.map V.str).length = es.length := List.length_map _
    refine ⟨_, rfl, _, rfl, _, rfl, t, _, _, _, rfl, rfl, .of ht4, atI_nat (j := 3) rfl, le, _, rfl, .inl (.of hle4), a, p, ns, _, rfl, hS2.on k4, k4.pool, by omega, by omega, fun r5 H5 r50 r51 k5 => ?_⟩
    obtain ⟨j5, hj5, rfl⟩ : ∃ j : Nat, j < (es.map V.str).length ∧ r5 = (j : Int) := ⟨r5.toNat, by omega, by omega⟩
    have k45 := k4.trans k5
    have hle5 := k45.keep _ _ nle hle
    refine ⟨le, _, _, j5, rfl, rfl, hle5, ixn_nat hj5, ?_⟩
    rw [map_set]
    refine inner _ le _ (.tuple [.str nm, .list cs, .list (qs.map .str), .list ((es.set j5 so).map .str), .str mk, oN dk, .str ow]) k45 (by simp) ?_ fun s hs' => by
      rw [nmi s hs']
      exact isTask_mk hcl hcs hqn hqd hqs (by rw [List.length_set]; exact hel) (fun z hz => set_mem hes hso hz) hmk hdk how
    have htu : upd H5 le (.lst ((es.set j5 so).map V.str)) t = some (.tup [.str nm, .ref lc, .ref lq, .ref le, .str mk, oV dk, .str ow]) := by
      rw [upd_ne (ne_of (tp k45) hle5 (by intro z; cases z))]
      exact tp k45
    exact tD htu ⟨_, _, [], _, rfl, rfl, sD nm, _, _, [lc], [lq, le], rfl, rfl, ⟨lc, xc, [], rfl, rfl, by rw [upd_ne nce]; exact k45.keep _ _ nlc hlc, (hCl.kp k45 k2.pool (by simp)).put hle5 (by simp)⟩, _, _, [lq], [le], rfl, rfl, ⟨lq, _, [], rfl, rfl, by rw [upd_ne nqe]; exact k45.keep _ _ nlq hlq, strs_df qs⟩, _, _, [le], [], rfl, rfl, ⟨le, _, [], rfl, rfl, upd_same, strs_df _⟩, .c (sD _) (.c (oN_df _ dk) (.c (sD _) .n))⟩
  · -- the calls
    have htk := tp kr
    have hxc := hCl.len
    refine ⟨_, rfl, _, rfl, _, rfl, t, _, _, _, rfl, rfl, .of htk, atI_nat (j := 1) rfl, lc, _, rfl, .inl (.of hlc), a, p, ns, _, rfl, hS2, k2.pool, by omega, by omega, fun r3 H3 r30 r31 k3 => ?_⟩
    obtain ⟨j3, hj3, rfl⟩ : ∃ j : Nat, j < xc.length ∧ r3 = (j : Int) := ⟨r3.toNat, by omega, by omega⟩
    refine ⟨_, rfl, _, rfl, _, rfl, m, _, _, _, rfl, rfl, .of (mm2 k3), atI_nat (j := 3) rfl, a, p, hs .ms, ns, _, rfl, hS2.on k3, .of (nms2 k3) nms, k3.pool, by omega, by omega, fun j y H4 hy k4 => ?_⟩
    obtain ⟨so, rfl, hso⟩ := str_of hy
    have k34 := k3.trans k4
    have ht4 := tp k34
    have hlc4 := k34.keep _ _ nlc hlc
    have hC4 := hCl.kp k34 k2.pool (by simp)
    obtain ⟨c0, f0, hc0, hDc, _⟩ := hC4.at (List.getElem?_eq_getElem hj3)
    obtain ⟨cm, ck, rfl, hcm, hck⟩ := hcs c0 (List.mem_of_getElem? hc0)
    obtain ⟨tc, yc, etc, htc, hyc⟩ := hDc
    have ef0 : f0 = [] := DfL.flat (fun d hd => by
      rcases List.mem_cons.mp hd with rfl | hd
      · exact flat_str cm
      · rw [List.mem_singleton.mp hd]
        exact flat_oN ck) hyc
    subst ef0
    obtain ⟨z0, rr0, rfl, ⟨rfl, _⟩, hyc1⟩ := hyc.u
    obtain ⟨z1, rr1, rfl, hz1, hyc2⟩ := hyc1.u
    obtain ⟨rfl, _⟩ := hyc2
    have ez1 := oN_v hz1
    subst ez1
    refine ⟨_, rfl, t, _, _, _, rfl, rfl, .of ht4, atI_nat (j := 1) rfl, _, rfl, lc, _, _, _, rfl, rfl, .of hlc4, atI_nat (List.getElem?_eq_getElem hj3), ?_⟩
    refine ⟨tc, _, _, _, etc, rfl, .of htc, atI_nat (j := 1) rfl, sz 2, fun t2 ht2 => ?_⟩
    have k5 := k34.new (o := .tup [.str so, oV ck]) ht2
    have ht5 := tp k5
    have hlc5 := k5.keep _ _ nlc hlc
    refine ⟨_, rfl, t, _, _, _, rfl, rfl, .of ht5, atI_nat (j := 1) rfl, _, rfl, lc, _, _, j3, rfl, rfl, hlc5, ixn_nat hj3, ?_⟩
    have hC5 := hCl.kp k5 k2.pool (by simp)
    obtain ⟨_, c1, c2, c3, _, ec, _, hset⟩ := hC5.set (i := j3) (d := .tuple [.str cm, oN ck]) hc0
    have ec' := ec.symm
    rw [List.append_eq_nil_iff, List.append_eq_nil_iff] at ec'
    obtain ⟨rfl, rfl, rfl⟩ := ec'
    have tupk : ∀ z zs, upd H4 t2 (.tup [.str so, oV ck]) z = some (.tup zs) → upd (upd H4 t2 (.tup [.str so, oV ck])) lc (.lst (xc.set j3 (.ref t2))) z = some (.tup zs) := fun z zs e => by
      rw [upd_ne (ne_of e hlc5 (by intro z; cases z))]
      exact e
    have ntc : t2 ≠ lc := fun z => by rw [z, hlc4] at ht2; cases ht2
    have hCn := hset (upd (upd H4 t2 (.tup [.str so, oV ck])) lc (.lst (xc.set j3 (.ref t2)))) (.tuple [.str so, oN ck]) (.ref t2) [] tupk (by simp) (tD (by rw [upd_ne ntc]; exact upd_same) (.c (sD _) (.c (oN_df _ ck) .n)))
    refine inner _ lc _ (.tuple [.str nm, .list (cs.set j3 (.tuple [.str so, oN ck])), .list (qs.map .str), .list (es.map .str), .str mk, oN dk, .str ow]) k5 (by simp) ?_ fun s hs' => by
      rw [nmi s hs']
      exact isTask_mk (by rw [List.length_set]; exact hcl) (fun z hz => set_mem hcs ⟨so, ck, rfl, hso, hck⟩ hz) hqn hqd hqs hel hes hmk hdk how
    exact tD (tupk _ _ ht5) ⟨_, _, [], _, rfl, rfl, sD nm, _, _, [lc], [lq, le], rfl, rfl, ⟨lc, _, [], rfl, rfl, upd_same, hCn⟩, _, _, [lq], [le], rfl, rfl, ⟨lq, _, [], rfl, rfl, by rw [upd_ne (Ne.symm ncq)]; exact k5.keep _ _ nlq hlq, strs_df qs⟩, _, _, [le], [], rfl, rfl, ⟨le, _, [], rfl, rfl, by rw [upd_ne (Ne.symm nce)]; exact k5.keep _ _ nle hle, strs_df _⟩, .c (sD _) (.c (oN_df _ dk) (.c (sD _) .n))⟩
end
end My

namespace My
open PySem L2
abbrev s_l_changed : Stmt := top 58
theorem sc_l_changed : FnScope ["_law_script", "_law_pool_here", "_law_parts_here", "_law_kind", "_law_made", "_law_part", "_law_at"] ["_law_script", "_law_pool_here", "_law_parts_here", "_law_kind"] (defScope s_l_changed) := ⟨rfl, rfl, rfl, by decide +kernel, rfl, by decide +kernel, by decide +kernel⟩
def spChanged (K : PySem.W.Frag) : Sp := fun vs H Q _ => ∃ (a p mp : Addr) (kd : Int) (ns : List Int) (b : RB) (fp : List Addr), vs = [.ref a, .ref p, .ref mp, .int kd] ∧ Scr K H a p ns ∧ Pool H p ∧ Df H (.list b.parts) (.ref mp) fp ∧ b.Ok ∧
  ∀ (G : Hp) (m : Addr) (hs : Pk → Addr) (c : RB), Kp p H G → G m = some (.lst (refs hs)) → Nine G c hs → c.Ok → Q (.ref m) G
theorem upd_only {J : Hp} {p l : Addr} {o : HO} : Only [p, l] J (upd J l o) := fun a u n e => by
  rw [upd_ne (fun z => n (by rw [z]; simp))]
  exact e
theorem DfL.insert {H : Hp} {ds : List PyData} {xs : List V} {fp : List Addr} (h : DfL H ds xs fp) {j n : Nat} {d : PyData} {x : V} (hd : ds[j]? = some d) (hx : xs[j]? = some x) : ∃ gp, DfL H (ds.take n ++ [d] ++ ds.drop n) (xs.take n ++ [x] ++ xs.drop n) gp := by
  obtain ⟨f, g, h1, h2⟩ := h.take2 n
  obtain ⟨d', f', e, hDx, _⟩ := h.at hx
  rw [hd] at e
  cases e
  have hx1 : DfL H [d] [x] (f' ++ []) := ⟨x, [], f', [], rfl, rfl, hDx, rfl, rfl⟩
  exact ⟨_, (h1.append hx1).append h2⟩
section
variable {P : Program} {w : World} {K : PySem.W.Frag} {mg : Str → Option Value} {base : Heap}
theorem ok_changed {f fC fD fO fE fL fT : Addr} {fd fdC fdD fdO fdE fdL fdT : FuncData} (D : DefT K mg "_law_changed" "_law_changed" s_l_changed ["_law_script", "_law_pool_here", "_law_parts_here", "_law_kind"] f fd) (Z : Zs mg) (D_l_copy : DefT K mg "_law_copy" "_law_copy" s_l_copy ["_law_parts_here"] fC fdC) (D_l_draw : DefT K mg "_law_draw" "_law_draw" s_l_draw ["_law_script", "_law_pool_here", "_law_limit"] fD fdD)
    (D_l_one : DefT K mg "_law_one" "_law_one" s_l_one ["_law_script", "_law_pool_here", "_law_row"] fO fdO) (D_l_exchange : DefT K mg "_law_exchange" "_law_exchange" s_l_exchange ["_law_script", "_law_pool_here", "_law_row", "_law_least"] fE fdE) (D_l_leave_out : DefT K mg "_law_leave_out" "_law_leave_out" s_l_leave_out ["_law_script", "_law_pool_here", "_law_row"] fL fdL)
    (D_l_change_task : DefT K mg "_law_change_task" "_law_change_task" s_l_change_task ["_law_script", "_law_pool_here", "_law_parts_here"] fT fdT) :
    FnOk P w K mg base CX0 5 f fd ["_law_script", "_law_pool_here", "_law_parts_here", "_law_kind"] (spChanged K) := by
  have G_l_draw := ok_draw (P := P) (w := w) (base := base) D_l_draw Z
  have G_l_one := ok_one (P := P) (w := w) (base := base) D_l_one Z D_l_draw
  have G_l_copy := ok_copy (P := P) (w := w) (base := base) D_l_copy Z
  have G_l_exchange := ok_exch (P := P) (w := w) (base := base) D_l_exchange Z D_l_draw
  have G_l_leave_out := ok_leave (P := P) (w := w) (base := base) D_l_leave_out Z D_l_draw
  have G_l_change_task := ok_chtask (P := P) (w := w) (base := base) D_l_change_task Z D_l_draw D_l_one
  refine D.F.ok sc_l_changed (fun vs H Q E h => ?_) (fun cdv A outer s H vs Q E hr h => ?_)
  · obtain ⟨a, p, mp, kd, ns, b, fp, rfl, _⟩ := h
    rfl
  obtain ⟨a, p, mp, kd, ns, b, fp, rfl, hS, hP, hDf, ok, q⟩ := h
  obtain ⟨_, xp, gp, e1, rfl, hmp, hDl⟩ := hDf
  cases e1
  obtain ⟨hsP, rfl, nP⟩ := hDl.nine
  refine ⟨_, (pss_cons (ps_set (i := 4) sc_l_changed.nd rfl (Or.inl rfl) (pe_call G_l_copy (hr.mono (by decide)) rfl D_l_copy.m D_l_copy.F.kp D_l_copy.b .nil pass0 (pa_cons (pv 2) pa_nil))) (pss_cons (ps_set (i := 5) sc_l_changed.nd rfl (Or.inl rfl) (pe_call G_l_one (hr.mono (by decide)) rfl D_l_one.m D_l_one.F.kp D_l_one.b .nil pass0 (pa_cons (pv 0) (pa_cons (pv 1) (pa_cons (pe_lst (pa_cons pe_int (pa_cons pe_int (pa_cons pe_int (pa_cons pe_int pa_nil))))) pa_nil))))) (pss_cons (ps_if (pt_cmpR op_eq (pv 3) pe_int (nomark _)) (pss_one (ps_expr (pe_call G_l_exchange (hr.mono (by decide)) rfl D_l_exchange.m D_l_exchange.F.kp D_l_exchange.b .nil pass0 (pa_cons (pv 0) (pa_cons (pv 1) (pa_cons (pe_ix ix_list (pv 4) (pe_call G_l_one (hr.mono (by decide)) rfl D_l_one.m D_l_one.F.kp D_l_one.b .nil pass0 (pa_cons (pv 0) (pa_cons (pv 1) (pa_cons (pe_lst (pa_cons pe_int (pa_cons pe_int (pa_cons pe_int (pa_cons pe_int (pa_cons pe_int (pa_cons pe_int (pa_cons pe_int (pa_cons pe_int pa_nil))))))))) pa_nil)))) (fun _ _ => rfl)) (pa_cons pe_int pa_nil))))))) (pss_one (ps_if (pt_cmpR op_eq (pv 3) pe_int (nomark _)) (pss_one (ps_expr (pe_call G_l_exchange (hr.mono (by decide)) rfl D_l_exchange.m D_l_exchange.F.kp D_l_exchange.b .nil pass0 (pa_cons (pv 0) (pa_cons (pv 1) (pa_cons (pe_ix ix_list (pv 4) pe_int (fun _ _ => rfl)) (pa_cons pe_int pa_nil))))))) (pss_one (ps_if (pt_cmpR op_eq (pv 3) pe_int (nomark _)) (pss_one (ps_expr (pe_call G_l_leave_out (hr.mono (by decide)) rfl D_l_leave_out.m D_l_leave_out.F.kp D_l_leave_out.b .nil pass0 (pa_cons (pv 0) (pa_cons (pv 1) (pa_cons (pe_ix ix_list (pv 4) (pv 5) (fun _ _ => rfl)) pa_nil)))))) (pss_one (ps_if (pt_cmpR op_eq (pv 3) pe_int (nomark _)) (pss_one (ps_if (pt_chain op_lt op_lt pe_int (pe_callB call_len_seq (by rfl) Z.len (by decide +kernel) (pa_cons (pe_ix ix_list (pv 4) pe_int (fun _ _ => rfl)) pa_nil)) pe_int) (pss_one (ps_expr (pe_bm PySem.F.plainAttrs_list PySem.F.slot_list_insert PySem.F.type_list_insert mt_insert (pe_ix ix_list (pv 4) pe_int (fun _ _ => rfl)) (pa_cons (pe_call G_l_draw (hr.mono (by decide)) rfl D_l_draw.m D_l_draw.F.kp D_l_draw.b .nil pass0 (pa_cons (pv 0) (pa_cons (pv 1) (pa_cons (pe_op op_add (pe_callB call_len_seq (by rfl) Z.len (by decide +kernel) (pa_cons (pe_ix ix_list (pv 4) pe_int (fun _ _ => rfl)) pa_nil)) pe_int) pa_nil)))) (pa_cons (pe_call G_l_one (hr.mono (by decide)) rfl D_l_one.m D_l_one.F.kp D_l_one.b .nil pass0 (pa_cons (pv 0) (pa_cons (pv 1) (pa_cons (pe_ix ix_list (pv 4) pe_int (fun _ _ => rfl)) pa_nil)))) pa_nil))))) pss_nil)) (pss_one (ps_if (pt_cmpR op_eq (pv 3) pe_int (nomark _)) (pss_cons (ps_set (i := 6) sc_l_changed.nd rfl (Or.inl rfl) (pe_call G_l_draw (hr.mono (by decide)) rfl D_l_draw.m D_l_draw.F.kp D_l_draw.b .nil pass0 (pa_cons (pv 0) (pa_cons (pv 1) (pa_cons (pe_callB call_len_seq (by rfl) Z.len (by decide +kernel) (pa_cons (pe_ix ix_list (pv 4) pe_int (fun _ _ => rfl)) pa_nil)) pa_nil))))) (pss_one (ps_asg (pe_tup (pa_cons (pe_ix ix_tup (pe_ix ix_list (pe_ix ix_list (pv 4) pe_int (fun _ _ => rfl)) (pv 6) (fun _ _ => rfl)) pe_int (fun _ _ => rfl)) (pa_cons (pe_not (pe_ix ix_tup (pe_ix ix_list (pe_ix ix_list (pv 4) pe_int (fun _ _ => rfl)) (pv 6) (fun _ _ => rfl)) pe_int (fun _ _ => rfl))) pa_nil))) (pg_sub (pe_ix ix_list (pv 4) pe_int (fun _ _ => rfl)) (pv 6) set_list)))) (pss_one (ps_if (pt_cmpR op_eq (pv 3) pe_int (nomark _)) (pss_cons (ps_set (i := 6) sc_l_changed.nd rfl (Or.inl rfl) (pe_op op_add pe_int (pe_call G_l_draw (hr.mono (by decide)) rfl D_l_draw.m D_l_draw.F.kp D_l_draw.b .nil pass0 (pa_cons (pv 0) (pa_cons (pv 1) (pa_cons (pe_op op_sub (pe_callB call_len_seq (by rfl) Z.len (by decide +kernel) (pa_cons (pe_ix ix_list (pv 4) pe_int (fun _ _ => rfl)) pa_nil)) pe_int) pa_nil)))))) (pss_one (ps_asg (pe_tup (pa_cons (pe_ix ix_tup (pe_ix ix_list (pe_ix ix_list (pv 4) pe_int (fun _ _ => rfl)) (pv 6) (fun _ _ => rfl)) pe_int (fun _ _ => rfl)) (pa_cons (pe_call G_l_one (hr.mono (by decide)) rfl D_l_one.m D_l_one.F.kp D_l_one.b .nil pass0 (pa_cons (pv 0) (pa_cons (pv 1) (pa_cons (pe_lst (pa_cons pe_str (pa_cons pe_str (pa_cons pe_str (pa_cons pe_str (pa_cons pe_str (pa_cons pe_str (pa_cons pe_str (pa_cons pe_str (pa_cons pe_str (pa_cons pe_str pa_nil))))))))))) pa_nil)))) pa_nil))) (pg_sub (pe_ix ix_list (pv 4) pe_int (fun _ _ => rfl)) (pv 6) set_list)))) (pss_one (ps_if (pt_cmpR op_eq (pv 3) pe_int (nomark _)) (pss_one (ps_expr (pe_call G_l_change_task (hr.mono (by decide)) rfl D_l_change_task.m D_l_change_task.F.kp D_l_change_task.b .nil pass0 (pa_cons (pv 0) (pa_cons (pv 1) (pa_cons (pv 4) pa_nil)))))) pss_nil))))))))))))) (pss_one (ps_ret (pv 4)))))), ?_⟩
  refine ⟨_, rfl, mp, hsP, b, rfl, hmp, nP, ok, fun G1 m hs xt gt ⟨sG, hand1, fr, nm, nmm⟩ => ?_⟩
  have hP1 : Pool G1 p := by
    obtain ⟨x0, x1, x2, x3, h0, e⟩ := hP
    exact ⟨x0, x1, x2, x3, h0, sG _ _ e⟩
  have k01 : Kp p H G1 := ⟨fun b o _ e => sG b o e, hP1⟩
  have nd := fr.1
  obtain ⟨zs, ez⟩ := hP.lst
  have hpm : p ∉ mts hs gt := fun z => by
    rw [fr.2 p z] at ez
    cases ez
  have nmp : m ≠ p := fun z => by
    rw [← z, nm] at ez
    cases ez
  have k1 := Kp.refl hP1
  have nk : ∀ k, hs k ≠ p := fun k z => hpm (by rw [← z]; exact Hand.memk k)
  have h30 : ∀ k, (b.ds k).length ≤ 30 := fun k => Nat.le_trans (ok.fact k).2.1 k.hi30
  -- done
  have done : ∀ (G : Hp) (c : RB), KM p (mts hs gt) G1 G → c.Ok → Nine G c hs → Q (.ref m) G := fun G c km okc nc =>
    q G m hs c ⟨fun b o n e => km.keep b o n (fun z => by
      rw [fr.2 b z] at e
      cases e) (sG b o e), km.pool⟩ (km.keep _ _ nmp nmm hand1.1) nc okc
  -- one list changed
  have part : ∀ (J G : Hp) (k : Pk) (xs ys : List V) (c : RB), Kp p G1 J → Pool G p → J (hs k) = some (.lst xs) → Only [p, hs k] J G → G (hs k) = some (.lst ys) → (∀ gp, DfL G (b.ds k) xs gp → ∃ gp', DfL G (c.ds k) ys gp') → (∀ q, q ≠ k → c.ds q = b.ds q) → c.Ok → Q (.ref m) G := fun J G k xs ys c kj hPG ej on eg hd hq okc => by
    have handJ := hand1.kp kj hP1 hpm nmp
    obtain ⟨gp, _, d2⟩ := handJ.part_on nd kj.pool.lst hpm ej on
    obtain ⟨gp', d3⟩ := hd gp d2
    refine done G c ⟨fun b o n1 n2 e => on b o (fun z => ?_) (kj.keep b o n1 e), hPG⟩ okc (handJ.set_part nd kj.pool.lst hpm on eg d3 hq)
    rcases List.mem_cons.mp z with z | z
    · exact n1 z
    · exact n2 (by rw [List.mem_singleton.mp z]; exact Hand.memk k)
  have lens : ∀ (J : Hp) (k : Pk), Kp p G1 J → ∃ xs, J (hs k) = some (.lst xs) ∧ xs.length = (b.ds k).length := fun J k kj => by
    obtain ⟨xs, gp, e, d⟩ := (hand1.kp kj hP1 hpm nmp).nine k
    exact ⟨xs, e, d.len⟩
  have exch : ∀ (J G : Hp) (k : Pk) (xs ys : List V) (mm : Nat), Kp p G1 J → J (hs k) = some (.lst xs) → xs.length = (b.ds k).length → (k = .ss → 1 ≤ mm) → KL p (hs k) J G → G (hs k) = some (.lst ys) → (ys = xs ∨ ∃ i j, mm ≤ i ∧ mm ≤ j ∧ i < xs.length ∧ j < xs.length ∧ Sw i j xs ys) → Q (.ref m) G := fun J G k xs ys mm kj ej hlen hmm kl eg hy => by
    have on : Only [p, hs k] J G := fun a o n e => kl.keep a o (fun z => n (by rw [z]; simp)) (fun z => n (by rw [z]; simp)) e
    rcases hy with rfl | ⟨i, j, i1, j1, i2, j2, hsw⟩
    · exact part J G k _ _ b kj kl.pool ej on eg (fun gp d => ⟨gp, d⟩) (fun _ _ => rfl) ok
    · obtain ⟨gp, _, d2⟩ := (hand1.kp kj hP1 hpm nmp).part_on nd kj.pool.lst hpm ej on
      obtain ⟨es, gp', hse, d3⟩ := d2.sw hsw i2 j2
      obtain ⟨c, okc, ec, eq⟩ := ok.exch k (by omega) (by omega) hse (fun z => ⟨Nat.le_trans (hmm z) i1, Nat.le_trans (hmm z) j1⟩)
      exact part J G k _ _ c kj kl.pool ej on eg (fun _ _ => ⟨gp', by rw [ec]; exact d3⟩) eq okc
  refine ⟨_, rfl, _, rfl, sz 4, fun lp hlp => ?_⟩
  have k2 := k1.new (o := .lst [.int 4, .int 5, .int 7, .int 8]) hlp
  refine ⟨a, p, lp, ns, [.int 4, .int 5, .int 7, .int 8], rfl, hS.on (k01.trans k2), .of upd_same (k1.ne hlp), k2.pool, by decide, by decide, fun jp y G3 hy k3' => ?_⟩
  have k3 := k2.trans k3'
  have hand3 := hand1.kp k3 hP1 hpm nmp
  have hS3 := hS.on (k01.trans k3)
  refine ⟨_, rfl, rfl, _, rfl, ite2 (fun _ => ?_) (fun _ => ?_)⟩
  · -- two items exchanged
    refine ⟨_, rfl, _, rfl, _, rfl, _, rfl, _, rfl, sz 8, fun l1 h1 => ?_⟩
    have k4 := k3.new (o := .lst [.int 1, .int 2, .int 3, .int 4, .int 5, .int 6, .int 7, .int 8]) h1
    refine ⟨a, p, l1, ns, [.int 1, .int 2, .int 3, .int 4, .int 5, .int 6, .int 7, .int 8], rfl, hS.on (k01.trans k4), .of upd_same (k3.ne h1), k4.pool, by decide, by decide, fun j z G5 hz k5' => ?_⟩
    have k5 := k4.trans k5'
    have hand5 := hand1.kp k5 hP1 hpm nmp
    obtain ⟨k, n, hk, rfl, hat⟩ : ∃ (k : Pk) (n : Int), k ≠ .ss ∧ z = .int n ∧ atI (refs hs) n = some (.ref (hs k)) := by
      match j, hz with
      | 0, hz => cases hz; exact ⟨.us, 1, nofun, rfl, atI_nat (j := 1) rfl⟩
      | 1, hz => cases hz; exact ⟨.ks, 2, nofun, rfl, atI_nat (j := 2) rfl⟩
      | 2, hz => cases hz; exact ⟨.ms, 3, nofun, rfl, atI_nat (j := 3) rfl⟩
      | 3, hz => cases hz; exact ⟨.ws, 4, nofun, rfl, atI_nat (j := 4) rfl⟩
      | 4, hz => cases hz; exact ⟨.as, 5, nofun, rfl, atI_nat (j := 5) rfl⟩
      | 5, hz => cases hz; exact ⟨.ts, 6, nofun, rfl, atI_nat (j := 6) rfl⟩
      | 6, hz => cases hz; exact ⟨.is, 7, nofun, rfl, atI_nat (j := 7) rfl⟩
      | 7, hz => cases hz; exact ⟨.bs, 8, nofun, rfl, atI_nat (j := 8) rfl⟩
    obtain ⟨xs, exs, hlen⟩ := lens G5 k k5
    have l30 := h30 k
    refine ⟨m, _, _, _, rfl, rfl, .of hand5.1, hat, ?_⟩
    refine ⟨a, p, hs k, ns, xs, 0, rfl, hS.on (k01.trans k5), k5.pool, nk k, exs, by omega, fun G ys kl eg hy => ?_⟩
    exact ⟨_, rfl, exch G5 G k xs ys 0 k5 exs hlen (fun z => absurd z hk) kl eg hy⟩
  refine ⟨_, rfl, rfl, _, rfl, ite2 (fun _ => ?_) (fun _ => ?_)⟩
  · -- two states
    obtain ⟨xs, exs, hlen⟩ := lens G3 .ss k3
    have l30 := h30 .ss
    refine ⟨_, rfl, _, rfl, _, rfl, m, _, _, _, rfl, rfl, .of hand3.1, atI_nat (j := 0) rfl, ?_⟩
    refine ⟨a, p, hs .ss, ns, xs, 1, rfl, hS3, k3.pool, nk .ss, exs, by omega, fun G ys kl eg hy => ?_⟩
    exact ⟨_, rfl, exch G3 G .ss xs ys 1 k3 exs hlen (fun _ => Nat.le_refl _) kl eg hy⟩
  refine ⟨_, rfl, rfl, _, rfl, ite2 (fun _ => ?_) (fun _ => ?_)⟩
  · -- one left out
    obtain ⟨k, n, hk, rfl, hat⟩ : ∃ (k : Pk) (n : Int), (k = .ws ∨ k = .as ∨ k = .is ∨ k = .bs) ∧ y = .int n ∧ atI (refs hs) n = some (.ref (hs k)) := by
      match jp, hy with
      | 0, hy => cases hy; exact ⟨.ws, 4, by simp, rfl, atI_nat (j := 4) rfl⟩
      | 1, hy => cases hy; exact ⟨.as, 5, by simp, rfl, atI_nat (j := 5) rfl⟩
      | 2, hy => cases hy; exact ⟨.is, 7, by simp, rfl, atI_nat (j := 7) rfl⟩
      | 3, hy => cases hy; exact ⟨.bs, 8, by simp, rfl, atI_nat (j := 8) rfl⟩
    obtain ⟨xs, exs, hlen⟩ := lens G3 k k3
    have l30 := h30 k
    refine ⟨_, rfl, _, rfl, _, rfl, _, rfl, m, _, _, _, rfl, rfl, .of hand3.1, hat, ?_⟩
    refine ⟨a, p, hs k, ns, xs, rfl, hS3, k3.pool, nk k, exs, by omega, fun G ys kl eg hy => ?_⟩
    refine ⟨_, rfl, ?_⟩
    have on : Only [p, hs k] G3 G := fun a o n e => kl.keep a o (fun z => n (by rw [z]; simp)) (fun z => n (by rw [z]; simp)) e
    rcases hy with rfl | ⟨i, hi, rfl⟩
    · exact part G3 G k _ _ b k3 kl.pool exs on eg (fun gp d => ⟨gp, d⟩) (fun _ _ => rfl) ok
    · have one : ∀ c : RB, c.ds k = (b.ds k).eraseIdx i → (∀ q, q ≠ k → c.ds q = b.ds q) → c.Ok → Q (.ref m) G := fun c e1 e2 okc =>
        part G3 G k _ _ c k3 kl.pool exs on eg (fun gp d => by rw [e1]; exact d.erase i) e2 okc
      rcases hk with rfl | rfl | rfl | rfl
      · exact one { b with ws := b.ws.eraseIdx i } rfl (fun q hq => by cases q <;> first | rfl | exact absurd rfl hq) (ok.wishes (Nat.le_trans (List.eraseIdx_sublist _ _).length_le ok.ws.1) fun d hd => (List.eraseIdx_sublist _ _).subset hd)
      · exact one { b with as := b.as.eraseIdx i } rfl (fun q hq => by cases q <;> first | rfl | exact absurd rfl hq) (ok.answers (.inr (List.eraseIdx_sublist _ _)))
      · exact one { b with is := b.is.eraseIdx i } rfl (fun q hq => by cases q <;> first | rfl | exact absurd rfl hq) (ok.idles (.inr (List.eraseIdx_sublist _ _)))
      · exact one { b with bs := b.bs.eraseIdx i } rfl (fun q hq => by cases q <;> first | rfl | exact absurd rfl hq) (ok.busies (.inr (List.eraseIdx_sublist _ _)))
  refine ⟨_, rfl, rfl, _, rfl, ite2 (fun _ => ?_) (fun _ => ?_)⟩
  · -- a wish told twice
    obtain ⟨xs, exs, hlen⟩ := lens G3 .ws k3
    have l30 := h30 .ws
    have same : Q (.ref m) G3 := part G3 G3 .ws xs xs b k3 k3.pool exs (fun _ _ _ e => e) exs (fun gp d => ⟨gp, d⟩) (fun _ _ => rfl) ok
    refine ⟨_, rfl, m, _, _, _, rfl, rfl, .of hand3.1, atI_nat (j := 4) rfl, hs .ws, _, rfl, .inl (.of exs), _, _, rfl, rfl, _, rfl, ?_⟩
    by_cases h0 : xs.length = 0
    · refine ifF (decide_eq_false (by omega)) ?_
      exact ⟨_, rfl, iteF ⟨_, rfl, same⟩⟩
    refine ifT (decide_eq_true (by omega)) ⟨_, _, rfl, rfl, _, rfl, ?_⟩
    by_cases h3 : xs.length < 30
    rotate_left
    · rw [decide_eq_false (by omega)]
      exact iteF ⟨_, rfl, same⟩
    rw [decide_eq_true (by omega)]
    refine iteT ?_
    refine ⟨_, rfl, m, _, _, _, rfl, rfl, .of hand3.1, atI_nat (j := 4) rfl, .inl ⟨rfl, _, SqL.of exs⟩, ?_⟩
    refine ⟨_, rfl, _, rfl, _, rfl, m, _, _, _, rfl, rfl, .of hand3.1, atI_nat (j := 4) rfl, hs .ws, _, rfl, .inl (.of exs), _, _, rfl, rfl, a, p, ns, _, rfl, hS3, k3.pool, by omega, by omega, fun r H4 r0 r1 k4' => ?_⟩
    have k4 := k3.trans k4'
    have hand4 := hand1.kp k4 hP1 hpm nmp
    have ex4 := k4'.keep _ _ (nk .ws) exs
    refine ⟨_, rfl, _, rfl, _, rfl, m, _, _, _, rfl, rfl, .of hand4.1, atI_nat (j := 4) rfl, a, p, hs .ws, ns, xs, rfl, hS.on (k01.trans k4), .of ex4 (nk .ws), k4.pool, by omega, by omega, fun j z H5 hz k5' => ?_⟩
    have k5 := k4.trans k5'
    have ex5 := k5'.keep _ _ (nk .ws) ex4
    obtain ⟨n, hn, rfl⟩ : ∃ n : Nat, n ≤ xs.length ∧ r = (n : Int) := ⟨r.toNat, by omega, by omega⟩
    refine ⟨hs .ws, xs, _, z, rfl, rfl, ex5, Nat.lt_of_lt_of_le (show xs.length < 1000 by omega) (by decide), by omega, by omega, ?_⟩
    refine ⟨_, rfl, ?_⟩
    have jl : j < (b.ds .ws).length := by
      rw [← hlen]
      exact (List.getElem?_eq_some_iff.mp hz).1
    have et : ((n : Int)).toNat = n := by omega
    rw [et]
    refine part H5 _ .ws xs _ { b with ws := b.ws.take n ++ [(b.ds .ws)[j]] ++ b.ws.drop n } k5 (k5.pool.elsewhere (nk .ws)) ex5 upd_only upd_same (fun gp d => d.insert (List.getElem?_eq_getElem jl) hz) (fun q hq => by cases q <;> first | rfl | exact absurd rfl hq) (ok.wishes ?_ fun d hd => ?_)
    · have hlw : xs.length = b.ws.length := hlen
      rw [List.length_append, List.length_append, List.length_take, List.length_drop, List.length_singleton]
      omega
    · rcases List.mem_append.mp hd with h | h
      · rcases List.mem_append.mp h with h | h
        · exact List.mem_of_mem_take h
        · rw [List.mem_singleton.mp h]
          exact List.getElem_mem jl
      · exact List.mem_of_mem_drop h
  refine ⟨_, rfl, rfl, _, rfl, ite2 (fun _ => ?_) (fun _ => ?_)⟩
  · -- a flag turned
    obtain ⟨xs, exs, hlen⟩ := lens G3 .us k3
    have l30 := h30 .us
    have lo := (ok.fact .us).1
    have lo' : 1 ≤ (b.ds .us).length := lo
    refine ⟨_, rfl, _, rfl, _, rfl, m, _, _, _, rfl, rfl, .of hand3.1, atI_nat (j := 1) rfl, hs .us, xs, rfl, .inl (.of exs), a, p, ns, _, rfl, hS3, k3.pool, by omega, by omega, fun r H4 r0 r1 k4' => ?_⟩
    have k4 := k3.trans k4'
    have hand4 := hand1.kp k4 hP1 hpm nmp
    have ex4 := k4'.keep _ _ (nk .us) exs
    obtain ⟨i, hi, rfl⟩ : ∃ n : Nat, n < xs.length ∧ r = (n : Int) := ⟨r.toNat, by omega, by omega⟩
    obtain ⟨xs', gp, e', d4⟩ := hand4.nine .us
    rw [ex4] at e'
    cases e'
    obtain ⟨d, fx, hd, hDx, _⟩ := d4.at (List.getElem?_eq_getElem hi)
    obtain ⟨s, fl, _, rfl⟩ := ok.us.2 i d hd
    obtain ⟨t, yt, ext, ht, hyt⟩ := hDx
    have ef : fx = [] := DfL.flat (fun d hd => by
      rcases List.mem_cons.mp hd with rfl | hd
      · exact flat_str s
      · rw [List.mem_singleton.mp hd]
        exact flat_bool fl) hyt
    subst ef
    obtain ⟨z0, rr0, rfl, ⟨rfl, _⟩, hyc1⟩ := hyt.u
    obtain ⟨z1, rr1, rfl, ⟨rfl, _⟩, hyc2⟩ := hyc1.u
    obtain ⟨rfl, _⟩ := hyc2
    refine ⟨_, rfl, m, _, _, _, rfl, rfl, .of hand4.1, atI_nat (j := 1) rfl, _, rfl, hs .us, _, _, _, rfl, rfl, .of ex4, atI_nat (List.getElem?_eq_getElem hi), t, _, _, _, ext, rfl, .of ht, atI_nat (j := 0) rfl, ?_⟩
    refine ⟨_, rfl, m, _, _, _, rfl, rfl, .of hand4.1, atI_nat (j := 1) rfl, _, rfl, hs .us, _, _, _, rfl, rfl, .of ex4, atI_nat (List.getElem?_eq_getElem hi), t, _, _, _, ext, rfl, .of ht, atI_nat (j := 1) rfl, ?_⟩
    refine ⟨_, rfl, sz 2, fun t2 ht2 => ?_⟩
    have k5 := k4.new (o := .tup [.str s, .bl (!fl)]) ht2
    have hand5 := hand1.kp k5 hP1 hpm nmp
    have ex5 := (Kp.refl k4.pool).new (o := .tup [.str s, .bl (!fl)]) ht2 |>.keep _ _ (nk .us) ex4
    refine ⟨_, rfl, m, _, _, _, rfl, rfl, .of hand5.1, atI_nat (j := 1) rfl, _, rfl, hs .us, _, _, i, rfl, rfl, ex5, ixn_nat hi, ?_⟩
    refine ⟨_, rfl, ?_⟩
    have ntt : t2 ≠ hs .us := fun z => by
      rw [z, ex4] at ht2
      cases ht2
    refine part _ _ .us xs _ { b with us := b.us.set i (.tuple [.str s, .bool (!fl)]) } k5 (k5.pool.elsewhere (nk .us)) ex5 upd_only upd_same (fun gp d => ?_) (fun q hq => by cases q <;> first | rfl | exact absurd rfl hq) (ok.flag hd)
    obtain ⟨x', g1, f', g2, _, _, _, hset⟩ := d.set (i := i) (d := .tuple [.str s, .bool fl]) hd
    exact ⟨_, hset _ (.tuple [.str s, .bool (!fl)]) (.ref t2) [] (fun _ _ e => e) (fun _ _ _ e => e) (tD (by rw [upd_ne ntt]; exact upd_same) (.c (sD _) (.c (bD _) .n)))⟩
  refine ⟨_, rfl, rfl, _, rfl, ite2 (fun _ => ?_) (fun _ => ?_)⟩
  · -- other traits
    obtain ⟨xs, exs, hlen⟩ := lens G3 .ss k3
    have l30 := h30 .ss
    have lo' : 2 ≤ (b.ds .ss).length := (ok.fact .ss).1
    refine ⟨_, rfl, _, rfl, _, rfl, m, _, _, _, rfl, rfl, .of hand3.1, atI_nat (j := 0) rfl, hs .ss, xs, rfl, .inl (.of exs), _, _, rfl, rfl, a, p, ns, _, rfl, hS3, k3.pool, by omega, by omega, fun r H4 r0 r1 k4' => ?_⟩
    refine ⟨_, _, rfl, rfl, ?_⟩
    have k4 := k3.trans k4'
    have hand4 := hand1.kp k4 hP1 hpm nmp
    have ex4 := k4'.keep _ _ (nk .ss) exs
    obtain ⟨i, hi, h1i, er⟩ : ∃ n : Nat, n < xs.length ∧ 1 ≤ n ∧ (1 : Int) + r = (n : Int) := ⟨(1 + r).toNat, by omega, by omega, by omega⟩
    have ai : atI xs ((1 : Int) + r) = some xs[i] := by rw [er]; exact atI_nat (List.getElem?_eq_getElem hi)
    have ni : ixN xs.length ((1 : Int) + r) = some i := by rw [er]; exact ixn_nat hi
    obtain ⟨xs', gp, e', d4⟩ := hand4.nine .ss
    rw [ex4] at e'
    cases e'
    obtain ⟨d, fx, hd, hDx, _⟩ := d4.at (List.getElem?_eq_getElem hi)
    obtain ⟨s, tr, _, rfl, _⟩ := ok.ss.2 i d hd
    obtain ⟨t, yt, ext, ht, hyt⟩ := hDx
    have ef : fx = [] := DfL.flat (fun d hd => by
      rcases List.mem_cons.mp hd with rfl | hd
      · exact flat_str s
      · rw [List.mem_singleton.mp hd]
        exact flat_str tr) hyt
    subst ef
    obtain ⟨z0, rr0, rfl, ⟨rfl, _⟩, hyc1⟩ := hyt.u
    obtain ⟨z1, rr1, rfl, ⟨rfl, _⟩, hyc2⟩ := hyc1.u
    obtain ⟨rfl, _⟩ := hyc2
    refine ⟨_, rfl, m, _, _, _, rfl, rfl, .of hand4.1, atI_nat (j := 0) rfl, _, rfl, hs .ss, _, _, _, rfl, rfl, .of ex4, ai, t, _, _, _, ext, rfl, .of ht, atI_nat (j := 0) rfl, ?_⟩
    refine ⟨_, rfl, _, rfl, sz 10, fun lt hlt => ?_⟩
    have k5 := k4.new (o := .lst (traits.map V.str)) hlt
    refine ⟨a, p, lt, ns, traits.map V.str, rfl, hS.on (k01.trans k5), .of upd_same (k4.ne hlt), k5.pool, by decide, by decide, fun j z H6 hz k6' => ?_⟩
    obtain ⟨u, rfl, hu⟩ := str_of hz
    have k6 := k5.trans k6'
    have k46 := ((Kp.refl k4.pool).new (o := .lst (traits.map V.str)) hlt).trans k6'
    refine ⟨sz 2, fun t2 ht2 => ?_⟩
    have k7 := k6.new (o := .tup [.str s, .str u]) ht2
    have hand7 := hand1.kp k7 hP1 hpm nmp
    have ex6 := k46.keep _ _ (nk .ss) ex4
    have ex7 := k46.new (o := .tup [.str s, .str u]) ht2 |>.keep _ _ (nk .ss) ex4
    refine ⟨_, rfl, m, _, _, _, rfl, rfl, .of hand7.1, atI_nat (j := 0) rfl, _, rfl, hs .ss, _, _, i, rfl, rfl, ex7, ni, ?_⟩
    refine ⟨_, rfl, ?_⟩
    have ntt : t2 ≠ hs .ss := fun z => by
      rw [z, ex6] at ht2
      cases ht2
    refine part _ _ .ss xs _ { b with ss := b.ss.set i (.tuple [.str s, .str u]) } k7 (k7.pool.elsewhere (nk .ss)) ex7 upd_only upd_same (fun gp d => ?_) (fun q hq => by cases q <;> first | rfl | exact absurd rfl hq) (ok.trait hd h1i hu)
    obtain ⟨x', g1, f', g2, _, _, _, hset⟩ := d.set (i := i) (d := .tuple [.str s, .str tr]) hd
    exact ⟨_, hset _ (.tuple [.str s, .str u]) (.ref t2) [] (fun _ _ e => e) (fun _ _ _ e => e) (tD (by rw [upd_ne ntt]; exact upd_same) (.c (sD _) (.c (sD _) .n)))⟩
  have same : Q (.ref m) G3 := done G3 b ⟨fun b o n _ e => k3.keep b o n e, k3.pool⟩ ok hand3.nine
  refine ⟨_, rfl, rfl, _, rfl, ite2 (fun _ => ?_) (fun _ => ?_)⟩
  · -- a task
    refine ⟨_, rfl, _, rfl, _, rfl, a, p, m, ns, hs, b, xt, gt, rfl, hS3, k3.pool, hand3, nd, hpm, nmm, nmp, ok, fun G c km okc nc => ?_⟩
    exact ⟨_, rfl, done G c (km.kp k3) okc nc⟩
  · exact ⟨_, rfl, same⟩
end
end My

namespace My
open PySem L2 PyProof.Rows PySem.SeqAt
open AutoSeq1 (wpAny_loadPart')
open MeetsSeq
/-! ### == of an instance with its own def for it and a value of another kind, either way -/
theorem int_dec_bool (b : Bool) (x : Addr) (c dx : Addr) : Meets (Builtin.«int.__eq__» ⟨[.bool b, .ref x], []⟩) (fun _ R s => s.heap.get? x = some (PySem.W.instObj c dx) ∧ R (.ok (.ret .notImplemented)) s) :=
  .of_wp fun prog w A R s h => by obtain ⟨hp, g, d, tk, os⟩ := s; obtain ⟨hl, h⟩ := h; unfold PySem.W.instObj at hl; wp_walk using wpAny_loadPart' hl, wpAny_load hl; exact ⟨_, rfl, h⟩
theorem int_dec_int (b : Int) (u : Tok) (x : Addr) (c dx : Addr) : Meets (Builtin.«int.__eq__» ⟨[.int b u, .ref x], []⟩) (fun _ R s => s.heap.get? x = some (PySem.W.instObj c dx) ∧ R (.ok (.ret .notImplemented)) s) :=
  .of_wp fun prog w A R s h => by obtain ⟨hp, g, d, tk, os⟩ := s; obtain ⟨hl, h⟩ := h; unfold PySem.W.instObj at hl; wp_walk using wpAny_loadPart' hl, wpAny_load hl; exact ⟨_, rfl, h⟩
theorem str_dec (b : Str) (u : Tok) (x : Addr) (c dx : Addr) : Meets (Builtin.«str.__eq__» ⟨[.str b u, .ref x], []⟩) (fun _ R s => s.heap.get? x = some (PySem.W.instObj c dx) ∧ R (.ok (.ret .notImplemented)) s) :=
  .of_wp fun prog w A R s h => by obtain ⟨hp, g, d, tk, os⟩ := s; obtain ⟨hl, h⟩ := h; unfold PySem.W.instObj at hl; wp_walk using wpAny_loadPart' hl, wpAny_load hl; exact ⟨_, rfl, h⟩
section
variable {prog : Program} {w : World} {A : Around} {E : Value → Shared → Prop} {s : Shared} {K : PySem.W.Frag} {x C f : Addr} {ox : Obj} {od : Option Obj}
theorem isInst_own {v base : Value} {T r : _} (ht : PySem.W.Looks (model prog w) s.heap (typeOf v) T) (hs : PySem.W.Looks (model prog w) s.heap (isSubtype T base) r) : PySem.W.Looks (model prog w) s.heap (isInstance v base) r := ht.andThen hs
theorem list_dec {l : Addr} {items : Array Value} {n : Nat} {dd : Option Addr} {sl : Array (Option Value)} {R : Result → Shared → Prop} (hl : s.heap.get? l = some { cls := .type "list", dict := dd, data := .seq items n, slots := sl })
    (hi : PySem.W.Looks (model prog w) s.heap (isInstance (.ref x) (.type "list")) false) (h : R (.ok (.ret .notImplemented)) s) :
    wpAny (model prog w) A.in1 (Builtin.«list.__eq__» ⟨[.ref l, .ref x], []⟩) (GQ.FinOf prog w A R) (fun e s' => R (.error e) s') s := by
  obtain ⟨hp, g, d, tk, os⟩ := s
  wp_walk using hi.here
  exact h
theorem tup_dec {l : Addr} {items : Array Value} {n : Nat} {dd : Option Addr} {sl : Array (Option Value)} {R : Result → Shared → Prop} (hl : s.heap.get? l = some { cls := .type "tuple", dict := dd, data := .seq items n, slots := sl })
    (hi : PySem.W.Looks (model prog w) s.heap (isInstance (.ref x) (.type "tuple")) false) (h : R (.ok (.ret .notImplemented)) s) :
    wpAny (model prog w) A.in1 (Builtin.«tuple.__eq__» ⟨[.ref l, .ref x], []⟩) (GQ.FinOf prog w A R) (fun e s' => R (.error e) s') s := by
  obtain ⟨hp, g, d, tk, os⟩ := s
  wp_walk using hi.here
  exact h
theorem rc_refl {b : Value} {T id : String} {Q : Value → Shared → Prop} (hu : A.units < cLine) (X : K.In s.heap) (I : PySem.W.InstAt s.heap x ox C od) (ht : s.TypeIs b T) (hm : PySem.W.mroIn K C (.type T) = some false)
    (hs : PySem.W.findIn K (.ref C) "__eq__" = some (some (.ref f))) (hf : PySem.W.isFn K (.ref f) = true) (sl : Slot T "__eq__" id)
    (hd : ∀ Q' : Value → Shared → Prop, Q' .notImplemented s → wpAny (model prog w) A (call (.builtin id) [b, .ref x]) Q' E s)
    (h : wpAny (model prog w) A (call (.ref f) [.ref x, b]) (PySem.W.CmpBack Q) E s) : wpAny (model prog w) A (richCompare .Eq b (.ref x)) Q E s := by
  have two : wpAny (model prog w) A (tryCompare (.ref x) "__eq__" b) (fun r s' => ∃ v, r = some v ∧ Q v s') E s := by
    unfold tryCompare
    refine wpAny_bind (PySem.W.ifBound_K X I hs hf (wpAny_mono h (fun v s' hv => ?_) fun _ _ e => e))
    cases v <;> first | exact hv.elim | exact wpAny_pure ⟨_, rfl, hv⟩
  simp only [richCompare, cmpInfo_Eq, ht.oneThing_none]
  refine wpAny_holding (wpAny_bind (wpAny_cRoomFor hu ?_))
  refine wpAny_bind (wpAny_typeOf ht ?_)
  refine wpAny_bind (I.type.here ?_)
  split
  · refine wpAny_bind ((PySem.W.looks_mroIn X hm).here ?_)
    simp only [Bool.false_eq_true, if_false, Bool.not_false, if_true]
    refine wpAny_bind (m := tryCompare b _ (.ref x)) (wpAny_tryCompare_declines ht sl (hd _ ⟨rfl, ?_⟩))
    refine wpAny_bind (m := tryCompare (.ref x) _ b) (wpAny_mono two (fun r s' z => ?_) fun _ _ e => e)
    obtain ⟨v, rfl, hq⟩ := z
    exact wpAny_pure hq
  · rename_i q
    exact absurd (by simp) q
end
/-- a value of a built-in kind, and the name of the kind -/
inductive Oth (H : Hp) : V → String → Prop where
  | non : Oth H .non "NoneType"
  | bl (b : Bool) : Oth H (.bl b) "bool"
  | int (i : Int) : Oth H (.int i) "int"
  | str (t : Str) : Oth H (.str t) "str"
  | lst {a : Addr} {xs : List V} (e : H a = some (.lst xs)) : Oth H (.ref a) "list"
  | tup {a : Addr} {xs : List V} (e : H a = some (.tup xs)) : Oth H (.ref a) "tuple"
structure NoT (K : PySem.W.Frag) (C : Addr) : Prop where
  n0 : PySem.W.mroIn K C (.type "NoneType") = some false
  n1 : PySem.W.mroIn K C (.type "bool") = some false
  n2 : PySem.W.mroIn K C (.type "int") = some false
  n3 : PySem.W.mroIn K C (.type "str") = some false
  n4 : PySem.W.mroIn K C (.type "list") = some false
  n5 : PySem.W.mroIn K C (.type "tuple") = some false
theorem Oth.mro {K : PySem.W.Frag} {C : Addr} {H : Hp} {x : V} {t : String} (o : Oth H x t) (n : NoT K C) : PySem.W.mroIn K C (.type t) = some false := by
  cases o with
  | non => exact n.n0
  | bl => exact n.n1
  | int => exact n.n2
  | str => exact n.n3
  | lst => exact n.n4
  | tup => exact n.n5
theorem Oth.first {K : PySem.W.Frag} {C : Addr} {H : Hp} {x : V} {t : String} (o : Oth H x t) : PySem.W.subIn K (.type t) (.ref C) = some false := by
  have key : ∀ {t : String} {l : List Value}, fastBuiltinMro t = some l → l.contains (.ref C) = false → PySem.W.subIn K (.type t) (.ref C) = some false := fun {t l} e h => by
    show (fastBuiltinMro t).map (·.contains (.ref C)) = some false
    rw [e]
    show some (l.contains (.ref C)) = some false
    rw [h]
  cases o with
  | non => exact key (l := [.type "NoneType", .type "object"]) (by decide +kernel) (by simp)
  | bl => exact key (l := [.type "bool", .type "int", .type "object"]) (by decide +kernel) (by simp)
  | int => exact key (l := [.type "int", .type "object"]) (by decide +kernel) (by simp)
  | str => exact key (l := [.type "str", .type "object"]) (by decide +kernel) (by simp)
  | lst => exact key (l := [.type "list", .type "object"]) (by decide +kernel) (by simp)
  | tup => exact key (l := [.type "tuple", .type "object"]) (by decide +kernel) (by simp)
theorem Oth.notFirst {K : PySem.W.Frag} {C : Addr} {H : Hp} {x : V} {t : String} (o : Oth H x t) : PySem.W.notFirst K C (.type t) = true := by
  unfold PySem.W.notFirst
  rw [o.first]
  simp
theorem looks_type {M : Model} {s : Shared} {v : Value} {T : String} (h : s.TypeIs v T) : PySem.W.Looks M s.heap (typeOf v) (.type T) := by
  cases v with
  | ref a =>
    obtain ⟨o, ho, hc⟩ := h
    exact hc ▸ (PySem.W.Looks.ld ho).andThen .now
  | _ => exact PySem.W.Looks.of_pure h
section
variable {X : Cx} {pins : List (Addr × Obj)} {σ : L2.St} {H : Hp} {s : Shared}
theorem Oth.type {x : V} {t : String} {u : Value} (o : Oth H x t) (I : Inv X pins σ H s) (r : RelV x u) : s.TypeIs u t := by
  cases o with
  | non => cases (show u = Value.none from r); rfl
  | bl b => cases (show u = Value.bool b from r); rfl
  | int i => obtain ⟨t, q⟩ := (show ∃ t, u = Value.int i t from r); cases q; exact typeIs_int s i t
  | str i => obtain ⟨t, q⟩ := (show ∃ t, u = Value.str i t from r); cases q; exact typeIs_str s i t
  | @lst a xs ea =>
    cases (show u = Value.ref a from r)
    obtain ⟨_, _, n, _, h1⟩ := (show ObjOk X.prog X.w H s.heap a (.lst xs) from I.hok a _ ea)
    exact ⟨_, h1, rfl⟩
  | @tup a xs ea =>
    cases (show u = Value.ref a from r)
    obtain ⟨_, _, _, o, h1, h2, _⟩ := (show ObjOk X.prog X.w H s.heap a (.tup xs) from I.hok a _ ea)
    exact ⟨_, h1, h2⟩
theorem Oth.declines {x : V} {t : String} {u : Value} {a C dx : Addr} {od : Option Obj} (o : Oth H x t) (n : NoT X.K C) (I : Inv X pins σ H s) (r : RelV x u) (J : PySem.W.InstAt s.heap a (PySem.W.instObj C dx) C od) :
    ∃ id, Slot t "__eq__" id ∧ ∀ (A : Around) (E : Value → Shared → Prop) (Q' : Value → Shared → Prop), Q' .notImplemented s → wpAny (model X.prog X.w) A (call (.builtin id) [u, .ref a]) Q' E s := by
  have ho := J.at_
  cases o with
  | non =>
    cases (show u = Value.none from r)
    exact ⟨_, F.slot_NoneType_eq, fun A E Q' hq => call_gives F.slot_NoneType_eq rfl F.entry_NoneType_eq (F.args_NoneType_eq_2 _ _) (NoneType___eq___none_ref_0 a) hq⟩
  | bl b =>
    cases (show u = Value.bool b from r)
    exact ⟨_, F.slot_bool_eq, fun A E Q' hq => call_meets F.slot_bool_eq rfl F.entry_int_eq (F.args_int_eq_2 _ _) (int_dec_bool b a C dx) ⟨ho, hq⟩⟩
  | int i =>
    obtain ⟨t, q⟩ := (show ∃ t, u = Value.int i t from r)
    cases q
    exact ⟨_, F.slot_int_eq, fun A E Q' hq => call_meets F.slot_int_eq (typeIs_int s i t) F.entry_int_eq (F.args_int_eq_2 _ _) (int_dec_int i t a C dx) ⟨ho, hq⟩⟩
  | str i =>
    obtain ⟨t, q⟩ := (show ∃ t, u = Value.str i t from r)
    cases q
    exact ⟨_, F.slot_str_eq, fun A E Q' hq => call_meets F.slot_str_eq (typeIs_str s i t) F.entry_str_eq (F.args_str_eq_2 _ _) (str_dec i t a C dx) ⟨ho, hq⟩⟩
  | @lst l xs ea =>
    cases (show u = Value.ref l from r)
    obtain ⟨_, its, n', _, h1⟩ := (show ObjOk X.prog X.w H s.heap l (.lst xs) from I.hok l _ ea)
    refine ⟨_, F.slot_list_eq, fun A E Q' hq => GQ.call_here F.slot_list_eq ⟨_, h1, rfl⟩ F.entry_list_eq (F.args_list_eq_2 _ _) ?_⟩
    exact list_dec (R := wants Q' E) h1 (isInst_own J.type (PySem.W.looks_mroIn I.kIn n.n4)) hq
  | @tup l xs ea =>
    cases (show u = Value.ref l from r)
    obtain ⟨_, its, _, o, h1, h2, n', h3⟩ := (show ObjOk X.prog X.w H s.heap l (.tup xs) from I.hok l _ ea)
    obtain ⟨cls, dd, data, sl⟩ := o
    simp only at h2 h3
    subst h2 h3
    refine ⟨_, F.slot_tuple_eq, fun A E Q' hq => GQ.call_here F.slot_tuple_eq ⟨_, h1, rfl⟩ F.entry_tuple_eq (F.args_tuple_eq_2 _ _) ?_⟩
    exact tup_dec (R := wants Q' E) h1 (isInst_own J.type (PySem.W.looks_mroIn I.kIn n.n5)) hq
end
/-- x == y, x an instance of the class at C, y of another kind -/
def rEqO (C : Addr) (sp : Sp) : R2 := fun x y H Q => ∃ a dx fs t, x = .ref a ∧ H a = some (.ins C dx fs) ∧ Oth H y t ∧ sp [.ref a, y] H (fun v H' => ∃ r, v = .bl r ∧ Q v H') (fun _ _ _ => False)
/-- x == y, y an instance of the class at C, x of another kind -/
def rEqR (C : Addr) (sp : Sp) : R2 := fun x y H Q => ∃ a dx fs t, y = .ref a ∧ H a = some (.ins C dx fs) ∧ Oth H x t ∧ sp [.ref a, x] H (fun v H' => ∃ r, v = .bl r ∧ Q v H') (fun _ _ _ => False)
section
variable {X : Cx} {n : Nat} {C f : Addr} {fd : FuncData} {ps : List Str} {sp : Sp}
theorem op_eqO (F : FnOk X.prog X.w X.K X.mg X.base CX0 n f fd ps sp) (hs : PySem.W.findIn X.K (.ref C) "__eq__" = some (some (.ref f))) (hf : PySem.W.isFn X.K (.ref f) = true) (hb : Binds X.K fd ps []) (hr : Room n X.A) :
    OpR X (compareOp .Eq) (rEqO C sp) := by
  intro pins s σ H x y u v Q I rx ry d
  obtain ⟨a, dx, fs, t, rfl, ha, ho, hsp⟩ := d
  cases rx
  show wpAny (model X.prog X.w) X.A (richCompare .Eq (.ref a) v) (EP X pins σ Q) X.xe s
  obtain ⟨mA, J, _⟩ := ins_get I.hok ha
  obtain ⟨od, J, _⟩ := J.look
  obtain ⟨m, hF⟩ := I.fr
  refine PySem.W.cmp_K (op := .Eq) (tb := .type t) hr.units0 hF I.ok.mod.kin J (looks_type (ho.type I ry)) ho.notFirst hs hf ?_
  have hl := F.len _ _ _ _ hsp
  have r2 : Vals [V.ref a, y] [Value.ref a, v] := .cons rfl (.cons ry .nil)
  refine wpAny_call (codeAny_mono (F.run X.A X.stack s H ⟨[.ref a, v], []⟩ [.ref a, v] [.ref a, y] _ _ hr I.env0 (by
    have := hb s [.ref a, v] I.kIn (by simpa using hl)
    simpa using this) r2 hsp) fun r s' hq => ?_)
  cases r with
  | error e => exact (pass0 : Passes CX0 X fun _ _ _ => False) pins σ H s e s' I hq
  | ok fl =>
    cases fl with
    | ret w =>
      obtain ⟨z, H', I', rz, r, ez, q⟩ := I.after hq
      subst ez
      cases rz
      exact ⟨.bl r, H', I', rfl, q⟩
    | next => exact False.elim hq
    | brk => exact False.elim hq
    | cont => exact False.elim hq
theorem op_eqRf (F : FnOk X.prog X.w X.K X.mg X.base CX0 n f fd ps sp) (hs : PySem.W.findIn X.K (.ref C) "__eq__" = some (some (.ref f))) (hf : PySem.W.isFn X.K (.ref f) = true) (hb : Binds X.K fd ps []) (hr : Room n X.A) (nt : NoT X.K C) :
    OpR X (compareOp .Eq) (rEqR C sp) := by
  intro pins s σ H x y u v Q I rx ry d
  obtain ⟨a, dx, fs, t, rfl, ha, ho, hsp⟩ := d
  cases ry
  show wpAny (model X.prog X.w) X.A (richCompare .Eq u (.ref a)) (EP X pins σ Q) X.xe s
  obtain ⟨mA, J, _⟩ := ins_get I.hok ha
  obtain ⟨od, J, _⟩ := J.look
  obtain ⟨id, sl, hd⟩ := ho.declines nt I rx J
  refine rc_refl hr.units0 I.kIn J (ho.type I rx) (ho.mro nt) hs hf sl (hd _ _) ?_
  have hl := F.len _ _ _ _ hsp
  have r2 : Vals [V.ref a, x] [Value.ref a, u] := .cons rfl (.cons rx .nil)
  refine wpAny_call (codeAny_mono (F.run X.A X.stack s H ⟨[.ref a, u], []⟩ [.ref a, u] [.ref a, x] _ _ hr I.env0 (by
    have := hb s [.ref a, u] I.kIn (by simpa using hl)
    simpa using this) r2 hsp) fun r s' hq => ?_)
  cases r with
  | error e => exact (pass0 : Passes CX0 X fun _ _ _ => False) pins σ H s e s' I hq
  | ok fl =>
    cases fl with
    | ret w =>
      obtain ⟨z, H', I', rz, r, ez, q⟩ := I.after hq
      subst ez
      cases rz
      exact ⟨.bl r, H', I', rfl, q⟩
    | next => exact False.elim hq
    | brk => exact False.elim hq
    | cont => exact False.elim hq
end
end My

namespace My
open PySem L2
abbrev s_l_unequal : Stmt := top 59
theorem sc_l_unequal : FnScope ["_law_book_here", "_law_thing", "_law_first", "_law_second"] ["_law_book_here", "_law_thing"] (defScope s_l_unequal) := ⟨rfl, rfl, rfl, by decide +kernel, rfl, by decide +kernel, by decide +kernel⟩
/-- nothing of a built-in kind is a book -/
structure NoKit (K : PySem.W.Frag) (C : Addr) : Prop where
  k0 : PySem.W.kitOne K (.type "NoneType") (.ref C) = some false
  k1 : PySem.W.kitOne K (.type "bool") (.ref C) = some false
  k2 : PySem.W.kitOne K (.type "int") (.ref C) = some false
  k3 : PySem.W.kitOne K (.type "str") (.ref C) = some false
  k4 : PySem.W.kitOne K (.type "list") (.ref C) = some false
  k5 : PySem.W.kitOne K (.type "tuple") (.ref C) = some false
theorem Oth.kit {K : PySem.W.Frag} {C : Addr} {H : Hp} {x : V} {t : String} (o : Oth H x t) (n : NoKit K C) : PySem.W.kitOne K (.type t) (.ref C) = some false := by
  cases o with
  | non => exact n.k0
  | bl => exact n.k1
  | int => exact n.k2
  | str => exact n.k3
  | lst => exact n.k4
  | tup => exact n.k5
theorem Oth.tyx {K : PySem.W.Frag} {H : Hp} {x : V} {t : String} (o : Oth H x t) : TyX K H x (.type t) := by
  cases o with
  | non => exact .base .non
  | bl b => exact .base (.bl b)
  | int i => exact .base (.int i)
  | str s => exact .base (.str s)
  | lst e => exact .base (.lst e)
  | tup e => exact .base (.tup e)
def spEqN (C : Addr) : Sp := fun vs H Q _ => ∃ (p : Addr) (y : V) (b : RB) (fp : List Addr) (t : String), vs = [.ref p, y] ∧ BookAt C b H p fp ∧ Oth H y t ∧ Q (.bl false) H
def spUneq (C : Addr) : Sp := fun vs H Q _ => ∃ (p : Addr) (y : V) (b : RB) (fp : List Addr) (t : String), vs = [.ref p, y] ∧ BookAt C b H p fp ∧ Oth H y t ∧ Q (.bl true) H
section
variable {P : Program} {w : World} {K : PySem.W.Frag} {mg : Str → Option Value} {base : Heap}
theorem ok_eqN {f C : Addr} {fd : FuncData} (D : DefM K C "__eq__" "Book.__eq__" s_Book__eq_ ["self", "other"] f fd) (Z : Zs mg) (N : NoKit K C) (mC : mg "Book" = some (.ref C)) : FnOk P w K mg base CX0 5 f fd ["self", "other"] (spEqN C) := by
  refine D.F.ok sc_Book__eq_ (fun vs H Q E h => ?_) (fun cdv A outer s H vs Q E hr h => ?_)
  · obtain ⟨p, y, b, fp, t, rfl, _⟩ := h
    rfl
  obtain ⟨p, y, b, fp, t, rfl, hb, ho, qq⟩ := h
  refine ⟨_, pss_one (ps_ret (pe_and (pe_callB call_isi (by rfl) Z.isinstance (by decide +kernel) (pa_cons (pv 1) (pa_cons (pe_glob (v := .ref C) rfl mC rfl) pa_nil))) (pe_one (pe_cmpR (op_eqD hr.units) (pe_fld (pv 0) rfl) (pe_fld (pv 1) rfl) (nomark _))))), ?_⟩
  refine ⟨_, rfl, _, _, _, _, _, rfl, .own _, ho.tyx, ho.kit N, _, rfl, iteF qq⟩
theorem ok_uneq {f f1 C : Addr} {fd fd1 : FuncData} (D : DefT K mg "_law_unequal" "_law_unequal" s_l_unequal ["_law_book_here", "_law_thing"] f fd) (Z : Zs mg) (M : DefM K C "__eq__" "Book.__eq__" s_Book__eq_ ["self", "other"] f1 fd1) (N : NoKit K C) (T : NoT K C) (mC : mg "Book" = some (.ref C)) :
    FnOk P w K mg base CX0 6 f fd ["_law_book_here", "_law_thing"] (spUneq C) := by
  have GE := ok_eqN (P := P) (w := w) (base := base) M Z N mC
  refine D.F.ok sc_l_unequal (fun vs H Q E h => ?_) (fun cdv A outer s H vs Q E hr h => ?_)
  · obtain ⟨p, y, b, fp, t, rfl, _⟩ := h
    rfl
  obtain ⟨p, y, b, fp, t, rfl, hb, ho, q⟩ := h
  obtain ⟨_, dx, tp, ls, e, _⟩ := id hb
  refine ⟨_, (pss_cons (ps_set (i := 2) sc_l_unequal.nd rfl (Or.inl rfl) (pe_cmpR (op_eqO GE M.mt.at_ M.mt.fn M.b (hr.mono (by decide))) (pv 0) (pv 1) (nomark _))) (pss_cons (ps_set (i := 3) sc_l_unequal.nd rfl (Or.inl rfl) (pe_cmpR (op_eqRf GE M.mt.at_ M.mt.fn M.b (hr.mono (by decide)) T) (pv 1) (pv 0) (nomark _))) (pss_one (ps_ret (pe_and (pe_cmpR op_isBl (pv 2) pe_bl (nomark _)) (pe_one (pe_cmpR op_isBl (pv 3) pe_bl (nomark _)))))))), ?_⟩
  refine ⟨_, rfl, _, rfl, p, dx, _, t, rfl, e, ho, p, y, b, fp, t, rfl, hb, ho, ⟨_, rfl, ?_⟩⟩
  refine ⟨_, rfl, _, rfl, p, dx, _, t, rfl, e, ho, p, y, b, fp, t, rfl, hb, ho, ⟨_, rfl, ?_⟩⟩
  refine ⟨_, rfl, _, _, rfl, rfl, _, rfl, iteT ?_⟩
  exact ⟨_, rfl, _, _, rfl, rfl, q⟩
end
end My

namespace My
open PySem L2
abbrev s_law : Stmt := top 60
theorem sc_law : FnScope ["_law_script", "_law_pool_here", "_law_kind", "_law_parts_here", "_law_changed_here", "_law_due", "_law_one_here", "_law_two", "_law_turn", "_law_first", "_law_second", "_law_thing"] ["_law_script"] (defScope s_law) := ⟨rfl, rfl, rfl, by decide +kernel, rfl, by decide +kernel, by decide +kernel⟩
def spLaw (K : PySem.W.Frag) : Sp := fun vs H Q _ => ∃ (a : Addr) (ns : List Int), vs = [.ref a] ∧ SqL K H a (ns.map V.int) ∧ ns.length ≤ 63 ∧ ∀ H', Q (.bl true) H'
theorem seq_on {K : PySem.W.Frag} {H H' : Hp} {a p : Addr} {xs : List V} (h : SqL K H a xs) (hp : H p = none) (k : ∀ b o, b ≠ p → H b = some o → H' b = some o) : SqL K H' a xs := by
  rcases h with (h | ⟨o, h⟩) | h
  · exact .inl (.inl (k _ _ (ne_of_none h hp) h))
  · exact .inl (.inr ⟨o, k _ _ (ne_of_none h hp) h⟩)
  · exact .inr h
/-- what the law calls -/
structure Calls (P : Program) (w : World) (K : PySem.W.Frag) (mg : Str → Option Value) (base : Heap) (C : Addr) (f1 f2 f3 f4 f5 f6 f7 f8 f9 fE : Addr) (fd1 fd2 fd3 fd4 fd5 fd6 fd7 fd8 fd9 fdE : FuncData) : Prop where
  pool : FnOk P w K mg base CX0 1 f1 fd1 [] spPool
  parts : FnOk P w K mg base CX0 7 f2 fd2 ["_law_script", "_law_pool_here"] (spParts K)
  copy : FnOk P w K mg base CX0 1 f3 fd3 ["_law_parts_here"] spCopy
  book : FnOk P w K mg base CX0 9 f4 fd4 ["_law_parts_here"] (spBook C)
  told : FnOk P w K mg base CX0 3 f5 fd5 ["_law_book_here"] (spTold C)
  same : FnOk P w K mg base CX0 6 f6 fd6 ["_law_told_here", "_law_due"] (spSameX 5)
  draw : FnOk P w K mg base CX0 1 f7 fd7 ["_law_script", "_law_pool_here", "_law_limit"] (spDraw K)
  changed : FnOk P w K mg base CX0 5 f8 fd8 ["_law_script", "_law_pool_here", "_law_parts_here", "_law_kind"] (spChanged K)
  unequal : FnOk P w K mg base CX0 6 f9 fd9 ["_law_book_here", "_law_thing"] (spUneq C)
  eq : FnOk P w K mg base CX0 5 fE fdE ["self", "other"] (spEqB C)
section
variable {P : Program} {w : World} {K : PySem.W.Frag} {mg : Str → Option Value} {base : Heap}
theorem ok_law {f f1 f2 f3 f4 f5 f6 f7 f8 f9 fE C : Addr} {fd fd1 fd2 fd3 fd4 fd5 fd6 fd7 fd8 fd9 fdE : FuncData} (D : DefT K mg "law" "law" s_law ["_law_script"] f fd) (Z : Zs mg)
    (D_l_pool : DefT K mg "_law_pool" "_law_pool" s_l_pool [] f1 fd1) (D_l_parts : DefT K mg "_law_parts" "_law_parts" s_l_parts ["_law_script", "_law_pool_here"] f2 fd2) (D_l_copy : DefT K mg "_law_copy" "_law_copy" s_l_copy ["_law_parts_here"] f3 fd3)
    (D_l_book : DefT K mg "_law_book" "_law_book" s_l_book ["_law_parts_here"] f4 fd4) (D_l_told : DefT K mg "_law_told" "_law_told" s_l_told ["_law_book_here"] f5 fd5) (D_l_same : DefT K mg "_law_same" "_law_same" s_l_same ["_law_told_here", "_law_due"] f6 fd6) (D_l_draw : DefT K mg "_law_draw" "_law_draw" s_l_draw ["_law_script", "_law_pool_here", "_law_limit"] f7 fd7)
    (D_l_changed : DefT K mg "_law_changed" "_law_changed" s_l_changed ["_law_script", "_law_pool_here", "_law_parts_here", "_law_kind"] f8 fd8) (D_l_unequal : DefT K mg "_law_unequal" "_law_unequal" s_l_unequal ["_law_book_here", "_law_thing"] f9 fd9) (M : DefM K C "__eq__" "Book.__eq__" s_Book__eq_ ["self", "other"] fE fdE)
    (Ca : Calls P w K mg base C f1 f2 f3 f4 f5 f6 f7 f8 f9 fE fd1 fd2 fd3 fd4 fd5 fd6 fd7 fd8 fd9 fdE) : FnOk P w K mg base CX0 10 f fd ["_law_script"] (spLaw K) := by
  obtain ⟨G_l_pool, G_l_parts, G_l_copy, G_l_book, G_l_told, G_l_same, G_l_draw, G_l_changed, G_l_unequal, GE⟩ := Ca
  refine D.F.ok sc_law (fun vs H Q E h => ?_) (fun cdv A outer s H vs Q E hr h => ?_)
  · obtain ⟨a, ns, rfl, _⟩ := h
    rfl
  obtain ⟨a, ns, rfl, hS, h63, q⟩ := h
  refine ⟨_, (pss_cons (ps_set (i := 1) sc_law.nd rfl (Or.inl rfl) (pe_call0 G_l_pool (hr.mono (by decide)) rfl D_l_pool.m D_l_pool.F.kp D_l_pool.b .nil pass0)) (pss_cons (ps_set (i := 2) sc_law.nd rfl (Or.inl rfl) (pe_call G_l_draw (hr.mono (by decide)) rfl D_l_draw.m D_l_draw.F.kp D_l_draw.b .nil pass0 (pa_cons (pv 0) (pa_cons (pv 1) (pa_cons pe_int pa_nil))))) (pss_cons (ps_set (i := 3) sc_law.nd rfl (Or.inl rfl) (pe_call G_l_parts (hr.mono (by decide)) rfl D_l_parts.m D_l_parts.F.kp D_l_parts.b .nil pass0 (pa_cons (pv 0) (pa_cons (pv 1) pa_nil)))) (pss_cons (ps_set (i := 4) sc_law.nd rfl (Or.inl rfl) (pe_call G_l_changed (hr.mono (by decide)) rfl D_l_changed.m D_l_changed.F.kp D_l_changed.b .nil pass0 (pa_cons (pv 0) (pa_cons (pv 1) (pa_cons (pv 3) (pa_cons (pv 2) pa_nil)))))) (pss_cons (ps_set (i := 5) sc_law.nd rfl (Or.inl rfl) (pe_call G_l_same (hr.mono (by decide)) rfl D_l_same.m D_l_same.F.kp D_l_same.b .nil pass0 (pa_cons (pv 4) (pa_cons (pv 3) pa_nil)))) (pss_cons (ps_set (i := 6) sc_law.nd rfl (Or.inl rfl) (pe_call G_l_book (hr.mono (by decide)) rfl D_l_book.m D_l_book.F.kp D_l_book.b .nil pass0 (pa_cons (pe_call G_l_copy (hr.mono (by decide)) rfl D_l_copy.m D_l_copy.F.kp D_l_copy.b .nil pass0 (pa_cons (pv 3) pa_nil)) pa_nil))) (pss_cons (ps_set (i := 7) sc_law.nd rfl (Or.inl rfl) (pe_call G_l_book (hr.mono (by decide)) rfl D_l_book.m D_l_book.F.kp D_l_book.b .nil pass0 (pa_cons (pe_call G_l_copy (hr.mono (by decide)) rfl D_l_copy.m D_l_copy.F.kp D_l_copy.b .nil pass0 (pa_cons (pv 4) pa_nil)) pa_nil))) (pss_cons (ps_for PassesOwn.never rfl (pi_range1 rfl Z.range (pa_cons pe_int pa_nil)) (pg_name (i := 8) sc_law.nd rfl (Or.inl rfl)) (pss_cons (ps_set (i := 9) sc_law.nd rfl (Or.inl rfl) (pe_cmpR (op_eqI GE M.mt.at_ M.mt.fn M.b (hr.mono (by decide))) (pv 6) (pv 7) (nomark _))) (pss_cons (ps_set (i := 10) sc_law.nd rfl (Or.inl rfl) (pe_cmpR (op_eqI GE M.mt.at_ M.mt.fn M.b (hr.mono (by decide))) (pv 7) (pv 6) (nomark _))) (pss_cons (ps_if (PW.pt (pw_or (pt_not (pt_val (pe_call G_l_same (hr.mono (by decide)) rfl D_l_same.m D_l_same.F.kp D_l_same.b .nil pass0 (pa_cons (pv 9) (pa_cons (pv 5) pa_nil))))) (pw_or1 (pt_not (pt_val (pe_call G_l_same (hr.mono (by decide)) rfl D_l_same.m D_l_same.F.kp D_l_same.b .nil pass0 (pa_cons (pv 10) (pa_cons (pv 5) pa_nil)))))))) (pss_one (ps_ret pe_bl)) pss_nil) (pss_one (ps_if (pt_not (pt_val (pe_call G_l_same (hr.mono (by decide)) rfl D_l_same.m D_l_same.F.kp D_l_same.b .nil pass0 (pa_cons (pe_cmpR (op_eqI GE M.mt.at_ M.mt.fn M.b (hr.mono (by decide))) (pv 6) (pv 6) (nomark _)) (pa_cons pe_bl pa_nil))))) (pss_one (ps_ret pe_bl)) pss_nil)))))) (pss_cons (ps_for PassesOwn.never rfl (pi_list (pe_lst (pa_cons pe_non (pa_cons pe_int (pa_cons pe_str (pa_cons pe_str (pa_cons (pe_lst pa_nil) (pa_cons (pv 3) (pa_cons (pe_callTy call_tuple_of (by rfl) Z.tuple (by decide +kernel) (pa_cons (pv 3) pa_nil)) (pa_cons (pe_ix ix_list (pv 3) pe_int (fun _ _ => rfl)) (pa_cons pe_bl pa_nil))))))))))) (pg_name (i := 11) sc_law.nd rfl (Or.inl rfl)) (pss_one (ps_if (pt_not (pt_val (pe_call G_l_unequal (hr.mono (by decide)) rfl D_l_unequal.m D_l_unequal.F.kp D_l_unequal.b .nil pass0 (pa_cons (pv 6) (pa_cons (pv 11) pa_nil))))) (pss_one (ps_ret pe_bl)) pss_nil))) (pss_one (ps_ret (pe_call G_l_same (hr.mono (by decide)) rfl D_l_same.m D_l_same.F.kp D_l_same.b .nil pass0 (pa_cons (pe_call G_l_told (hr.mono (by decide)) rfl D_l_told.m D_l_told.F.kp D_l_told.b .nil pass0 (pa_cons (pv 6) pa_nil)) (pa_cons (pv 3) pa_nil)))))))))))))), ?_⟩
  refine ⟨rfl, fun p H0 s0 hp hP hk => ?_⟩
  have hS1 : Scr K H0 a p ns := ⟨fun H2 k2 => seq_on hS hp fun b o n e => k2.keep b o n (s0 b o e)⟩
  refine ⟨_, rfl, _, rfl, a, p, ns, _, rfl, hS1, hP, by decide, by decide, fun kd H1 _ _ k1 => ?_⟩
  refine ⟨_, rfl, _, rfl, a, p, ns, rfl, hS1.on k1, k1.pool, fun v b fp H2 k2 ok hD hpf => ?_⟩
  have k12 := k1.trans k2
  obtain ⟨mp, xp, gp, rfl, rfl, hmp, hDl⟩ := id hD
  have nmp : mp ≠ p := fun z => hpf (by rw [z]; simp)
  refine ⟨_, rfl, _, rfl, _, rfl, _, rfl, a, p, mp, kd, ns, b, _, rfl, hS1.on k12, k2.pool, hD, ok, fun H3 mc hc c k3 ec nc okc => ?_⟩
  have hD3 := hD.kp k3 k2.pool hpf
  obtain ⟨_, xp3, gp3, e1, e2, hmp3, hDl3⟩ := id hD3
  cases e1
  obtain ⟨hsP, rfl, nP⟩ := hDl3.nine
  obtain ⟨fq1, dC⟩ := nc.df ec
  refine ⟨_, rfl, _, rfl, _, _, _, _, rfl, Df.dt _ _ _ dC, Df.dt _ _ _ hD3, okc.okx, ok.okx, fun due hdue => ?_⟩
  -- the books
  refine ⟨_, rfl, mp, hsP, b, rfl, hmp3, nP, ok, fun H4 mA hsA xtA gtA ⟨s34, handA, _, _, _⟩ => ?_⟩
  refine ⟨mA, hsA, b, rfl, handA.1, handA.nine, ok, fun H5 pb fpB s45 bkB _ => ?_⟩
  have s35 := s34.trans s45
  refine ⟨_, rfl, mc, hc, c, rfl, s35 _ _ ec, nc.same s35, okc, fun H6 mB hsB xtB gtB ⟨s56, handB, _, _, _⟩ => ?_⟩
  refine ⟨mB, hsB, c, rfl, handB.1, handB.nine, okc, fun H7 pc fpC s67 bkC _ => ?_⟩
  have s57 := s56.trans s67
  have s37 := s35.trans s57
  have bkB7 := bkB.same s57
  obtain ⟨_, dxB, tpB, lsB, eB, _⟩ := id bkB7
  obtain ⟨_, dxC, tpC, lsC, eC, _⟩ := id bkC
  have hbc := books_eqv ok okc
  have hcb := books_eqv okc ok
  have hbb := (books_eqv ok ok).mpr rfl
  have dbc : PyData.eqv (.tuple b.parts) (.tuple c.parts) = due := by
    rw [Bool.eq_iff_iff, hbc, hdue]
    exact ⟨fun z => by rw [z], fun z => by injection z with z; exact z.symm⟩
  have dcb : PyData.eqv (.tuple c.parts) (.tuple b.parts) = due := by
    rw [Bool.eq_iff_iff, hcb, hdue]
    exact ⟨fun z => by rw [z], fun z => by injection z⟩
  have yes : ∀ {r : Bool} {d : PyData}, (r = true ↔ d = d) → r = true := fun h => h.mpr rfl
  refine ⟨_, rfl, by decide, by decide, ?_⟩
  refine for_range (lo := 0) (n := 2) (fun i σ G => ∃ v8 v9 v10 : Option V, σ = [some (.ref a), some (.ref p), some (.int kd), some (.ref mp), some (.ref mc), some (.bl due), some (.ref pb), some (.ref pc), v8, v9, v10, none] ∧ G = H7) ⟨_, _, _, rfl, rfl⟩ ?_ ?_
  · rintro i σ G hi ⟨v8, v9, v10, rfl, rfl⟩
    refine ⟨_, rfl, _, rfl, pb, pc, dxB, dxC, _, _, rfl, rfl, eB, eC, pb, pc, b, c, fpB, fpC, rfl, bkB7, bkC, ok, okc, ⟨_, rfl, ?_⟩⟩
    refine ⟨_, rfl, _, rfl, pc, pb, dxC, dxB, _, _, rfl, rfl, eC, eB, pc, pb, c, b, fpC, fpB, rfl, bkC, bkB7, okc, ok, ⟨_, rfl, ?_⟩⟩
    rw [dbc, dcb]
    refine ⟨_, rfl, _, rfl, .bl due, .bl due, .bool due, .bool due, rfl, rfl, rfl, okx_bool, okx_bool, fun r hr1 => ?_⟩
    have er := yes hr1
    subst er
    refine ⟨_, rfl, iteF ?_⟩
    refine ⟨_, rfl, _, rfl, .bl due, .bl due, .bool due, .bool due, rfl, rfl, rfl, okx_bool, okx_bool, fun r hr1 => ?_⟩
    have er := yes hr1
    subst er
    refine ⟨_, rfl, iteF ?_⟩
    refine ⟨_, rfl, _, rfl, pb, pb, dxB, dxB, _, _, rfl, rfl, eB, eB, pb, pb, b, b, fpB, fpB, rfl, bkB7, bkB7, ok, ok, ⟨_, rfl, ?_⟩⟩
    rw [hbb]
    refine ⟨.bl true, .bl true, .bool true, .bool true, rfl, rfl, rfl, okx_bool, okx_bool, fun r hr1 => ?_⟩
    have er := yes hr1
    subst er
    exact ⟨_, rfl, iteF ⟨_, _, _, rfl, rfl⟩⟩
  rintro σ G ⟨v8, v9, v10, rfl, rfl⟩
  have emp := s37 _ _ hmp3
  obtain ⟨xs0, gp0, e0, _⟩ := nP .ss
  have e07 := s37 _ _ e0
  refine ⟨Nat.zero_le _, fun l0 hl0 => ?_⟩
  have t0 := same_upd (o := .lst []) hl0
  refine ⟨_, rfl, _, rfl, mp, _, rfl, .inl ⟨.of (t0 _ _ emp), fun l1 hl1 => ?_⟩⟩
  have t1 := t0.trans (same_upd (o := .tup (refs hsP)) hl1)
  refine ⟨_, rfl, mp, _, _, _, rfl, rfl, .of (t1 _ _ emp), atI_nat (j := 0) rfl, sz 9, fun l9 hl9 => ?_⟩
  have t9 := t1.trans (same_upd (o := .lst [.non, .int 0, .str "", .str "book", .ref l0, .ref mp, .ref l1, .ref (hsP .ss), .bl true]) hl9)
  have u0 := ((same_upd (o := .tup (refs hsP)) hl1).trans (same_upd (o := .lst [.non, .int 0, .str "", .str "book", .ref l0, .ref mp, .ref l1, .ref (hsP .ss), .bl true]) hl9)) _ _ upd_same
  have u1 := (same_upd (o := .lst [.non, .int 0, .str "", .str "book", .ref l0, .ref mp, .ref l1, .ref (hsP .ss), .bl true]) hl9) _ _ upd_same
  have bk9 := bkB7.same t9
  refine ⟨l9, rfl, ⟨_, .of upd_same⟩, for_it (walk_list (K := K) (a := l9) (xs := [.non, .int 0, .str "", .str "book", .ref l0, .ref mp, .ref l1, .ref (hsP .ss), .bl true])) (fun i σ G => ∃ v8 v9 v10 v11 : Option V, σ = [some (.ref a), some (.ref p), some (.int kd), some (.ref mp), some (.ref mc), some (.bl due), some (.ref pb), some (.ref pc), v8, v9, v10, v11] ∧ G = _) ⟨_, _, _, _, rfl, rfl⟩ (fun _ _ G _ ⟨_, _, _, _, _, e⟩ => by rw [e]; exact .of upd_same) ?_ ?_⟩
  · rintro i x σ G H' hi ⟨v8, v9, v10, v11, rfl, eG⟩ ⟨rfl, hx⟩
    have g0 := u0
    have g1 := u1
    have g2 := t9 _ _ emp
    have g3 := t9 _ _ e07
    have g4 := bk9
    rw [← eG] at g0 g1 g2 g3 g4
    have ho : ∃ t, Oth H' x t := by
      match i, hx with
      | 0, hx => cases hx; exact ⟨_, Oth.non⟩
      | 1, hx => cases hx; exact ⟨_, Oth.int _⟩
      | 2, hx => cases hx; exact ⟨_, Oth.str _⟩
      | 3, hx => cases hx; exact ⟨_, Oth.str _⟩
      | 4, hx => cases hx; exact ⟨_, Oth.lst g0⟩
      | 5, hx => cases hx; exact ⟨_, Oth.lst g2⟩
      | 6, hx => cases hx; exact ⟨_, Oth.tup g1⟩
      | 7, hx => cases hx; exact ⟨_, Oth.lst g3⟩
      | 8, hx => cases hx; exact ⟨_, Oth.bl _⟩
    obtain ⟨t, ho⟩ := ho
    exact ⟨_, rfl, _, rfl, pb, x, b, fpB, t, rfl, g4, ho, ⟨_, rfl, iteF ⟨_, _, _, _, rfl, eG⟩⟩⟩
  · rintro σ G ⟨v8, v9, v10, v11, rfl, rfl⟩
    refine ⟨_, rfl, pb, b, fpB, rfl, bk9, ok, fun H8 mD hsD xtD gtD ⟨s78, handD, _⟩ => ?_⟩
    obtain ⟨fq7, dD⟩ := handD.nine.df handD.1
    obtain ⟨fq8, dP9⟩ := (nP.same ((s37.trans t9).trans s78)).df ((t9.trans s78) _ _ emp)
    refine ⟨_, rfl, _, _, _, _, rfl, Df.dt _ _ _ dD, Df.dt _ _ _ dP9, ok.okx, ok.okx, fun r hr1 => ?_⟩
    have er := yes hr1
    subst er
    exact q H8
end
end My

namespace My
open PySem L2
def itOf (s l m w a t i b : Addr) : Pk → Addr
  | .ss => s
  | .us => l
  | .ks => l
  | .ms => m
  | .ws => w
  | .as => a
  | .ts => t
  | .is => i
  | .bs => b
section
variable {P : Program} {w : World} {K : PySem.W.Frag} {mg : Str → Option Value} {base : Heap} {tl : Tok} {aP aN aT aO aL aH aI : Addr}
theorem fin {C fI fE : Addr} {fdI fdE : FuncData} {fs : Pk → Addr} {fds : Pk → FuncData} {f0 : Addr} {fd0 : FuncData} {f1 : Addr} {fd1 : FuncData} {f2 : Addr} {fd2 : FuncData} {f3 : Addr} {fd3 : FuncData} {f4 : Addr} {fd4 : FuncData} {f5 : Addr} {fd5 : FuncData} {f6 : Addr} {fd6 : FuncData} {f7 : Addr} {fd7 : FuncData} {f8 : Addr} {fd8 : FuncData} {f9 : Addr} {fd9 : FuncData} {f10 : Addr} {fd10 : FuncData} {f11 : Addr} {fd11 : FuncData} {f12 : Addr} {fd12 : FuncData} {f13 : Addr} {fd13 : FuncData} {f14 : Addr} {fd14 : FuncData} {f15 : Addr} {fd15 : FuncData} {f16 : Addr} {fd16 : FuncData} {f17 : Addr} {fd17 : FuncData} {f18 : Addr} {fd18 : FuncData} {f19 : Addr} {fd19 : FuncData} {f20 : Addr} {fd20 : FuncData} {f21 : Addr} {fd21 : FuncData} {f22 : Addr} {fd22 : FuncData} {f23 : Addr} {fd23 : FuncData} {f24 : Addr} {fd24 : FuncData} {f25 : Addr} {fd25 : FuncData} {f26 : Addr} {fd26 : FuncData} {f27 : Addr} {fd27 : FuncData} {f28 : Addr} {fd28 : FuncData} {f29 : Addr} {fd29 : FuncData} {f30 : Addr} {fd30 : FuncData} {f31 : Addr} {fd31 : FuncData} {f32 : Addr} {fd32 : FuncData} {f33 : Addr} {fd33 : FuncData} {f34 : Addr} {fd34 : FuncData} {f35 : Addr} {fd35 : FuncData} {f36 : Addr} {fd36 : FuncData} {f37 : Addr} {fd37 : FuncData} {f38 : Addr} {fd38 : FuncData} {f39 : Addr} {fd39 : FuncData} {f40 : Addr} {fd40 : FuncData} {f41 : Addr} {fd41 : FuncData} {f42 : Addr} {fd42 : FuncData} {f43 : Addr} {fd43 : FuncData} {f44 : Addr} {fd44 : FuncData}
    (D0 : DefT K mg "_law_pool" "_law_pool" s_l_pool [] f0 fd0)
    (D1 : DefT K mg "_law_draw" "_law_draw" s_l_draw ["_law_script", "_law_pool_here", "_law_limit"] f1 fd1)
    (D2 : DefT K mg "_law_one" "_law_one" s_l_one ["_law_script", "_law_pool_here", "_law_row"] f2 fd2)
    (D3 : DefT K mg "_law_maybe" "_law_maybe" s_l_maybe ["_law_script", "_law_pool_here", "_law_row"] f3 fd3)
    (D4 : DefT K mg "_law_word" "_law_word" s_l_word ["_law_script", "_law_pool_here"] f4 fd4)
    (D5 : DefT K mg "_law_name" "_law_name" s_l_name ["_law_script", "_law_pool_here", "_law_taken", "_law_others"] f5 fd5)
    (D6 : DefT K mg "_law_names" "_law_names" s_l_names ["_law_script", "_law_pool_here", "_law_size", "_law_others"] f6 fd6)
    (D7 : DefT K mg "_law_all_names" "_law_all_names" s_l_all_names ["_law_script", "_law_pool_here"] f7 fd7)
    (D8 : DefT K mg "_law_many" "_law_many" s_l_many ["_law_script", "_law_pool_here"] f8 fd8)
    (D9 : DefT K mg "_law_task" "_law_task" s_l_task ["_law_script", "_law_pool_here", "_law_names_here", "_law_name_here"] f9 fd9)
    (D10 : DefT K mg "_law_answer" "_law_answer" s_l_answer ["_law_script", "_law_pool_here", "_law_names_here"] f10 fd10)
    (D11 : DefT K mg "_law_note" "_law_note" s_l_note ["_law_script", "_law_pool_here", "_law_names_here"] f11 fd11)
    (D12 : DefT K mg "_law_idle" "_law_idle" s_l_idle ["_law_script", "_law_pool_here", "_law_names_here"] f12 fd12)
    (D13 : DefT K mg "_law_rules" "_law_rules" s_l_rules ["_law_script", "_law_pool_here", "_law_names_here", "_law_part"] f13 fd13)
    (D14 : DefT K mg "_law_parts" "_law_parts" s_l_parts ["_law_script", "_law_pool_here"] f14 fd14)
    (D15 : DefT K mg "_law_copy" "_law_copy" s_l_copy ["_law_parts_here"] f15 fd15)
    (D16 : DefT K mg "_law_book" "_law_book" s_l_book ["_law_parts_here"] f16 fd16)
    (D17 : DefT K mg "_law_told" "_law_told" s_l_told ["_law_book_here"] f17 fd17)
    (D18 : DefT K mg "_law_same" "_law_same" s_l_same ["_law_told_here", "_law_due"] f18 fd18)
    (D19 : DefT K mg "_law_exchange" "_law_exchange" s_l_exchange ["_law_script", "_law_pool_here", "_law_row", "_law_least"] f19 fd19)
    (D20 : DefT K mg "_law_leave_out" "_law_leave_out" s_l_leave_out ["_law_script", "_law_pool_here", "_law_row"] f20 fd20)
    (D21 : DefT K mg "_law_change_task" "_law_change_task" s_l_change_task ["_law_script", "_law_pool_here", "_law_parts_here"] f21 fd21)
    (D22 : DefT K mg "_law_changed" "_law_changed" s_l_changed ["_law_script", "_law_pool_here", "_law_parts_here", "_law_kind"] f22 fd22)
    (D23 : DefT K mg "_law_unequal" "_law_unequal" s_l_unequal ["_law_book_here", "_law_thing"] f23 fd23)
    (D24 : DefT K mg "law" "law" s_law ["_law_script"] f24 fd24)
    (D25 : DefT K mg "is_name" "is_name" s_is_name ["value"] f25 fd25)
    (D26 : DefT K mg "has_length" "has_length" s_has_length ["row", "many"] f26 fd26)
    (D27 : DefT K mg "is_one_or_none" "is_one_or_none" s_is_one_or_none ["value", "names"] f27 fd27)
    (D28 : DefT K mg "is_state" "is_state" s_is_state ["row", "_"] f28 fd28)
    (D29 : DefT K mg "is_letter" "is_letter" s_is_letter ["row", "_"] f29 fd29)
    (D30 : DefT K mg "is_mark" "is_mark" s_is_mark ["row", "_"] f30 fd30)
    (D31 : DefT K mg "is_wish" "is_wish" s_is_wish ["row", "names"] f31 fd31)
    (D32 : DefT K mg "is_answer" "is_answer" s_is_answer ["row", "names"] f32 fd32)
    (D33 : DefT K mg "are_calls" "are_calls" s_are_calls ["rows", "names"] f33 fd33)
    (D34 : DefT K mg "are_quiet" "are_quiet" s_are_quiet ["rows", "marks"] f34 fd34)
    (D35 : DefT K mg "are_ends" "are_ends" s_are_ends ["rows", "marks"] f35 fd35)
    (D36 : DefT K mg "is_task" "is_task" s_is_task ["row", "names"] f36 fd36)
    (D37 : DefT K mg "is_reply" "is_reply" s_is_reply ["mark", "down", "frees", "names"] f37 fd37)
    (D38 : DefT K mg "is_idle" "is_idle" s_is_idle ["row", "names"] f38 fd38)
    (D39 : DefT K mg "is_busy" "is_busy" s_is_busy ["row", "names"] f39 fd39)
    (D40 : DefT K mg "may_stand" "may_stand" s_may_stand ["part", "row", "before"] f40 fd40)
    (D41 : DefT K mg "wrong_index" "wrong_index" s_wrong_index ["part", "rows", "names"] f41 fd41)
    (D42 : DefT K mg "names_in" "names_in" s_names_in ["part", "rows"] f42 fd42)
    (D43 : DefT K mg "wrong_part" "wrong_part" s_wrong_part ["parts"] f43 fd43)
    (D44 : DefT K mg "copied_tasks" "copied_tasks" s_copied_tasks ["tasks"] f44 fd44)
    (Z : Zs mg) (T : Tb K mg tl aP aN aT aO aL aH aI) (Td' : Td K w aL aH aI (itOf f28 f29 f30 f31 f32 f36 f38 f39)) (B : BK K C) (M : Meths K C fs fds) (ME : DefM K C "__eq__" "Book.__eq__" s_Book__eq_ ["self", "other"] fE fdE) (IB : IsB K C) (NK : NoKit K C) (NT : NoT K C) (Mk' : Mk K C fI) (mC : mg "Book" = some (.ref C)) (FI : Fun K "__init__" "Book.__init__" s_Book__init_ fI fdI) (bI : Binds K fdI ["self", "states", "ups", "downs", "marks", "wishes", "answers", "tasks", "idles", "busies"] [])
    : FnOk P w K mg base CX0 10 f24 fd24 ["_law_script"] (spLaw K) := by
  have hI : ∀ N, NOk N → ∀ k, Held P w K mg base 4 ((itOf f28 f29 f30 f31 f32 f36 f38 f39) k) (spItem (ItemR N k) (Wk N k)) := fun N hN k => by
    cases k
    case ss => exact ⟨⟨_, _, ((ok_is_state (P := P) (w := w) (base := base) D28 Z T D26 D25).mono (by decide)), D28.F.kp, D28.b⟩⟩
    case us => exact ⟨⟨_, _, ((ok_is_letter (P := P) (w := w) (base := base) D29 Z T D26 D25).mono (by decide)), D29.F.kp, D29.b⟩⟩
    case ks => exact ⟨⟨_, _, ((ok_is_letter (P := P) (w := w) (base := base) D29 Z T D26 D25).mono (by decide)), D29.F.kp, D29.b⟩⟩
    case ms => exact ⟨⟨_, _, ((ok_is_mark (P := P) (w := w) (base := base) D30 Z T D25).mono (by decide)), D30.F.kp, D30.b⟩⟩
    case ws => exact ⟨⟨_, _, ((ok_is_wish (P := P) (w := w) (base := base) N D31 Z D26 D27).mono (by decide)), D31.F.kp, D31.b⟩⟩
    case as => exact ⟨⟨_, _, ((ok_is_answer (P := P) (w := w) (base := base) N D32 Z D26 D27).mono (by decide)), D32.F.kp, D32.b⟩⟩
    case ts => exact ⟨⟨_, _, ((ok_is_task (P := P) (w := w) (base := base) N hN D36 Z T D26 D27 D25 D33 D34 D35).mono (by decide)), D36.F.kp, D36.b⟩⟩
    case is => exact ⟨⟨_, _, ((ok_is_idle (P := P) (w := w) (base := base) N D38 Z D26 D27 D37).mono (by decide)), D38.F.kp, D38.b⟩⟩
    case bs => exact ⟨⟨_, _, ((ok_is_busy (P := P) (w := w) (base := base) N D39 Z D26 D27 D37).mono (by decide)), D39.F.kp, D39.b⟩⟩
  have GI := ok_init (P := P) (w := w) (base := base) FI Z B T Td' D44 D43 D40 D41 D42 hI
  exact ok_law D24 Z D0 D14 D15 D16 D17 D18 D1 D22 D23 ME ⟨ok_pool D0, ok_parts D14 Z D1 D2 D3 D11 D8 D10 D12 D4 D5 D6 D9 D13 D7, ok_copy D15 Z, ok_book D16 Mk' GI mC bI, ok_told D17 Z B M D44, ok_sameX D18 Z 5, ok_draw D1 Z, ok_changed D22 Z D15 D1 D2 D19 D20 D21, ok_uneq D23 Z ME NK NT mC, ok_eq ME Z B IB mC⟩
end
end My

namespace My
open PySem L2
/-! ### what the top has written, the head -/
theorem all_mk {l : PySem.W.OpenLaw} {w : World} {K : PySem.W.Frag} {h : Heap} {mg : Str → Option Value} {fa : Addr} (X : K.In h) (G : h.Ns mainGlobals mg) (hfa : mg "law" = some (.ref fa)) {aP aN aT aO aL aH aI C fI g0 t0 g1 t1 g2 t2 g3 t3 g4 t4 g5 t5 g6 t6 g7 t7 g8 t8 : Addr} {tl : Tok} {todP : Option Addr} {titP : Array Value} {tnP : Nat} {tslP : Array (Option Value)} {todN : Option Addr} {titN : Array Value} {tnN : Nat} {tslN : Array (Option Value)} {todT : Option Addr} {titT : Array Value} {tnT : Nat} {tslT : Array (Option Value)} {todO : Option Addr} {titO : Array Value} {tnO : Nat} {tslO : Array (Option Value)} {desL : Array DictEntry} {dnL : Nat} {desH : Array DictEntry} {dnH : Nat} {desI : Array DictEntry} {dnI : Nat} {uod0 : Option Addr} {uit0 : Array Value} {un0 : Nat} {usl0 : Array (Option Value)} {ht0 : Tok} {uod1 : Option Addr} {uit1 : Array Value} {un1 : Nat} {usl1 : Array (Option Value)} {ht1 : Tok} {uod2 : Option Addr} {uit2 : Array Value} {un2 : Nat} {usl2 : Array (Option Value)} {ht2 : Tok} {uod3 : Option Addr} {uit3 : Array Value} {un3 : Nat} {usl3 : Array (Option Value)} {uod4 : Option Addr} {uit4 : Array Value} {un4 : Nat} {usl4 : Array (Option Value)} {uod5 : Option Addr} {uit5 : Array Value} {un5 : Nat} {usl5 : Array (Option Value)} {ht5 : Tok} {uod6 : Option Addr} {uit6 : Array Value} {un6 : Nat} {usl6 : Array (Option Value)} {ht6 : Tok} {uod7 : Option Addr} {uit7 : Array Value} {un7 : Nat} {usl7 : Array (Option Value)} {ht7 : Tok} {uod8 : Option Addr} {uit8 : Array Value} {un8 : Nat} {usl8 : Array (Option Value)} {ht8 : Tok} {jod jan : Option Addr} {jsl : Array (Option Value)} {joc jkV jdc jpm jcd jct : Value} {n0od n0an : Option Addr} {n0sl : Array (Option Value)} {n0oc n0kV n0dc n0pm n0cd n0ct : Value} {n1od n1an : Option Addr} {n1sl : Array (Option Value)} {n1oc n1kV n1dc n1pm n1cd n1ct : Value} {n2od n2an : Option Addr} {n2sl : Array (Option Value)} {n2oc n2kV n2dc n2pm n2cd n2ct : Value} {n3od n3an : Option Addr} {n3sl : Array (Option Value)} {n3oc n3kV n3dc n3pm n3cd n3ct : Value} {n4od n4an : Option Addr} {n4sl : Array (Option Value)} {n4oc n4kV n4dc n4pm n4cd n4ct : Value} {n5od n5an : Option Addr} {n5sl : Array (Option Value)} {n5oc n5kV n5dc n5pm n5cd n5ct : Value} {n6od n6an : Option Addr} {n6sl : Array (Option Value)} {n6oc n6kV n6dc n6pm n6cd n6ct : Value} {n7od n7an : Option Addr} {n7sl : Array (Option Value)} {n7oc n7kV n7dc n7pm n7cd n7ct : Value} {n8od n8an : Option Addr} {n8sl : Array (Option Value)} {n8oc n8kV n8dc n8pm n8cd n8ct : Value} {fE : Addr} {eqod eqan : Option Addr} {eqsl : Array (Option Value)} {eqoc eqkV eqdc eqpm eqcd eqct : Value} 
    {f0 : Addr} {od0 an0 : Option Addr} {sl0 : Array (Option Value)} {oc0 kV0 dc0 pm0 cd0 ct0 : Value} {f1 : Addr} {od1 an1 : Option Addr} {sl1 : Array (Option Value)} {oc1 kV1 dc1 pm1 cd1 ct1 : Value} {f2 : Addr} {od2 an2 : Option Addr} {sl2 : Array (Option Value)} {oc2 kV2 dc2 pm2 cd2 ct2 : Value} {f3 : Addr} {od3 an3 : Option Addr} {sl3 : Array (Option Value)} {oc3 kV3 dc3 pm3 cd3 ct3 : Value} {f4 : Addr} {od4 an4 : Option Addr} {sl4 : Array (Option Value)} {oc4 kV4 dc4 pm4 cd4 ct4 : Value} {f5 : Addr} {od5 an5 : Option Addr} {sl5 : Array (Option Value)} {oc5 kV5 dc5 pm5 cd5 ct5 : Value} {f6 : Addr} {od6 an6 : Option Addr} {sl6 : Array (Option Value)} {oc6 kV6 dc6 pm6 cd6 ct6 : Value} {f7 : Addr} {od7 an7 : Option Addr} {sl7 : Array (Option Value)} {oc7 kV7 dc7 pm7 cd7 ct7 : Value} {f8 : Addr} {od8 an8 : Option Addr} {sl8 : Array (Option Value)} {oc8 kV8 dc8 pm8 cd8 ct8 : Value} {f9 : Addr} {od9 an9 : Option Addr} {sl9 : Array (Option Value)} {oc9 kV9 dc9 pm9 cd9 ct9 : Value} {f10 : Addr} {od10 an10 : Option Addr} {sl10 : Array (Option Value)} {oc10 kV10 dc10 pm10 cd10 ct10 : Value} {f11 : Addr} {od11 an11 : Option Addr} {sl11 : Array (Option Value)} {oc11 kV11 dc11 pm11 cd11 ct11 : Value} {f12 : Addr} {od12 an12 : Option Addr} {sl12 : Array (Option Value)} {oc12 kV12 dc12 pm12 cd12 ct12 : Value} {f13 : Addr} {od13 an13 : Option Addr} {sl13 : Array (Option Value)} {oc13 kV13 dc13 pm13 cd13 ct13 : Value} {f14 : Addr} {od14 an14 : Option Addr} {sl14 : Array (Option Value)} {oc14 kV14 dc14 pm14 cd14 ct14 : Value} {f15 : Addr} {od15 an15 : Option Addr} {sl15 : Array (Option Value)} {oc15 kV15 dc15 pm15 cd15 ct15 : Value} {f16 : Addr} {od16 an16 : Option Addr} {sl16 : Array (Option Value)} {oc16 kV16 dc16 pm16 cd16 ct16 : Value} {f17 : Addr} {od17 an17 : Option Addr} {sl17 : Array (Option Value)} {oc17 kV17 dc17 pm17 cd17 ct17 : Value} {f18 : Addr} {od18 an18 : Option Addr} {sl18 : Array (Option Value)} {oc18 kV18 dc18 pm18 cd18 ct18 : Value} {f19 : Addr} {od19 an19 : Option Addr} {sl19 : Array (Option Value)} {oc19 kV19 dc19 pm19 cd19 ct19 : Value} {f20 : Addr} {od20 an20 : Option Addr} {sl20 : Array (Option Value)} {oc20 kV20 dc20 pm20 cd20 ct20 : Value} {f21 : Addr} {od21 an21 : Option Addr} {sl21 : Array (Option Value)} {oc21 kV21 dc21 pm21 cd21 ct21 : Value} {f22 : Addr} {od22 an22 : Option Addr} {sl22 : Array (Option Value)} {oc22 kV22 dc22 pm22 cd22 ct22 : Value} {f23 : Addr} {od23 an23 : Option Addr} {sl23 : Array (Option Value)} {oc23 kV23 dc23 pm23 cd23 ct23 : Value} {f24 : Addr} {od24 an24 : Option Addr} {sl24 : Array (Option Value)} {oc24 kV24 dc24 pm24 cd24 ct24 : Value} {f25 : Addr} {od25 an25 : Option Addr} {sl25 : Array (Option Value)} {oc25 kV25 dc25 pm25 cd25 ct25 : Value} {f26 : Addr} {od26 an26 : Option Addr} {sl26 : Array (Option Value)} {oc26 kV26 dc26 pm26 cd26 ct26 : Value} {f27 : Addr} {od27 an27 : Option Addr} {sl27 : Array (Option Value)} {oc27 kV27 dc27 pm27 cd27 ct27 : Value} {f28 : Addr} {od28 an28 : Option Addr} {sl28 : Array (Option Value)} {oc28 kV28 dc28 pm28 cd28 ct28 : Value} {f29 : Addr} {od29 an29 : Option Addr} {sl29 : Array (Option Value)} {oc29 kV29 dc29 pm29 cd29 ct29 : Value} {f30 : Addr} {od30 an30 : Option Addr} {sl30 : Array (Option Value)} {oc30 kV30 dc30 pm30 cd30 ct30 : Value} {f31 : Addr} {od31 an31 : Option Addr} {sl31 : Array (Option Value)} {oc31 kV31 dc31 pm31 cd31 ct31 : Value} {f32 : Addr} {od32 an32 : Option Addr} {sl32 : Array (Option Value)} {oc32 kV32 dc32 pm32 cd32 ct32 : Value} {f33 : Addr} {od33 an33 : Option Addr} {sl33 : Array (Option Value)} {oc33 kV33 dc33 pm33 cd33 ct33 : Value} {f34 : Addr} {od34 an34 : Option Addr} {sl34 : Array (Option Value)} {oc34 kV34 dc34 pm34 cd34 ct34 : Value} {f35 : Addr} {od35 an35 : Option Addr} {sl35 : Array (Option Value)} {oc35 kV35 dc35 pm35 cd35 ct35 : Value} {f36 : Addr} {od36 an36 : Option Addr} {sl36 : Array (Option Value)} {oc36 kV36 dc36 pm36 cd36 ct36 : Value} {f37 : Addr} {od37 an37 : Option Addr} {sl37 : Array (Option Value)} {oc37 kV37 dc37 pm37 cd37 ct37 : Value} {f38 : Addr} {od38 an38 : Option Addr} {sl38 : Array (Option Value)} {oc38 kV38 dc38 pm38 cd38 ct38 : Value} {f39 : Addr} {od39 an39 : Option Addr} {sl39 : Array (Option Value)} {oc39 kV39 dc39 pm39 cd39 ct39 : Value} {f40 : Addr} {od40 an40 : Option Addr} {sl40 : Array (Option Value)} {oc40 kV40 dc40 pm40 cd40 ct40 : Value} {f41 : Addr} {od41 an41 : Option Addr} {sl41 : Array (Option Value)} {oc41 kV41 dc41 pm41 cd41 ct41 : Value} {f42 : Addr} {od42 an42 : Option Addr} {sl42 : Array (Option Value)} {oc42 kV42 dc42 pm42 cd42 ct42 : Value} {f43 : Addr} {od43 an43 : Option Addr} {sl43 : Array (Option Value)} {oc43 kV43 dc43 pm43 cd43 ct43 : Value} {f44 : Addr} {od44 an44 : Option Addr} {sl44 : Array (Option Value)} {oc44 kV44 dc44 pm44 cd44 ct44 : Value} 
    (a0 : PySem.W.nsIn K mainGlobals "_law_pool" = some (some (.ref f0)))
    (l0 : K.lookup f0 = some ⟨oc0, od0, .func (PySem.W.fnOf "_law_pool" "_law_pool" (defArgs s_l_pool) (defBody s_l_pool) (defScope s_l_pool) .none kV0 dc0 pm0 an0 cd0 ct0), sl0⟩)
    (c0 : PySem.W.codeIn K cd0 "_law_pool" = true)
    (k0 : PySem.W.keepIn K (.ref f0) = true)
    (a1 : PySem.W.nsIn K mainGlobals "_law_draw" = some (some (.ref f1)))
    (l1 : K.lookup f1 = some ⟨oc1, od1, .func (PySem.W.fnOf "_law_draw" "_law_draw" (defArgs s_l_draw) (defBody s_l_draw) (defScope s_l_draw) .none kV1 dc1 pm1 an1 cd1 ct1), sl1⟩)
    (c1 : PySem.W.codeIn K cd1 "_law_draw" = true)
    (k1 : PySem.W.keepIn K (.ref f1) = true)
    (a2 : PySem.W.nsIn K mainGlobals "_law_one" = some (some (.ref f2)))
    (l2 : K.lookup f2 = some ⟨oc2, od2, .func (PySem.W.fnOf "_law_one" "_law_one" (defArgs s_l_one) (defBody s_l_one) (defScope s_l_one) .none kV2 dc2 pm2 an2 cd2 ct2), sl2⟩)
    (c2 : PySem.W.codeIn K cd2 "_law_one" = true)
    (k2 : PySem.W.keepIn K (.ref f2) = true)
    (a3 : PySem.W.nsIn K mainGlobals "_law_maybe" = some (some (.ref f3)))
    (l3 : K.lookup f3 = some ⟨oc3, od3, .func (PySem.W.fnOf "_law_maybe" "_law_maybe" (defArgs s_l_maybe) (defBody s_l_maybe) (defScope s_l_maybe) .none kV3 dc3 pm3 an3 cd3 ct3), sl3⟩)
    (c3 : PySem.W.codeIn K cd3 "_law_maybe" = true)
    (k3 : PySem.W.keepIn K (.ref f3) = true)
    (a4 : PySem.W.nsIn K mainGlobals "_law_word" = some (some (.ref f4)))
    (l4 : K.lookup f4 = some ⟨oc4, od4, .func (PySem.W.fnOf "_law_word" "_law_word" (defArgs s_l_word) (defBody s_l_word) (defScope s_l_word) .none kV4 dc4 pm4 an4 cd4 ct4), sl4⟩)
    (c4 : PySem.W.codeIn K cd4 "_law_word" = true)
    (k4 : PySem.W.keepIn K (.ref f4) = true)
    (a5 : PySem.W.nsIn K mainGlobals "_law_name" = some (some (.ref f5)))
    (l5 : K.lookup f5 = some ⟨oc5, od5, .func (PySem.W.fnOf "_law_name" "_law_name" (defArgs s_l_name) (defBody s_l_name) (defScope s_l_name) .none kV5 dc5 pm5 an5 cd5 ct5), sl5⟩)
    (c5 : PySem.W.codeIn K cd5 "_law_name" = true)
    (k5 : PySem.W.keepIn K (.ref f5) = true)
    (a6 : PySem.W.nsIn K mainGlobals "_law_names" = some (some (.ref f6)))
    (l6 : K.lookup f6 = some ⟨oc6, od6, .func (PySem.W.fnOf "_law_names" "_law_names" (defArgs s_l_names) (defBody s_l_names) (defScope s_l_names) .none kV6 dc6 pm6 an6 cd6 ct6), sl6⟩)
    (c6 : PySem.W.codeIn K cd6 "_law_names" = true)
    (k6 : PySem.W.keepIn K (.ref f6) = true)
    (a7 : PySem.W.nsIn K mainGlobals "_law_all_names" = some (some (.ref f7)))
    (l7 : K.lookup f7 = some ⟨oc7, od7, .func (PySem.W.fnOf "_law_all_names" "_law_all_names" (defArgs s_l_all_names) (defBody s_l_all_names) (defScope s_l_all_names) .none kV7 dc7 pm7 an7 cd7 ct7), sl7⟩)
    (c7 : PySem.W.codeIn K cd7 "_law_all_names" = true)
    (k7 : PySem.W.keepIn K (.ref f7) = true)
    (a8 : PySem.W.nsIn K mainGlobals "_law_many" = some (some (.ref f8)))
    (l8 : K.lookup f8 = some ⟨oc8, od8, .func (PySem.W.fnOf "_law_many" "_law_many" (defArgs s_l_many) (defBody s_l_many) (defScope s_l_many) .none kV8 dc8 pm8 an8 cd8 ct8), sl8⟩)
    (c8 : PySem.W.codeIn K cd8 "_law_many" = true)
    (k8 : PySem.W.keepIn K (.ref f8) = true)
    (a9 : PySem.W.nsIn K mainGlobals "_law_task" = some (some (.ref f9)))
    (l9 : K.lookup f9 = some ⟨oc9, od9, .func (PySem.W.fnOf "_law_task" "_law_task" (defArgs s_l_task) (defBody s_l_task) (defScope s_l_task) .none kV9 dc9 pm9 an9 cd9 ct9), sl9⟩)
    (c9 : PySem.W.codeIn K cd9 "_law_task" = true)
    (k9 : PySem.W.keepIn K (.ref f9) = true)
    (a10 : PySem.W.nsIn K mainGlobals "_law_answer" = some (some (.ref f10)))
    (l10 : K.lookup f10 = some ⟨oc10, od10, .func (PySem.W.fnOf "_law_answer" "_law_answer" (defArgs s_l_answer) (defBody s_l_answer) (defScope s_l_answer) .none kV10 dc10 pm10 an10 cd10 ct10), sl10⟩)
    (c10 : PySem.W.codeIn K cd10 "_law_answer" = true)
    (k10 : PySem.W.keepIn K (.ref f10) = true)
    (a11 : PySem.W.nsIn K mainGlobals "_law_note" = some (some (.ref f11)))
    (l11 : K.lookup f11 = some ⟨oc11, od11, .func (PySem.W.fnOf "_law_note" "_law_note" (defArgs s_l_note) (defBody s_l_note) (defScope s_l_note) .none kV11 dc11 pm11 an11 cd11 ct11), sl11⟩)
    (c11 : PySem.W.codeIn K cd11 "_law_note" = true)
    (k11 : PySem.W.keepIn K (.ref f11) = true)
    (a12 : PySem.W.nsIn K mainGlobals "_law_idle" = some (some (.ref f12)))
    (l12 : K.lookup f12 = some ⟨oc12, od12, .func (PySem.W.fnOf "_law_idle" "_law_idle" (defArgs s_l_idle) (defBody s_l_idle) (defScope s_l_idle) .none kV12 dc12 pm12 an12 cd12 ct12), sl12⟩)
    (c12 : PySem.W.codeIn K cd12 "_law_idle" = true)
    (k12 : PySem.W.keepIn K (.ref f12) = true)
    (a13 : PySem.W.nsIn K mainGlobals "_law_rules" = some (some (.ref f13)))
    (l13 : K.lookup f13 = some ⟨oc13, od13, .func (PySem.W.fnOf "_law_rules" "_law_rules" (defArgs s_l_rules) (defBody s_l_rules) (defScope s_l_rules) .none kV13 dc13 pm13 an13 cd13 ct13), sl13⟩)
    (c13 : PySem.W.codeIn K cd13 "_law_rules" = true)
    (k13 : PySem.W.keepIn K (.ref f13) = true)
    (a14 : PySem.W.nsIn K mainGlobals "_law_parts" = some (some (.ref f14)))
    (l14 : K.lookup f14 = some ⟨oc14, od14, .func (PySem.W.fnOf "_law_parts" "_law_parts" (defArgs s_l_parts) (defBody s_l_parts) (defScope s_l_parts) .none kV14 dc14 pm14 an14 cd14 ct14), sl14⟩)
    (c14 : PySem.W.codeIn K cd14 "_law_parts" = true)
    (k14 : PySem.W.keepIn K (.ref f14) = true)
    (a15 : PySem.W.nsIn K mainGlobals "_law_copy" = some (some (.ref f15)))
    (l15 : K.lookup f15 = some ⟨oc15, od15, .func (PySem.W.fnOf "_law_copy" "_law_copy" (defArgs s_l_copy) (defBody s_l_copy) (defScope s_l_copy) .none kV15 dc15 pm15 an15 cd15 ct15), sl15⟩)
    (c15 : PySem.W.codeIn K cd15 "_law_copy" = true)
    (k15 : PySem.W.keepIn K (.ref f15) = true)
    (a16 : PySem.W.nsIn K mainGlobals "_law_book" = some (some (.ref f16)))
    (l16 : K.lookup f16 = some ⟨oc16, od16, .func (PySem.W.fnOf "_law_book" "_law_book" (defArgs s_l_book) (defBody s_l_book) (defScope s_l_book) .none kV16 dc16 pm16 an16 cd16 ct16), sl16⟩)
    (c16 : PySem.W.codeIn K cd16 "_law_book" = true)
    (k16 : PySem.W.keepIn K (.ref f16) = true)
    (a17 : PySem.W.nsIn K mainGlobals "_law_told" = some (some (.ref f17)))
    (l17 : K.lookup f17 = some ⟨oc17, od17, .func (PySem.W.fnOf "_law_told" "_law_told" (defArgs s_l_told) (defBody s_l_told) (defScope s_l_told) .none kV17 dc17 pm17 an17 cd17 ct17), sl17⟩)
    (c17 : PySem.W.codeIn K cd17 "_law_told" = true)
    (k17 : PySem.W.keepIn K (.ref f17) = true)
    (a18 : PySem.W.nsIn K mainGlobals "_law_same" = some (some (.ref f18)))
    (l18 : K.lookup f18 = some ⟨oc18, od18, .func (PySem.W.fnOf "_law_same" "_law_same" (defArgs s_l_same) (defBody s_l_same) (defScope s_l_same) .none kV18 dc18 pm18 an18 cd18 ct18), sl18⟩)
    (c18 : PySem.W.codeIn K cd18 "_law_same" = true)
    (k18 : PySem.W.keepIn K (.ref f18) = true)
    (a19 : PySem.W.nsIn K mainGlobals "_law_exchange" = some (some (.ref f19)))
    (l19 : K.lookup f19 = some ⟨oc19, od19, .func (PySem.W.fnOf "_law_exchange" "_law_exchange" (defArgs s_l_exchange) (defBody s_l_exchange) (defScope s_l_exchange) .none kV19 dc19 pm19 an19 cd19 ct19), sl19⟩)
    (c19 : PySem.W.codeIn K cd19 "_law_exchange" = true)
    (k19 : PySem.W.keepIn K (.ref f19) = true)
    (a20 : PySem.W.nsIn K mainGlobals "_law_leave_out" = some (some (.ref f20)))
    (l20 : K.lookup f20 = some ⟨oc20, od20, .func (PySem.W.fnOf "_law_leave_out" "_law_leave_out" (defArgs s_l_leave_out) (defBody s_l_leave_out) (defScope s_l_leave_out) .none kV20 dc20 pm20 an20 cd20 ct20), sl20⟩)
    (c20 : PySem.W.codeIn K cd20 "_law_leave_out" = true)
    (k20 : PySem.W.keepIn K (.ref f20) = true)
    (a21 : PySem.W.nsIn K mainGlobals "_law_change_task" = some (some (.ref f21)))
    (l21 : K.lookup f21 = some ⟨oc21, od21, .func (PySem.W.fnOf "_law_change_task" "_law_change_task" (defArgs s_l_change_task) (defBody s_l_change_task) (defScope s_l_change_task) .none kV21 dc21 pm21 an21 cd21 ct21), sl21⟩)
    (c21 : PySem.W.codeIn K cd21 "_law_change_task" = true)
    (k21 : PySem.W.keepIn K (.ref f21) = true)
    (a22 : PySem.W.nsIn K mainGlobals "_law_changed" = some (some (.ref f22)))
    (l22 : K.lookup f22 = some ⟨oc22, od22, .func (PySem.W.fnOf "_law_changed" "_law_changed" (defArgs s_l_changed) (defBody s_l_changed) (defScope s_l_changed) .none kV22 dc22 pm22 an22 cd22 ct22), sl22⟩)
    (c22 : PySem.W.codeIn K cd22 "_law_changed" = true)
    (k22 : PySem.W.keepIn K (.ref f22) = true)
    (a23 : PySem.W.nsIn K mainGlobals "_law_unequal" = some (some (.ref f23)))
    (l23 : K.lookup f23 = some ⟨oc23, od23, .func (PySem.W.fnOf "_law_unequal" "_law_unequal" (defArgs s_l_unequal) (defBody s_l_unequal) (defScope s_l_unequal) .none kV23 dc23 pm23 an23 cd23 ct23), sl23⟩)
    (c23 : PySem.W.codeIn K cd23 "_law_unequal" = true)
    (k23 : PySem.W.keepIn K (.ref f23) = true)
    (a24 : PySem.W.nsIn K mainGlobals "law" = some (some (.ref f24)))
    (l24 : K.lookup f24 = some ⟨oc24, od24, .func (PySem.W.fnOf "law" "law" (defArgs s_law) (defBody s_law) (defScope s_law) .none kV24 dc24 pm24 an24 cd24 ct24), sl24⟩)
    (c24 : PySem.W.codeIn K cd24 "law" = true)
    (k24 : PySem.W.keepIn K (.ref f24) = true)
    (a25 : PySem.W.nsIn K mainGlobals "is_name" = some (some (.ref f25)))
    (l25 : K.lookup f25 = some ⟨oc25, od25, .func (PySem.W.fnOf "is_name" "is_name" (defArgs s_is_name) (defBody s_is_name) (defScope s_is_name) .none kV25 dc25 pm25 an25 cd25 ct25), sl25⟩)
    (c25 : PySem.W.codeIn K cd25 "is_name" = true)
    (k25 : PySem.W.keepIn K (.ref f25) = true)
    (a26 : PySem.W.nsIn K mainGlobals "has_length" = some (some (.ref f26)))
    (l26 : K.lookup f26 = some ⟨oc26, od26, .func (PySem.W.fnOf "has_length" "has_length" (defArgs s_has_length) (defBody s_has_length) (defScope s_has_length) .none kV26 dc26 pm26 an26 cd26 ct26), sl26⟩)
    (c26 : PySem.W.codeIn K cd26 "has_length" = true)
    (k26 : PySem.W.keepIn K (.ref f26) = true)
    (a27 : PySem.W.nsIn K mainGlobals "is_one_or_none" = some (some (.ref f27)))
    (l27 : K.lookup f27 = some ⟨oc27, od27, .func (PySem.W.fnOf "is_one_or_none" "is_one_or_none" (defArgs s_is_one_or_none) (defBody s_is_one_or_none) (defScope s_is_one_or_none) .none kV27 dc27 pm27 an27 cd27 ct27), sl27⟩)
    (c27 : PySem.W.codeIn K cd27 "is_one_or_none" = true)
    (k27 : PySem.W.keepIn K (.ref f27) = true)
    (a28 : PySem.W.nsIn K mainGlobals "is_state" = some (some (.ref f28)))
    (l28 : K.lookup f28 = some ⟨oc28, od28, .func (PySem.W.fnOf "is_state" "is_state" (defArgs s_is_state) (defBody s_is_state) (defScope s_is_state) .none kV28 dc28 pm28 an28 cd28 ct28), sl28⟩)
    (c28 : PySem.W.codeIn K cd28 "is_state" = true)
    (k28 : PySem.W.keepIn K (.ref f28) = true)
    (a29 : PySem.W.nsIn K mainGlobals "is_letter" = some (some (.ref f29)))
    (l29 : K.lookup f29 = some ⟨oc29, od29, .func (PySem.W.fnOf "is_letter" "is_letter" (defArgs s_is_letter) (defBody s_is_letter) (defScope s_is_letter) .none kV29 dc29 pm29 an29 cd29 ct29), sl29⟩)
    (c29 : PySem.W.codeIn K cd29 "is_letter" = true)
    (k29 : PySem.W.keepIn K (.ref f29) = true)
    (a30 : PySem.W.nsIn K mainGlobals "is_mark" = some (some (.ref f30)))
    (l30 : K.lookup f30 = some ⟨oc30, od30, .func (PySem.W.fnOf "is_mark" "is_mark" (defArgs s_is_mark) (defBody s_is_mark) (defScope s_is_mark) .none kV30 dc30 pm30 an30 cd30 ct30), sl30⟩)
    (c30 : PySem.W.codeIn K cd30 "is_mark" = true)
    (k30 : PySem.W.keepIn K (.ref f30) = true)
    (a31 : PySem.W.nsIn K mainGlobals "is_wish" = some (some (.ref f31)))
    (l31 : K.lookup f31 = some ⟨oc31, od31, .func (PySem.W.fnOf "is_wish" "is_wish" (defArgs s_is_wish) (defBody s_is_wish) (defScope s_is_wish) .none kV31 dc31 pm31 an31 cd31 ct31), sl31⟩)
    (c31 : PySem.W.codeIn K cd31 "is_wish" = true)
    (k31 : PySem.W.keepIn K (.ref f31) = true)
    (a32 : PySem.W.nsIn K mainGlobals "is_answer" = some (some (.ref f32)))
    (l32 : K.lookup f32 = some ⟨oc32, od32, .func (PySem.W.fnOf "is_answer" "is_answer" (defArgs s_is_answer) (defBody s_is_answer) (defScope s_is_answer) .none kV32 dc32 pm32 an32 cd32 ct32), sl32⟩)
    (c32 : PySem.W.codeIn K cd32 "is_answer" = true)
    (k32 : PySem.W.keepIn K (.ref f32) = true)
    (a33 : PySem.W.nsIn K mainGlobals "are_calls" = some (some (.ref f33)))
    (l33 : K.lookup f33 = some ⟨oc33, od33, .func (PySem.W.fnOf "are_calls" "are_calls" (defArgs s_are_calls) (defBody s_are_calls) (defScope s_are_calls) .none kV33 dc33 pm33 an33 cd33 ct33), sl33⟩)
    (c33 : PySem.W.codeIn K cd33 "are_calls" = true)
    (k33 : PySem.W.keepIn K (.ref f33) = true)
    (a34 : PySem.W.nsIn K mainGlobals "are_quiet" = some (some (.ref f34)))
    (l34 : K.lookup f34 = some ⟨oc34, od34, .func (PySem.W.fnOf "are_quiet" "are_quiet" (defArgs s_are_quiet) (defBody s_are_quiet) (defScope s_are_quiet) .none kV34 dc34 pm34 an34 cd34 ct34), sl34⟩)
    (c34 : PySem.W.codeIn K cd34 "are_quiet" = true)
    (k34 : PySem.W.keepIn K (.ref f34) = true)
    (a35 : PySem.W.nsIn K mainGlobals "are_ends" = some (some (.ref f35)))
    (l35 : K.lookup f35 = some ⟨oc35, od35, .func (PySem.W.fnOf "are_ends" "are_ends" (defArgs s_are_ends) (defBody s_are_ends) (defScope s_are_ends) .none kV35 dc35 pm35 an35 cd35 ct35), sl35⟩)
    (c35 : PySem.W.codeIn K cd35 "are_ends" = true)
    (k35 : PySem.W.keepIn K (.ref f35) = true)
    (a36 : PySem.W.nsIn K mainGlobals "is_task" = some (some (.ref f36)))
    (l36 : K.lookup f36 = some ⟨oc36, od36, .func (PySem.W.fnOf "is_task" "is_task" (defArgs s_is_task) (defBody s_is_task) (defScope s_is_task) .none kV36 dc36 pm36 an36 cd36 ct36), sl36⟩)
    (c36 : PySem.W.codeIn K cd36 "is_task" = true)
    (k36 : PySem.W.keepIn K (.ref f36) = true)
    (a37 : PySem.W.nsIn K mainGlobals "is_reply" = some (some (.ref f37)))
    (l37 : K.lookup f37 = some ⟨oc37, od37, .func (PySem.W.fnOf "is_reply" "is_reply" (defArgs s_is_reply) (defBody s_is_reply) (defScope s_is_reply) .none kV37 dc37 pm37 an37 cd37 ct37), sl37⟩)
    (c37 : PySem.W.codeIn K cd37 "is_reply" = true)
    (k37 : PySem.W.keepIn K (.ref f37) = true)
    (a38 : PySem.W.nsIn K mainGlobals "is_idle" = some (some (.ref f38)))
    (l38 : K.lookup f38 = some ⟨oc38, od38, .func (PySem.W.fnOf "is_idle" "is_idle" (defArgs s_is_idle) (defBody s_is_idle) (defScope s_is_idle) .none kV38 dc38 pm38 an38 cd38 ct38), sl38⟩)
    (c38 : PySem.W.codeIn K cd38 "is_idle" = true)
    (k38 : PySem.W.keepIn K (.ref f38) = true)
    (a39 : PySem.W.nsIn K mainGlobals "is_busy" = some (some (.ref f39)))
    (l39 : K.lookup f39 = some ⟨oc39, od39, .func (PySem.W.fnOf "is_busy" "is_busy" (defArgs s_is_busy) (defBody s_is_busy) (defScope s_is_busy) .none kV39 dc39 pm39 an39 cd39 ct39), sl39⟩)
    (c39 : PySem.W.codeIn K cd39 "is_busy" = true)
    (k39 : PySem.W.keepIn K (.ref f39) = true)
    (a40 : PySem.W.nsIn K mainGlobals "may_stand" = some (some (.ref f40)))
    (l40 : K.lookup f40 = some ⟨oc40, od40, .func (PySem.W.fnOf "may_stand" "may_stand" (defArgs s_may_stand) (defBody s_may_stand) (defScope s_may_stand) .none kV40 dc40 pm40 an40 cd40 ct40), sl40⟩)
    (c40 : PySem.W.codeIn K cd40 "may_stand" = true)
    (k40 : PySem.W.keepIn K (.ref f40) = true)
    (a41 : PySem.W.nsIn K mainGlobals "wrong_index" = some (some (.ref f41)))
    (l41 : K.lookup f41 = some ⟨oc41, od41, .func (PySem.W.fnOf "wrong_index" "wrong_index" (defArgs s_wrong_index) (defBody s_wrong_index) (defScope s_wrong_index) .none kV41 dc41 pm41 an41 cd41 ct41), sl41⟩)
    (c41 : PySem.W.codeIn K cd41 "wrong_index" = true)
    (k41 : PySem.W.keepIn K (.ref f41) = true)
    (a42 : PySem.W.nsIn K mainGlobals "names_in" = some (some (.ref f42)))
    (l42 : K.lookup f42 = some ⟨oc42, od42, .func (PySem.W.fnOf "names_in" "names_in" (defArgs s_names_in) (defBody s_names_in) (defScope s_names_in) .none kV42 dc42 pm42 an42 cd42 ct42), sl42⟩)
    (c42 : PySem.W.codeIn K cd42 "names_in" = true)
    (k42 : PySem.W.keepIn K (.ref f42) = true)
    (a43 : PySem.W.nsIn K mainGlobals "wrong_part" = some (some (.ref f43)))
    (l43 : K.lookup f43 = some ⟨oc43, od43, .func (PySem.W.fnOf "wrong_part" "wrong_part" (defArgs s_wrong_part) (defBody s_wrong_part) (defScope s_wrong_part) .none kV43 dc43 pm43 an43 cd43 ct43), sl43⟩)
    (c43 : PySem.W.codeIn K cd43 "wrong_part" = true)
    (k43 : PySem.W.keepIn K (.ref f43) = true)
    (a44 : PySem.W.nsIn K mainGlobals "copied_tasks" = some (some (.ref f44)))
    (l44 : K.lookup f44 = some ⟨oc44, od44, .func (PySem.W.fnOf "copied_tasks" "copied_tasks" (defArgs s_copied_tasks) (defBody s_copied_tasks) (defScope s_copied_tasks) .none kV44 dc44 pm44 an44 cd44 ct44), sl44⟩)
    (c44 : PySem.W.codeIn K cd44 "copied_tasks" = true)
    (k44 : PySem.W.keepIn K (.ref f44) = true)
    (z_int : PySem.W.nsIn K mainGlobals "int" = some none)
    (z_len : PySem.W.nsIn K mainGlobals "len" = some none)
    (z_range : PySem.W.nsIn K mainGlobals "range" = some none)
    (z_isinstance : PySem.W.nsIn K mainGlobals "isinstance" = some none)
    (z_bool : PySem.W.nsIn K mainGlobals "bool" = some none)
    (z_str : PySem.W.nsIn K mainGlobals "str" = some none)
    (z_tuple : PySem.W.nsIn K mainGlobals "tuple" = some none)
    (z_list : PySem.W.nsIn K mainGlobals "list" = some none)
    (z_all : PySem.W.nsIn K mainGlobals "all" = some none)
    (z_enumerate : PySem.W.nsIn K mainGlobals "enumerate" = some none)
    (z_zip : PySem.W.nsIn K mainGlobals "zip" = some none)
    (bL : PySem.W.nsIn K mainGlobals "LETTERS" = some (some (.str "abcdefghijklmnopqrstuvwxyz" tl)))
    (bP : PySem.W.nsIn K mainGlobals "PARTS" = some (some (.ref aP)))
    (oP : K.lookup aP = some ⟨.type "tuple", todP, .seq titP tnP, tslP⟩)
    (vP : L2.Vals (pParts.map V.str) titP.toList)
    (bN : PySem.W.nsIn K mainGlobals "NAMED" = some (some (.ref aN)))
    (oN : K.lookup aN = some ⟨.type "tuple", todN, .seq titN tnN, tslN⟩)
    (vN : L2.Vals (pNamed.map V.str) titN.toList)
    (bT : PySem.W.nsIn K mainGlobals "TRAITS" = some (some (.ref aT)))
    (oT : K.lookup aT = some ⟨.type "tuple", todT, .seq titT tnT, tslT⟩)
    (vT : L2.Vals (pTraits.map V.str) titT.toList)
    (bO : PySem.W.nsIn K mainGlobals "OWNERS" = some (some (.ref aO)))
    (oO : K.lookup aO = some ⟨.type "tuple", todO, .seq titO tnO, tslO⟩)
    (vO : L2.Vals (My.owners.map V.str) titO.toList)
    (mL : PySem.W.nsIn K mainGlobals "LENGTHS" = some (some (.ref aL)))
    (dL : K.lookup aL = some ⟨.type "dict", none, .dict desL dnL, #[]⟩)
    (yL : PySem.W.KeysLit w.params desL.toList)
    (mH : PySem.W.nsIn K mainGlobals "HEADS" = some (some (.ref aH)))
    (dH : K.lookup aH = some ⟨.type "dict", none, .dict desH dnH, #[]⟩)
    (yH : PySem.W.KeysLit w.params desH.toList)
    (mI : PySem.W.nsIn K mainGlobals "ITEMS" = some (some (.ref aI)))
    (dI : K.lookup aI = some ⟨.type "dict", none, .dict desI dnI, #[]⟩)
    (yI : PySem.W.KeysLit w.params desI.toList)
    (kL0 : PySem.W.nsIn K aL "states" = some (some (.ref t0)))
    (kLo0 : K.lookup t0 = some ⟨.type "tuple", uod0, .seq uit0 un0, usl0⟩)
    (kLv0 : L2.Vals [V.int 2, V.int 7] uit0.toList)
    (kH0 : PySem.W.nsIn K aH "states" = some (some (.int 1 ht0)))
    (kI0 : PySem.W.nsIn K aI "states" = some (some (.ref f28)))
    (kL1 : PySem.W.nsIn K aL "ups" = some (some (.ref t1)))
    (kLo1 : K.lookup t1 = some ⟨.type "tuple", uod1, .seq uit1 un1, usl1⟩)
    (kLv1 : L2.Vals [V.int 1, V.int 5] uit1.toList)
    (kH1 : PySem.W.nsIn K aH "ups" = some (some (.int 1 ht1)))
    (kI1 : PySem.W.nsIn K aI "ups" = some (some (.ref f29)))
    (kL2 : PySem.W.nsIn K aL "downs" = some (some (.ref t2)))
    (kLo2 : K.lookup t2 = some ⟨.type "tuple", uod2, .seq uit2 un2, usl2⟩)
    (kLv2 : L2.Vals [V.int 1, V.int 5] uit2.toList)
    (kH2 : PySem.W.nsIn K aH "downs" = some (some (.int 1 ht2)))
    (kI2 : PySem.W.nsIn K aI "downs" = some (some (.ref f29)))
    (kL3 : PySem.W.nsIn K aL "marks" = some (some (.ref t3)))
    (kLo3 : K.lookup t3 = some ⟨.type "tuple", uod3, .seq uit3 un3, usl3⟩)
    (kLv3 : L2.Vals [V.int 1, V.int 6] uit3.toList)
    (kI3 : PySem.W.nsIn K aI "marks" = some (some (.ref f30)))
    (kL4 : PySem.W.nsIn K aL "wishes" = some (some (.ref t4)))
    (kLo4 : K.lookup t4 = some ⟨.type "tuple", uod4, .seq uit4 un4, usl4⟩)
    (kLv4 : L2.Vals [V.int 0, V.int 30] uit4.toList)
    (kI4 : PySem.W.nsIn K aI "wishes" = some (some (.ref f31)))
    (kL5 : PySem.W.nsIn K aL "answers" = some (some (.ref t5)))
    (kLo5 : K.lookup t5 = some ⟨.type "tuple", uod5, .seq uit5 un5, usl5⟩)
    (kLv5 : L2.Vals [V.int 0, V.int 30] uit5.toList)
    (kH5 : PySem.W.nsIn K aH "answers" = some (some (.int 2 ht5)))
    (kI5 : PySem.W.nsIn K aI "answers" = some (some (.ref f32)))
    (kL6 : PySem.W.nsIn K aL "tasks" = some (some (.ref t6)))
    (kLo6 : K.lookup t6 = some ⟨.type "tuple", uod6, .seq uit6 un6, usl6⟩)
    (kLv6 : L2.Vals [V.int 1, V.int 3] uit6.toList)
    (kH6 : PySem.W.nsIn K aH "tasks" = some (some (.int 1 ht6)))
    (kI6 : PySem.W.nsIn K aI "tasks" = some (some (.ref f36)))
    (kL7 : PySem.W.nsIn K aL "idles" = some (some (.ref t7)))
    (kLo7 : K.lookup t7 = some ⟨.type "tuple", uod7, .seq uit7 un7, usl7⟩)
    (kLv7 : L2.Vals [V.int 0, V.int 30] uit7.toList)
    (kH7 : PySem.W.nsIn K aH "idles" = some (some (.int 2 ht7)))
    (kI7 : PySem.W.nsIn K aI "idles" = some (some (.ref f38)))
    (kL8 : PySem.W.nsIn K aL "busies" = some (some (.ref t8)))
    (kLo8 : K.lookup t8 = some ⟨.type "tuple", uod8, .seq uit8 un8, usl8⟩)
    (kLv8 : L2.Vals [V.int 0, V.int 30] uit8.toList)
    (kH8 : PySem.W.nsIn K aH "busies" = some (some (.int 3 ht8)))
    (kI8 : PySem.W.nsIn K aI "busies" = some (some (.ref f39)))
    (aC : PySem.W.nsIn K mainGlobals "Book" = some (some (.ref C)))
    (pg : PySem.W.plainGet K C Str.empty = true)
    (hd : PySem.W.hasDictIn K C = true)
    (po : PySem.W.plainOver K C = true)
    (sa : PySem.W.findIn K (.ref C) "__setattr__" = some (some (.builtin "object.__setattr__")))
    (mk : PySem.W.makesIn K C = true)
    (kc : PySem.W.keepIn K (.ref C) = true)
    (no_states : PySem.W.findIn K (.ref C) "_states" = some none)
    (no_ups : PySem.W.findIn K (.ref C) "_ups" = some none)
    (no_downs : PySem.W.findIn K (.ref C) "_downs" = some none)
    (no_marks : PySem.W.findIn K (.ref C) "_marks" = some none)
    (no_wishes : PySem.W.findIn K (.ref C) "_wishes" = some none)
    (no_answers : PySem.W.findIn K (.ref C) "_answers" = some none)
    (no_tasks : PySem.W.findIn K (.ref C) "_tasks" = some none)
    (no_idles : PySem.W.findIn K (.ref C) "_idles" = some none)
    (no_busies : PySem.W.findIn K (.ref C) "_busies" = some none)
    (no_parts : PySem.W.findIn K (.ref C) "_parts" = some none)
    (ja : PySem.W.findIn K (.ref C) "__init__" = some (some (.ref fI)))
    (ji : PySem.W.isFn K (.ref fI) = true)
    (jl : K.lookup fI = some ⟨joc, jod, .func (PySem.W.fnOf "__init__" "Book.__init__" (defArgs s_Book__init_) (defBody s_Book__init_) (defScope s_Book__init_) .none jkV jdc jpm jan jcd jct), jsl⟩)
    (jc : PySem.W.codeIn K jcd "Book.__init__" = true)
    (jk : PySem.W.keepIn K (.ref fI) = true)
    (n0a : PySem.W.findIn K (.ref C) "states" = some (some (.ref g0)))
    (n0i : PySem.W.isFn K (.ref g0) = true)
    (n0l : K.lookup g0 = some ⟨n0oc, n0od, .func (PySem.W.fnOf "states" "Book.states" (defArgs s_Book_states) (defBody s_Book_states) (defScope s_Book_states) .none n0kV n0dc n0pm n0an n0cd n0ct), n0sl⟩)
    (n0c : PySem.W.codeIn K n0cd "Book.states" = true)
    (n0k : PySem.W.keepIn K (.ref g0) = true)
    (n1a : PySem.W.findIn K (.ref C) "ups" = some (some (.ref g1)))
    (n1i : PySem.W.isFn K (.ref g1) = true)
    (n1l : K.lookup g1 = some ⟨n1oc, n1od, .func (PySem.W.fnOf "ups" "Book.ups" (defArgs s_Book_ups) (defBody s_Book_ups) (defScope s_Book_ups) .none n1kV n1dc n1pm n1an n1cd n1ct), n1sl⟩)
    (n1c : PySem.W.codeIn K n1cd "Book.ups" = true)
    (n1k : PySem.W.keepIn K (.ref g1) = true)
    (n2a : PySem.W.findIn K (.ref C) "downs" = some (some (.ref g2)))
    (n2i : PySem.W.isFn K (.ref g2) = true)
    (n2l : K.lookup g2 = some ⟨n2oc, n2od, .func (PySem.W.fnOf "downs" "Book.downs" (defArgs s_Book_downs) (defBody s_Book_downs) (defScope s_Book_downs) .none n2kV n2dc n2pm n2an n2cd n2ct), n2sl⟩)
    (n2c : PySem.W.codeIn K n2cd "Book.downs" = true)
    (n2k : PySem.W.keepIn K (.ref g2) = true)
    (n3a : PySem.W.findIn K (.ref C) "marks" = some (some (.ref g3)))
    (n3i : PySem.W.isFn K (.ref g3) = true)
    (n3l : K.lookup g3 = some ⟨n3oc, n3od, .func (PySem.W.fnOf "marks" "Book.marks" (defArgs s_Book_marks) (defBody s_Book_marks) (defScope s_Book_marks) .none n3kV n3dc n3pm n3an n3cd n3ct), n3sl⟩)
    (n3c : PySem.W.codeIn K n3cd "Book.marks" = true)
    (n3k : PySem.W.keepIn K (.ref g3) = true)
    (n4a : PySem.W.findIn K (.ref C) "wishes" = some (some (.ref g4)))
    (n4i : PySem.W.isFn K (.ref g4) = true)
    (n4l : K.lookup g4 = some ⟨n4oc, n4od, .func (PySem.W.fnOf "wishes" "Book.wishes" (defArgs s_Book_wishes) (defBody s_Book_wishes) (defScope s_Book_wishes) .none n4kV n4dc n4pm n4an n4cd n4ct), n4sl⟩)
    (n4c : PySem.W.codeIn K n4cd "Book.wishes" = true)
    (n4k : PySem.W.keepIn K (.ref g4) = true)
    (n5a : PySem.W.findIn K (.ref C) "answers" = some (some (.ref g5)))
    (n5i : PySem.W.isFn K (.ref g5) = true)
    (n5l : K.lookup g5 = some ⟨n5oc, n5od, .func (PySem.W.fnOf "answers" "Book.answers" (defArgs s_Book_answers) (defBody s_Book_answers) (defScope s_Book_answers) .none n5kV n5dc n5pm n5an n5cd n5ct), n5sl⟩)
    (n5c : PySem.W.codeIn K n5cd "Book.answers" = true)
    (n5k : PySem.W.keepIn K (.ref g5) = true)
    (n6a : PySem.W.findIn K (.ref C) "tasks" = some (some (.ref g6)))
    (n6i : PySem.W.isFn K (.ref g6) = true)
    (n6l : K.lookup g6 = some ⟨n6oc, n6od, .func (PySem.W.fnOf "tasks" "Book.tasks" (defArgs s_Book_tasks) (defBody s_Book_tasks) (defScope s_Book_tasks) .none n6kV n6dc n6pm n6an n6cd n6ct), n6sl⟩)
    (n6c : PySem.W.codeIn K n6cd "Book.tasks" = true)
    (n6k : PySem.W.keepIn K (.ref g6) = true)
    (n7a : PySem.W.findIn K (.ref C) "idles" = some (some (.ref g7)))
    (n7i : PySem.W.isFn K (.ref g7) = true)
    (n7l : K.lookup g7 = some ⟨n7oc, n7od, .func (PySem.W.fnOf "idles" "Book.idles" (defArgs s_Book_idles) (defBody s_Book_idles) (defScope s_Book_idles) .none n7kV n7dc n7pm n7an n7cd n7ct), n7sl⟩)
    (n7c : PySem.W.codeIn K n7cd "Book.idles" = true)
    (n7k : PySem.W.keepIn K (.ref g7) = true)
    (n8a : PySem.W.findIn K (.ref C) "busies" = some (some (.ref g8)))
    (n8i : PySem.W.isFn K (.ref g8) = true)
    (n8l : K.lookup g8 = some ⟨n8oc, n8od, .func (PySem.W.fnOf "busies" "Book.busies" (defArgs s_Book_busies) (defBody s_Book_busies) (defScope s_Book_busies) .none n8kV n8dc n8pm n8an n8cd n8ct), n8sl⟩)
    (n8c : PySem.W.codeIn K n8cd "Book.busies" = true)
    (n8k : PySem.W.keepIn K (.ref g8) = true)
    (eqa : PySem.W.findIn K (.ref C) "__eq__" = some (some (.ref fE)))
    (eqi : PySem.W.isFn K (.ref fE) = true)
    (eql : K.lookup fE = some ⟨eqoc, eqod, .func (PySem.W.fnOf "__eq__" "Book.__eq__" (defArgs s_Book__eq_) (defBody s_Book__eq_) (defScope s_Book__eq_) .none eqkV eqdc eqpm eqan eqcd eqct), eqsl⟩)
    (eqc : PySem.W.codeIn K eqcd "Book.__eq__" = true)
    (eqk : PySem.W.keepIn K (.ref fE) = true)
    (ib1 : PySem.W.findIn K (.ref C) "__class__" = some (some (.builtin "object.__class__")))
    (ib2 : PySem.W.specialIn K (.builtin "object.__class__") "__get__" = some (some (.builtin "getset_descriptor.__get__")))
    (ib3 : PySem.W.takesIn K (.builtin "object.__class__") = some true)
    (ib4 : PySem.W.mroIn K C (.type "object") = some true)
    (ib5 : PySem.W.kitOne K (.ref C) (.ref C) = some true)
    (nk0 : PySem.W.kitOne K (.type "NoneType") (.ref C) = some false)
    (nt0 : PySem.W.mroIn K C (.type "NoneType") = some false)
    (nk1 : PySem.W.kitOne K (.type "bool") (.ref C) = some false)
    (nt1 : PySem.W.mroIn K C (.type "bool") = some false)
    (nk2 : PySem.W.kitOne K (.type "int") (.ref C) = some false)
    (nt2 : PySem.W.mroIn K C (.type "int") = some false)
    (nk3 : PySem.W.kitOne K (.type "str") (.ref C) = some false)
    (nt3 : PySem.W.mroIn K C (.type "str") = some false)
    (nk4 : PySem.W.kitOne K (.type "list") (.ref C) = some false)
    (nt4 : PySem.W.mroIn K C (.type "list") = some false)
    (nk5 : PySem.W.kitOne K (.type "tuple") (.ref C) = some false)
    (nt5 : PySem.W.mroIn K C (.type "tuple") = some false)
    : ∃ fd : FuncData, (∀ (s : Shared) (v : Value), BindsTo s fd ⟨[v], []⟩ [("_law_script", v)]) ∧ ∀ base : Heap, K.In base → base.Ns mainGlobals mg → FnOk l.prog w K mg base CX0 10 fa fd ["_law_script"] (spLaw K) := by
  have e := hfa.symm.trans (PySem.W.mg_of X G a24)
  cases e
  have D0 : DefT K mg "_law_pool" "_law_pool" s_l_pool [] f0 (PySem.W.fnOf "_law_pool" "_law_pool" (defArgs s_l_pool) (defBody s_l_pool) (defScope s_l_pool) .none kV0 dc0 pm0 an0 cd0 ct0) := by
    have F := fun_mk (x := "_law_pool") (st := s_l_pool) l0 c0 k0
    exact ⟨PySem.W.mg_of X G a0, F, F.binds (ps := []) fun _ _ _ _ _ _ us hl => match us, hl with | [], _ => rfl⟩
  have D1 : DefT K mg "_law_draw" "_law_draw" s_l_draw ["_law_script", "_law_pool_here", "_law_limit"] f1 (PySem.W.fnOf "_law_draw" "_law_draw" (defArgs s_l_draw) (defBody s_l_draw) (defScope s_l_draw) .none kV1 dc1 pm1 an1 cd1 ct1) := by
    have F := fun_mk (x := "_law_draw") (st := s_l_draw) l1 c1 k1
    exact ⟨PySem.W.mg_of X G a1, F, F.binds (ps := ["_law_script", "_law_pool_here", "_law_limit"]) fun _ _ _ _ _ _ us hl => match us, hl with | [_, _, _], _ => rfl⟩
  have D2 : DefT K mg "_law_one" "_law_one" s_l_one ["_law_script", "_law_pool_here", "_law_row"] f2 (PySem.W.fnOf "_law_one" "_law_one" (defArgs s_l_one) (defBody s_l_one) (defScope s_l_one) .none kV2 dc2 pm2 an2 cd2 ct2) := by
    have F := fun_mk (x := "_law_one") (st := s_l_one) l2 c2 k2
    exact ⟨PySem.W.mg_of X G a2, F, F.binds (ps := ["_law_script", "_law_pool_here", "_law_row"]) fun _ _ _ _ _ _ us hl => match us, hl with | [_, _, _], _ => rfl⟩
  have D3 : DefT K mg "_law_maybe" "_law_maybe" s_l_maybe ["_law_script", "_law_pool_here", "_law_row"] f3 (PySem.W.fnOf "_law_maybe" "_law_maybe" (defArgs s_l_maybe) (defBody s_l_maybe) (defScope s_l_maybe) .none kV3 dc3 pm3 an3 cd3 ct3) := by
    have F := fun_mk (x := "_law_maybe") (st := s_l_maybe) l3 c3 k3
    exact ⟨PySem.W.mg_of X G a3, F, F.binds (ps := ["_law_script", "_law_pool_here", "_law_row"]) fun _ _ _ _ _ _ us hl => match us, hl with | [_, _, _], _ => rfl⟩
  have D4 : DefT K mg "_law_word" "_law_word" s_l_word ["_law_script", "_law_pool_here"] f4 (PySem.W.fnOf "_law_word" "_law_word" (defArgs s_l_word) (defBody s_l_word) (defScope s_l_word) .none kV4 dc4 pm4 an4 cd4 ct4) := by
    have F := fun_mk (x := "_law_word") (st := s_l_word) l4 c4 k4
    exact ⟨PySem.W.mg_of X G a4, F, F.binds (ps := ["_law_script", "_law_pool_here"]) fun _ _ _ _ _ _ us hl => match us, hl with | [_, _], _ => rfl⟩
  have D5 : DefT K mg "_law_name" "_law_name" s_l_name ["_law_script", "_law_pool_here", "_law_taken", "_law_others"] f5 (PySem.W.fnOf "_law_name" "_law_name" (defArgs s_l_name) (defBody s_l_name) (defScope s_l_name) .none kV5 dc5 pm5 an5 cd5 ct5) := by
    have F := fun_mk (x := "_law_name") (st := s_l_name) l5 c5 k5
    exact ⟨PySem.W.mg_of X G a5, F, F.binds (ps := ["_law_script", "_law_pool_here", "_law_taken", "_law_others"]) fun _ _ _ _ _ _ us hl => match us, hl with | [_, _, _, _], _ => rfl⟩
  have D6 : DefT K mg "_law_names" "_law_names" s_l_names ["_law_script", "_law_pool_here", "_law_size", "_law_others"] f6 (PySem.W.fnOf "_law_names" "_law_names" (defArgs s_l_names) (defBody s_l_names) (defScope s_l_names) .none kV6 dc6 pm6 an6 cd6 ct6) := by
    have F := fun_mk (x := "_law_names") (st := s_l_names) l6 c6 k6
    exact ⟨PySem.W.mg_of X G a6, F, F.binds (ps := ["_law_script", "_law_pool_here", "_law_size", "_law_others"]) fun _ _ _ _ _ _ us hl => match us, hl with | [_, _, _, _], _ => rfl⟩
  have D7 : DefT K mg "_law_all_names" "_law_all_names" s_l_all_names ["_law_script", "_law_pool_here"] f7 (PySem.W.fnOf "_law_all_names" "_law_all_names" (defArgs s_l_all_names) (defBody s_l_all_names) (defScope s_l_all_names) .none kV7 dc7 pm7 an7 cd7 ct7) := by
    have F := fun_mk (x := "_law_all_names") (st := s_l_all_names) l7 c7 k7
    exact ⟨PySem.W.mg_of X G a7, F, F.binds (ps := ["_law_script", "_law_pool_here"]) fun _ _ _ _ _ _ us hl => match us, hl with | [_, _], _ => rfl⟩
  have D8 : DefT K mg "_law_many" "_law_many" s_l_many ["_law_script", "_law_pool_here"] f8 (PySem.W.fnOf "_law_many" "_law_many" (defArgs s_l_many) (defBody s_l_many) (defScope s_l_many) .none kV8 dc8 pm8 an8 cd8 ct8) := by
    have F := fun_mk (x := "_law_many") (st := s_l_many) l8 c8 k8
    exact ⟨PySem.W.mg_of X G a8, F, F.binds (ps := ["_law_script", "_law_pool_here"]) fun _ _ _ _ _ _ us hl => match us, hl with | [_, _], _ => rfl⟩
  have D9 : DefT K mg "_law_task" "_law_task" s_l_task ["_law_script", "_law_pool_here", "_law_names_here", "_law_name_here"] f9 (PySem.W.fnOf "_law_task" "_law_task" (defArgs s_l_task) (defBody s_l_task) (defScope s_l_task) .none kV9 dc9 pm9 an9 cd9 ct9) := by
    have F := fun_mk (x := "_law_task") (st := s_l_task) l9 c9 k9
    exact ⟨PySem.W.mg_of X G a9, F, F.binds (ps := ["_law_script", "_law_pool_here", "_law_names_here", "_law_name_here"]) fun _ _ _ _ _ _ us hl => match us, hl with | [_, _, _, _], _ => rfl⟩
  have D10 : DefT K mg "_law_answer" "_law_answer" s_l_answer ["_law_script", "_law_pool_here", "_law_names_here"] f10 (PySem.W.fnOf "_law_answer" "_law_answer" (defArgs s_l_answer) (defBody s_l_answer) (defScope s_l_answer) .none kV10 dc10 pm10 an10 cd10 ct10) := by
    have F := fun_mk (x := "_law_answer") (st := s_l_answer) l10 c10 k10
    exact ⟨PySem.W.mg_of X G a10, F, F.binds (ps := ["_law_script", "_law_pool_here", "_law_names_here"]) fun _ _ _ _ _ _ us hl => match us, hl with | [_, _, _], _ => rfl⟩
  have D11 : DefT K mg "_law_note" "_law_note" s_l_note ["_law_script", "_law_pool_here", "_law_names_here"] f11 (PySem.W.fnOf "_law_note" "_law_note" (defArgs s_l_note) (defBody s_l_note) (defScope s_l_note) .none kV11 dc11 pm11 an11 cd11 ct11) := by
    have F := fun_mk (x := "_law_note") (st := s_l_note) l11 c11 k11
    exact ⟨PySem.W.mg_of X G a11, F, F.binds (ps := ["_law_script", "_law_pool_here", "_law_names_here"]) fun _ _ _ _ _ _ us hl => match us, hl with | [_, _, _], _ => rfl⟩
  have D12 : DefT K mg "_law_idle" "_law_idle" s_l_idle ["_law_script", "_law_pool_here", "_law_names_here"] f12 (PySem.W.fnOf "_law_idle" "_law_idle" (defArgs s_l_idle) (defBody s_l_idle) (defScope s_l_idle) .none kV12 dc12 pm12 an12 cd12 ct12) := by
    have F := fun_mk (x := "_law_idle") (st := s_l_idle) l12 c12 k12
    exact ⟨PySem.W.mg_of X G a12, F, F.binds (ps := ["_law_script", "_law_pool_here", "_law_names_here"]) fun _ _ _ _ _ _ us hl => match us, hl with | [_, _, _], _ => rfl⟩
  have D13 : DefT K mg "_law_rules" "_law_rules" s_l_rules ["_law_script", "_law_pool_here", "_law_names_here", "_law_part"] f13 (PySem.W.fnOf "_law_rules" "_law_rules" (defArgs s_l_rules) (defBody s_l_rules) (defScope s_l_rules) .none kV13 dc13 pm13 an13 cd13 ct13) := by
    have F := fun_mk (x := "_law_rules") (st := s_l_rules) l13 c13 k13
    exact ⟨PySem.W.mg_of X G a13, F, F.binds (ps := ["_law_script", "_law_pool_here", "_law_names_here", "_law_part"]) fun _ _ _ _ _ _ us hl => match us, hl with | [_, _, _, _], _ => rfl⟩
  have D14 : DefT K mg "_law_parts" "_law_parts" s_l_parts ["_law_script", "_law_pool_here"] f14 (PySem.W.fnOf "_law_parts" "_law_parts" (defArgs s_l_parts) (defBody s_l_parts) (defScope s_l_parts) .none kV14 dc14 pm14 an14 cd14 ct14) := by
    have F := fun_mk (x := "_law_parts") (st := s_l_parts) l14 c14 k14
    exact ⟨PySem.W.mg_of X G a14, F, F.binds (ps := ["_law_script", "_law_pool_here"]) fun _ _ _ _ _ _ us hl => match us, hl with | [_, _], _ => rfl⟩
  have D15 : DefT K mg "_law_copy" "_law_copy" s_l_copy ["_law_parts_here"] f15 (PySem.W.fnOf "_law_copy" "_law_copy" (defArgs s_l_copy) (defBody s_l_copy) (defScope s_l_copy) .none kV15 dc15 pm15 an15 cd15 ct15) := by
    have F := fun_mk (x := "_law_copy") (st := s_l_copy) l15 c15 k15
    exact ⟨PySem.W.mg_of X G a15, F, F.binds (ps := ["_law_parts_here"]) fun _ _ _ _ _ _ us hl => match us, hl with | [_], _ => rfl⟩
  have D16 : DefT K mg "_law_book" "_law_book" s_l_book ["_law_parts_here"] f16 (PySem.W.fnOf "_law_book" "_law_book" (defArgs s_l_book) (defBody s_l_book) (defScope s_l_book) .none kV16 dc16 pm16 an16 cd16 ct16) := by
    have F := fun_mk (x := "_law_book") (st := s_l_book) l16 c16 k16
    exact ⟨PySem.W.mg_of X G a16, F, F.binds (ps := ["_law_parts_here"]) fun _ _ _ _ _ _ us hl => match us, hl with | [_], _ => rfl⟩
  have D17 : DefT K mg "_law_told" "_law_told" s_l_told ["_law_book_here"] f17 (PySem.W.fnOf "_law_told" "_law_told" (defArgs s_l_told) (defBody s_l_told) (defScope s_l_told) .none kV17 dc17 pm17 an17 cd17 ct17) := by
    have F := fun_mk (x := "_law_told") (st := s_l_told) l17 c17 k17
    exact ⟨PySem.W.mg_of X G a17, F, F.binds (ps := ["_law_book_here"]) fun _ _ _ _ _ _ us hl => match us, hl with | [_], _ => rfl⟩
  have D18 : DefT K mg "_law_same" "_law_same" s_l_same ["_law_told_here", "_law_due"] f18 (PySem.W.fnOf "_law_same" "_law_same" (defArgs s_l_same) (defBody s_l_same) (defScope s_l_same) .none kV18 dc18 pm18 an18 cd18 ct18) := by
    have F := fun_mk (x := "_law_same") (st := s_l_same) l18 c18 k18
    exact ⟨PySem.W.mg_of X G a18, F, F.binds (ps := ["_law_told_here", "_law_due"]) fun _ _ _ _ _ _ us hl => match us, hl with | [_, _], _ => rfl⟩
  have D19 : DefT K mg "_law_exchange" "_law_exchange" s_l_exchange ["_law_script", "_law_pool_here", "_law_row", "_law_least"] f19 (PySem.W.fnOf "_law_exchange" "_law_exchange" (defArgs s_l_exchange) (defBody s_l_exchange) (defScope s_l_exchange) .none kV19 dc19 pm19 an19 cd19 ct19) := by
    have F := fun_mk (x := "_law_exchange") (st := s_l_exchange) l19 c19 k19
    exact ⟨PySem.W.mg_of X G a19, F, F.binds (ps := ["_law_script", "_law_pool_here", "_law_row", "_law_least"]) fun _ _ _ _ _ _ us hl => match us, hl with | [_, _, _, _], _ => rfl⟩
  have D20 : DefT K mg "_law_leave_out" "_law_leave_out" s_l_leave_out ["_law_script", "_law_pool_here", "_law_row"] f20 (PySem.W.fnOf "_law_leave_out" "_law_leave_out" (defArgs s_l_leave_out) (defBody s_l_leave_out) (defScope s_l_leave_out) .none kV20 dc20 pm20 an20 cd20 ct20) := by
    have F := fun_mk (x := "_law_leave_out") (st := s_l_leave_out) l20 c20 k20
    exact ⟨PySem.W.mg_of X G a20, F, F.binds (ps := ["_law_script", "_law_pool_here", "_law_row"]) fun _ _ _ _ _ _ us hl => match us, hl with | [_, _, _], _ => rfl⟩
  have D21 : DefT K mg "_law_change_task" "_law_change_task" s_l_change_task ["_law_script", "_law_pool_here", "_law_parts_here"] f21 (PySem.W.fnOf "_law_change_task" "_law_change_task" (defArgs s_l_change_task) (defBody s_l_change_task) (defScope s_l_change_task) .none kV21 dc21 pm21 an21 cd21 ct21) := by
    have F := fun_mk (x := "_law_change_task") (st := s_l_change_task) l21 c21 k21
    exact ⟨PySem.W.mg_of X G a21, F, F.binds (ps := ["_law_script", "_law_pool_here", "_law_parts_here"]) fun _ _ _ _ _ _ us hl => match us, hl with | [_, _, _], _ => rfl⟩
  have D22 : DefT K mg "_law_changed" "_law_changed" s_l_changed ["_law_script", "_law_pool_here", "_law_parts_here", "_law_kind"] f22 (PySem.W.fnOf "_law_changed" "_law_changed" (defArgs s_l_changed) (defBody s_l_changed) (defScope s_l_changed) .none kV22 dc22 pm22 an22 cd22 ct22) := by
    have F := fun_mk (x := "_law_changed") (st := s_l_changed) l22 c22 k22
    exact ⟨PySem.W.mg_of X G a22, F, F.binds (ps := ["_law_script", "_law_pool_here", "_law_parts_here", "_law_kind"]) fun _ _ _ _ _ _ us hl => match us, hl with | [_, _, _, _], _ => rfl⟩
  have D23 : DefT K mg "_law_unequal" "_law_unequal" s_l_unequal ["_law_book_here", "_law_thing"] f23 (PySem.W.fnOf "_law_unequal" "_law_unequal" (defArgs s_l_unequal) (defBody s_l_unequal) (defScope s_l_unequal) .none kV23 dc23 pm23 an23 cd23 ct23) := by
    have F := fun_mk (x := "_law_unequal") (st := s_l_unequal) l23 c23 k23
    exact ⟨PySem.W.mg_of X G a23, F, F.binds (ps := ["_law_book_here", "_law_thing"]) fun _ _ _ _ _ _ us hl => match us, hl with | [_, _], _ => rfl⟩
  have D24 : DefT K mg "law" "law" s_law ["_law_script"] fa (PySem.W.fnOf "law" "law" (defArgs s_law) (defBody s_law) (defScope s_law) .none kV24 dc24 pm24 an24 cd24 ct24) := by
    have F := fun_mk (x := "law") (st := s_law) l24 c24 k24
    exact ⟨PySem.W.mg_of X G a24, F, F.binds (ps := ["_law_script"]) fun _ _ _ _ _ _ us hl => match us, hl with | [_], _ => rfl⟩
  have D25 : DefT K mg "is_name" "is_name" s_is_name ["value"] f25 (PySem.W.fnOf "is_name" "is_name" (defArgs s_is_name) (defBody s_is_name) (defScope s_is_name) .none kV25 dc25 pm25 an25 cd25 ct25) := by
    have F := fun_mk (x := "is_name") (st := s_is_name) l25 c25 k25
    exact ⟨PySem.W.mg_of X G a25, F, F.binds (ps := ["value"]) fun _ _ _ _ _ _ us hl => match us, hl with | [_], _ => rfl⟩
  have D26 : DefT K mg "has_length" "has_length" s_has_length ["row", "many"] f26 (PySem.W.fnOf "has_length" "has_length" (defArgs s_has_length) (defBody s_has_length) (defScope s_has_length) .none kV26 dc26 pm26 an26 cd26 ct26) := by
    have F := fun_mk (x := "has_length") (st := s_has_length) l26 c26 k26
    exact ⟨PySem.W.mg_of X G a26, F, F.binds (ps := ["row", "many"]) fun _ _ _ _ _ _ us hl => match us, hl with | [_, _], _ => rfl⟩
  have D27 : DefT K mg "is_one_or_none" "is_one_or_none" s_is_one_or_none ["value", "names"] f27 (PySem.W.fnOf "is_one_or_none" "is_one_or_none" (defArgs s_is_one_or_none) (defBody s_is_one_or_none) (defScope s_is_one_or_none) .none kV27 dc27 pm27 an27 cd27 ct27) := by
    have F := fun_mk (x := "is_one_or_none") (st := s_is_one_or_none) l27 c27 k27
    exact ⟨PySem.W.mg_of X G a27, F, F.binds (ps := ["value", "names"]) fun _ _ _ _ _ _ us hl => match us, hl with | [_, _], _ => rfl⟩
  have D28 : DefT K mg "is_state" "is_state" s_is_state ["row", "_"] f28 (PySem.W.fnOf "is_state" "is_state" (defArgs s_is_state) (defBody s_is_state) (defScope s_is_state) .none kV28 dc28 pm28 an28 cd28 ct28) := by
    have F := fun_mk (x := "is_state") (st := s_is_state) l28 c28 k28
    exact ⟨PySem.W.mg_of X G a28, F, F.binds (ps := ["row", "_"]) fun _ _ _ _ _ _ us hl => match us, hl with | [_, _], _ => rfl⟩
  have D29 : DefT K mg "is_letter" "is_letter" s_is_letter ["row", "_"] f29 (PySem.W.fnOf "is_letter" "is_letter" (defArgs s_is_letter) (defBody s_is_letter) (defScope s_is_letter) .none kV29 dc29 pm29 an29 cd29 ct29) := by
    have F := fun_mk (x := "is_letter") (st := s_is_letter) l29 c29 k29
    exact ⟨PySem.W.mg_of X G a29, F, F.binds (ps := ["row", "_"]) fun _ _ _ _ _ _ us hl => match us, hl with | [_, _], _ => rfl⟩
  have D30 : DefT K mg "is_mark" "is_mark" s_is_mark ["row", "_"] f30 (PySem.W.fnOf "is_mark" "is_mark" (defArgs s_is_mark) (defBody s_is_mark) (defScope s_is_mark) .none kV30 dc30 pm30 an30 cd30 ct30) := by
    have F := fun_mk (x := "is_mark") (st := s_is_mark) l30 c30 k30
    exact ⟨PySem.W.mg_of X G a30, F, F.binds (ps := ["row", "_"]) fun _ _ _ _ _ _ us hl => match us, hl with | [_, _], _ => rfl⟩
  have D31 : DefT K mg "is_wish" "is_wish" s_is_wish ["row", "names"] f31 (PySem.W.fnOf "is_wish" "is_wish" (defArgs s_is_wish) (defBody s_is_wish) (defScope s_is_wish) .none kV31 dc31 pm31 an31 cd31 ct31) := by
    have F := fun_mk (x := "is_wish") (st := s_is_wish) l31 c31 k31
    exact ⟨PySem.W.mg_of X G a31, F, F.binds (ps := ["row", "names"]) fun _ _ _ _ _ _ us hl => match us, hl with | [_, _], _ => rfl⟩
  have D32 : DefT K mg "is_answer" "is_answer" s_is_answer ["row", "names"] f32 (PySem.W.fnOf "is_answer" "is_answer" (defArgs s_is_answer) (defBody s_is_answer) (defScope s_is_answer) .none kV32 dc32 pm32 an32 cd32 ct32) := by
    have F := fun_mk (x := "is_answer") (st := s_is_answer) l32 c32 k32
    exact ⟨PySem.W.mg_of X G a32, F, F.binds (ps := ["row", "names"]) fun _ _ _ _ _ _ us hl => match us, hl with | [_, _], _ => rfl⟩
  have D33 : DefT K mg "are_calls" "are_calls" s_are_calls ["rows", "names"] f33 (PySem.W.fnOf "are_calls" "are_calls" (defArgs s_are_calls) (defBody s_are_calls) (defScope s_are_calls) .none kV33 dc33 pm33 an33 cd33 ct33) := by
    have F := fun_mk (x := "are_calls") (st := s_are_calls) l33 c33 k33
    exact ⟨PySem.W.mg_of X G a33, F, F.binds (ps := ["rows", "names"]) fun _ _ _ _ _ _ us hl => match us, hl with | [_, _], _ => rfl⟩
  have D34 : DefT K mg "are_quiet" "are_quiet" s_are_quiet ["rows", "marks"] f34 (PySem.W.fnOf "are_quiet" "are_quiet" (defArgs s_are_quiet) (defBody s_are_quiet) (defScope s_are_quiet) .none kV34 dc34 pm34 an34 cd34 ct34) := by
    have F := fun_mk (x := "are_quiet") (st := s_are_quiet) l34 c34 k34
    exact ⟨PySem.W.mg_of X G a34, F, F.binds (ps := ["rows", "marks"]) fun _ _ _ _ _ _ us hl => match us, hl with | [_, _], _ => rfl⟩
  have D35 : DefT K mg "are_ends" "are_ends" s_are_ends ["rows", "marks"] f35 (PySem.W.fnOf "are_ends" "are_ends" (defArgs s_are_ends) (defBody s_are_ends) (defScope s_are_ends) .none kV35 dc35 pm35 an35 cd35 ct35) := by
    have F := fun_mk (x := "are_ends") (st := s_are_ends) l35 c35 k35
    exact ⟨PySem.W.mg_of X G a35, F, F.binds (ps := ["rows", "marks"]) fun _ _ _ _ _ _ us hl => match us, hl with | [_, _], _ => rfl⟩
  have D36 : DefT K mg "is_task" "is_task" s_is_task ["row", "names"] f36 (PySem.W.fnOf "is_task" "is_task" (defArgs s_is_task) (defBody s_is_task) (defScope s_is_task) .none kV36 dc36 pm36 an36 cd36 ct36) := by
    have F := fun_mk (x := "is_task") (st := s_is_task) l36 c36 k36
    exact ⟨PySem.W.mg_of X G a36, F, F.binds (ps := ["row", "names"]) fun _ _ _ _ _ _ us hl => match us, hl with | [_, _], _ => rfl⟩
  have D37 : DefT K mg "is_reply" "is_reply" s_is_reply ["mark", "down", "frees", "names"] f37 (PySem.W.fnOf "is_reply" "is_reply" (defArgs s_is_reply) (defBody s_is_reply) (defScope s_is_reply) .none kV37 dc37 pm37 an37 cd37 ct37) := by
    have F := fun_mk (x := "is_reply") (st := s_is_reply) l37 c37 k37
    exact ⟨PySem.W.mg_of X G a37, F, F.binds (ps := ["mark", "down", "frees", "names"]) fun _ _ _ _ _ _ us hl => match us, hl with | [_, _, _, _], _ => rfl⟩
  have D38 : DefT K mg "is_idle" "is_idle" s_is_idle ["row", "names"] f38 (PySem.W.fnOf "is_idle" "is_idle" (defArgs s_is_idle) (defBody s_is_idle) (defScope s_is_idle) .none kV38 dc38 pm38 an38 cd38 ct38) := by
    have F := fun_mk (x := "is_idle") (st := s_is_idle) l38 c38 k38
    exact ⟨PySem.W.mg_of X G a38, F, F.binds (ps := ["row", "names"]) fun _ _ _ _ _ _ us hl => match us, hl with | [_, _], _ => rfl⟩
  have D39 : DefT K mg "is_busy" "is_busy" s_is_busy ["row", "names"] f39 (PySem.W.fnOf "is_busy" "is_busy" (defArgs s_is_busy) (defBody s_is_busy) (defScope s_is_busy) .none kV39 dc39 pm39 an39 cd39 ct39) := by
    have F := fun_mk (x := "is_busy") (st := s_is_busy) l39 c39 k39
    exact ⟨PySem.W.mg_of X G a39, F, F.binds (ps := ["row", "names"]) fun _ _ _ _ _ _ us hl => match us, hl with | [_, _], _ => rfl⟩
  have D40 : DefT K mg "may_stand" "may_stand" s_may_stand ["part", "row", "before"] f40 (PySem.W.fnOf "may_stand" "may_stand" (defArgs s_may_stand) (defBody s_may_stand) (defScope s_may_stand) .none kV40 dc40 pm40 an40 cd40 ct40) := by
    have F := fun_mk (x := "may_stand") (st := s_may_stand) l40 c40 k40
    exact ⟨PySem.W.mg_of X G a40, F, F.binds (ps := ["part", "row", "before"]) fun _ _ _ _ _ _ us hl => match us, hl with | [_, _, _], _ => rfl⟩
  have D41 : DefT K mg "wrong_index" "wrong_index" s_wrong_index ["part", "rows", "names"] f41 (PySem.W.fnOf "wrong_index" "wrong_index" (defArgs s_wrong_index) (defBody s_wrong_index) (defScope s_wrong_index) .none kV41 dc41 pm41 an41 cd41 ct41) := by
    have F := fun_mk (x := "wrong_index") (st := s_wrong_index) l41 c41 k41
    exact ⟨PySem.W.mg_of X G a41, F, F.binds (ps := ["part", "rows", "names"]) fun _ _ _ _ _ _ us hl => match us, hl with | [_, _, _], _ => rfl⟩
  have D42 : DefT K mg "names_in" "names_in" s_names_in ["part", "rows"] f42 (PySem.W.fnOf "names_in" "names_in" (defArgs s_names_in) (defBody s_names_in) (defScope s_names_in) .none kV42 dc42 pm42 an42 cd42 ct42) := by
    have F := fun_mk (x := "names_in") (st := s_names_in) l42 c42 k42
    exact ⟨PySem.W.mg_of X G a42, F, F.binds (ps := ["part", "rows"]) fun _ _ _ _ _ _ us hl => match us, hl with | [_, _], _ => rfl⟩
  have D43 : DefT K mg "wrong_part" "wrong_part" s_wrong_part ["parts"] f43 (PySem.W.fnOf "wrong_part" "wrong_part" (defArgs s_wrong_part) (defBody s_wrong_part) (defScope s_wrong_part) .none kV43 dc43 pm43 an43 cd43 ct43) := by
    have F := fun_mk (x := "wrong_part") (st := s_wrong_part) l43 c43 k43
    exact ⟨PySem.W.mg_of X G a43, F, F.binds (ps := ["parts"]) fun _ _ _ _ _ _ us hl => match us, hl with | [_], _ => rfl⟩
  have D44 : DefT K mg "copied_tasks" "copied_tasks" s_copied_tasks ["tasks"] f44 (PySem.W.fnOf "copied_tasks" "copied_tasks" (defArgs s_copied_tasks) (defBody s_copied_tasks) (defScope s_copied_tasks) .none kV44 dc44 pm44 an44 cd44 ct44) := by
    have F := fun_mk (x := "copied_tasks") (st := s_copied_tasks) l44 c44 k44
    exact ⟨PySem.W.mg_of X G a44, F, F.binds (ps := ["tasks"]) fun _ _ _ _ _ _ us hl => match us, hl with | [_], _ => rfl⟩
  have Z : Zs mg := ⟨PySem.W.mg_none_of X G z_int, PySem.W.mg_none_of X G z_len, PySem.W.mg_none_of X G z_range, PySem.W.mg_none_of X G z_isinstance, PySem.W.mg_none_of X G z_bool, PySem.W.mg_none_of X G z_str, PySem.W.mg_none_of X G z_tuple, PySem.W.mg_none_of X G z_list, PySem.W.mg_none_of X G z_all, PySem.W.mg_none_of X G z_enumerate, PySem.W.mg_none_of X G z_zip⟩
  have sq : ∀ {a : Addr} {xs : List V} {od : Option Addr} {its : Array Value} {n : Nat} {sl : Array (Option Value)}, xs.length ≤ 1000 → K.lookup a = some ⟨.type "tuple", od, .seq its n, sl⟩ → L2.Vals xs its.toList → SqK K a xs := fun {a xs od its n sl} hz h v => ⟨⟨_, its, n, h, rfl, rfl, by
    have := v.length
    have e : its.toList.length = its.size := Array.length_toList
    exact sz _ (by omega), v⟩⟩
  have T : Tb K mg tl aP aN aT aO aL aH aI := ⟨PySem.W.mg_of X G bL, PySem.W.mg_of X G bP, PySem.W.mg_of X G bN, PySem.W.mg_of X G bT, PySem.W.mg_of X G bO, PySem.W.mg_of X G mL, PySem.W.mg_of X G mH, PySem.W.mg_of X G mI, sq (by decide) oP vP, sq (by decide) oN vN, sq (by decide) oT vT, sq (by decide) oO vO⟩
  have Td' : Td K w aL aH aI (itOf f28 f29 f30 f31 f32 f36 f38 f39) := by
    refine ⟨fun k => ?_, fun k h1 h2 => ?_, fun k => ?_⟩
    · cases k
      case ss => exact ⟨t0, ⟨_, _, _, dL, yL, kL0, rfl⟩, sq (by decide) kLo0 kLv0⟩
      case us => exact ⟨t1, ⟨_, _, _, dL, yL, kL1, rfl⟩, sq (by decide) kLo1 kLv1⟩
      case ks => exact ⟨t2, ⟨_, _, _, dL, yL, kL2, rfl⟩, sq (by decide) kLo2 kLv2⟩
      case ms => exact ⟨t3, ⟨_, _, _, dL, yL, kL3, rfl⟩, sq (by decide) kLo3 kLv3⟩
      case ws => exact ⟨t4, ⟨_, _, _, dL, yL, kL4, rfl⟩, sq (by decide) kLo4 kLv4⟩
      case as => exact ⟨t5, ⟨_, _, _, dL, yL, kL5, rfl⟩, sq (by decide) kLo5 kLv5⟩
      case ts => exact ⟨t6, ⟨_, _, _, dL, yL, kL6, rfl⟩, sq (by decide) kLo6 kLv6⟩
      case is => exact ⟨t7, ⟨_, _, _, dL, yL, kL7, rfl⟩, sq (by decide) kLo7 kLv7⟩
      case bs => exact ⟨t8, ⟨_, _, _, dL, yL, kL8, rfl⟩, sq (by decide) kLo8 kLv8⟩
    · cases k
      case ss => exact ⟨_, _, _, dH, yH, kH0, ⟨_, rfl⟩⟩
      case us => exact ⟨_, _, _, dH, yH, kH1, ⟨_, rfl⟩⟩
      case ks => exact ⟨_, _, _, dH, yH, kH2, ⟨_, rfl⟩⟩
      case ms => exact absurd rfl h1
      case ws => exact absurd rfl h2
      case as => exact ⟨_, _, _, dH, yH, kH5, ⟨_, rfl⟩⟩
      case ts => exact ⟨_, _, _, dH, yH, kH6, ⟨_, rfl⟩⟩
      case is => exact ⟨_, _, _, dH, yH, kH7, ⟨_, rfl⟩⟩
      case bs => exact ⟨_, _, _, dH, yH, kH8, ⟨_, rfl⟩⟩
    · cases k
      case ss => exact ⟨_, _, _, dI, yI, kI0, rfl⟩
      case us => exact ⟨_, _, _, dI, yI, kI1, rfl⟩
      case ks => exact ⟨_, _, _, dI, yI, kI2, rfl⟩
      case ms => exact ⟨_, _, _, dI, yI, kI3, rfl⟩
      case ws => exact ⟨_, _, _, dI, yI, kI4, rfl⟩
      case as => exact ⟨_, _, _, dI, yI, kI5, rfl⟩
      case ts => exact ⟨_, _, _, dI, yI, kI6, rfl⟩
      case is => exact ⟨_, _, _, dI, yI, kI7, rfl⟩
      case bs => exact ⟨_, _, _, dI, yI, kI8, rfl⟩
  have B : BK K C := ⟨⟨pg, hd, po, sa⟩, fun k => by
    cases k
    case ss => exact no_states
    case us => exact no_ups
    case ks => exact no_downs
    case ms => exact no_marks
    case ws => exact no_wishes
    case as => exact no_answers
    case ts => exact no_tasks
    case is => exact no_idles
    case bs => exact no_busies
    , no_parts⟩
  have FI := fun_mk (x := "__init__") (qual := "Book.__init__") (st := s_Book__init_) jl jc jk
  have bI : Binds K _ ["self", "states", "ups", "downs", "marks", "wishes", "answers", "tasks", "idles", "busies"] [] := FI.binds (ps := ["self", "states", "ups", "downs", "marks", "wishes", "answers", "tasks", "idles", "busies"]) fun _ _ _ _ _ _ us hl => match us, hl with | [_, _, _, _, _, _, _, _, _, _], _ => rfl
  have F_states := fun_mk (x := "states") (qual := "Book.states") (st := s_Book_states) n0l n0c n0k
  have M_states : DefM K C "states" "Book.states" s_Book_states ["self"] g0 _ := ⟨⟨n0a, n0i, n0k⟩, F_states, F_states.binds (ps := ["self"]) fun _ _ _ _ _ _ us hl => match us, hl with | [_], _ => rfl⟩
  have F_ups := fun_mk (x := "ups") (qual := "Book.ups") (st := s_Book_ups) n1l n1c n1k
  have M_ups : DefM K C "ups" "Book.ups" s_Book_ups ["self"] g1 _ := ⟨⟨n1a, n1i, n1k⟩, F_ups, F_ups.binds (ps := ["self"]) fun _ _ _ _ _ _ us hl => match us, hl with | [_], _ => rfl⟩
  have F_downs := fun_mk (x := "downs") (qual := "Book.downs") (st := s_Book_downs) n2l n2c n2k
  have M_downs : DefM K C "downs" "Book.downs" s_Book_downs ["self"] g2 _ := ⟨⟨n2a, n2i, n2k⟩, F_downs, F_downs.binds (ps := ["self"]) fun _ _ _ _ _ _ us hl => match us, hl with | [_], _ => rfl⟩
  have F_marks := fun_mk (x := "marks") (qual := "Book.marks") (st := s_Book_marks) n3l n3c n3k
  have M_marks : DefM K C "marks" "Book.marks" s_Book_marks ["self"] g3 _ := ⟨⟨n3a, n3i, n3k⟩, F_marks, F_marks.binds (ps := ["self"]) fun _ _ _ _ _ _ us hl => match us, hl with | [_], _ => rfl⟩
  have F_wishes := fun_mk (x := "wishes") (qual := "Book.wishes") (st := s_Book_wishes) n4l n4c n4k
  have M_wishes : DefM K C "wishes" "Book.wishes" s_Book_wishes ["self"] g4 _ := ⟨⟨n4a, n4i, n4k⟩, F_wishes, F_wishes.binds (ps := ["self"]) fun _ _ _ _ _ _ us hl => match us, hl with | [_], _ => rfl⟩
  have F_answers := fun_mk (x := "answers") (qual := "Book.answers") (st := s_Book_answers) n5l n5c n5k
  have M_answers : DefM K C "answers" "Book.answers" s_Book_answers ["self"] g5 _ := ⟨⟨n5a, n5i, n5k⟩, F_answers, F_answers.binds (ps := ["self"]) fun _ _ _ _ _ _ us hl => match us, hl with | [_], _ => rfl⟩
  have F_tasks := fun_mk (x := "tasks") (qual := "Book.tasks") (st := s_Book_tasks) n6l n6c n6k
  have M_tasks : DefM K C "tasks" "Book.tasks" s_Book_tasks ["self"] g6 _ := ⟨⟨n6a, n6i, n6k⟩, F_tasks, F_tasks.binds (ps := ["self"]) fun _ _ _ _ _ _ us hl => match us, hl with | [_], _ => rfl⟩
  have F_idles := fun_mk (x := "idles") (qual := "Book.idles") (st := s_Book_idles) n7l n7c n7k
  have M_idles : DefM K C "idles" "Book.idles" s_Book_idles ["self"] g7 _ := ⟨⟨n7a, n7i, n7k⟩, F_idles, F_idles.binds (ps := ["self"]) fun _ _ _ _ _ _ us hl => match us, hl with | [_], _ => rfl⟩
  have F_busies := fun_mk (x := "busies") (qual := "Book.busies") (st := s_Book_busies) n8l n8c n8k
  have M_busies : DefM K C "busies" "Book.busies" s_Book_busies ["self"] g8 _ := ⟨⟨n8a, n8i, n8k⟩, F_busies, F_busies.binds (ps := ["self"]) fun _ _ _ _ _ _ us hl => match us, hl with | [_], _ => rfl⟩
  have M : Meths K C (lsOf g0 g1 g2 g3 g4 g5 g6 g7 g8) (fun k => match k with | .ss => _ | .us => _ | .ks => _ | .ms => _ | .ws => _ | .as => _ | .ts => _ | .is => _ | .bs => _) := ⟨M_states, M_ups, M_downs, M_marks, M_wishes, M_answers, M_tasks, M_idles, M_busies⟩
  have F_eq := fun_mk (x := "__eq__") (qual := "Book.__eq__") (st := s_Book__eq_) eql eqc eqk
  have ME : DefM K C "__eq__" "Book.__eq__" s_Book__eq_ ["self", "other"] fE _ := ⟨⟨eqa, eqi, eqk⟩, F_eq, F_eq.binds (ps := ["self", "other"]) fun _ _ _ _ _ _ us hl => match us, hl with | [_, _], _ => rfl⟩
  exact ⟨(PySem.W.fnOf "law" "law" (defArgs s_law) (defBody s_law) (defScope s_law) .none kV24 dc24 pm24 an24 cd24 ct24), fun s v => .of_eq rfl, fun base _ _ => fin D0 D1 D2 D3 D4 D5 D6 D7 D8 D9 D10 D11 D12 D13 D14 D15 D16 D17 D18 D19 D20 D21 D22 D23 D24 D25 D26 D27 D28 D29 D30 D31 D32 D33 D34 D35 D36 D37 D38 D39 D40 D41 D42 D43 D44 Z T Td' B M ME ⟨ib1, ib2, ib3, ib4, ib5⟩ ⟨nk0, nk1, nk2, nk3, nk4, nk5⟩ ⟨nt0, nt1, nt2, nt3, nt4, nt5⟩ ⟨mk, ja, ji, kc⟩ (PySem.W.mg_of X G aC) FI bI⟩
theorem walk {l : PySem.W.OpenLaw} {q : Program} {loose : List Str} {XP : (Str → Option Value) → Heap → Prop} {YP : World → Heap → Prop} {d : DefRec} {K : Params → PySem.W.Frag} (hn : l.most = some 63) (hdf : d.params.defaults = [])
    (hY : ∀ (w : World) (h : Heap), YP w h → (K w.params).In h)
    (F : ∀ (w : World) (mg : Str → Option Value) (fa : Addr) (h : Heap), (K w.params).In h → h.Ns mainGlobals mg → mg d.name = some (.ref fa) →
      ∃ fd : FuncData, (∀ (s : Shared) (u : Value), BindsTo s fd ⟨[u], []⟩ [("_law_script", u)]) ∧ ∀ base : Heap, (K w.params).In base → base.Ns mainGlobals mg → FnOk l.prog w (K w.params) mg base CX0 10 fa fd ["_law_script"] (spLaw (K w.params))) :
    PySem.W.WalkO q loose XP YP l.row.toRowW d [] (fun f vs => PySem.call f vs) :=
  L2.walk_of (n := 63) (k := 10) (x := "_law_script") (CX := fun _ => CX0) (sp := fun w => spLaw (K w.params)) hn (by decide) hdf ⟨rfl, by decide, by decide⟩ hY F (fun _ _ a ns hl _ hS => ⟨a, ns, rfl, hS, hl, fun _ => rfl⟩) fun _ _ _ _ _ z => z

end My
open PySem PySem.W PyProof.Rows in
set_option maxRecDepth 100000 in
set_option maxHeartbeats 0 in
theorem PySem.Challenge.cw_copybooks_k02_equal_books_holds : PySem.Challenge.rw_copybooks_k02_equal_books.Holds := by
  w_on; o_law; k_head; (case hw => w_witness2)
  k_fill
  refine My.walk (l := PySem.Challenge.rw_copybooks_k02_equal_books) rfl rfl (fun w h Y => PySem.W.kIn_of Y) ?F
  case F =>
    intro w mg fa h KX G hmg
    refine' My.all_mk KX G hmg ?a0 ?l0 ?c0 ?k0 ?a1 ?l1 ?c1 ?k1 ?a2 ?l2 ?c2 ?k2 ?a3 ?l3 ?c3 ?k3 ?a4 ?l4 ?c4 ?k4 ?a5 ?l5 ?c5 ?k5 ?a6 ?l6 ?c6 ?k6 ?a7 ?l7 ?c7 ?k7 ?a8 ?l8 ?c8 ?k8 ?a9 ?l9 ?c9 ?k9 ?a10 ?l10 ?c10 ?k10 ?a11 ?l11 ?c11 ?k11 ?a12 ?l12 ?c12 ?k12 ?a13 ?l13 ?c13 ?k13 ?a14 ?l14 ?c14 ?k14 ?a15 ?l15 ?c15 ?k15 ?a16 ?l16 ?c16 ?k16 ?a17 ?l17 ?c17 ?k17 ?a18 ?l18 ?c18 ?k18 ?a19 ?l19 ?c19 ?k19 ?a20 ?l20 ?c20 ?k20 ?a21 ?l21 ?c21 ?k21 ?a22 ?l22 ?c22 ?k22 ?a23 ?l23 ?c23 ?k23 ?a24 ?l24 ?c24 ?k24 ?a25 ?l25 ?c25 ?k25 ?a26 ?l26 ?c26 ?k26 ?a27 ?l27 ?c27 ?k27 ?a28 ?l28 ?c28 ?k28 ?a29 ?l29 ?c29 ?k29 ?a30 ?l30 ?c30 ?k30 ?a31 ?l31 ?c31 ?k31 ?a32 ?l32 ?c32 ?k32 ?a33 ?l33 ?c33 ?k33 ?a34 ?l34 ?c34 ?k34 ?a35 ?l35 ?c35 ?k35 ?a36 ?l36 ?c36 ?k36 ?a37 ?l37 ?c37 ?k37 ?a38 ?l38 ?c38 ?k38 ?a39 ?l39 ?c39 ?k39 ?a40 ?l40 ?c40 ?k40 ?a41 ?l41 ?c41 ?k41 ?a42 ?l42 ?c42 ?k42 ?a43 ?l43 ?c43 ?k43 ?a44 ?l44 ?c44 ?k44 ?z_int ?z_len ?z_range ?z_isinstance ?z_bool ?z_str ?z_tuple ?z_list ?z_all ?z_enumerate ?z_zip ?bL ?bP ?oP ?vP ?bN ?oN ?vN ?bT ?oT ?vT ?bO ?oO ?vO ?mL ?dL ?yL ?mH ?dH ?yH ?mI ?dI ?yI ?kL0 ?kLo0 ?kLv0 ?kH0 ?kI0 ?kL1 ?kLo1 ?kLv1 ?kH1 ?kI1 ?kL2 ?kLo2 ?kLv2 ?kH2 ?kI2 ?kL3 ?kLo3 ?kLv3 ?kI3 ?kL4 ?kLo4 ?kLv4 ?kI4 ?kL5 ?kLo5 ?kLv5 ?kH5 ?kI5 ?kL6 ?kLo6 ?kLv6 ?kH6 ?kI6 ?kL7 ?kLo7 ?kLv7 ?kH7 ?kI7 ?kL8 ?kLo8 ?kLv8 ?kH8 ?kI8 ?aC ?pg ?hd ?po ?sa ?mk ?kc ?no_states ?no_ups ?no_downs ?no_marks ?no_wishes ?no_answers ?no_tasks ?no_idles ?no_busies ?no_parts ?ja ?ji ?jl ?jc ?jk ?n0a ?n0i ?n0l ?n0c ?n0k ?n1a ?n1i ?n1l ?n1c ?n1k ?n2a ?n2i ?n2l ?n2c ?n2k ?n3a ?n3i ?n3l ?n3c ?n3k ?n4a ?n4i ?n4l ?n4c ?n4k ?n5a ?n5i ?n5l ?n5c ?n5k ?n6a ?n6i ?n6l ?n6c ?n6k ?n7a ?n7i ?n7l ?n7c ?n7k ?n8a ?n8i ?n8l ?n8c ?n8k ?eqa ?eqi ?eql ?eqc ?eqk ?ib1 ?ib2 ?ib3 ?ib4 ?ib5 ?nk0 ?nt0 ?nk1 ?nt1 ?nk2 ?nt2 ?nk3 ?nt3 ?nk4 ?nt4 ?nk5 ?nt5
    (case a0 => k_is)
    (case l0 => k_is)
    (case c0 => k_is)
    (case k0 => k_is)
    (case a1 => k_is)
    (case l1 => k_is)
    (case c1 => k_is)
    (case k1 => k_is)
    (case a2 => k_is)
    (case l2 => k_is)
    (case c2 => k_is)
    (case k2 => k_is)
    (case a3 => k_is)
    (case l3 => k_is)
    (case c3 => k_is)
    (case k3 => k_is)
    (case a4 => k_is)
    (case l4 => k_is)
    (case c4 => k_is)
    (case k4 => k_is)
    (case a5 => k_is)
    (case l5 => k_is)
    (case c5 => k_is)
    (case k5 => k_is)
    (case a6 => k_is)
    (case l6 => k_is)
    (case c6 => k_is)
    (case k6 => k_is)
    (case a7 => k_is)
    (case l7 => k_is)
    (case c7 => k_is)
    (case k7 => k_is)
    (case a8 => k_is)
    (case l8 => k_is)
    (case c8 => k_is)
    (case k8 => k_is)
    (case a9 => k_is)
    (case l9 => k_is)
    (case c9 => k_is)
    (case k9 => k_is)
    (case a10 => k_is)
    (case l10 => k_is)
    (case c10 => k_is)
    (case k10 => k_is)
    (case a11 => k_is)
    (case l11 => k_is)
    (case c11 => k_is)
    (case k11 => k_is)
    (case a12 => k_is)
    (case l12 => k_is)
    (case c12 => k_is)
    (case k12 => k_is)
    (case a13 => k_is)
    (case l13 => k_is)
    (case c13 => k_is)
    (case k13 => k_is)
    (case a14 => k_is)
    (case l14 => k_is)
    (case c14 => k_is)
    (case k14 => k_is)
    (case a15 => k_is)
    (case l15 => k_is)
    (case c15 => k_is)
    (case k15 => k_is)
    (case a16 => k_is)
    (case l16 => k_is)
    (case c16 => k_is)
    (case k16 => k_is)
    (case a17 => k_is)
    (case l17 => k_is)
    (case c17 => k_is)
    (case k17 => k_is)
    (case a18 => k_is)
    (case l18 => k_is)
    (case c18 => k_is)
    (case k18 => k_is)
    (case a19 => k_is)
    (case l19 => k_is)
    (case c19 => k_is)
    (case k19 => k_is)
    (case a20 => k_is)
    (case l20 => k_is)
    (case c20 => k_is)
    (case k20 => k_is)
    (case a21 => k_is)
    (case l21 => k_is)
    (case c21 => k_is)
    (case k21 => k_is)
    (case a22 => k_is)
    (case l22 => k_is)
    (case c22 => k_is)
    (case k22 => k_is)
    (case a23 => k_is)
    (case l23 => k_is)
    (case c23 => k_is)
    (case k23 => k_is)
    (case a24 => k_is)
    (case l24 => k_is)
    (case c24 => k_is)
    (case k24 => k_is)
    (case a25 => k_is)
    (case l25 => k_is)
    (case c25 => k_is)
    (case k25 => k_is)
    (case a26 => k_is)
    (case l26 => k_is)
    (case c26 => k_is)
    (case k26 => k_is)
    (case a27 => k_is)
    (case l27 => k_is)
    (case c27 => k_is)
    (case k27 => k_is)
    (case a28 => k_is)
    (case l28 => k_is)
    (case c28 => k_is)
    (case k28 => k_is)
    (case a29 => k_is)
    (case l29 => k_is)
    (case c29 => k_is)
    (case k29 => k_is)
    (case a30 => k_is)
    (case l30 => k_is)
    (case c30 => k_is)
    (case k30 => k_is)
    (case a31 => k_is)
    (case l31 => k_is)
    (case c31 => k_is)
    (case k31 => k_is)
    (case a32 => k_is)
    (case l32 => k_is)
    (case c32 => k_is)
    (case k32 => k_is)
    (case a33 => k_is)
    (case l33 => k_is)
    (case c33 => k_is)
    (case k33 => k_is)
    (case a34 => k_is)
    (case l34 => k_is)
    (case c34 => k_is)
    (case k34 => k_is)
    (case a35 => k_is)
    (case l35 => k_is)
    (case c35 => k_is)
    (case k35 => k_is)
    (case a36 => k_is)
    (case l36 => k_is)
    (case c36 => k_is)
    (case k36 => k_is)
    (case a37 => k_is)
    (case l37 => k_is)
    (case c37 => k_is)
    (case k37 => k_is)
    (case a38 => k_is)
    (case l38 => k_is)
    (case c38 => k_is)
    (case k38 => k_is)
    (case a39 => k_is)
    (case l39 => k_is)
    (case c39 => k_is)
    (case k39 => k_is)
    (case a40 => k_is)
    (case l40 => k_is)
    (case c40 => k_is)
    (case k40 => k_is)
    (case a41 => k_is)
    (case l41 => k_is)
    (case c41 => k_is)
    (case k41 => k_is)
    (case a42 => k_is)
    (case l42 => k_is)
    (case c42 => k_is)
    (case k42 => k_is)
    (case a43 => k_is)
    (case l43 => k_is)
    (case c43 => k_is)
    (case k43 => k_is)
    (case a44 => k_is)
    (case l44 => k_is)
    (case c44 => k_is)
    (case k44 => k_is)
    (case z_int => k_is)
    (case z_len => k_is)
    (case z_range => k_is)
    (case z_isinstance => k_is)
    (case z_bool => k_is)
    (case z_str => k_is)
    (case z_tuple => k_is)
    (case z_list => k_is)
    (case z_all => k_is)
    (case z_enumerate => k_is)
    (case z_zip => k_is)
    (case bL => k_is)
    (case bP => k_is)
    (case oP => k_is)
    (case vP => repeat (first | exact .nil | refine .cons (Exists.intro _ rfl) ?_))
    (case bN => k_is)
    (case oN => k_is)
    (case vN => repeat (first | exact .nil | refine .cons (Exists.intro _ rfl) ?_))
    (case bT => k_is)
    (case oT => k_is)
    (case vT => repeat (first | exact .nil | refine .cons (Exists.intro _ rfl) ?_))
    (case bO => k_is)
    (case oO => k_is)
    (case vO => repeat (first | exact .nil | refine .cons (Exists.intro _ rfl) ?_))
    (case mL => k_is)
    (case dL => k_is)
    (case yL => repeat (first | exact True.intro | refine And.intro (Exists.intro _ (Exists.intro _ (And.intro rfl rfl))) ?_))
    (case mH => k_is)
    (case dH => k_is)
    (case yH => repeat (first | exact True.intro | refine And.intro (Exists.intro _ (Exists.intro _ (And.intro rfl rfl))) ?_))
    (case mI => k_is)
    (case dI => k_is)
    (case yI => repeat (first | exact True.intro | refine And.intro (Exists.intro _ (Exists.intro _ (And.intro rfl rfl))) ?_))
    (case kL0 => k_is)
    (case kLo0 => k_is)
    (case kLv0 => repeat (first | exact .nil | refine .cons (Exists.intro _ rfl) ?_))
    (case kH0 => k_is)
    (case kI0 => k_is)
    (case kL1 => k_is)
    (case kLo1 => k_is)
    (case kLv1 => repeat (first | exact .nil | refine .cons (Exists.intro _ rfl) ?_))
    (case kH1 => k_is)
    (case kI1 => k_is)
    (case kL2 => k_is)
    (case kLo2 => k_is)
    (case kLv2 => repeat (first | exact .nil | refine .cons (Exists.intro _ rfl) ?_))
    (case kH2 => k_is)
    (case kI2 => k_is)
    (case kL3 => k_is)
    (case kLo3 => k_is)
    (case kLv3 => repeat (first | exact .nil | refine .cons (Exists.intro _ rfl) ?_))
    (case kI3 => k_is)
    (case kL4 => k_is)
    (case kLo4 => k_is)
    (case kLv4 => repeat (first | exact .nil | refine .cons (Exists.intro _ rfl) ?_))
    (case kI4 => k_is)
    (case kL5 => k_is)
    (case kLo5 => k_is)
    (case kLv5 => repeat (first | exact .nil | refine .cons (Exists.intro _ rfl) ?_))
    (case kH5 => k_is)
    (case kI5 => k_is)
    (case kL6 => k_is)
    (case kLo6 => k_is)
    (case kLv6 => repeat (first | exact .nil | refine .cons (Exists.intro _ rfl) ?_))
    (case kH6 => k_is)
    (case kI6 => k_is)
    (case kL7 => k_is)
    (case kLo7 => k_is)
    (case kLv7 => repeat (first | exact .nil | refine .cons (Exists.intro _ rfl) ?_))
    (case kH7 => k_is)
    (case kI7 => k_is)
    (case kL8 => k_is)
    (case kLo8 => k_is)
    (case kLv8 => repeat (first | exact .nil | refine .cons (Exists.intro _ rfl) ?_))
    (case kH8 => k_is)
    (case kI8 => k_is)
    (case aC => k_is)
    (case pg => k_is)
    (case hd => k_is)
    (case po => k_is)
    (case sa => k_is)
    (case mk => k_is)
    (case kc => k_is)
    (case no_states => k_is)
    (case no_ups => k_is)
    (case no_downs => k_is)
    (case no_marks => k_is)
    (case no_wishes => k_is)
    (case no_answers => k_is)
    (case no_tasks => k_is)
    (case no_idles => k_is)
    (case no_busies => k_is)
    (case no_parts => k_is)
    (case ja => k_is)
    (case ji => k_is)
    (case jl => k_is)
    (case jc => k_is)
    (case jk => k_is)
    (case n0a => k_is)
    (case n0i => k_is)
    (case n0l => k_is)
    (case n0c => k_is)
    (case n0k => k_is)
    (case n1a => k_is)
    (case n1i => k_is)
    (case n1l => k_is)
    (case n1c => k_is)
    (case n1k => k_is)
    (case n2a => k_is)
    (case n2i => k_is)
    (case n2l => k_is)
    (case n2c => k_is)
    (case n2k => k_is)
    (case n3a => k_is)
    (case n3i => k_is)
    (case n3l => k_is)
    (case n3c => k_is)
    (case n3k => k_is)
    (case n4a => k_is)
    (case n4i => k_is)
    (case n4l => k_is)
    (case n4c => k_is)
    (case n4k => k_is)
    (case n5a => k_is)
    (case n5i => k_is)
    (case n5l => k_is)
    (case n5c => k_is)
    (case n5k => k_is)
    (case n6a => k_is)
    (case n6i => k_is)
    (case n6l => k_is)
    (case n6c => k_is)
    (case n6k => k_is)
    (case n7a => k_is)
    (case n7i => k_is)
    (case n7l => k_is)
    (case n7c => k_is)
    (case n7k => k_is)
    (case n8a => k_is)
    (case n8i => k_is)
    (case n8l => k_is)
    (case n8c => k_is)
    (case n8k => k_is)
    (case eqa => k_is)
    (case eqi => k_is)
    (case eql => k_is)
    (case eqc => k_is)
    (case eqk => k_is)
    (case ib1 => k_is)
    (case ib2 => k_is)
    (case ib3 => k_is)
    (case ib4 => k_is)
    (case ib5 => kit_is)
    (case nk0 => kit_is)
    (case nt0 => k_is)
    (case nk1 => kit_is)
    (case nt1 => k_is)
    (case nk2 => kit_is)
    (case nt2 => k_is)
    (case nk3 => kit_is)
    (case nt3 => k_is)
    (case nk4 => kit_is)
    (case nt4 => k_is)
    (case nk5 => kit_is)
    (case nt5 => k_is)
#print axioms PySem.Challenge.cw_copybooks_k02_equal_books_holds
