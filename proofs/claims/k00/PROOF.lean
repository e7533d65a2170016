import PyProof.Rows.All
import Wide.All
import OpenK.AllK
import Wide.FinOn
import HandS.ForMost
import HandS.IsInst
import HandS.Codes
import HandS.Style
import HandS.ForExc
import HandS.ExcInit
import HandS.ExcField
import HandS.ExcIs
import HandS.TryMany
import KE.KExcIs
import KE.RegKIsAll
import HandS.Comp
import PySem.Challenge.RW_copybooks_k00_errors
set_option Elab.async false
set_option linter.all false
set_option maxRecDepth 100000
set_option maxHeartbeats 4000000
namespace My
open PySem L2
def top (i : Nat) : Stmt := PySem.Challenge.pw_copybooks_k00_errors.main.body.getD i (.Pass ⟨0, 0, 0, 0⟩)
abbrev s_l_pool : Stmt := top 25
abbrev s_l_draw : Stmt := top 26
abbrev s_l_one : Stmt := top 27
theorem sc_l_pool : FnScope [] [] (defScope s_l_pool) := ⟨rfl, rfl, rfl, by decide +kernel, rfl, by decide +kernel, by decide +kernel⟩
theorem sc_l_draw : FnScope ["_law_script", "_law_pool_here", "_law_limit", "_law_value_here", "_law_cell", "_law_one_here", "_law_two"] ["_law_script", "_law_pool_here", "_law_limit"] (defScope s_l_draw) := ⟨rfl, rfl, rfl, by decide +kernel, rfl, by decide +kernel, by decide +kernel⟩
theorem sc_l_one : FnScope ["_law_script", "_law_pool_here", "_law_row"] ["_law_script", "_law_pool_here", "_law_row"] (defScope s_l_one) := ⟨rfl, rfl, rfl, by decide +kernel, rfl, by decide +kernel, by decide +kernel⟩
/-! ### what stands where -/
structure DefT (K : PySem.W.Frag) (mg : Str → Option Value) (x qual : Str) (st : Stmt) (ps : List Str) (f : Addr) (fd : FuncData) : Prop where
  m : mg x = some (.ref f)
  F : Fun K x qual st f fd
  b : Binds K fd ps []
structure Zs (mg : Str → Option Value) : Prop where
  int : mg "int" = none
  len : mg "len" = none
  range : mg "range" = none
  isinstance : mg "isinstance" = none
  bool : mg "bool" = none
  str : mg "str" = none
  tuple : mg "tuple" = none
  list : mg "list" = none
/-! ### the pool of draws -/
def Pool (H : Hp) (p : Addr) : Prop := ∃ x0 x1 x2 x3 : Int, 0 ≤ x1 ∧ H p = some (.lst [.int x0, .int x1, .int x2, .int x3])
/-- all but the pool is kept -/
structure Kp (p : Addr) (H H' : Hp) : Prop where
  keep : ∀ b o, b ≠ p → H b = some o → H' b = some o
  pool : Pool H' p
theorem Kp.trans {p : Addr} {H H1 H2 : Hp} (a : Kp p H H1) (b : Kp p H1 H2) : Kp p H H2 := ⟨fun c o n h => b.keep c o n (a.keep c o n h), b.pool⟩
theorem Kp.refl {p : Addr} {H : Hp} (h : Pool H p) : Kp p H H := ⟨fun _ _ _ h => h, h⟩
theorem Pool.put {H : Hp} {p : Addr} {x0 x1 x2 x3 : Int} (h : 0 ≤ x1) : Kp p H (upd H p (.lst [.int x0, .int x1, .int x2, .int x3])) := ⟨fun b o n e => by rw [upd_ne n]; exact e, x0, x1, x2, x3, h, upd_same⟩
theorem Kp.new {p q : Addr} {H H' : Hp} {o : HO} (k : Kp p H H') (hq : H' q = none) : Kp p H (upd H' q o) := ⟨fun b u n e => by
  have e' := k.keep b u n e
  rw [upd_ne (ne_of_none e' hq)]
  exact e', by
  obtain ⟨x0, x1, x2, x3, h, e⟩ := k.pool
  exact ⟨x0, x1, x2, x3, h, by rw [upd_ne (ne_of_none e hq)]; exact e⟩⟩
/-- a list that is not the pool -/
structure Row (K : PySem.W.Frag) (H : Hp) (a p : Addr) (xs : List V) : Prop where
  seq : ∀ H', Kp p H H' → SqL K H' a xs
theorem Row.on {K : PySem.W.Frag} {H H' : Hp} {a p : Addr} {xs : List V} (s : Row K H a p xs) (k : Kp p H H') : Row K H' a p xs := ⟨fun H2 k2 => s.seq H2 (k.trans k2)⟩
theorem Row.of {K : PySem.W.Frag} {H : Hp} {a p : Addr} {xs : List V} (h : H a = some (.lst xs)) (n : a ≠ p) : Row K H a p xs := ⟨fun _ k => SqL.of (k.keep _ _ n h)⟩
abbrev Scr (K : PySem.W.Frag) (H : Hp) (a p : Addr) (ns : List Int) : Prop := Row K H a p (ns.map V.int)
def spDraw (K : PySem.W.Frag) : Sp := fun vs H Q _ => ∃ (a p : Addr) (ns : List Int) (m : Int), vs = [.ref a, .ref p, .int m] ∧ Scr K H a p ns ∧ Pool H p ∧ 0 < m ∧ m < 1073741824 ∧
  ∀ (r : Int) (H' : Hp), 0 ≤ r → r < m → Kp p H H' → Q (.int r) H'
section
variable {P : Program} {w : World} {K : PySem.W.Frag} {mg : Str → Option Value} {base : Heap}
theorem mod_in {a m : Int} (h : 0 < m) : 0 ≤ a.fmod m ∧ a.fmod m < m := ⟨Int.fmod_nonneg_of_pos a h, Int.fmod_lt_of_pos a h⟩
theorem n29 : (2147483629 : Int) ≠ 0 := by decide
theorem n47 : (2147483647 : Int) ≠ 0 := by decide
theorem at_map {ns : List Int} {k : Int} (h0 : 0 ≤ k) (h : k < (ns.length : Int)) : ∃ v : Int, atI (ns.map V.int) k = some (.int v) := by
  have hk : k.toNat < ns.length := by omega
  have ek : k = ((k.toNat : Nat) : Int) := by omega
  have q : atI (ns.map V.int) ((k.toNat : Nat) : Int) = some (.int ns[k.toNat]) := atI_nat (by rw [List.getElem?_map, List.getElem?_eq_getElem hk] <;> rfl)
  rw [← ek] at q
  exact ⟨_, q⟩
theorem ok_draw {f : Addr} {fd : FuncData} (D : DefT K mg "_law_draw" "_law_draw" s_l_draw ["_law_script", "_law_pool_here", "_law_limit"] f fd) (Z : Zs mg) : FnOk P w K mg base CX0 1 f fd ["_law_script", "_law_pool_here", "_law_limit"] (spDraw K) := by
  refine D.F.ok sc_l_draw (fun vs H Q E h => ?_) (fun cdv A outer s H vs Q E hr h => ?_)
  · obtain ⟨a, p, ns, m, rfl, _⟩ := h
    rfl
  obtain ⟨a, p, ns, m, rfl, hS, ⟨x0, x1, x2, x3, h1, hp⟩, hm, hm2, q⟩ := h
  refine ⟨_, (pss_cons (ps_asg (pe_op op_add (pe_ix ix_list (pv 1) pe_int (fun _ _ => rfl)) pe_int) (pg_sub (pv 1) pe_int set_list)) (pss_cons (ps_if (pt_cmpR op_ge (pe_ix ix_list (pv 1) pe_int (fun _ _ => rfl)) (pv 2) (nomark _)) (pss_cons (ps_set (i := 3) sc_l_draw.nd rfl (Or.inl rfl) (pe_op op_modN (pe_callTy call_int1 (by rfl) Z.int (by decide +kernel) (pa_cons (pe_ix ix_list (pv 1) pe_int (fun _ _ => rfl)) pa_nil)) (pv 2))) (pss_cons (ps_asg (pe_op op_fdivN (pe_ix ix_list (pv 1) pe_int (fun _ _ => rfl)) (pv 2)) (pg_sub (pv 1) pe_int set_list)) (pss_one (ps_ret (pv 3))))) pss_nil) (C8.pss_cut (ps_if (pt_cmpR op_lt (pe_ix ix_list (pv 1) pe_int (fun _ _ => rfl)) (pe_callB call_len_seq (by rfl) Z.len (by decide +kernel) (pa_cons (pv 0) pa_nil)) (nomark _)) (pss_cons (ps_set (i := 4) sc_l_draw.nd rfl (Or.inl rfl) (pe_ix ix_list (pv 0) (pe_ix ix_list (pv 1) pe_int (fun _ _ => rfl)) (fun _ _ => rfl))) (pss_cons (ps_asg (pe_op op_add (pe_ix ix_list (pv 1) pe_int (fun _ _ => rfl)) pe_int) (pg_sub (pv 1) pe_int set_list)) (pss_cons (ps_if (pt_cmpR op_ge (pv 4) (pe_op op_pow pe_int pe_int) (nomark _)) (pss_cons (ps_asg (pe_op op_fdivN (pv 4) (pv 2)) (pg_sub (pv 1) pe_int set_list)) (pss_one (ps_ret (pe_op op_modN (pe_callTy call_int1 (by rfl) Z.int (by decide +kernel) (pa_cons (pv 4) pa_nil)) (pv 2))))) pss_nil) (pss_one (ps_asg (pe_op op_modN (pe_callTy call_int1 (by rfl) Z.int (by decide +kernel) (pa_cons (pe_op op_add (pe_op op_add (pe_op op_mul (pe_ix ix_list (pv 1) pe_int (fun _ _ => rfl)) pe_int) (pe_op op_modN (pe_callTy call_int1 (by rfl) Z.int (by decide +kernel) (pa_cons (pv 4) pa_nil)) pe_int)) pe_int) pa_nil)) pe_int) (pg_sub (pv 1) pe_int set_list)))))) pss_nil) (pss_cons (ps_set (i := 5) sc_l_draw.nd rfl (Or.inl rfl) (pe_op op_modN (pe_callTy call_int1 (by rfl) Z.int (by decide +kernel) (pa_cons (pe_op op_add (pe_op op_add (pe_op op_mul (pe_ix ix_list (pv 1) pe_int (fun _ _ => rfl)) pe_int) (pe_op op_mul (pe_ix ix_list (pv 1) pe_int (fun _ _ => rfl)) pe_int)) pe_int) pa_nil)) pe_int)) (pss_cons (ps_set (i := 6) sc_l_draw.nd rfl (Or.inl rfl) (pe_op op_modN (pe_callTy call_int1 (by rfl) Z.int (by decide +kernel) (pa_cons (pe_op op_add (pe_op op_mul (pv 5) (pe_op op_add (pe_op op_fdivN (pv 5) pe_int) pe_int)) (pe_op op_mul (pe_ix ix_list (pv 1) pe_int (fun _ _ => rfl)) pe_int)) pa_nil)) pe_int)) (pss_one (ps_ret (pe_op op_modN (pe_callTy call_int1 (by rfl) Z.int (by decide +kernel) (pa_cons (pe_op op_fdivN (pv 6) pe_int) pa_nil)) (pv 2))))))))), ?_⟩
  have hm0 : m ≠ 0 := by omega
  have hmA : m.natAbs < 1073741824 := by omega
  -- pool[2] = pool[2] + 1
  refine ⟨_, rfl, p, _, _, _, rfl, rfl, SqL.of hp, rfl, _, _, rfl, rfl, _, rfl, p, _, _, _, rfl, rfl, hp, rfl, ?_⟩
  -- if pool[0] >= limit
  refine ⟨_, rfl, p, _, _, _, rfl, rfl, SqL.of upd_same, rfl, _, rfl, _, _, rfl, rfl, _, rfl, ?_⟩
  refine ite2 (fun _ => ?_) (fun _ => ?_)
  · refine ⟨_, rfl, p, _, _, _, rfl, rfl, SqL.of upd_same, rfl, .inl ⟨_, rfl, ?_⟩⟩
    refine ⟨_, rfl, _, _, rfl, rfl, hm0, ?_⟩
    refine ⟨_, rfl, p, _, _, _, rfl, rfl, SqL.of upd_same, rfl, _, rfl, _, _, rfl, rfl, ⟨hm0, hmA⟩, _, rfl, p, _, _, _, rfl, rfl, upd_same, rfl, ?_⟩
    refine ⟨_, rfl, ?_⟩
    exact q _ _ (mod_in hm).1 (mod_in hm).2 (by rw [upd_upd]; exact Pool.put h1)
  have hl : (ns.map V.int).length = ns.length := List.length_map _
  have hS' : ∀ l' : List V, (∃ y0 y1 y2 y3 : Int, 0 ≤ y1 ∧ l' = [.int y0, .int y1, .int y2, .int y3]) → SqL K (upd H p (.lst l')) a (ns.map V.int) := by
    rintro _ ⟨y0, y1, y2, y3, hy, rfl⟩
    exact hS.seq _ (Pool.put hy)
  -- if pool[1] < len(script)
  refine ⟨fun σ' H' => ∃ (y0 y1 y2 y3 : Int) (v : Option V), 0 ≤ y1 ∧ σ' = [some (.ref a), some (.ref p), some (.int m), none, v, none, none] ∧ H' = upd H p (.lst [.int y0, .int y1, .int y2, .int y3]), ?_, ?_⟩
  case refine_1 =>
   refine ⟨_, rfl, p, _, _, _, rfl, rfl, SqL.of upd_same, rfl, _, rfl, a, _, rfl, .inl (hS' _ ⟨_, _, _, _, h1, rfl⟩), _, _, rfl, rfl, _, rfl, ?_⟩
   refine ite2 (fun c => ?_) (fun _ => ?_)
   · have c' : x1 < (((ns.map V.int).length : Nat) : Int) := of_decide_eq_true c
     rw [hl] at c'
     obtain ⟨z, hz⟩ := at_map h1 c'
     refine ⟨_, rfl, _, rfl, p, _, _, _, rfl, rfl, SqL.of upd_same, rfl, a, _, _, _, rfl, rfl, hS' _ ⟨_, _, _, _, h1, rfl⟩, hz, ?_⟩
     refine ⟨_, rfl, p, _, _, _, rfl, rfl, SqL.of upd_same, rfl, _, _, rfl, rfl, _, rfl, p, _, _, _, rfl, rfl, upd_same, rfl, ?_⟩
     refine ⟨_, rfl, _, _, rfl, rfl, ⟨by decide, by decide, by decide⟩, _, _, rfl, rfl, _, rfl, ?_⟩
     refine ite2 (fun _ => ?_) (fun _ => ?_)
     · refine ⟨_, rfl, _, rfl, _, _, rfl, rfl, ⟨hm0, hmA⟩, _, rfl, p, _, _, _, rfl, rfl, upd_same, rfl, ?_⟩
       refine ⟨_, rfl, .inl ⟨_, rfl, ?_⟩⟩
       refine ⟨_, rfl, _, _, rfl, rfl, hm0, ?_⟩
       exact q _ _ (mod_in hm).1 (mod_in hm).2 (by rw [upd_upd, upd_upd]; exact Pool.put (by show (0 : Int) ≤ x1 + 1; omega))
     · refine ⟨_, rfl, p, _, _, _, rfl, rfl, SqL.of upd_same, rfl, _, _, rfl, rfl, .inr ⟨by decide, by decide⟩, _, rfl, .inl ⟨_, rfl, _, _, rfl, rfl, n29, _, _, rfl, rfl, _, _, rfl, rfl, .inl ⟨_, rfl, _, _, rfl, rfl, n47, ?_⟩⟩⟩
       refine ⟨_, rfl, p, _, _, _, rfl, rfl, upd_same, rfl, ?_⟩
       refine ⟨_, _, _, _, _, ?_, rfl, by rw [upd_upd, upd_upd] <;> rfl⟩
       show (0 : Int) ≤ x1 + 1
       omega
   · exact ⟨_, _, _, _, _, h1, rfl, rfl⟩
  case refine_2 =>
   rintro _ _ ⟨y0, y1, y2, y3, v, hy, rfl, rfl⟩
   refine ⟨_, rfl, p, _, _, _, rfl, rfl, SqL.of upd_same, rfl, _, _, rfl, rfl, .inr ⟨by decide, by decide⟩, _, rfl, p, _, _, _, rfl, rfl, SqL.of upd_same, rfl, _, _, rfl, rfl, .inr ⟨by decide, by decide⟩, _, _, rfl, rfl, _, _, rfl, rfl, .inl ⟨_, rfl, _, _, rfl, rfl, n47, ?_⟩⟩
   have zb := mod_in (a := (y3 * 48271 + y2 * 1103515245 + 12345)) (m := 2147483647) (by decide)
   refine ⟨_, rfl, _, rfl, _, _, rfl, rfl, ⟨by decide, by decide⟩, _, _, rfl, rfl, _, _, rfl, rfl, .inl ⟨by omega, by omega⟩, _, rfl, p, _, _, _, rfl, rfl, SqL.of upd_same, rfl, _, _, rfl, rfl, .inr ⟨by decide, by decide⟩, _, _, rfl, rfl, .inl ⟨_, rfl, _, _, rfl, rfl, n29, ?_⟩⟩
   refine ⟨_, rfl, _, _, rfl, rfl, ⟨by decide, by decide⟩, .inl ⟨_, rfl, _, rfl, _, _, rfl, rfl, hm0, ?_⟩⟩
   exact q _ _ (mod_in hm).1 (mod_in hm).2 (Pool.put hy)
def spPool : Sp := fun vs H Q _ => vs = [] ∧ ∀ p H', Same H H' → H p = none → Pool H' p → (∀ b, b ≠ p → H' b = H b) → Q (.ref p) H'
theorem ok_pool {f : Addr} {fd : FuncData} (D : DefT K mg "_law_pool" "_law_pool" s_l_pool [] f fd) : FnOk P w K mg base CX0 1 f fd [] spPool := by
  refine D.F.ok sc_l_pool (fun vs H Q E h => ?_) (fun cdv A outer s H vs Q E hr h => ?_)
  · obtain ⟨rfl, _⟩ := h
    rfl
  obtain ⟨rfl, q⟩ := h
  refine ⟨_, (pss_one (ps_ret (pe_lst (pa_cons pe_int (pa_cons pe_int (pa_cons pe_int (pa_cons pe_int pa_nil))))))), ?_⟩
  exact ⟨(by show 4 ≤ sizeLine; decide), fun p hp => q p _ (fun b o e => by rw [upd_ne (ne_of_none e hp)]; exact e) hp ⟨0, 0, 0, 1, by decide, upd_same⟩ fun b n => upd_ne n⟩
/-- an item of a row that is not empty -/
def spOne (K : PySem.W.Frag) : Sp := fun vs H Q _ => ∃ (a p r : Addr) (ns : List Int) (xs : List V), vs = [.ref a, .ref p, .ref r] ∧ Scr K H a p ns ∧ Row K H r p xs ∧ Pool H p ∧ 0 < xs.length ∧ xs.length < 1073741824 ∧
  ∀ (i : Nat) (x : V) (H' : Hp), xs[i]? = some x → Kp p H H' → Q x H'
theorem ok_one {f fD : Addr} {fd fdD : FuncData} (D : DefT K mg "_law_one" "_law_one" s_l_one ["_law_script", "_law_pool_here", "_law_row"] f fd) (Z : Zs mg) (D_l_draw : DefT K mg "_law_draw" "_law_draw" s_l_draw ["_law_script", "_law_pool_here", "_law_limit"] fD fdD) : FnOk P w K mg base CX0 2 f fd ["_law_script", "_law_pool_here", "_law_row"] (spOne K) := by
  have G_l_draw := ok_draw (P := P) (w := w) (base := base) D_l_draw Z
  refine D.F.ok sc_l_one (fun vs H Q E h => ?_) (fun cdv A outer s H vs Q E hr h => ?_)
  · obtain ⟨a, p, r, ns, xs, rfl, _⟩ := h
    rfl
  obtain ⟨a, p, r, ns, xs, rfl, hS, hR, hP, h0, h1, q⟩ := h
  refine ⟨_, (pss_one (ps_ret (pe_ix ix_list (pv 2) (pe_call G_l_draw (hr.mono (by decide)) rfl D_l_draw.m D_l_draw.F.kp D_l_draw.b .nil pass0 (pa_cons (pv 0) (pa_cons (pv 1) (pa_cons (pe_callB call_len_seq (by rfl) Z.len (by decide +kernel) (pa_cons (pv 2) pa_nil)) pa_nil)))) (fun _ _ => rfl)))), ?_⟩
  refine ⟨_, rfl, _, rfl, _, rfl, _, rfl, r, xs, rfl, .inl (hR.seq _ (.refl hP)), a, p, ns, _, rfl, hS, hP, by omega, by omega, fun i H' i0 i1 k => ?_⟩
  have hi : i.toNat < xs.length := by omega
  have e : i = ((i.toNat : Nat) : Int) := by omega
  have hx : xs[i.toNat]? = some xs[i.toNat] := List.getElem?_eq_getElem hi
  refine ⟨r, xs, i, xs[i.toNat], rfl, rfl, hR.seq _ k, ?_, q _ _ _ hx k⟩
  have e2 := atI_nat hx
  rw [← e] at e2
  exact e2
end
end My

namespace My
open PySem L2
abbrev s_l_same : Stmt := top 29
abbrev s_l_value : Stmt := top 30
theorem sc_l_same : FnScope ["_law_told", "_law_due", "_law_k"] ["_law_told", "_law_due"] (defScope s_l_same) := ⟨rfl, rfl, rfl, by decide +kernel, rfl, by decide +kernel, by decide +kernel⟩
theorem sc_l_value : FnScope ["_law_script", "_law_pool_here", "_law_number", "_law_things"] ["_law_script", "_law_pool_here"] (defScope s_l_value) := ⟨rfl, rfl, rfl, by decide +kernel, rfl, by decide +kernel, by decide +kernel⟩
/-! ### data that stand in tracked objects, none of them the pool -/
mutual
def Dt (p : Addr) (H : Hp) : PyData → V → Prop
  | .none, v => v = .non
  | .bool b, v => v = .bl b
  | .int i, v => v = .int i
  | .str s, v => v = .str s
  | .list ds, v => ∃ a xs, v = .ref a ∧ a ≠ p ∧ H a = some (.lst xs) ∧ DtL p H ds xs
  | .tuple ds, v => ∃ a xs, v = .ref a ∧ a ≠ p ∧ H a = some (.tup xs) ∧ DtL p H ds xs
  | .dict _, _ => False
def DtL (p : Addr) (H : Hp) : List PyData → List V → Prop
  | [], xs => xs = []
  | d :: ds, xs => ∃ x r, xs = x :: r ∧ Dt p H d x ∧ DtL p H ds r
end
mutual
theorem Dt.on {p : Addr} {H H' : Hp} (k : ∀ b o, b ≠ p → H b = some o → H' b = some o) : ∀ (d : PyData) (v : V), Dt p H d v → Dt p H' d v
  | .none, _, h => h
  | .bool _, _, h => h
  | .int _, _, h => h
  | .str _, _, h => h
  | .list ds, v, h => by
    obtain ⟨a, xs, e, n, ha, hl⟩ := h
    exact ⟨a, xs, e, n, k _ _ n ha, DtL.on k ds xs hl⟩
  | .tuple ds, v, h => by
    obtain ⟨a, xs, e, n, ha, hl⟩ := h
    exact ⟨a, xs, e, n, k _ _ n ha, DtL.on k ds xs hl⟩
  | .dict _, _, h => h
theorem DtL.on {p : Addr} {H H' : Hp} (k : ∀ b o, b ≠ p → H b = some o → H' b = some o) : ∀ (ds : List PyData) (xs : List V), DtL p H ds xs → DtL p H' ds xs
  | [], _, h => h
  | d :: ds, xs, h => by
    obtain ⟨x, r, e, hx, hr⟩ := h
    exact ⟨x, r, e, Dt.on k d x hx, DtL.on k ds r hr⟩
end
theorem DtL.len {p : Addr} {H : Hp} : ∀ {ds : List PyData} {xs : List V}, DtL p H ds xs → xs.length = ds.length
  | [], xs, h => by
    have e : xs = [] := h
    rw [e]
    rfl
  | d :: ds, _, h => by
    obtain ⟨x, r, rfl, _, hr⟩ := h
    show r.length + 1 = ds.length + 1
    rw [DtL.len hr]
theorem DtL.get {p : Addr} {H : Hp} : ∀ {ds : List PyData} {xs : List V} {i : Nat} {d : PyData}, DtL p H ds xs → ds[i]? = some d → ∃ x, xs[i]? = some x ∧ Dt p H d x
  | [], _, _, _, _, e => by simp at e
  | d :: ds, _, 0, _, h, e => by
    obtain ⟨x, r, rfl, hx, _⟩ := h
    simp at e
    subst e
    exact ⟨x, rfl, hx⟩
  | d :: ds, _, i + 1, _, h, e => by
    obtain ⟨x, r, rfl, _, hr⟩ := h
    obtain ⟨y, h1, h2⟩ := DtL.get (i := i) hr (by simpa using e)
    exact ⟨y, by simpa using h1, h2⟩
/-- no longer than 1000, no deeper than n -/
def okd : Nat → PyData → Prop
  | _, .none => True
  | _, .bool _ => True
  | _, .int _ => True
  | _, .str _ => True
  | n + 1, .list ds => ds.length ≤ 1000 ∧ ∀ d ∈ ds, okd n d
  | n + 1, .tuple ds => ds.length ≤ 1000 ∧ ∀ d ∈ ds, okd n d
  | 0, .list _ => False
  | 0, .tuple _ => False
  | _, .dict _ => False
def spSame (p : Addr) (n : Nat) : Sp := fun vs H Q _ => ∃ (t u : V) (d : PyData), vs = [t, u] ∧ Dt p H d t ∧ Dt p H d u ∧ okd n d ∧ Q (.bl true) H
section
variable {P : Program} {w : World} {K : PySem.W.Frag} {mg : Str → Option Value} {base : Heap}
theorem none_left {f : Addr} {fd : FuncData} {p : Addr} : FnOk P w K mg base CX0 0 f fd ["_law_told", "_law_due"] (fun _ _ _ _ => False) := ⟨fun vs H Q E h => h.elim, fun A outer s H args us vs Q E _ _ _ _ h => h.elim⟩
theorem same_step {f : Addr} {fd : FuncData} {p : Addr} {n : Nat} {sp : Sp} (D_l_same : DefT K mg "_law_same" "_law_same" s_l_same ["_law_told", "_law_due"] f fd) (Z : Zs mg)
    (G_l_same : FnOk P w K mg base CX0 n f fd ["_law_told", "_law_due"] sp) (hsp : ∀ m, n = m + 1 → sp = spSame p m) : FnOk P w K mg base CX0 (n + 1) f fd ["_law_told", "_law_due"] (spSame p n) := by
  refine D_l_same.F.ok sc_l_same (fun vs H Q E h => ?_) (fun cdv A outer s H vs Q E hr h => ?_)
  · obtain ⟨t, u, d, rfl, _⟩ := h
    rfl
  obtain ⟨t, u, d, rfl, ht, hu, hd, q⟩ := h
  refine ⟨_, (pss_cons (ps_if (pt_cmpR op_isN (pv 1) pe_non (nomark _)) (pss_one (ps_ret (pe_cmpR op_isN (pv 0) pe_non (nomark _)))) pss_nil) (pss_cons (ps_if (pt_val (pe_callB call_isi (by rfl) Z.isinstance (by decide +kernel) (pa_cons (pv 1) (pa_cons (pe_bltn (v := .ty "bool") (by rfl) Z.bool (by decide +kernel) rfl) pa_nil)))) (pss_one (ps_ret (pe_and (pe_callB call_isi (by rfl) Z.isinstance (by decide +kernel) (pa_cons (pv 0) (pa_cons (pe_bltn (v := .ty "bool") (by rfl) Z.bool (by decide +kernel) rfl) pa_nil))) (pe_one (pe_cmpR op_eq (pv 0) (pv 1) (nomark _)))))) pss_nil) (pss_cons (ps_if (pt_val (pe_callB call_isi (by rfl) Z.isinstance (by decide +kernel) (pa_cons (pv 1) (pa_cons (pe_bltn (v := .ty "str") (by rfl) Z.str (by decide +kernel) rfl) pa_nil)))) (pss_one (ps_ret (pe_and (pe_callB call_isi (by rfl) Z.isinstance (by decide +kernel) (pa_cons (pv 0) (pa_cons (pe_bltn (v := .ty "str") (by rfl) Z.str (by decide +kernel) rfl) pa_nil))) (pe_one (pe_cmpR op_eq (pv 0) (pv 1) (nomark _)))))) pss_nil) (pss_cons (ps_if (pt_val (pe_callB call_isi (by rfl) Z.isinstance (by decide +kernel) (pa_cons (pv 1) (pa_cons (pe_bltn (v := .ty "int") (by rfl) Z.int (by decide +kernel) rfl) pa_nil)))) (pss_one (ps_ret (pe_and (pe_callB call_isi (by rfl) Z.isinstance (by decide +kernel) (pa_cons (pv 0) (pa_cons (pe_bltn (v := .ty "int") (by rfl) Z.int (by decide +kernel) rfl) pa_nil))) (pe_and (pe_not (pe_callB call_isi (by rfl) Z.isinstance (by decide +kernel) (pa_cons (pv 0) (pa_cons (pe_bltn (v := .ty "bool") (by rfl) Z.bool (by decide +kernel) rfl) pa_nil)))) (pe_one (pe_cmpR op_eq (pv 0) (pv 1) (nomark _))))))) pss_nil) (pss_cons (ps_if (PW.pt (pw_or (PW.pt (pw_and (pt_val (pe_callB call_isi (by rfl) Z.isinstance (by decide +kernel) (pa_cons (pv 1) (pa_cons (pe_bltn (v := .ty "tuple") (by rfl) Z.tuple (by decide +kernel) rfl) pa_nil)))) (pw_and1 (pt_not (pt_val (pe_callB call_isi (by rfl) Z.isinstance (by decide +kernel) (pa_cons (pv 0) (pa_cons (pe_bltn (v := .ty "tuple") (by rfl) Z.tuple (by decide +kernel) rfl) pa_nil)))))))) (pw_or1 (PW.pt (pw_and (pt_val (pe_callB call_isi (by rfl) Z.isinstance (by decide +kernel) (pa_cons (pv 1) (pa_cons (pe_bltn (v := .ty "list") (by rfl) Z.list (by decide +kernel) rfl) pa_nil)))) (pw_and1 (pt_not (pt_val (pe_callB call_isi (by rfl) Z.isinstance (by decide +kernel) (pa_cons (pv 0) (pa_cons (pe_bltn (v := .ty "list") (by rfl) Z.list (by decide +kernel) rfl) pa_nil))))))))))) (pss_one (ps_ret pe_bl)) pss_nil) (pss_cons (ps_if (pt_cmpR op_ne (pe_callB call_len_seq (by rfl) Z.len (by decide +kernel) (pa_cons (pv 0) pa_nil)) (pe_callB call_len_seq (by rfl) Z.len (by decide +kernel) (pa_cons (pv 1) pa_nil)) (nomark _)) (pss_one (ps_ret pe_bl)) pss_nil) (pss_cons (ps_for PassesOwn.never rfl (pi_range1 rfl Z.range (pa_cons (pe_callB call_len_seq (by rfl) Z.len (by decide +kernel) (pa_cons (pv 1) pa_nil)) pa_nil)) (pg_name (i := 2) sc_l_same.nd rfl (Or.inl rfl)) (pss_one (ps_if (pt_not (pt_val (pe_call G_l_same hr rfl D_l_same.m D_l_same.F.kp D_l_same.b .nil pass0 (pa_cons (pe_ix ix_seq (pv 0) (pv 2) (fun _ _ => rfl)) (pa_cons (pe_ix ix_seq (pv 1) (pv 2) (fun _ _ => rfl)) pa_nil))))) (pss_one (ps_ret pe_bl)) pss_nil))) (pss_one (ps_ret pe_bl))))))))), ?_⟩
  cases d with
  | none =>
    have et : t = .non := ht
    have eu : u = .non := hu
    subst et eu
    refine ⟨_, rfl, rfl, _, rfl, iteT ?_⟩
    exact ⟨_, rfl, rfl, q⟩
  | bool b =>
    have et : t = .bl b := ht
    have eu : u = .bl b := hu
    subst et eu
    refine ⟨_, rfl, rfl, _, rfl, iteF ?_⟩
    have ty : TyX K H (.bl b) (.type "bool") := .base (.bl b)
    refine ⟨_, rfl, _, _, _, _, _, rfl, .ty _, ty, kit_ty (r := true) (by decide +kernel), _, rfl, iteT ?_⟩
    refine ⟨_, rfl, _, _, _, _, _, rfl, .ty _, ty, kit_ty (r := true) (by decide +kernel), _, rfl, iteT ?_⟩
    refine ⟨_, rfl, _, rfl, rfl, ?_⟩
    rw [decide_eq_true rfl]
    exact q
  | str x =>
    have et : t = .str x := ht
    have eu : u = .str x := hu
    subst et eu
    refine ⟨_, rfl, rfl, _, rfl, iteF ?_⟩
    have ty : TyX K H (.str x) (.type "str") := .base (.str x)
    refine ⟨_, rfl, _, _, _, _, _, rfl, .ty _, ty, kit_ty (r := false) (by decide +kernel), _, rfl, iteF ?_⟩
    refine ⟨_, rfl, _, _, _, _, _, rfl, .ty _, ty, kit_ty (r := true) (by decide +kernel), _, rfl, iteT ?_⟩
    refine ⟨_, rfl, _, _, _, _, _, rfl, .ty _, ty, kit_ty (r := true) (by decide +kernel), _, rfl, iteT ?_⟩
    refine ⟨_, rfl, _, rfl, rfl, ?_⟩
    rw [decide_eq_true rfl]
    exact q
  | int i =>
    have et : t = .int i := ht
    have eu : u = .int i := hu
    subst et eu
    refine ⟨_, rfl, rfl, _, rfl, iteF ?_⟩
    have ty : TyX K H (.int i) (.type "int") := .base (.int i)
    refine ⟨_, rfl, _, _, _, _, _, rfl, .ty _, ty, kit_ty (r := false) (by decide +kernel), _, rfl, iteF ?_⟩
    refine ⟨_, rfl, _, _, _, _, _, rfl, .ty _, ty, kit_ty (r := false) (by decide +kernel), _, rfl, iteF ?_⟩
    refine ⟨_, rfl, _, _, _, _, _, rfl, .ty _, ty, kit_ty (r := true) (by decide +kernel), _, rfl, iteT ?_⟩
    refine ⟨_, rfl, _, _, _, _, _, rfl, .ty _, ty, kit_ty (r := true) (by decide +kernel), _, rfl, iteT ?_⟩
    refine ⟨_, rfl, _, _, _, _, _, rfl, .ty _, ty, kit_ty (r := false) (by decide +kernel), _, rfl, _, rfl, iteT ?_⟩
    refine ⟨_, rfl, _, rfl, rfl, ?_⟩
    rw [decide_eq_true rfl]
    exact q
  | list ds =>
    obtain ⟨a, xs, rfl, na, ha, hl⟩ := ht
    obtain ⟨b, ys, rfl, nb, hb, gl⟩ := hu
    refine ⟨_, rfl, rfl, _, rfl, iteF ?_⟩
    have ty : TyX K H (.ref a) (.type "list") := .base (.lst ha)
    have tz : TyX K H (.ref b) (.type "list") := .base (.lst hb)
    refine ⟨_, rfl, _, _, _, _, _, rfl, .ty _, tz, kit_ty (r := false) (by decide +kernel), _, rfl, iteF ?_⟩
    refine ⟨_, rfl, _, _, _, _, _, rfl, .ty _, tz, kit_ty (r := false) (by decide +kernel), _, rfl, iteF ?_⟩
    refine ⟨_, rfl, _, _, _, _, _, rfl, .ty _, tz, kit_ty (r := false) (by decide +kernel), _, rfl, iteF ?_⟩
    refine ⟨_, rfl, _, _, _, _, _, rfl, .ty _, tz, kit_ty (r := false) (by decide +kernel), _, rfl, iteF (iteF ?_)⟩
    refine ⟨_, rfl, _, _, _, _, _, rfl, .ty _, tz, kit_ty (r := true) (by decide +kernel), _, rfl, iteT ?_⟩
    refine ⟨_, rfl, _, _, _, _, _, rfl, .ty _, ty, kit_ty (r := true) (by decide +kernel), _, rfl, iteF ?_⟩
    cases n with
    | zero => exact hd.elim
    | succ n =>
      have hsp' := hsp n rfl
      subst hsp'
      obtain ⟨hd1, hd2⟩ := hd
      have lx := hl.len
      have ly := gl.len
      have l0 : ¬ (V.int ((xs.length : Nat) : Int) ≠ V.int ((ys.length : Nat) : Int)) := fun z => z (by rw [lx, ly])
      -- if len(told) != len(due)
      refine ⟨_, rfl, a, xs, rfl, .inl (SqL.of ha), _, rfl, b, ys, rfl, .inl (SqL.of hb), rfl, _, rfl, ?_⟩
      rw [lx, ly]
      refine iteNS rfl ?_
      -- for k in range(len(due))
      refine ⟨_, rfl, b, ys, rfl, .inl (SqL.of hb), _, rfl, by omega, by omega, ?_⟩
      have en : ((ys.length : Nat) : Int).toNat = ys.length := by omega
      rw [en]
      refine for_range (fun i σ H' => i ≤ ys.length ∧ H' = H ∧ ∃ v, σ = [some (.ref a), some (.ref b), v]) ⟨Nat.zero_le _, rfl, none, rfl⟩ ?_ ?_
      · rintro i σ H' hi ⟨_, rfl, v, rfl⟩
        have hi2 : i < ds.length := by omega
        obtain ⟨x, hx, dx⟩ := hl.get (List.getElem?_eq_getElem hi2)
        obtain ⟨y, hy, dy⟩ := gl.get (List.getElem?_eq_getElem hi2)
        have e : (0 : Int) + (i : Int) = ((i : Nat) : Int) := by omega
        rw [e]
        refine ⟨_, rfl, _, rfl, .inl ⟨a, xs, _, x, rfl, rfl, SqL.of ha, atI_nat hx, _, rfl, _, rfl, .inl ⟨b, ys, _, y, rfl, rfl, SqL.of hb, atI_nat hy, ?_⟩⟩⟩
        refine ⟨x, y, ds[i], rfl, dx, dy, hd2 _ (List.getElem_mem hi2), _, rfl, iteF ?_⟩
        exact ⟨hi, rfl, _, rfl⟩
      · rintro σ H' ⟨_, rfl, v, rfl⟩
        exact q
  | tuple ds =>
    obtain ⟨a, xs, rfl, na, ha, hl⟩ := ht
    obtain ⟨b, ys, rfl, nb, hb, gl⟩ := hu
    refine ⟨_, rfl, rfl, _, rfl, iteF ?_⟩
    have ty : TyX K H (.ref a) (.type "tuple") := .base (.tup ha)
    have tz : TyX K H (.ref b) (.type "tuple") := .base (.tup hb)
    refine ⟨_, rfl, _, _, _, _, _, rfl, .ty _, tz, kit_ty (r := false) (by decide +kernel), _, rfl, iteF ?_⟩
    refine ⟨_, rfl, _, _, _, _, _, rfl, .ty _, tz, kit_ty (r := false) (by decide +kernel), _, rfl, iteF ?_⟩
    refine ⟨_, rfl, _, _, _, _, _, rfl, .ty _, tz, kit_ty (r := false) (by decide +kernel), _, rfl, iteF ?_⟩
    refine ⟨_, rfl, _, _, _, _, _, rfl, .ty _, tz, kit_ty (r := true) (by decide +kernel), _, rfl, iteT ?_⟩
    refine ⟨_, rfl, _, _, _, _, _, rfl, .ty _, ty, kit_ty (r := true) (by decide +kernel), _, rfl, iteF ?_⟩
    refine ⟨_, rfl, _, _, _, _, _, rfl, .ty _, tz, kit_ty (r := false) (by decide +kernel), _, rfl, iteF (iteF ?_)⟩
    cases n with
    | zero => exact hd.elim
    | succ n =>
      have hsp' := hsp n rfl
      subst hsp'
      obtain ⟨hd1, hd2⟩ := hd
      have lx := hl.len
      have ly := gl.len
      have l0 : ¬ (V.int ((xs.length : Nat) : Int) ≠ V.int ((ys.length : Nat) : Int)) := fun z => z (by rw [lx, ly])
      -- if len(told) != len(due)
      refine ⟨_, rfl, a, xs, rfl, .inr (SqT.of ha), _, rfl, b, ys, rfl, .inr (SqT.of hb), rfl, _, rfl, ?_⟩
      rw [lx, ly]
      refine iteNS rfl ?_
      -- for k in range(len(due))
      refine ⟨_, rfl, b, ys, rfl, .inr (SqT.of hb), _, rfl, by omega, by omega, ?_⟩
      have en : ((ys.length : Nat) : Int).toNat = ys.length := by omega
      rw [en]
      refine for_range (fun i σ H' => i ≤ ys.length ∧ H' = H ∧ ∃ v, σ = [some (.ref a), some (.ref b), v]) ⟨Nat.zero_le _, rfl, none, rfl⟩ ?_ ?_
      · rintro i σ H' hi ⟨_, rfl, v, rfl⟩
        have hi2 : i < ds.length := by omega
        obtain ⟨x, hx, dx⟩ := hl.get (List.getElem?_eq_getElem hi2)
        obtain ⟨y, hy, dy⟩ := gl.get (List.getElem?_eq_getElem hi2)
        have e : (0 : Int) + (i : Int) = ((i : Nat) : Int) := by omega
        rw [e]
        refine ⟨_, rfl, _, rfl, .inr (.inl ⟨a, xs, _, x, rfl, rfl, SqT.of ha, atI_nat hx, _, rfl, _, rfl, .inr (.inl ⟨b, ys, _, y, rfl, rfl, SqT.of hb, atI_nat hy, ?_⟩)⟩)⟩
        refine ⟨x, y, ds[i], rfl, dx, dy, hd2 _ (List.getElem_mem hi2), _, rfl, iteF ?_⟩
        exact ⟨hi, rfl, _, rfl⟩
      · rintro σ H' ⟨_, rfl, v, rfl⟩
        exact q
  | dict _ => exact ht.elim
theorem ok_same {f : Addr} {fd : FuncData} (D : DefT K mg "_law_same" "_law_same" s_l_same ["_law_told", "_law_due"] f fd) (Z : Zs mg) (p : Addr) : ∀ n : Nat, FnOk P w K mg base CX0 (n + 1) f fd ["_law_told", "_law_due"] (spSame p n)
  | 0 => same_step D Z (none_left (p := p)) fun m h => by omega
  | n + 1 => same_step D Z (ok_same D Z p n) fun m h => by
    have e : n = m := by omega
    rw [e]
theorem sz (n : Nat) (h : n ≤ 1000 := by decide) : n ≤ sizeLine := Nat.le_of_lt (small1000 h)
theorem keep_new {H : Hp} {q : Addr} {o : HO} (h : H q = none) (b : Addr) (u : HO) (e : H b = some u) : upd H q o b = some u := by
  rw [upd_ne (ne_of_none e h)]
  exact e
theorem Kp.ne {p q : Addr} {H H' : Hp} (k : Kp p H H') (h : H' q = none) : q ≠ p := by
  obtain ⟨_, _, _, _, _, e⟩ := k.pool
  exact (ne_of_none e h).symm
/-- a value of a drawn kind -/
def spValue (K : PySem.W.Frag) : Sp := fun vs H Q _ => ∃ (a p : Addr) (ns : List Int), vs = [.ref a, .ref p] ∧ Scr K H a p ns ∧ Pool H p ∧ ∀ (v : V) (d : PyData) (H' : Hp), Kp p H H' → Dt p H' d v → okd 1 d → Q v H'
theorem ok_value {f fD fO : Addr} {fd fdD fdO : FuncData} (D : DefT K mg "_law_value" "_law_value" s_l_value ["_law_script", "_law_pool_here"] f fd) (Z : Zs mg) (D_l_draw : DefT K mg "_law_draw" "_law_draw" s_l_draw ["_law_script", "_law_pool_here", "_law_limit"] fD fdD)
    (D_l_one : DefT K mg "_law_one" "_law_one" s_l_one ["_law_script", "_law_pool_here", "_law_row"] fO fdO) : FnOk P w K mg base CX0 3 f fd ["_law_script", "_law_pool_here"] (spValue K) := by
  have G_l_draw := ok_draw (P := P) (w := w) (base := base) D_l_draw Z
  have G_l_one := ok_one (P := P) (w := w) (base := base) D_l_one Z D_l_draw
  refine D.F.ok sc_l_value (fun vs H Q E h => ?_) (fun cdv A outer s H vs Q E hr h => ?_)
  · obtain ⟨a, p, ns, rfl, _⟩ := h
    rfl
  obtain ⟨a, p, ns, rfl, hS, hP, q⟩ := h
  refine ⟨_, (pss_cons (ps_set (i := 2) sc_l_value.nd rfl (Or.inl rfl) (pe_op op_sub (pe_call G_l_draw (hr.mono (by decide)) rfl D_l_draw.m D_l_draw.F.kp D_l_draw.b .nil pass0 (pa_cons (pv 0) (pa_cons (pv 1) (pa_cons pe_int pa_nil)))) pe_int)) (pss_cons (ps_set (i := 3) sc_l_value.nd rfl (Or.inl rfl) (pe_lst (pa_cons pe_non (pa_cons pe_bl (pa_cons pe_bl (pa_cons pe_int (pa_cons pe_int (pa_cons (pv 2) (pa_cons (pe_op op_add (pe_op op_mul (pv 2) (pe_op op_pow pe_int pe_int)) pe_int) (pa_cons pe_str (pa_cons pe_str (pa_cons pe_str (pa_cons (pe_lst pa_nil) (pa_cons (pe_lst (pa_cons (pv 2) pa_nil)) (pa_cons (pe_tup pa_nil) (pa_cons (pe_tup (pa_cons pe_non (pa_cons pe_str pa_nil))) pa_nil)))))))))))))))) (pss_one (ps_ret (pe_call G_l_one (hr.mono (by decide)) rfl D_l_one.m D_l_one.F.kp D_l_one.b .nil pass0 (pa_cons (pv 0) (pa_cons (pv 1) (pa_cons (pv 3) pa_nil)))))))), ?_⟩
  refine ⟨_, rfl, _, rfl, a, p, ns, _, rfl, hS, hP, by decide, by decide, fun r H1 r0 r1 k1 => ?_⟩
  refine ⟨_, _, rfl, rfl, ?_⟩
  refine ⟨_, rfl, _, rfl, _, _, rfl, rfl, ⟨by decide, by decide, by decide⟩, _, _, rfl, rfl, .inl ⟨by omega, by omega⟩, _, _, rfl, rfl, ?_⟩
  refine ⟨by decide, fun l1 h1 => ?_⟩
  refine ⟨_, rfl, sz 1, fun l2 h2 => ?_⟩
  refine ⟨by decide, fun l3 h3 => ?_⟩
  refine ⟨by decide, fun l4 h4 => ?_⟩
  refine ⟨sz 14, fun l5 h5 => ?_⟩
  have k5 := (((k1.new (o := .lst []) h1).new h2).new h3).new (o := .tup [.non, .str "x"]) h4
  have k6 := fun o => k5.new (o := o) h5
  refine ⟨_, rfl, _, rfl, _, rfl, a, p, l5, ns, _, rfl, hS.on (k6 _), .of upd_same (k5.ne h5), (k6 _).pool, (by show 0 < 14; decide), (by show 14 < 1073741824; decide), fun i x H' hx k7 => ?_⟩
  have c1 := (k1.ne h1)
  have c2 := ((k1.new (o := .lst []) h1).ne h2)
  have c3 := (((k1.new (o := .lst []) h1).new h2).ne h3)
  have c4 := ((((k1.new (o := .lst []) h1).new h2).new h3).ne h4)
  have fin : ∀ d, Dt p _ d x → okd 1 d → Q x H' := fun d hd ho => q x d H' ((k6 _).trans k7) (Dt.on k7.keep d x hd) ho
  have hm := List.mem_of_getElem? hx
  simp only [List.mem_cons, List.not_mem_nil, or_false] at hm
  rcases hm with e | e | e | e | e | e | e | e | e | e | e | e | e | e
  · exact fin .none e trivial
  · exact fin (.bool _) e trivial
  · exact fin (.bool _) e trivial
  · exact fin (.int _) e trivial
  · exact fin (.int _) e trivial
  · exact fin (.int _) e trivial
  · exact fin (.int _) e trivial
  · exact fin (.str _) e trivial
  · exact fin (.str _) e trivial
  · exact fin (.str _) e trivial
  · exact fin (.list []) ⟨l1, _, e, c1, keep_new h5 _ _ (keep_new h4 _ _ (keep_new h3 _ _ (keep_new h2 _ _ upd_same))), rfl⟩ ⟨by decide, fun d hd => by cases hd⟩
  · exact fin (.list [.int _]) ⟨l2, _, e, c2, keep_new h5 _ _ (keep_new h4 _ _ (keep_new h3 _ _ upd_same)), _, _, rfl, rfl, rfl⟩ ⟨(by show 1 ≤ 1000; decide), fun d hd => by
      cases hd with
      | head => trivial
      | tail _ h => cases h⟩
  · exact fin (.tuple []) ⟨l3, _, e, c3, keep_new h5 _ _ (keep_new h4 _ _ upd_same), rfl⟩ ⟨by decide, fun d hd => by cases hd⟩
  · exact fin (.tuple [.none, .str _]) ⟨l4, _, e, c4, keep_new h5 _ _ upd_same, _, _, rfl, rfl, _, _, rfl, rfl, rfl⟩ ⟨by decide, fun d hd => by
      cases hd with
      | head => trivial
      | tail _ h =>
        cases h with
        | head => trivial
        | tail _ h => cases h⟩
end
end My

namespace My
open PySem L2
abbrev s_NoBook__init_ : Stmt := inClass (top 19) 0
abbrev s_NoRun__init_ : Stmt := inClass (top 20) 0
abbrev s_NoFamily__init_ : Stmt := inClass (top 21) 0
abbrev s_NoText__init_ : Stmt := inClass (top 22) 0
abbrev s_TooMany__init_ : Stmt := inClass (top 23) 0
theorem sc_NoBook__init_ : FnScope ["self", "part", "index"] ["self", "part", "index"] (defScope s_NoBook__init_) := ⟨rfl, rfl, rfl, by decide +kernel, rfl, by decide +kernel, by decide +kernel⟩
theorem sc_NoRun__init_ : FnScope ["self", "index"] ["self", "index"] (defScope s_NoRun__init_) := ⟨rfl, rfl, rfl, by decide +kernel, rfl, by decide +kernel, by decide +kernel⟩
theorem sc_NoFamily__init_ : FnScope ["self", "index"] ["self", "index"] (defScope s_NoFamily__init_) := ⟨rfl, rfl, rfl, by decide +kernel, rfl, by decide +kernel, by decide +kernel⟩
theorem sc_NoText__init_ : FnScope ["self", "line"] ["self", "line"] (defScope s_NoText__init_) := ⟨rfl, rfl, rfl, by decide +kernel, rfl, by decide +kernel, by decide +kernel⟩
theorem sc_TooMany__init_ : FnScope ["self", "most"] ["self", "most"] (defScope s_TooMany__init_) := ⟨rfl, rfl, rfl, by decide +kernel, rfl, by decide +kernel, by decide +kernel⟩
/-! ### an error without fields, made by a call without arguments -/
theorem pmk_bare {X : Cx} {C : Addr} {bmB : List Value} {B newId initId : String} {x : Str} {p pos : Pos} (F : ExcBaseFacts B newId initId bmB) (q : PySem.W.excIn X.K C bmB newId = true) (gC : X.mg x = some (.ref C))
    (kC : PySem.W.keepIn X.K (.ref C) = true) (r : Raises X (.ref C)) (hg : Gl X x) (hdb : (x == ("__debug__" : Str)) = false := by decide) : PMk X (.Call (.Name x p) [] [] pos) (fun _ H Q => Q (.ref C) none H) := by
  intro pins s σ H Q I h
  obtain ⟨_, _, _, _, _, _, _, _, _, _, _, _, _, _, _, _, _, hC, hN, hni, T⟩ := exc_obj I.kIn q
  exact wpAny_Call_Name_kw (ld_glob I hg gC (PySem.W.callWith_K0 I.kIn kC (wpAny_call_exc_subT F T hC hN hni (fun h' e hm => mk_of I hm r h (I.hok.gone hm.new)) (Nat.zero_le _))) hdb)
/-- what the written part says of a class without fields -/
structure PlX (K : PySem.W.Frag) (mg : Str → Option Value) (x : Str) (C : Addr) : Prop where
  g : mg x = some (.ref C)
  e : PySem.W.excIn K C [.type "ValueError", .type "Exception", .type "BaseException", .type "object"] "ValueError.__new__" = true
  k : PySem.W.keepIn K (.ref C) = true
  s : PySem.W.subIn K (.ref C) (.type "BaseException") = some true
  t : PySem.W.typeIn K (.ref C) = some (.type "type")
theorem pmk_pl {X : Cx} {C : Addr} {x : Str} {p pos : Pos} (T : PlX X.K X.mg x C) (hg : Gl X x) (hdb : (x == ("__debug__" : Str)) = false := by decide) : PMk X (.Call (.Name x p) [] [] pos) (fun _ H Q => Q (.ref C) none H) :=
  pmk_bare PySem.F.excBase_ValueError T.e T.g T.k (raises_own T.s T.t) hg hdb
/-- what the written part says of a class with fields -/
structure FlX (K : PySem.W.Frag) (mg : Str → Option Value) (x qual : Str) (st : Stmt) (ps : List Str) (C fI : Addr) (fdI : FuncData) : Prop where
  g : mg x = some (.ref C)
  o : OexC K C
  i : PySem.W.findIn K (.ref C) "__init__" = some (some (.ref fI))
  ti : PySem.W.typeIn K (.ref fI) = some (.type "function")
  F : Fun K "__init__" qual st fI fdI
  b : Binds K fdI ps []
def spI1 (K : PySem.W.Frag) (C : Addr) (f : Str) : Sp := fun vs H Q _ => ∃ (a : Addr) (v : V), vs = [.ref a, v] ∧ OexC K C ∧ PySem.W.findIn K (.ref C) f = some none ∧ H a = some (exo a C none) ∧
  ∀ dx, H dx = none → dx ≠ a → Q .non (upd (upd H dx (exd dx [(f, v)])) a (exo a C (some dx)))
def spI2 (K : PySem.W.Frag) (C : Addr) (f g : Str) : Sp := fun vs H Q _ => ∃ (a : Addr) (v u : V), vs = [.ref a, v, u] ∧ OexC K C ∧ PySem.W.findIn K (.ref C) f = some none ∧ PySem.W.findIn K (.ref C) g = some none ∧ H a = some (exo a C none) ∧
  ∀ dx, H dx = none → dx ≠ a → Q .non (upd (upd (upd H dx (exd dx [(f, v)])) a (exo a C (some dx))) dx (exd dx [(g, u), (f, v)]))
section
variable {P : Program} {w : World} {K : PySem.W.Frag} {mg : Str → Option Value} {base : Heap}
theorem ok_NoBook {C f : Addr} {fd : FuncData} (F : Fun K "__init__" "NoBook.__init__" s_NoBook__init_ f fd) : FnOk P w K mg base CX0 1 f fd ["self", "part", "index"] (spI2 K C "part" "index") := by
  refine F.ok sc_NoBook__init_ (fun vs H Q E h => ?_) (fun cdv A outer s H vs Q E hr h => ?_)
  · obtain ⟨a, v, u, rfl, _⟩ := h
    rfl
  obtain ⟨a, v, u, rfl, T, hf, hg, ha, q⟩ := h
  refine ⟨_, (pss_cons (ps_ost (pv 0) (pv 1)) (pss_one (ps_ost (pv 0) (pv 2)))), ?_⟩
  refine ⟨_, rfl, _, rfl, a, C, rfl, T, hf, .inl ⟨ha, fun dx hdx ne => ?_⟩⟩
  refine ⟨_, rfl, _, rfl, a, C, rfl, T, hg, .inr ⟨dx, _, upd_same, (by rw [upd_ne ne]; exact upd_same), (by show 1 ≤ 900; decide), ?_⟩⟩
  exact q dx hdx ne
theorem ok_NoRun {C f : Addr} {fd : FuncData} (F : Fun K "__init__" "NoRun.__init__" s_NoRun__init_ f fd) : FnOk P w K mg base CX0 1 f fd ["self", "index"] (spI1 K C "index") := by
  refine F.ok sc_NoRun__init_ (fun vs H Q E h => ?_) (fun cdv A outer s H vs Q E hr h => ?_)
  · obtain ⟨a, v, rfl, _⟩ := h
    rfl
  obtain ⟨a, v, rfl, T, hf, ha, q⟩ := h
  refine ⟨_, (pss_one (ps_ost (pv 0) (pv 1))), ?_⟩
  exact ⟨_, rfl, _, rfl, a, C, rfl, T, hf, .inl ⟨ha, fun dx hdx ne => q dx hdx ne⟩⟩
theorem ok_NoFamily {C f : Addr} {fd : FuncData} (F : Fun K "__init__" "NoFamily.__init__" s_NoFamily__init_ f fd) : FnOk P w K mg base CX0 1 f fd ["self", "index"] (spI1 K C "index") := by
  refine F.ok sc_NoFamily__init_ (fun vs H Q E h => ?_) (fun cdv A outer s H vs Q E hr h => ?_)
  · obtain ⟨a, v, rfl, _⟩ := h
    rfl
  obtain ⟨a, v, rfl, T, hf, ha, q⟩ := h
  refine ⟨_, (pss_one (ps_ost (pv 0) (pv 1))), ?_⟩
  exact ⟨_, rfl, _, rfl, a, C, rfl, T, hf, .inl ⟨ha, fun dx hdx ne => q dx hdx ne⟩⟩
theorem ok_NoText {C f : Addr} {fd : FuncData} (F : Fun K "__init__" "NoText.__init__" s_NoText__init_ f fd) : FnOk P w K mg base CX0 1 f fd ["self", "line"] (spI1 K C "line") := by
  refine F.ok sc_NoText__init_ (fun vs H Q E h => ?_) (fun cdv A outer s H vs Q E hr h => ?_)
  · obtain ⟨a, v, rfl, _⟩ := h
    rfl
  obtain ⟨a, v, rfl, T, hf, ha, q⟩ := h
  refine ⟨_, (pss_one (ps_ost (pv 0) (pv 1))), ?_⟩
  exact ⟨_, rfl, _, rfl, a, C, rfl, T, hf, .inl ⟨ha, fun dx hdx ne => q dx hdx ne⟩⟩
theorem ok_TooMany {C f : Addr} {fd : FuncData} (F : Fun K "__init__" "TooMany.__init__" s_TooMany__init_ f fd) : FnOk P w K mg base CX0 1 f fd ["self", "most"] (spI1 K C "most") := by
  refine F.ok sc_TooMany__init_ (fun vs H Q E h => ?_) (fun cdv A outer s H vs Q E hr h => ?_)
  · obtain ⟨a, v, rfl, _⟩ := h
    rfl
  obtain ⟨a, v, rfl, T, hf, ha, q⟩ := h
  refine ⟨_, (pss_one (ps_ost (pv 0) (pv 1))), ?_⟩
  exact ⟨_, rfl, _, rfl, a, C, rfl, T, hf, .inl ⟨ha, fun dx hdx ne => q dx hdx ne⟩⟩
end
end My

namespace My
open PySem L2
abbrev s_l_raised : Stmt := top 31
theorem sc_l_raised : FnScope ["_law_k", "_law_one_here", "_law_two"] ["_law_k", "_law_one_here", "_law_two"] (defScope s_l_raised) := ⟨rfl, rfl, rfl, by decide +kernel, rfl, by decide +kernel, by decide +kernel⟩
/-- what the top says of the errors: class k stands at C k -/
structure Errs (K : PySem.W.Frag) (mg : Str → Option Value) (C fI : Nat → Addr) (fdI : Nat → FuncData) : Prop where
  x0 : FlX K mg "NoBook" "NoBook.__init__" s_NoBook__init_ ["self", "part", "index"] (C 0) (fI 0) (fdI 0)
  n0part : PySem.W.findIn K (.ref (C 0)) "part" = some none
  n0index : PySem.W.findIn K (.ref (C 0)) "index" = some none
  x1 : FlX K mg "NoRun" "NoRun.__init__" s_NoRun__init_ ["self", "index"] (C 1) (fI 1) (fdI 1)
  n1index : PySem.W.findIn K (.ref (C 1)) "index" = some none
  x2 : FlX K mg "NoFamily" "NoFamily.__init__" s_NoFamily__init_ ["self", "index"] (C 2) (fI 2) (fdI 2)
  n2index : PySem.W.findIn K (.ref (C 2)) "index" = some none
  x3 : FlX K mg "NoText" "NoText.__init__" s_NoText__init_ ["self", "line"] (C 3) (fI 3) (fdI 3)
  n3line : PySem.W.findIn K (.ref (C 3)) "line" = some none
  x4 : FlX K mg "TooMany" "TooMany.__init__" s_TooMany__init_ ["self", "most"] (C 4) (fI 4) (fdI 4)
  n4most : PySem.W.findIn K (.ref (C 4)) "most" = some none
  x5 : PlX K mg "NoMany" (C 5)
  x6 : PlX K mg "NoStep" (C 6)
  x7 : PlX K mg "NoKinds" (C 7)
  x8 : PlX K mg "NoMost" (C 8)
  x9 : PlX K mg "NoViews" (C 9)
  x10 : PlX K mg "Undecided" (C 10)
  x11 : PlX K mg "NoCache" (C 11)
  x12 : PlX K mg "NoPick" (C 12)
  x13 : PlX K mg "NoLines" (C 13)
  x14 : PlX K mg "NoLine" (C 14)
  x15 : PlX K mg "NoValue" (C 15)
  x16 : PlX K mg "NoBack" (C 16)
  x17 : PlX K mg "NoIndex" (C 17)
  x18 : PlX K mg "NoRest" (C 18)
  x19 : PlX K mg "NoPair" (C 19)
  x20 : PlX K mg "NotRight" (C 20)
  x21 : PlX K mg "NoBag" (C 21)
/-- the fields of an error of kind k that was made with v and u -/
def flds (k : Nat) (v u : V) : List (Str × V) := match k with
  | 0 => [("index", u), ("part", v)]
  | 1 => [("index", v)]
  | 2 => [("index", v)]
  | 3 => [("line", v)]
  | 4 => [("most", v)]
  | _ => []
def spRaised (C : Nat → Addr) : Sp := fun vs H _ E => ∃ (k : Nat) (v u : V), vs = [.int (k : Int), v, u] ∧ k < 22 ∧
  ∀ (d : Option Addr) (H' : Hp), Same H H' → (k < 5 → ∃ x, d = some x ∧ H' x = some (.xd (flds k v u))) → (5 ≤ k → d = none) → E (.ref (C k)) d H'
section
variable {P : Program} {w : World} {K : PySem.W.Frag} {mg : Str → Option Value} {base : Heap} {C fI : Nat → Addr} {fdI : Nat → FuncData}
theorem same_upd {H : Hp} {a : Addr} {o : HO} (h : H a = none) : Same H (upd H a o) := fun b u e => by
  rw [upd_ne (ne_of_none e h)]
  exact e
/-- the heap behind the making of an error: only its own dict is there besides -/
theorem same_made {H : Hp} {a d : Addr} {o1 o2 : HO} {fs : List (Str × V)} (ha : H a = none) (hd : H d = none) (ne : d ≠ a) : Same H (upd (del (upd (upd (upd H a o1) d o2) a o2) a) d (.xd fs)) := fun b u e => by
  have nb : b ≠ d := ne_of_none e hd
  have na : b ≠ a := ne_of_none e ha
  rw [upd_ne nb, del_ne na, upd_ne na, upd_ne nb, upd_ne na]
  exact e
theorem eqT {k : Nat} {j : Int} (c : decide (V.int (k : Int) = V.int j) = true) : (k : Int) = j := V.int.inj (of_decide_eq_true c)
theorem eqF {k : Nat} {j : Int} (c : ¬ decide (V.int (k : Int) = V.int j) = true) : (k : Int) ≠ j := fun e => c (decide_eq_true (by rw [e]))
theorem ok_raised {f : Addr} {fd : FuncData} (D : DefT K mg "_law_raised" "_law_raised" s_l_raised ["_law_k", "_law_one_here", "_law_two"] f fd) (Er : Errs K mg C fI fdI) : FnOk P w K mg base (L2.CX P w) 3 f fd ["_law_k", "_law_one_here", "_law_two"] (spRaised C) := by
  refine D.F.okX sc_l_raised (fun vs H Q E h => ?_) (fun cdv A outer s H vs Q E hr h => ?_)
  · obtain ⟨k, v, u, rfl, _⟩ := h
    rfl
  obtain ⟨k, v, u, rfl, hk, q⟩ := h
  refine ⟨_, (pss_cons (ps_if (pt_cmpR op_eq (pv 0) pe_int (nomark _)) (pss_one (ps_raise (W := fun cls d _ H => E cls d H) rfl (takes_of rfl rfl rfl rfl) (pmk_oex Er.x0.o Er.x0.i Er.x0.ti (ok_NoBook (C := C 0) Er.x0.F) hr Er.x0.b .nil pass0 rfl Er.x0.g (pa_cons (pv 1) (pa_cons (pv 2) pa_nil))))) pss_nil) (pss_cons (ps_if (pt_cmpR op_eq (pv 0) pe_int (nomark _)) (pss_one (ps_raise (W := fun cls d _ H => E cls d H) rfl (takes_of rfl rfl rfl rfl) (pmk_oex Er.x1.o Er.x1.i Er.x1.ti (ok_NoRun (C := C 1) Er.x1.F) hr Er.x1.b .nil pass0 rfl Er.x1.g (pa_cons (pv 1) pa_nil)))) pss_nil) (pss_cons (ps_if (pt_cmpR op_eq (pv 0) pe_int (nomark _)) (pss_one (ps_raise (W := fun cls d _ H => E cls d H) rfl (takes_of rfl rfl rfl rfl) (pmk_oex Er.x2.o Er.x2.i Er.x2.ti (ok_NoFamily (C := C 2) Er.x2.F) hr Er.x2.b .nil pass0 rfl Er.x2.g (pa_cons (pv 1) pa_nil)))) pss_nil) (pss_cons (ps_if (pt_cmpR op_eq (pv 0) pe_int (nomark _)) (pss_one (ps_raise (W := fun cls d _ H => E cls d H) rfl (takes_of rfl rfl rfl rfl) (pmk_oex Er.x3.o Er.x3.i Er.x3.ti (ok_NoText (C := C 3) Er.x3.F) hr Er.x3.b .nil pass0 rfl Er.x3.g (pa_cons (pv 1) pa_nil)))) pss_nil) (pss_cons (ps_if (pt_cmpR op_eq (pv 0) pe_int (nomark _)) (pss_one (ps_raise (W := fun cls d _ H => E cls d H) rfl (takes_of rfl rfl rfl rfl) (pmk_oex Er.x4.o Er.x4.i Er.x4.ti (ok_TooMany (C := C 4) Er.x4.F) hr Er.x4.b .nil pass0 rfl Er.x4.g (pa_cons (pv 1) pa_nil)))) pss_nil) (pss_cons (ps_if (pt_cmpR op_eq (pv 0) pe_int (nomark _)) (pss_one (ps_raise (W := fun cls d _ H => E cls d H) rfl (takes_of rfl rfl rfl rfl) (pmk_pl Er.x5 rfl))) pss_nil) (pss_cons (ps_if (pt_cmpR op_eq (pv 0) pe_int (nomark _)) (pss_one (ps_raise (W := fun cls d _ H => E cls d H) rfl (takes_of rfl rfl rfl rfl) (pmk_pl Er.x6 rfl))) pss_nil) (pss_cons (ps_if (pt_cmpR op_eq (pv 0) pe_int (nomark _)) (pss_one (ps_raise (W := fun cls d _ H => E cls d H) rfl (takes_of rfl rfl rfl rfl) (pmk_pl Er.x7 rfl))) pss_nil) (pss_cons (ps_if (pt_cmpR op_eq (pv 0) pe_int (nomark _)) (pss_one (ps_raise (W := fun cls d _ H => E cls d H) rfl (takes_of rfl rfl rfl rfl) (pmk_pl Er.x8 rfl))) pss_nil) (pss_cons (ps_if (pt_cmpR op_eq (pv 0) pe_int (nomark _)) (pss_one (ps_raise (W := fun cls d _ H => E cls d H) rfl (takes_of rfl rfl rfl rfl) (pmk_pl Er.x9 rfl))) pss_nil) (pss_cons (ps_if (pt_cmpR op_eq (pv 0) pe_int (nomark _)) (pss_one (ps_raise (W := fun cls d _ H => E cls d H) rfl (takes_of rfl rfl rfl rfl) (pmk_pl Er.x10 rfl))) pss_nil) (pss_cons (ps_if (pt_cmpR op_eq (pv 0) pe_int (nomark _)) (pss_one (ps_raise (W := fun cls d _ H => E cls d H) rfl (takes_of rfl rfl rfl rfl) (pmk_pl Er.x11 rfl))) pss_nil) (pss_cons (ps_if (pt_cmpR op_eq (pv 0) pe_int (nomark _)) (pss_one (ps_raise (W := fun cls d _ H => E cls d H) rfl (takes_of rfl rfl rfl rfl) (pmk_pl Er.x12 rfl))) pss_nil) (pss_cons (ps_if (pt_cmpR op_eq (pv 0) pe_int (nomark _)) (pss_one (ps_raise (W := fun cls d _ H => E cls d H) rfl (takes_of rfl rfl rfl rfl) (pmk_pl Er.x13 rfl))) pss_nil) (pss_cons (ps_if (pt_cmpR op_eq (pv 0) pe_int (nomark _)) (pss_one (ps_raise (W := fun cls d _ H => E cls d H) rfl (takes_of rfl rfl rfl rfl) (pmk_pl Er.x14 rfl))) pss_nil) (pss_cons (ps_if (pt_cmpR op_eq (pv 0) pe_int (nomark _)) (pss_one (ps_raise (W := fun cls d _ H => E cls d H) rfl (takes_of rfl rfl rfl rfl) (pmk_pl Er.x15 rfl))) pss_nil) (pss_cons (ps_if (pt_cmpR op_eq (pv 0) pe_int (nomark _)) (pss_one (ps_raise (W := fun cls d _ H => E cls d H) rfl (takes_of rfl rfl rfl rfl) (pmk_pl Er.x16 rfl))) pss_nil) (pss_cons (ps_if (pt_cmpR op_eq (pv 0) pe_int (nomark _)) (pss_one (ps_raise (W := fun cls d _ H => E cls d H) rfl (takes_of rfl rfl rfl rfl) (pmk_pl Er.x17 rfl))) pss_nil) (pss_cons (ps_if (pt_cmpR op_eq (pv 0) pe_int (nomark _)) (pss_one (ps_raise (W := fun cls d _ H => E cls d H) rfl (takes_of rfl rfl rfl rfl) (pmk_pl Er.x18 rfl))) pss_nil) (pss_cons (ps_if (pt_cmpR op_eq (pv 0) pe_int (nomark _)) (pss_one (ps_raise (W := fun cls d _ H => E cls d H) rfl (takes_of rfl rfl rfl rfl) (pmk_pl Er.x19 rfl))) pss_nil) (pss_cons (ps_if (pt_cmpR op_eq (pv 0) pe_int (nomark _)) (pss_one (ps_raise (W := fun cls d _ H => E cls d H) rfl (takes_of rfl rfl rfl rfl) (pmk_pl Er.x20 rfl))) pss_nil) (pss_one (ps_raise (W := fun cls d _ H => E cls d H) rfl (takes_of rfl rfl rfl rfl) (pmk_pl Er.x21 rfl)))))))))))))))))))))))), ?_⟩
  refine ⟨_, rfl, rfl, _, rfl, ite2 (fun c => ?_) (fun c0 => ?_)⟩
  · have e : k = 0 := by
      have := eqT c
      omega
    subst e
    refine ⟨_, rfl, _, rfl, by show 2 ≤ 1000; decide, fun a ha => ?_⟩
    refine ⟨a, v, u, rfl, Er.x0.o, Er.n0part, Er.n0index, upd_same, fun dx hdx ne => ⟨rfl, dx, _, ?_, upd_same, ?_, ?_⟩⟩
    · rw [upd_ne (Ne.symm ne)]
      exact upd_same
    · rw [upd_ne ne] at hdx
      exact hdx
    · rw [upd_ne ne] at hdx
      refine q (some dx) _ (fun b o e => ?_) (fun _ => ⟨dx, rfl, upd_same⟩) (fun z => by omega)
      have nb : b ≠ dx := ne_of_none e hdx
      have na : b ≠ a := ne_of_none e ha
      rw [upd_ne nb, del_ne na, upd_ne nb, upd_ne na, upd_ne nb, upd_ne na]
      exact e
  have d0 := eqF c0
  refine ⟨_, rfl, rfl, _, rfl, ite2 (fun c => ?_) (fun c1 => ?_)⟩
  · have e : k = 1 := by
      have := eqT c
      omega
    subst e
    refine ⟨_, rfl, by show 1 ≤ 1000; decide, fun a ha => ?_⟩
    refine ⟨a, v, rfl, Er.x1.o, Er.n1index, upd_same, fun dx hdx ne => ⟨rfl, dx, [("index", v)], upd_same, ?_, ?_, ?_⟩⟩
    · rw [upd_ne ne]
      exact upd_same
    · rw [upd_ne ne] at hdx
      exact hdx
    · rw [upd_ne ne] at hdx
      refine q (some dx) _ (fun b o e => ?_) (fun _ => ⟨dx, rfl, upd_same⟩) (fun z => by omega)
      have nb : b ≠ dx := ne_of_none e hdx
      have na : b ≠ a := ne_of_none e ha
      rw [upd_ne nb, del_ne na, upd_ne na, upd_ne nb, upd_ne na]
      exact e
  have d1 := eqF c1
  refine ⟨_, rfl, rfl, _, rfl, ite2 (fun c => ?_) (fun c2 => ?_)⟩
  · have e : k = 2 := by
      have := eqT c
      omega
    subst e
    refine ⟨_, rfl, by show 1 ≤ 1000; decide, fun a ha => ?_⟩
    refine ⟨a, v, rfl, Er.x2.o, Er.n2index, upd_same, fun dx hdx ne => ⟨rfl, dx, [("index", v)], upd_same, ?_, ?_, ?_⟩⟩
    · rw [upd_ne ne]
      exact upd_same
    · rw [upd_ne ne] at hdx
      exact hdx
    · rw [upd_ne ne] at hdx
      refine q (some dx) _ (fun b o e => ?_) (fun _ => ⟨dx, rfl, upd_same⟩) (fun z => by omega)
      have nb : b ≠ dx := ne_of_none e hdx
      have na : b ≠ a := ne_of_none e ha
      rw [upd_ne nb, del_ne na, upd_ne na, upd_ne nb, upd_ne na]
      exact e
  have d2 := eqF c2
  refine ⟨_, rfl, rfl, _, rfl, ite2 (fun c => ?_) (fun c3 => ?_)⟩
  · have e : k = 3 := by
      have := eqT c
      omega
    subst e
    refine ⟨_, rfl, by show 1 ≤ 1000; decide, fun a ha => ?_⟩
    refine ⟨a, v, rfl, Er.x3.o, Er.n3line, upd_same, fun dx hdx ne => ⟨rfl, dx, [("line", v)], upd_same, ?_, ?_, ?_⟩⟩
    · rw [upd_ne ne]
      exact upd_same
    · rw [upd_ne ne] at hdx
      exact hdx
    · rw [upd_ne ne] at hdx
      refine q (some dx) _ (fun b o e => ?_) (fun _ => ⟨dx, rfl, upd_same⟩) (fun z => by omega)
      have nb : b ≠ dx := ne_of_none e hdx
      have na : b ≠ a := ne_of_none e ha
      rw [upd_ne nb, del_ne na, upd_ne na, upd_ne nb, upd_ne na]
      exact e
  have d3 := eqF c3
  refine ⟨_, rfl, rfl, _, rfl, ite2 (fun c => ?_) (fun c4 => ?_)⟩
  · have e : k = 4 := by
      have := eqT c
      omega
    subst e
    refine ⟨_, rfl, by show 1 ≤ 1000; decide, fun a ha => ?_⟩
    refine ⟨a, v, rfl, Er.x4.o, Er.n4most, upd_same, fun dx hdx ne => ⟨rfl, dx, [("most", v)], upd_same, ?_, ?_, ?_⟩⟩
    · rw [upd_ne ne]
      exact upd_same
    · rw [upd_ne ne] at hdx
      exact hdx
    · rw [upd_ne ne] at hdx
      refine q (some dx) _ (fun b o e => ?_) (fun _ => ⟨dx, rfl, upd_same⟩) (fun z => by omega)
      have nb : b ≠ dx := ne_of_none e hdx
      have na : b ≠ a := ne_of_none e ha
      rw [upd_ne nb, del_ne na, upd_ne na, upd_ne nb, upd_ne na]
      exact e
  have d4 := eqF c4
  refine ⟨_, rfl, rfl, _, rfl, ite2 (fun c => ?_) (fun c5 => ?_)⟩
  · have e : k = 5 := by
      have := eqT c
      omega
    subst e
    exact q none _ (Same.refl H) (fun z => by omega) fun _ => rfl
  have d5 := eqF c5
  refine ⟨_, rfl, rfl, _, rfl, ite2 (fun c => ?_) (fun c6 => ?_)⟩
  · have e : k = 6 := by
      have := eqT c
      omega
    subst e
    exact q none _ (Same.refl H) (fun z => by omega) fun _ => rfl
  have d6 := eqF c6
  refine ⟨_, rfl, rfl, _, rfl, ite2 (fun c => ?_) (fun c7 => ?_)⟩
  · have e : k = 7 := by
      have := eqT c
      omega
    subst e
    exact q none _ (Same.refl H) (fun z => by omega) fun _ => rfl
  have d7 := eqF c7
  refine ⟨_, rfl, rfl, _, rfl, ite2 (fun c => ?_) (fun c8 => ?_)⟩
  · have e : k = 8 := by
      have := eqT c
      omega
    subst e
    exact q none _ (Same.refl H) (fun z => by omega) fun _ => rfl
  have d8 := eqF c8
  refine ⟨_, rfl, rfl, _, rfl, ite2 (fun c => ?_) (fun c9 => ?_)⟩
  · have e : k = 9 := by
      have := eqT c
      omega
    subst e
    exact q none _ (Same.refl H) (fun z => by omega) fun _ => rfl
  have d9 := eqF c9
  refine ⟨_, rfl, rfl, _, rfl, ite2 (fun c => ?_) (fun c10 => ?_)⟩
  · have e : k = 10 := by
      have := eqT c
      omega
    subst e
    exact q none _ (Same.refl H) (fun z => by omega) fun _ => rfl
  have d10 := eqF c10
  refine ⟨_, rfl, rfl, _, rfl, ite2 (fun c => ?_) (fun c11 => ?_)⟩
  · have e : k = 11 := by
      have := eqT c
      omega
    subst e
    exact q none _ (Same.refl H) (fun z => by omega) fun _ => rfl
  have d11 := eqF c11
  refine ⟨_, rfl, rfl, _, rfl, ite2 (fun c => ?_) (fun c12 => ?_)⟩
  · have e : k = 12 := by
      have := eqT c
      omega
    subst e
    exact q none _ (Same.refl H) (fun z => by omega) fun _ => rfl
  have d12 := eqF c12
  refine ⟨_, rfl, rfl, _, rfl, ite2 (fun c => ?_) (fun c13 => ?_)⟩
  · have e : k = 13 := by
      have := eqT c
      omega
    subst e
    exact q none _ (Same.refl H) (fun z => by omega) fun _ => rfl
  have d13 := eqF c13
  refine ⟨_, rfl, rfl, _, rfl, ite2 (fun c => ?_) (fun c14 => ?_)⟩
  · have e : k = 14 := by
      have := eqT c
      omega
    subst e
    exact q none _ (Same.refl H) (fun z => by omega) fun _ => rfl
  have d14 := eqF c14
  refine ⟨_, rfl, rfl, _, rfl, ite2 (fun c => ?_) (fun c15 => ?_)⟩
  · have e : k = 15 := by
      have := eqT c
      omega
    subst e
    exact q none _ (Same.refl H) (fun z => by omega) fun _ => rfl
  have d15 := eqF c15
  refine ⟨_, rfl, rfl, _, rfl, ite2 (fun c => ?_) (fun c16 => ?_)⟩
  · have e : k = 16 := by
      have := eqT c
      omega
    subst e
    exact q none _ (Same.refl H) (fun z => by omega) fun _ => rfl
  have d16 := eqF c16
  refine ⟨_, rfl, rfl, _, rfl, ite2 (fun c => ?_) (fun c17 => ?_)⟩
  · have e : k = 17 := by
      have := eqT c
      omega
    subst e
    exact q none _ (Same.refl H) (fun z => by omega) fun _ => rfl
  have d17 := eqF c17
  refine ⟨_, rfl, rfl, _, rfl, ite2 (fun c => ?_) (fun c18 => ?_)⟩
  · have e : k = 18 := by
      have := eqT c
      omega
    subst e
    exact q none _ (Same.refl H) (fun z => by omega) fun _ => rfl
  have d18 := eqF c18
  refine ⟨_, rfl, rfl, _, rfl, ite2 (fun c => ?_) (fun c19 => ?_)⟩
  · have e : k = 19 := by
      have := eqT c
      omega
    subst e
    exact q none _ (Same.refl H) (fun z => by omega) fun _ => rfl
  have d19 := eqF c19
  refine ⟨_, rfl, rfl, _, rfl, ite2 (fun c => ?_) (fun c20 => ?_)⟩
  · have e : k = 20 := by
      have := eqT c
      omega
    subst e
    exact q none _ (Same.refl H) (fun z => by omega) fun _ => rfl
  have d20 := eqF c20
  have e : k = 21 := by omega
  subst e
  exact q none _ (Same.refl H) (fun z => by omega) fun _ => rfl
end
end My

namespace My
open PySem PySem.Spec PyProof.Rows L2
/-! ### isinstance of the error that a suite holds, whether it has fields or not -/
/-- what the class at D must say -/
structure IsX (K : PySem.W.Frag) (D : Addr) : Prop where
  cl : (PySem.W.clsIn K D).isSome = true
  ga : PySem.W.findIn K (.ref D) "__getattribute__" = some (some (.builtin "BaseException.__getattribute__"))
  gg : PySem.W.findIn K (.ref D) "__getattr__" = some none
  ex : PySem.W.subIn K (.ref D) (.type "BaseException") = some true
  ca : PySem.W.findIn K (.ref D) "__class__" = some (some (.builtin "object.__class__"))
  cn : PySem.W.specialIn K (.builtin "object.__class__") "__get__" = some (some (.builtin "getset_descriptor.__get__"))
  ct : PySem.W.takesIn K (.builtin "object.__class__") = some true
  cm : PySem.W.mroIn K D (.type "object") = some true
/-- the error's own dict, if it has one, is tracked -/
def DOk (H : Hp) (d : Option Addr) : Prop := d = none ∨ ∃ x fs, d = some x ∧ H x = some (.xd fs)
def rIsX (K : PySem.W.Frag) (a : Addr) (cls : Value) (d : Option Addr) : List V → Hp → VK → Prop := fun xs H Q => ∃ (D : Addr) (c : V) (cv : Value) (b : Bool), cls = .ref D ∧ IsX K D ∧ DOk H d ∧ xs = [.ref a, c] ∧ ClsV c cv ∧ PySem.W.kitOne K (.ref D) cv = some b ∧ Q (.bl b) H
theorem inst_of {X : Cx} {pins : List (Addr × Obj)} {σ : L2.St} {H : Hp} {s : Shared} {a D : Addr} {oe : Obj} {d : Option Addr} (I : Inv X pins σ H s) (ho : s.heap.get? a = some oe) (hz : Zc (.ref D) d oe) (hf : ∃ vs, oe.data = .fields vs) (hd : DOk H d) : ∃ od, PySem.W.InstAt s.heap a oe D od := by
  obtain ⟨oc, odx, odt, osl⟩ := oe
  obtain ⟨e1, e2⟩ := hz
  obtain ⟨vs, e3⟩ := hf
  dsimp only at e1 e2 e3
  subst e1 e2 e3
  rcases hd with e | ⟨x, fs, e, hx⟩
  · subst e
    exact ⟨none, ho, rfl, rfl, trivial⟩
  · subst e
    obtain ⟨_, ⟨od, _, _, hg, _⟩, _⟩ := (show ObjOk X.prog X.w H s.heap x (.xd fs) from I.hok x _ hx)
    exact ⟨some od, ho, rfl, rfl, hg⟩
theorem call_isX {X : Cx} {K : PySem.W.Frag} (hK : X.K = K) {a : Addr} {cls : Value} {d : Option Addr} {oe : Obj} {pn : List (Addr × Obj)} (hz : Zc cls d oe) (hf : ∃ vs, oe.data = .fields vs) : CallR (X.suite a ((a, oe) :: pn)) (.builtin "isinstance") (rIsX K a cls d) := by
  subst hK
  intro pins s σ H xs us Q I r h
  obtain ⟨D, c, cv, b, rfl, T, hd, rfl, hc, e, q⟩ := h
  obtain ⟨u1, u2, rfl, r1, r2⟩ := vals2 r
  have e2 := hc.eq r2
  subst e2
  cases (show u1 = Value.ref a from r1)
  obtain ⟨ho, _⟩ := I.pin (a, oe) (List.mem_append.mpr (.inl List.mem_cons_self))
  obtain ⟨od, J⟩ := inst_of I ho hz hf hd
  exact PySem.W.kia_one (PySem.W.kitx_exc T.cl T.ga T.gg T.ex T.ca T.cn T.ct T.cm) I.kIn J e (fun z => nomatch z) fun tk => ⟨.bl b, H, I.tok tk, rfl, q⟩
/-! ### several clauses, with names or without -/
/-- a clause: the class, the slot of its name (if it has one), its suite -/
structure Cl where
  c : Value
  i : Option Nat
  ts : Addr → Value → Option Addr → TS
def drop' (i : Option Nat) (σ : L2.St) : L2.St := match i with
  | some i => σ.set i none
  | none => σ
def put' (i : Option Nat) (a : Addr) (σ : L2.St) : L2.St := match i with
  | some i => σ.set i (some (.ref a))
  | none => σ
def behind (i : Option Nat) (D : Ends) : Ends := { nx := fun σ H => D.nx (drop' i σ) H, rt := D.rt, bk := fun σ H => D.bk (drop' i σ) H, ct := fun σ H => D.ct (drop' i σ) H }
/-- what the clauses wish, one behind the other -/
def wCls (K : PySem.W.Frag) (Wout : WX) (D : Ends) : List Cl → WX
  | [] => Wout
  | k :: r => fun cls d σ H => ∃ b, PySem.W.exmOne K cls k.c = some b ∧ (b = true → ∀ a, H a = none → k.ts a cls d (behind k.i D) (put' k.i a σ) H) ∧ (b = false → wCls K Wout D r cls d σ H)
inductive ClsOk (X : Cx) : List ExceptHandler → List Cl → Prop
  | nil : ClsOk X [] []
  | bare {x : Str} {c : Value} {ts : Addr → Value → Option Addr → TS} {s0 : Stmt} {ss : List Stmt} {np hp : Pos} {hs : List ExceptHandler} {l : List Cl} (hc : Names X x c)
      (hb : ∀ (a : Addr) (oe : Obj) (cls : Value) (d : Option Addr) (pn : List (Addr × Obj)), Zc cls d oe → (∃ vs, oe.data = .fields vs) → PSs (X.suite a ((a, oe) :: pn)) (s0 :: ss) (ts a cls d)) (r : ClsOk X hs l) :
      ClsOk X (.ExceptHandler (some (.Name x np)) none (s0 :: ss) hp :: hs) (⟨c, none, ts⟩ :: l)
  | named {x n : Str} {c : Value} {i : Nat} {ts : Addr → Value → Option Addr → TS} {s0 : Stmt} {ss : List Stmt} {np hp : Pos} {hs : List ExceptHandler} {l : List Cl} (hc : Names X x c) (hN : X.N.Nodup) (hi : X.N[i]? = some n) (hn : X.env.kindOf n = some .local)
      (hb : ∀ (a : Addr) (oe : Obj) (cls : Value) (d : Option Addr) (pn : List (Addr × Obj)), Zc cls d oe → (∃ vs, oe.data = .fields vs) → PSs (X.suite a ((a, oe) :: pn)) (s0 :: ss) (ts a cls d)) (r : ClsOk X hs l) :
      ClsOk X (.ExceptHandler (some (.Name x np)) (some n) (s0 :: ss) hp :: hs) (⟨c, some i, ts⟩ :: l)
section
variable {X : Cx} {pins : List (Addr × Obj)} {σ : L2.St} {H : Hp} {a : Addr} {cls : Value} {d : Option Addr}
/-- an error that is in flight in this frame's try -/
structure Fly (X : Cx) (pins : List (Addr × Obj)) (σ : L2.St) (H : Hp) (a : Addr) (cls : Value) (d : Option Addr) (B : Heap) (s0 s : Shared) : Prop where
  I : Inv X pins σ H s0
  nb : ∀ b o, s0.heap.get? b = some o → b ∉ frs X.stack → B.get? b = some o
  up : s0.heap.UpToSlots s.heap
  fl : HandSPX.FlyingZ B (X.env :: X.outer) a (Zc cls d) s.heap
  na : H a = none
  os : s.os = s0.os
  ag : AllBare s.gens
variable {B : Heap} {s0 s : Shared}
theorem Fly.inv (F : Fly X pins σ H a cls d B s0 s) : Inv X pins σ H s := F.I.landed F.nb F.fl.1 F.up F.os F.ag
theorem Fly.to {h' : Heap} (F : Fly X pins σ H a cls d B s0 s) (fl' : HandSPX.FlyingZ B (X.env :: X.outer) a (Zc cls d) h') (u : s.heap.UpToSlots h') : Fly X pins σ H a cls d B s0 { s with heap := h' } := ⟨F.I, F.nb, F.up.trans u, fl', F.na, F.os, F.ag⟩
/-- the error is no frame of ours -/
theorem Fly.nf (F : Fly X pins σ H a cls d B s0 s) : a ∉ frs (X.env :: X.outer) := fun hm => by
  obtain ⟨_, _, ff, oe, vs, _, _, _, he, _, hd, _⟩ := F.fl
  obtain ⟨_, o', e', hnf⟩ := ff.mem hm
  rw [he] at e'
  cases e'
  exact hnf _ hd
theorem Fly.nL (F : Fly X pins σ H a cls d B s0 s) (hf : X.env.frame = some X.env.locals) : a ≠ X.env.locals := fun z => F.nf (List.mem_filterMap.mpr ⟨X.env, List.mem_cons_self, by rw [hf, z]⟩)
theorem Fly.nS (F : Fly X pins σ H a cls d B s0 s) : a ∉ X.fs := fun hm => by
  obtain ⟨e, he, q⟩ := List.mem_filterMap.mp hm
  exact F.nf (List.mem_filterMap.mpr ⟨e, List.mem_cons_of_mem _ he, q⟩)
theorem Fly.suite (F : Fly X pins σ H a cls d B s0 s) (hf : X.env.frame = some X.env.locals) : ∃ oe, Zc cls d oe ∧ (∃ vs, oe.data = .fields vs) ∧ s.heap.get? a = some oe ∧ Inv (X.suite a ((a, oe) :: (X.pn ++ pins))) [] σ H s := by
  obtain ⟨oe, vs, he, hz, hd⟩ := F.fl.there
  exact ⟨oe, hz, ⟨vs, hd⟩, he, F.inv.suite he hd F.na (F.nL hf) F.nS⟩
/-- the name in a clause's head is read -/
theorem name_read {x : Str} {c : Value} {np : Pos} {oe : Obj} {Q : Value → Shared → Prop} {E : Value → Shared → Prop} (hc : Names X x c) (S : Inv (X.suite a ((a, oe) :: (X.pn ++ pins))) [] σ H s) (q : Q c s) : wpAny (model X.prog X.w) (X.A.mark (some (.ref a))) (eval (.Name x np) X.env) Q E s := by
  obtain ⟨hg, hdb, hm | ⟨hm, hv, hn⟩⟩ := hc
  · exact ld_glob (X := X.suite a ((a, oe) :: (X.pn ++ pins))) S hg hm q hdb
  · exact ld_blt (X := X.suite a ((a, oe) :: (X.pn ++ pins))) S hg hm hv q hn hdb
/-- one clause after the other -/
theorem cls_run {D : Ends} {Wout : WX} (hs : X.stack = X.env :: X.outer) (hf : X.env.frame = some X.env.locals) (tk : Takes X Wout) : ∀ {hds : List ExceptHandler} {l : List Cl}, ClsOk X hds l → ∀ {s : Shared}, Fly X pins σ H a cls d B s0 s → wCls X.K Wout D l cls d σ H →
    wpAny (model X.prog X.w) X.A (handleBy (.ref a) X.env hds) (SP X pins D) X.xe s := by
  intro hds l k
  induction k with
  | nil =>
    intro s F w
    refine wpAny_handleBy_nil ?_
    obtain ⟨_, _, _, oe, vs, T, oT, ts, he, hz, hd, h1, _⟩ := id F.fl
    unfold PySem.passOn
    refine wpAny_bind (wpAny_field he hd h1 ?_)
    rw [if_neg (show ¬ ((Value.ref T == Value.none) = true) from by simp)]
    have out : wpAny (model X.prog X.w) X.A (setFlight (.ref a) X.env.frame) (fun _ s4 => wpAny (model X.prog X.w) X.A (throw (.ref a) : Sem Flow) (SP X pins D) X.xe s4) X.xe s := by
      rw [hf]
      exact HandSPX.setFlight_upZ F.fl fun h4 hh u4 => wpAny_throw (tk _ _ ⟨a, B, s0, pins, σ, H, cls, d, rfl, F.I, F.nb, F.up.trans u4, .inr (.inr (by rw [hs]; exact hh)), F.na, F.os, F.ag, w⟩)
    first
      | exact wpAny_bind (wpAny_pure (wpAny_bind out))
      | exact wpAny_bind out
  | @bare x c ts b0 ss np hp hds' l' hc hb r ih =>
    intro s F w
    obtain ⟨b, hb1, yes, no⟩ := w
    obtain ⟨oe, hz, hd, he, S⟩ := F.suite hf
    refine wpAny_handleBy_cons (codeAny_handlers_test ?_) (by intro q; cases q)
    have look : PySem.W.Looks (model X.prog X.w) s.heap (typeOf (.ref a)) cls := fun A Q E s' k q => wpAny_typeOf_ref (k _ _ he) (by rw [hz.1]; exact q)
    refine name_read hc S ((PySem.W.exm_one (M := model X.prog X.w) F.inv.kIn look hb1).here ?_)
    cases b with
    | false => exact ih F (no rfl)
    | true =>
      refine codeAny_handlers_suite (HandSPX.lands_againZ F.fl fun h4 fl4 u4 => ?_)
      have F4 := F.to fl4 u4
      obtain ⟨oe4, hz4, hd4, he4, S4⟩ := F4.suite hf
      refine wpAny_mono ((hb a oe4 cls d (X.pn ++ pins) hz4 hd4).run [] _ _ H _ S4 (yes rfl a F.na)) (fun f s6 e => ?_) (fun _ _ z => False.elim z)
      cases f with
      | ret u =>
        obtain ⟨v6, t6, H6, S6, r6, q6⟩ := e
        exact ⟨v6, t6, H6, S6.unsuite F.I.ok, r6, q6⟩
      | next =>
        obtain ⟨t6, H6, S6, q6⟩ := e
        exact ⟨t6, H6, S6.unsuite F.I.ok, q6⟩
      | brk =>
        obtain ⟨t6, H6, S6, q6⟩ := e
        exact ⟨t6, H6, S6.unsuite F.I.ok, q6⟩
      | cont =>
        obtain ⟨t6, H6, S6, q6⟩ := e
        exact ⟨t6, H6, S6.unsuite F.I.ok, q6⟩
  | @named x n c i ts b0 ss np hp hds' l' hc hN hi hn hb r ih =>
    intro s F w
    obtain ⟨b, hb1, yes, no⟩ := w
    obtain ⟨oe, hz, hd, he, S⟩ := F.suite hf
    refine wpAny_handleBy_cons (codeAny_handlers_test ?_) (by intro q; cases q)
    have look : PySem.W.Looks (model X.prog X.w) s.heap (typeOf (.ref a)) cls := fun A Q E s' k q => wpAny_typeOf_ref (k _ _ he) (by rw [hz.1]; exact q)
    refine name_read hc S ((PySem.W.exm_one (M := model X.prog X.w) F.inv.kIn look hb1).here ?_)
    cases b with
    | false => exact ih F (no rfl)
    | true =>
      refine codeAny_handlers_suite_as (HandSPX.lands_againZ F.fl fun h4 fl4 u4 => ?_)
      have F4 := F.to fl4 u4
      obtain ⟨oe4, hz4, hd4, he4, S4⟩ := F4.suite hf
      refine store_ok (X := X.suite a ((a, oe4) :: (X.pn ++ pins))) (v := .ref a) S4 hN hi (.inl hn) rfl (fun s5 S5 => ?_) (.inr hn)
      refine wpAny_mono ((hb a oe4 cls d (X.pn ++ pins) hz4 hd4).run [] s5 _ H _ S5 (yes rfl a F.na)) (fun f s6 e => ?_) (fun _ _ z => False.elim z)
      cases f with
      | ret u =>
        obtain ⟨v6, t6, H6, S6, r6, q6⟩ := e
        exact gone_ok (S6.unsuite F.I.ok) hN hi hn fun s7 J7 => ⟨v6, _, H6, J7, r6, q6⟩
      | next =>
        obtain ⟨t6, H6, S6, q6⟩ := e
        exact gone_ok (S6.unsuite F.I.ok) hN hi hn fun s7 J7 => ⟨_, H6, J7, q6⟩
      | brk =>
        obtain ⟨t6, H6, S6, q6⟩ := e
        exact gone_ok (S6.unsuite F.I.ok) hN hi hn fun s7 J7 => ⟨_, H6, J7, q6⟩
      | cont =>
        obtain ⟨t6, H6, S6, q6⟩ := e
        exact gone_ok (S6.unsuite F.I.ok) hN hi hn fun s7 J7 => ⟨_, H6, J7, q6⟩
end
/-- try: body, and a list of except clauses -/
theorem ps_try_cls {X : Cx} {body : List Stmt} {h0 : ExceptHandler} {hds : List ExceptHandler} {l : List Cl} {pos : Pos} {tb : WX → TS} {Wout : WX} (hs : X.stack = X.env :: X.outer) (hf : X.env.frame = some X.env.locals) (tk : Takes X Wout)
    (hb : ∀ (W : WX) (pn : List (Addr × Obj)) (xe : Value → Shared → Prop), Takes (X.tr pn xe) W → PassesOwn (model X.prog X.w) X.A X.env xe → PSs (X.tr pn xe) body (tb W))
    (hk : ClsOk X (h0 :: hds) l) : PS X (.Try body (h0 :: hds) [] [] pos) (fun D σ H => tb (wCls X.K Wout D l) D σ H) := by
  refine ⟨fun pins s σ H D I h => ?_⟩
  have ok := I.ok
  have fr : X.A.frames = some (X.env :: X.outer) := by rw [ok.frames, hs]
  refine wpAny_Try_except ?_
  refine wpAny_mono ((hb (wCls X.K Wout D l) (X.pn ++ pins) _ ?_ PassesOwn.looking).run [] s σ H D (I.toTry _) h) (fun f s1 e => ?_) (fun e s1 he => he)
  · intro u s' xx
    obtain ⟨a, B, sI, pins', σ', H', cls, d, rfl, J', nb, up, sky, na, os, ag, w⟩ := xx
    have J : Inv X pins σ' H' sI := J'.ofTry ok
    show wpAny (model X.prog X.w) X.A (noteFrame (.ref a) X.env) _ _ _
    refine Sky.land Zc.steady fr hf (by rw [← hs]; exact sky) fun h3 fl3 up3 => ?_
    exact cls_run hs hf tk hk (s := { s' with heap := h3 }) ⟨J, nb, up.trans up3, fl3, na, os, ag⟩ w
  · cases f with
    | ret u =>
      obtain ⟨v, t, G, J, r, q⟩ := e
      exact ⟨v, t, G, J.ofTry ok, r, q⟩
    | next =>
      obtain ⟨t, G, J, q⟩ := e
      exact wpAny_execs_nil ⟨t, G, J.ofTry ok, q⟩
    | brk =>
      obtain ⟨t, G, J, q⟩ := e
      exact ⟨t, G, J.ofTry ok, q⟩
    | cont =>
      obtain ⟨t, G, J, q⟩ := e
      exact ⟨t, G, J.ofTry ok, q⟩
end My

namespace My
open PySem L2
abbrev s_l_kinds : Stmt := top 32
theorem sc_l_kinds : FnScope ["_law_k", "_law_one_here", "_law_two", "_law_kinds_here", "e"] ["_law_k", "_law_one_here", "_law_two"] (defScope s_l_kinds) := ⟨rfl, rfl, rfl, by decide +kernel, rfl, by decide +kernel, by decide +kernel⟩
/-- what the top says of the classes, of one beside another -/
structure Kinds (K : PySem.W.Frag) (mg : Str → Option Value) (C : Nat → Addr) (CE : Addr) : Prop where
  g : mg "CopyError" = some (.ref CE)
  ve : mg "ValueError" = none
  isx : ∀ i, i < 22 → IsX K (C i)
  kit : ∀ i j, i < 22 → j < 22 → PySem.W.kitOne K (.ref (C i)) (.ref (C j)) = some (decide (i = j))
  kv : ∀ i, i < 22 → PySem.W.kitOne K (.ref (C i)) (.type "ValueError") = some true
  exm : ∀ i j, i < 22 → j < 5 → PySem.W.exmOne K (.ref (C i)) (.ref (C j)) = some (decide (i = j))
  hd : ∀ i, i < 5 → PySem.W.hasDictIn K (C i) = true
  exc : ∀ i, i < 22 → PySem.W.exmOne K (.ref (C i)) (.ref CE) = some true
def kindsOf (k : Nat) : List V := (List.range 22).map (fun j => V.bl (decide (k = j))) ++ [V.bl true]
theorem DOk.on {H H' : Hp} {d : Option Addr} (h : DOk H d) (e : Same H H') : DOk H' d := by
  rcases h with h | ⟨x, fs, h1, h2⟩
  · exact .inl h
  · exact .inr ⟨x, fs, h1, e _ _ h2⟩
def spKinds : Sp := fun vs H Q _ => ∃ (k : Nat) (v u : V), vs = [.int (k : Int), v, u] ∧ k < 22 ∧ ∀ (l : Addr) (H' : Hp), Same H H' → H l = none → H' l = some (.lst (kindsOf k)) → Q (.ref l) H'
section
variable {P : Program} {w : World} {K : PySem.W.Frag} {mg : Str → Option Value} {base : Heap} {C fI : Nat → Addr} {fdI : Nat → FuncData} {CE : Addr}
theorem ok_kinds {f fR : Addr} {fd fdR : FuncData} (D : DefT K mg "_law_kinds" "_law_kinds" s_l_kinds ["_law_k", "_law_one_here", "_law_two"] f fd) (Z : Zs mg) (Er : Errs K mg C fI fdI) (Kd : Kinds K mg C CE)
    (D_l_raised : DefT K mg "_law_raised" "_law_raised" s_l_raised ["_law_k", "_law_one_here", "_law_two"] fR fdR) : FnOk P w K mg base CX0 4 f fd ["_law_k", "_law_one_here", "_law_two"] spKinds := by
  have G_l_raised := ok_raised (P := P) (w := w) (base := base) D_l_raised Er
  refine D.F.ok sc_l_kinds (fun vs H Q E h => ?_) (fun cdv A outer s H vs Q E hr h => ?_)
  · obtain ⟨k, v, u, rfl, _⟩ := h
    rfl
  obtain ⟨k, v, u, rfl, hk, q⟩ := h
  refine ⟨_, (pss_cons (ps_set (i := 3) sc_l_kinds.nd rfl (Or.inl rfl) (pe_lst pa_nil)) (pss_cons (ps_try_cls rfl rfl takes0 (fun W pn xe tk _ => (pss_one (ps_expr (pe_callS G_l_raised (hr.mono (by decide)) rfl D_l_raised.m D_l_raised.F.kp D_l_raised.b (fun σ => passAt tk σ) (pa_cons (pv 0) (pa_cons (pv 1) (pa_cons (pv 2) pa_nil))))))) (.named (i := 4) ⟨rfl, by decide, .inl Kd.g⟩ sc_l_kinds.nd rfl rfl (fun a oe cls d pn hz hf => (pss_cons (ps_set (i := 3) sc_l_kinds.nd rfl (Or.inl rfl) (pe_lst (pa_cons (pe_callB (call_isX (K := K) rfl hz hf) (by rfl) Z.isinstance (by decide +kernel) (pa_cons (pv 4) (pa_cons (pe_glob (v := .ref (C 0)) rfl Er.x0.g rfl) pa_nil))) (pa_cons (pe_callB (call_isX (K := K) rfl hz hf) (by rfl) Z.isinstance (by decide +kernel) (pa_cons (pv 4) (pa_cons (pe_glob (v := .ref (C 1)) rfl Er.x1.g rfl) pa_nil))) (pa_cons (pe_callB (call_isX (K := K) rfl hz hf) (by rfl) Z.isinstance (by decide +kernel) (pa_cons (pv 4) (pa_cons (pe_glob (v := .ref (C 2)) rfl Er.x2.g rfl) pa_nil))) (pa_cons (pe_callB (call_isX (K := K) rfl hz hf) (by rfl) Z.isinstance (by decide +kernel) (pa_cons (pv 4) (pa_cons (pe_glob (v := .ref (C 3)) rfl Er.x3.g rfl) pa_nil))) pa_nil)))))) (pss_cons (ps_set (i := 3) sc_l_kinds.nd rfl (Or.inl rfl) (pe_op op_cat (pv 3) (pe_lst (pa_cons (pe_callB (call_isX (K := K) rfl hz hf) (by rfl) Z.isinstance (by decide +kernel) (pa_cons (pv 4) (pa_cons (pe_glob (v := .ref (C 4)) rfl Er.x4.g rfl) pa_nil))) (pa_cons (pe_callB (call_isX (K := K) rfl hz hf) (by rfl) Z.isinstance (by decide +kernel) (pa_cons (pv 4) (pa_cons (pe_glob (v := .ref (C 5)) rfl Er.x5.g rfl) pa_nil))) (pa_cons (pe_callB (call_isX (K := K) rfl hz hf) (by rfl) Z.isinstance (by decide +kernel) (pa_cons (pv 4) (pa_cons (pe_glob (v := .ref (C 6)) rfl Er.x6.g rfl) pa_nil))) (pa_cons (pe_callB (call_isX (K := K) rfl hz hf) (by rfl) Z.isinstance (by decide +kernel) (pa_cons (pv 4) (pa_cons (pe_glob (v := .ref (C 7)) rfl Er.x7.g rfl) pa_nil))) pa_nil))))))) (pss_cons (ps_set (i := 3) sc_l_kinds.nd rfl (Or.inl rfl) (pe_op op_cat (pv 3) (pe_lst (pa_cons (pe_callB (call_isX (K := K) rfl hz hf) (by rfl) Z.isinstance (by decide +kernel) (pa_cons (pv 4) (pa_cons (pe_glob (v := .ref (C 8)) rfl Er.x8.g rfl) pa_nil))) (pa_cons (pe_callB (call_isX (K := K) rfl hz hf) (by rfl) Z.isinstance (by decide +kernel) (pa_cons (pv 4) (pa_cons (pe_glob (v := .ref (C 9)) rfl Er.x9.g rfl) pa_nil))) (pa_cons (pe_callB (call_isX (K := K) rfl hz hf) (by rfl) Z.isinstance (by decide +kernel) (pa_cons (pv 4) (pa_cons (pe_glob (v := .ref (C 10)) rfl Er.x10.g rfl) pa_nil))) (pa_cons (pe_callB (call_isX (K := K) rfl hz hf) (by rfl) Z.isinstance (by decide +kernel) (pa_cons (pv 4) (pa_cons (pe_glob (v := .ref (C 11)) rfl Er.x11.g rfl) pa_nil))) pa_nil))))))) (pss_cons (ps_set (i := 3) sc_l_kinds.nd rfl (Or.inl rfl) (pe_op op_cat (pv 3) (pe_lst (pa_cons (pe_callB (call_isX (K := K) rfl hz hf) (by rfl) Z.isinstance (by decide +kernel) (pa_cons (pv 4) (pa_cons (pe_glob (v := .ref (C 12)) rfl Er.x12.g rfl) pa_nil))) (pa_cons (pe_callB (call_isX (K := K) rfl hz hf) (by rfl) Z.isinstance (by decide +kernel) (pa_cons (pv 4) (pa_cons (pe_glob (v := .ref (C 13)) rfl Er.x13.g rfl) pa_nil))) (pa_cons (pe_callB (call_isX (K := K) rfl hz hf) (by rfl) Z.isinstance (by decide +kernel) (pa_cons (pv 4) (pa_cons (pe_glob (v := .ref (C 14)) rfl Er.x14.g rfl) pa_nil))) (pa_cons (pe_callB (call_isX (K := K) rfl hz hf) (by rfl) Z.isinstance (by decide +kernel) (pa_cons (pv 4) (pa_cons (pe_glob (v := .ref (C 15)) rfl Er.x15.g rfl) pa_nil))) pa_nil))))))) (pss_cons (ps_set (i := 3) sc_l_kinds.nd rfl (Or.inl rfl) (pe_op op_cat (pv 3) (pe_lst (pa_cons (pe_callB (call_isX (K := K) rfl hz hf) (by rfl) Z.isinstance (by decide +kernel) (pa_cons (pv 4) (pa_cons (pe_glob (v := .ref (C 16)) rfl Er.x16.g rfl) pa_nil))) (pa_cons (pe_callB (call_isX (K := K) rfl hz hf) (by rfl) Z.isinstance (by decide +kernel) (pa_cons (pv 4) (pa_cons (pe_glob (v := .ref (C 17)) rfl Er.x17.g rfl) pa_nil))) (pa_cons (pe_callB (call_isX (K := K) rfl hz hf) (by rfl) Z.isinstance (by decide +kernel) (pa_cons (pv 4) (pa_cons (pe_glob (v := .ref (C 18)) rfl Er.x18.g rfl) pa_nil))) (pa_cons (pe_callB (call_isX (K := K) rfl hz hf) (by rfl) Z.isinstance (by decide +kernel) (pa_cons (pv 4) (pa_cons (pe_glob (v := .ref (C 19)) rfl Er.x19.g rfl) pa_nil))) pa_nil))))))) (pss_one (ps_set (i := 3) sc_l_kinds.nd rfl (Or.inl rfl) (pe_op op_cat (pv 3) (pe_lst (pa_cons (pe_callB (call_isX (K := K) rfl hz hf) (by rfl) Z.isinstance (by decide +kernel) (pa_cons (pv 4) (pa_cons (pe_glob (v := .ref (C 20)) rfl Er.x20.g rfl) pa_nil))) (pa_cons (pe_callB (call_isX (K := K) rfl hz hf) (by rfl) Z.isinstance (by decide +kernel) (pa_cons (pv 4) (pa_cons (pe_glob (v := .ref (C 21)) rfl Er.x21.g rfl) pa_nil))) (pa_cons (pe_callB (call_isX (K := K) rfl hz hf) (by rfl) Z.isinstance (by decide +kernel) (pa_cons (pv 4) (pa_cons (pe_bltn (v := .ty "ValueError") (by rfl) Kd.ve (by decide +kernel) rfl) pa_nil))) pa_nil))))))))))))) .nil)) (pss_one (ps_ret (pv 3))))), ?_⟩
  refine ⟨Nat.zero_le _, fun l0 h0 => ?_⟩
  refine ⟨_, rfl, _, rfl, _, rfl, k, v, u, rfl, hk, fun d H1 s1 hd hn => ?_⟩
  refine ⟨true, Kd.exc k hk, fun _ a na => ?_, fun q => nomatch q⟩
  have dk : DOk H1 d := by
    by_cases c : k < 5
    · obtain ⟨x, e, hx⟩ := hd c
      exact .inr ⟨x, _, e, hx⟩
    · exact .inl (hn (by omega))
  refine ⟨_, rfl, C k, _, _, _, rfl, Kd.isx k hk, dk, rfl, .own _, Kd.kit k 0 hk (by decide), _, rfl, C k, _, _, _, rfl, Kd.isx k hk, dk, rfl, .own _, Kd.kit k 1 hk (by decide), _, rfl, C k, _, _, _, rfl, Kd.isx k hk, dk, rfl, .own _, Kd.kit k 2 hk (by decide), _, rfl, C k, _, _, _, rfl, Kd.isx k hk, dk, rfl, .own _, Kd.kit k 3 hk (by decide), sz 4, fun l1 h1 => ?_⟩
  have e1 := same_upd (o := .lst [.bl (decide (k = 0)), .bl (decide (k = 1)), .bl (decide (k = 2)), .bl (decide (k = 3))]) h1
  have dk1 := dk.on e1
  refine ⟨_, rfl, _, rfl, C k, _, _, _, rfl, Kd.isx k hk, dk1, rfl, .own _, Kd.kit k 4 hk (by decide), _, rfl, C k, _, _, _, rfl, Kd.isx k hk, dk1, rfl, .own _, Kd.kit k 5 hk (by decide), _, rfl, C k, _, _, _, rfl, Kd.isx k hk, dk1, rfl, .own _, Kd.kit k 6 hk (by decide), _, rfl, C k, _, _, _, rfl, Kd.isx k hk, dk1, rfl, .own _, Kd.kit k 7 hk (by decide), sz 4, fun l2 h2 => ?_⟩
  refine ⟨l1, l2, _, _, rfl, rfl, keep_new h2 _ _ upd_same, upd_same, sz 8, fun l3 h3 => ?_⟩
  have dk3 := fun o => ((dk1).on (same_upd h2)).on (same_upd (o := o) h3)
  refine ⟨_, rfl, _, rfl, C k, _, _, _, rfl, Kd.isx k hk, dk3 _, rfl, .own _, Kd.kit k 8 hk (by decide), _, rfl, C k, _, _, _, rfl, Kd.isx k hk, dk3 _, rfl, .own _, Kd.kit k 9 hk (by decide), _, rfl, C k, _, _, _, rfl, Kd.isx k hk, dk3 _, rfl, .own _, Kd.kit k 10 hk (by decide), _, rfl, C k, _, _, _, rfl, Kd.isx k hk, dk3 _, rfl, .own _, Kd.kit k 11 hk (by decide), sz 4, fun l4 h4 => ?_⟩
  refine ⟨l3, l4, _, _, rfl, rfl, keep_new h4 _ _ upd_same, upd_same, sz 12, fun l5 h5 => ?_⟩
  have dk5 := fun o => ((dk3 _).on (same_upd h4)).on (same_upd (o := o) h5)
  refine ⟨_, rfl, _, rfl, C k, _, _, _, rfl, Kd.isx k hk, dk5 _, rfl, .own _, Kd.kit k 12 hk (by decide), _, rfl, C k, _, _, _, rfl, Kd.isx k hk, dk5 _, rfl, .own _, Kd.kit k 13 hk (by decide), _, rfl, C k, _, _, _, rfl, Kd.isx k hk, dk5 _, rfl, .own _, Kd.kit k 14 hk (by decide), _, rfl, C k, _, _, _, rfl, Kd.isx k hk, dk5 _, rfl, .own _, Kd.kit k 15 hk (by decide), sz 4, fun l6 h6 => ?_⟩
  refine ⟨l5, l6, _, _, rfl, rfl, keep_new h6 _ _ upd_same, upd_same, sz 16, fun l7 h7 => ?_⟩
  have dk7 := fun o => ((dk5 _).on (same_upd h6)).on (same_upd (o := o) h7)
  refine ⟨_, rfl, _, rfl, C k, _, _, _, rfl, Kd.isx k hk, dk7 _, rfl, .own _, Kd.kit k 16 hk (by decide), _, rfl, C k, _, _, _, rfl, Kd.isx k hk, dk7 _, rfl, .own _, Kd.kit k 17 hk (by decide), _, rfl, C k, _, _, _, rfl, Kd.isx k hk, dk7 _, rfl, .own _, Kd.kit k 18 hk (by decide), _, rfl, C k, _, _, _, rfl, Kd.isx k hk, dk7 _, rfl, .own _, Kd.kit k 19 hk (by decide), sz 4, fun l8 h8 => ?_⟩
  refine ⟨l7, l8, _, _, rfl, rfl, keep_new h8 _ _ upd_same, upd_same, sz 20, fun l9 h9 => ?_⟩
  have dk9 := fun o => ((dk7 _).on (same_upd h8)).on (same_upd (o := o) h9)
  refine ⟨_, rfl, _, rfl, C k, _, _, _, rfl, Kd.isx k hk, dk9 _, rfl, .own _, Kd.kit k 20 hk (by decide), _, rfl, C k, _, _, _, rfl, Kd.isx k hk, dk9 _, rfl, .own _, Kd.kit k 21 hk (by decide), _, rfl, C k, _, _, _, rfl, Kd.isx k hk, dk9 _, rfl, .ty _, Kd.kv k hk, sz 3, fun l10 h10 => ?_⟩
  refine ⟨l9, l10, _, _, rfl, rfl, keep_new h10 _ _ upd_same, upd_same, sz 23, fun l11 h11 => ?_⟩
  refine ⟨_, rfl, ?_⟩
  have all := fun o => ((((((((((((same_upd h0).trans s1).trans (same_upd h1)).trans (same_upd h2)).trans (same_upd h3)).trans (same_upd h4)).trans (same_upd h5)).trans (same_upd h6)).trans (same_upd h7)).trans (same_upd h8)).trans (same_upd h9)).trans (same_upd (o := o) h10))
  exact q l11 _ ((all _).trans (same_upd h11)) ((all _).free h11) upd_same
end
end My

namespace My
open PySem L2
abbrev s_l_fields : Stmt := top 33
theorem sc_l_fields : FnScope ["_law_k", "_law_one_here", "_law_two", "_law_fields_here", "e"] ["_law_k", "_law_one_here", "_law_two"] (defScope s_l_fields) := ⟨rfl, rfl, rfl, by decide +kernel, rfl, by decide +kernel, by decide +kernel⟩
def due (k : Nat) (v u : V) : List V := match k with
  | 0 => [v, u]
  | 1 => [v]
  | 2 => [v]
  | 3 => [v]
  | 4 => [v]
  | _ => []
def spFields : Sp := fun vs H Q _ => ∃ (k : Nat) (v u : V), vs = [.int (k : Int), v, u] ∧ k < 22 ∧ ∀ (l : Addr) (H' : Hp), Same H H' → H l = none → H' l = some (.lst (due k v u)) → Q (.ref l) H'
theorem due_far {k : Nat} {v u : V} (h : 5 ≤ k) : due k v u = [] := by
  obtain ⟨j, rfl⟩ : ∃ j, k = j + 5 := ⟨k - 5, by omega⟩
  rfl
section
variable {P : Program} {w : World} {K : PySem.W.Frag} {mg : Str → Option Value} {base : Heap} {C fI : Nat → Addr} {fdI : Nat → FuncData} {CE : Addr}
theorem Kinds.xf (Kd : Kinds K mg C CE) (i : Nat) (h : i < 5) : XfC K (C i) := ⟨(Kd.isx i (by omega)).ga, (Kd.isx i (by omega)).gg, (Kd.isx i (by omega)).ex, Kd.hd i h⟩
theorem ok_fields {f fR : Addr} {fd fdR : FuncData} (D : DefT K mg "_law_fields" "_law_fields" s_l_fields ["_law_k", "_law_one_here", "_law_two"] f fd) (Er : Errs K mg C fI fdI) (Kd : Kinds K mg C CE)
    (D_l_raised : DefT K mg "_law_raised" "_law_raised" s_l_raised ["_law_k", "_law_one_here", "_law_two"] fR fdR) : FnOk P w K mg base CX0 4 f fd ["_law_k", "_law_one_here", "_law_two"] spFields := by
  have G_l_raised := ok_raised (P := P) (w := w) (base := base) D_l_raised Er
  refine D.F.ok sc_l_fields (fun vs H Q E h => ?_) (fun cdv A outer s H vs Q E hr h => ?_)
  · obtain ⟨k, v, u, rfl, _⟩ := h
    rfl
  obtain ⟨k, v, u, rfl, hk, q⟩ := h
  refine ⟨_, (pss_cons (ps_set (i := 3) sc_l_fields.nd rfl (Or.inl rfl) pe_non) (pss_cons (ps_try_cls rfl rfl takes0 (fun W pn xe tk _ => (pss_one (ps_expr (pe_callS G_l_raised (hr.mono (by decide)) rfl D_l_raised.m D_l_raised.F.kp D_l_raised.b (fun σ => passAt tk σ) (pa_cons (pv 0) (pa_cons (pv 1) (pa_cons (pv 2) pa_nil))))))) (.named (i := 4) ⟨rfl, by decide, .inl Er.x0.g⟩ sc_l_fields.nd rfl rfl (fun a oe cls d pn hz hf => (pss_one (ps_set (i := 3) sc_l_fields.nd rfl (Or.inl rfl) (pe_lst (pa_cons (pe_xf (Kd.xf 0 (by decide)) Er.n0part hz hf (pv 4)) (pa_cons (pe_xf (Kd.xf 0 (by decide)) Er.n0index hz hf (pv 4)) pa_nil)))))) (.named (i := 4) ⟨rfl, by decide, .inl Er.x1.g⟩ sc_l_fields.nd rfl rfl (fun a oe cls d pn hz hf => (pss_one (ps_set (i := 3) sc_l_fields.nd rfl (Or.inl rfl) (pe_lst (pa_cons (pe_xf (Kd.xf 1 (by decide)) Er.n1index hz hf (pv 4)) pa_nil))))) (.named (i := 4) ⟨rfl, by decide, .inl Er.x2.g⟩ sc_l_fields.nd rfl rfl (fun a oe cls d pn hz hf => (pss_one (ps_set (i := 3) sc_l_fields.nd rfl (Or.inl rfl) (pe_lst (pa_cons (pe_xf (Kd.xf 2 (by decide)) Er.n2index hz hf (pv 4)) pa_nil))))) (.named (i := 4) ⟨rfl, by decide, .inl Er.x3.g⟩ sc_l_fields.nd rfl rfl (fun a oe cls d pn hz hf => (pss_one (ps_set (i := 3) sc_l_fields.nd rfl (Or.inl rfl) (pe_lst (pa_cons (pe_xf (Kd.xf 3 (by decide)) Er.n3line hz hf (pv 4)) pa_nil))))) (.named (i := 4) ⟨rfl, by decide, .inl Er.x4.g⟩ sc_l_fields.nd rfl rfl (fun a oe cls d pn hz hf => (pss_one (ps_set (i := 3) sc_l_fields.nd rfl (Or.inl rfl) (pe_lst (pa_cons (pe_xf (Kd.xf 4 (by decide)) Er.n4most hz hf (pv 4)) pa_nil))))) (.bare ⟨rfl, by decide, .inl Kd.g⟩ (fun a oe cls d pn hz hf => (pss_one (ps_set (i := 3) sc_l_fields.nd rfl (Or.inl rfl) (pe_lst pa_nil)))) .nil))))))) (pss_one (ps_ret (pv 3))))), ?_⟩
  refine ⟨_, rfl, _, rfl, _, rfl, k, v, u, rfl, hk, fun d H1 s1 hd hn => ?_⟩
  refine ⟨decide (k = 0), Kd.exm k 0 hk (by decide), fun e a na => ?_, fun e0 => ?_⟩
  · have e' : k = 0 := of_decide_eq_true e
    subst e'
    obtain ⟨x, ed, hx⟩ := hd (by decide)
    refine ⟨_, rfl, rfl, rfl, x, _, v, ed, hx, rfl, _, rfl, rfl, rfl, x, _, u, ed, hx, rfl, sz 2, fun l hl => ?_⟩
    refine ⟨_, rfl, ?_⟩
    exact q l _ (s1.trans (same_upd hl)) (s1.free hl) upd_same
  have n0 : k ≠ 0 := of_decide_eq_false e0
  refine ⟨decide (k = 1), Kd.exm k 1 hk (by decide), fun e a na => ?_, fun e1 => ?_⟩
  · have e' : k = 1 := of_decide_eq_true e
    subst e'
    obtain ⟨x, ed, hx⟩ := hd (by decide)
    refine ⟨_, rfl, rfl, rfl, x, _, v, ed, hx, rfl, sz 1, fun l hl => ?_⟩
    refine ⟨_, rfl, ?_⟩
    exact q l _ (s1.trans (same_upd hl)) (s1.free hl) upd_same
  have n1 : k ≠ 1 := of_decide_eq_false e1
  refine ⟨decide (k = 2), Kd.exm k 2 hk (by decide), fun e a na => ?_, fun e2 => ?_⟩
  · have e' : k = 2 := of_decide_eq_true e
    subst e'
    obtain ⟨x, ed, hx⟩ := hd (by decide)
    refine ⟨_, rfl, rfl, rfl, x, _, v, ed, hx, rfl, sz 1, fun l hl => ?_⟩
    refine ⟨_, rfl, ?_⟩
    exact q l _ (s1.trans (same_upd hl)) (s1.free hl) upd_same
  have n2 : k ≠ 2 := of_decide_eq_false e2
  refine ⟨decide (k = 3), Kd.exm k 3 hk (by decide), fun e a na => ?_, fun e3 => ?_⟩
  · have e' : k = 3 := of_decide_eq_true e
    subst e'
    obtain ⟨x, ed, hx⟩ := hd (by decide)
    refine ⟨_, rfl, rfl, rfl, x, _, v, ed, hx, rfl, sz 1, fun l hl => ?_⟩
    refine ⟨_, rfl, ?_⟩
    exact q l _ (s1.trans (same_upd hl)) (s1.free hl) upd_same
  have n3 : k ≠ 3 := of_decide_eq_false e3
  refine ⟨decide (k = 4), Kd.exm k 4 hk (by decide), fun e a na => ?_, fun e4 => ?_⟩
  · have e' : k = 4 := of_decide_eq_true e
    subst e'
    obtain ⟨x, ed, hx⟩ := hd (by decide)
    refine ⟨_, rfl, rfl, rfl, x, _, v, ed, hx, rfl, sz 1, fun l hl => ?_⟩
    refine ⟨_, rfl, ?_⟩
    exact q l _ (s1.trans (same_upd hl)) (s1.free hl) upd_same
  have n4 : k ≠ 4 := of_decide_eq_false e4
  refine ⟨true, Kd.exc k hk, fun _ a na => ?_, fun z => nomatch z⟩
  refine ⟨Nat.zero_le _, fun l hl => ?_⟩
  refine ⟨_, rfl, ?_⟩
  exact q l _ (s1.trans (same_upd hl)) (s1.free hl) (by rw [due_far (show 5 ≤ k by omega)]; exact upd_same)
end
end My

namespace My
open PySem L2
abbrev s_law : Stmt := top 34
theorem sc_law : FnScope ["_law_script", "_law_pool_here", "_law_turn", "_law_k", "_law_one_here", "_law_two", "_law_due", "_law_at"] ["_law_script"] (defScope s_law) := ⟨rfl, rfl, rfl, by decide +kernel, rfl, by decide +kernel, by decide +kernel⟩
/-! ### lists of flags as data -/
def kindsB (k : Nat) : List Bool := (List.range 22).map (fun j => decide (k = j)) ++ [true]
theorem kinds_is (k : Nat) : kindsOf k = (kindsB k).map V.bl := by
  unfold kindsOf kindsB
  rw [List.map_append, List.map_map]
  rfl
theorem flags_dp {K : PySem.W.Frag} {H : Hp} : ∀ bs : List Bool, DpAll K H (bs.map V.bl) (bs.map PyData.bool)
  | [] => .nil
  | b :: bs => .cons (.bl b) (flags_dp bs)
theorem flags_lay : ∀ bs : List Bool, PyData.canLayAll0 (bs.map PyData.bool) = true
  | [] => rfl
  | b :: bs => by
    show (PyData.canLay0 (.bool b) && PyData.canLayAll0 (bs.map PyData.bool)) = true
    rw [flags_lay bs]
    rfl
theorem flags_deep : ∀ bs : List Bool, PyData.depthAll (bs.map PyData.bool) = 0
  | [] => rfl
  | b :: bs => by
    show max (PyData.depth (.bool b)) (PyData.depthAll (bs.map PyData.bool)) = 0
    rw [flags_deep bs]
    rfl
theorem flags_shaped (bs : List Bool) : SeqAt.shaped (.list (bs.map PyData.bool)) = true := by
  have h1 : PyData.canLay0 (.list (bs.map PyData.bool)) = true := flags_lay bs
  have h2 : PyData.depth (.list (bs.map PyData.bool)) ≤ 64 := by
    show PyData.depthAll (bs.map PyData.bool) + 1 ≤ 64
    rw [flags_deep bs]
    decide
  unfold SeqAt.shaped
  rw [h1, decide_eq_true h2]
  rfl
theorem flags_eqv (bs : List Bool) : PyData.eqv (.list (bs.map PyData.bool)) (.list (bs.map PyData.bool)) = true := SeqAt.eqv_refl _ (flags_lay bs)
theorem seq_on {K : PySem.W.Frag} {H H' : Hp} {a p : Addr} {xs : List V} (h : SqL K H a xs) (hp : H p = none) (k : ∀ b o, b ≠ p → H b = some o → H' b = some o) : SqL K H' a xs := by
  rcases h with (h | ⟨o, h⟩) | h
  · exact .inl (.inl (k _ _ (ne_of_none h hp) h))
  · exact .inl (.inr ⟨o, k _ _ (ne_of_none h hp) h⟩)
  · exact .inr h
def dueD (k : Nat) (v u : PyData) : List PyData := match k with
  | 0 => [v, u]
  | 1 => [v]
  | 2 => [v]
  | 3 => [v]
  | 4 => [v]
  | _ => []
theorem due_dt {p : Addr} {H : Hp} {d e : PyData} {v u : V} (h : Dt p H d v) (g : Dt p H e u) : ∀ k, DtL p H (dueD k d e) (due k v u)
  | 0 => ⟨_, _, rfl, h, _, _, rfl, g, rfl⟩
  | 1 => ⟨_, _, rfl, h, rfl⟩
  | 2 => ⟨_, _, rfl, h, rfl⟩
  | 3 => ⟨_, _, rfl, h, rfl⟩
  | 4 => ⟨_, _, rfl, h, rfl⟩
  | _ + 5 => rfl
theorem due_ok {d e : PyData} (h : okd 1 d) (g : okd 1 e) (k : Nat) : okd 2 (.list (dueD k d e)) := by
  have one : ∀ x ∈ [d], okd 1 x := fun x hx => by
    cases hx with
    | head => exact h
    | tail _ z => cases z
  refine ⟨?_, fun x hx => ?_⟩
  · match k with
    | 0 => exact (by decide : 2 ≤ 1000)
    | 1 => exact (by decide : 1 ≤ 1000)
    | 2 => exact (by decide : 1 ≤ 1000)
    | 3 => exact (by decide : 1 ≤ 1000)
    | 4 => exact (by decide : 1 ≤ 1000)
    | _ + 5 => exact Nat.zero_le _
  · match k, hx with
    | 0, hx =>
      cases hx with
      | head => exact h
      | tail _ z =>
        cases z with
        | head => exact g
        | tail _ z => cases z
    | 1, hx => exact one x hx
    | 2, hx => exact one x hx
    | 3, hx => exact one x hx
    | 4, hx => exact one x hx
    | _ + 5, hx => cases hx
def spLaw (K : PySem.W.Frag) : Sp := fun vs H Q _ => ∃ (a : Addr) (ns : List Int), vs = [.ref a] ∧ SqL K H a (ns.map V.int) ∧ ns.length ≤ 63 ∧ ∀ H', Q (.bl true) H'
section
variable {P : Program} {w : World} {K : PySem.W.Frag} {mg : Str → Option Value} {base : Heap} {C fI : Nat → Addr} {fdI : Nat → FuncData} {CE : Addr}
theorem due_mid {k : Nat} {v u : V} (h0 : k ≠ 0) (h : k ≤ 4) : due k v u = [v] := by
  have c : k = 1 ∨ k = 2 ∨ k = 3 ∨ k = 4 := by omega
  rcases c with rfl | rfl | rfl | rfl <;> rfl
theorem Same.kp {p : Addr} {H H' : Hp} (s : Same H H') (h : Pool H p) : Kp p H H' := by
  obtain ⟨x0, x1, x2, x3, h1, e⟩ := h
  exact ⟨fun b o _ q => s b o q, x0, x1, x2, x3, h1, s _ _ e⟩
theorem ok_law {f f1 f2 f3 f4 f5 f6 f7 f8 : Addr} {fd fd1 fd2 fd3 fd4 fd5 fd6 fd7 fd8 : FuncData} (D : DefT K mg "law" "law" s_law ["_law_script"] f fd) (Z : Zs mg) (Er : Errs K mg C fI fdI) (Kd : Kinds K mg C CE)
    (D_l_pool : DefT K mg "_law_pool" "_law_pool" s_l_pool [] f1 fd1) (D_l_draw : DefT K mg "_law_draw" "_law_draw" s_l_draw ["_law_script", "_law_pool_here", "_law_limit"] f2 fd2)
    (D_l_one : DefT K mg "_law_one" "_law_one" s_l_one ["_law_script", "_law_pool_here", "_law_row"] f3 fd3) (D_l_value : DefT K mg "_law_value" "_law_value" s_l_value ["_law_script", "_law_pool_here"] f4 fd4)
    (D_l_raised : DefT K mg "_law_raised" "_law_raised" s_l_raised ["_law_k", "_law_one_here", "_law_two"] f5 fd5) (D_l_kinds : DefT K mg "_law_kinds" "_law_kinds" s_l_kinds ["_law_k", "_law_one_here", "_law_two"] f6 fd6)
    (D_l_fields : DefT K mg "_law_fields" "_law_fields" s_l_fields ["_law_k", "_law_one_here", "_law_two"] f7 fd7) (D_l_same : DefT K mg "_law_same" "_law_same" s_l_same ["_law_told", "_law_due"] f8 fd8) : FnOk P w K mg base CX0 6 f fd ["_law_script"] (spLaw K) := by
  have G_l_pool := ok_pool (P := P) (w := w) (base := base) D_l_pool
  have G_l_draw := ok_draw (P := P) (w := w) (base := base) D_l_draw Z
  have G_l_value := ok_value (P := P) (w := w) (base := base) D_l_value Z D_l_draw D_l_one
  have G_l_kinds := ok_kinds (P := P) (w := w) (base := base) D_l_kinds Z Er Kd D_l_raised
  have G_l_fields := ok_fields (P := P) (w := w) (base := base) D_l_fields Er Kd D_l_raised
  refine D.F.ok sc_law (fun vs H Q E h => ?_) (fun cdv A outer s H vs Q E hr h => ?_)
  · obtain ⟨a, ns, rfl, _⟩ := h
    rfl
  obtain ⟨a, ns, rfl, hS, h63, q⟩ := h
  -- the pool's address is not known yet: the contract of same is taken at each one
  have G_same := fun p => ok_same (P := P) (w := w) (base := base) D_l_same Z p 2
  have G_l_same : FnOk P w K mg base CX0 3 f8 fd8 ["_law_told", "_law_due"] (fun vs H Q E => ∃ p, spSame p 2 vs H Q E) := ⟨fun vs H Q E ⟨p, h⟩ => (G_same p).len vs H Q E h, fun A outer s H args us vs Q E h1 h2 h3 h4 ⟨p, h⟩ => (G_same p).run A outer s H args us vs Q E h1 h2 h3 h4 h⟩
  refine ⟨_, (pss_cons (ps_set (i := 1) sc_law.nd rfl (Or.inl rfl) (pe_call0 G_l_pool (hr.mono (by decide)) rfl D_l_pool.m D_l_pool.F.kp D_l_pool.b .nil pass0)) (pss_cons (ps_for PassesOwn.never rfl (pi_range1 rfl Z.range (pa_cons pe_int pa_nil)) (pg_name (i := 2) sc_law.nd rfl (Or.inl rfl)) (pss_cons (ps_set (i := 3) sc_law.nd rfl (Or.inr rfl) (pe_call G_l_draw (hr.mono (by decide)) rfl D_l_draw.m D_l_draw.F.kp D_l_draw.b .nil pass0 (pa_cons (pv 0) (pa_cons (pv 1) (pa_cons pe_int pa_nil))))) (pss_cons (ps_set (i := 4) sc_law.nd rfl (Or.inl rfl) (pe_call G_l_value (hr.mono (by decide)) rfl D_l_value.m D_l_value.F.kp D_l_value.b .nil pass0 (pa_cons (pv 0) (pa_cons (pv 1) pa_nil)))) (pss_cons (ps_set (i := 5) sc_law.nd rfl (Or.inl rfl) (pe_call G_l_value (hr.mono (by decide)) rfl D_l_value.m D_l_value.F.kp D_l_value.b .nil pass0 (pa_cons (pv 0) (pa_cons (pv 1) pa_nil)))) (pss_cons (ps_set (i := 6) sc_law.nd rfl (Or.inl rfl) (pe_lst (pa_cons (pv 4) pa_nil))) (C8.pss_cut (ps_if (pt_cmpR op_eq (pv 3) pe_int (nomark _)) (pss_one (ps_set (i := 6) sc_law.nd rfl (Or.inl rfl) (pe_lst (pa_cons (pv 4) (pa_cons (pv 5) pa_nil))))) (pss_one (ps_if (pt_cmpR op_gt (pv 3) pe_int (nomark _)) (pss_one (ps_set (i := 6) sc_law.nd rfl (Or.inl rfl) (pe_lst pa_nil))) pss_nil))) (pss_cons (ps_if (pt_cmpR (op_neD hr.units) (pe_call G_l_kinds (hr.mono (by decide)) rfl D_l_kinds.m D_l_kinds.F.kp D_l_kinds.b .nil pass0 (pa_cons (pv 3) (pa_cons (pv 4) (pa_cons (pv 5) pa_nil)))) (pe_op op_cat (pe_lc (own := [("_law_at", 7)]) (g := gName 7) rfl sc_law.nd  (pi_range1 rfl Z.range (pa_cons pe_int pa_nil)) (blkOk_by (own := [("_law_at", 7)]) (N := ["_law_script", "_law_pool_here", "_law_turn", "_law_k", "_law_one_here", "_law_two", "_law_due", "_law_at"]) (sc := defScope s_law) (by decide +kernel)) (fun _ _ _ _ _ => pg_name (i := 7) sc_law.nd rfl (Or.inl rfl)) (fun _ _ _ _ _ => pts_nil) (fun _ _ _ _ _ => (pe_cmpR op_eq (pv 7) (pv 3) (nomark _)))) (pe_lst (pa_cons pe_bl pa_nil))) (nomark _)) (pss_one (ps_ret pe_bl)) pss_nil) (pss_one (ps_if (pt_not (pt_val (pe_call G_l_same (hr.mono (by decide)) rfl D_l_same.m D_l_same.F.kp D_l_same.b .nil pass0 (pa_cons (pe_call G_l_fields (hr.mono (by decide)) rfl D_l_fields.m D_l_fields.F.kp D_l_fields.b .nil pass0 (pa_cons (pv 3) (pa_cons (pv 4) (pa_cons (pv 5) pa_nil)))) (pa_cons (pv 6) pa_nil))))) (pss_one (ps_ret pe_bl)) pss_nil))))))))) (pss_one (ps_ret pe_bl)))), ?_⟩
  refine ⟨rfl, fun p H1 s1 hp hP hk => ?_⟩
  have hS1 : Scr K H1 a p ns := ⟨fun H2 k2 => seq_on hS hp fun b o n e => k2.keep b o n (s1 b o e)⟩
  refine ⟨2, rfl, by decide, by decide, ?_⟩
  refine for_range (n := 2) (fun i σ H' => ∃ v2 v3 v4 v5 v6 v7 : Option V, σ = [some (.ref a), some (.ref p), v2, v3, v4, v5, v6, v7] ∧ Kp p H1 H') ⟨_, _, _, _, _, _, rfl, .refl hP⟩ ?_ ?_
  · rintro i σ H' hi ⟨v2, v3, v4, v5, v6, v7, rfl, k0⟩
    refine ⟨_, rfl, _, rfl, a, p, ns, _, rfl, hS1.on k0, k0.pool, by decide, by decide, fun r H2 r0 r1 k2 => ?_⟩
    obtain ⟨k, rfl⟩ : ∃ k : Nat, r = (k : Int) := ⟨r.toNat, by omega⟩
    have hk22 : k < 22 := by omega
    have k02 := k0.trans k2
    refine ⟨_, rfl, _, rfl, a, p, ns, rfl, hS1.on k02, k2.pool, fun v d H3 k3 dv okv => ?_⟩
    refine ⟨_, rfl, _, rfl, a, p, ns, rfl, hS1.on (k02.trans k3), k3.pool, fun u e H4 k4 du oku => ?_⟩
    have dv4 := Dt.on k4.keep d v dv
    have k04 := (k02.trans k3).trans k4
    refine ⟨_, rfl, sz 1, fun l hl => ?_⟩
    have k4l := (Kp.refl k4.pool).new (o := .lst [v]) hl
    refine ⟨fun σ' H' => ∃ l', σ' = [some (.ref a), some (.ref p), some (.int (0 + (i : Int))), some (.int (k : Int)), some v, some u, some (.ref l'), v7] ∧ Kp p H4 H' ∧ l' ≠ p ∧ H' l' = some (.lst (due k v u)), ?_, ?_⟩
    · refine ⟨_, rfl, rfl, _, rfl, ite2 (fun c => ?_) (fun c => ?_)⟩
      · have ek : k = 0 := by
          have := eqT c
          omega
        subst ek
        refine ⟨_, rfl, _, rfl, sz 2, fun l2 hl2 => ?_⟩
        exact ⟨l2, rfl, k4l.new hl2, k4l.ne hl2, upd_same⟩
      · have nk := eqF c
        refine ⟨_, rfl, _, _, rfl, rfl, _, rfl, ite2 (fun c2 => ?_) (fun c2 => ?_)⟩
        · have hk : (4 : Int) < (k : Int) := of_decide_eq_true c2
          refine ⟨sz 0, fun l2 hl2 => ?_⟩
          exact ⟨l2, rfl, k4l.new hl2, k4l.ne hl2, by rw [due_far (show 5 ≤ k by omega)]; exact upd_same⟩
        · have hk : ¬ (4 : Int) < (k : Int) := of_decide_eq_false (Bool.eq_false_iff.mpr c2)
          exact ⟨l, rfl, k4l, (Kp.refl k4.pool).ne hl, by rw [due_mid (show k ≠ 0 by omega) (show k ≤ 4 by omega)]; exact upd_same⟩
    · rintro _ H5 ⟨l', rfl, k5, nl, hl'⟩
      have k05 := k04.trans k5
      refine ⟨_, rfl, _, rfl, _, rfl, k, v, u, rfl, hk22, fun l2 H6 s6 n6 e6 => ?_⟩
      refine ⟨22, rfl, by decide, by decide, fun D2 hD2 => lc_range (lo := 0) (n := 22) (fun j G => ∃ xs : List V, G D2 = some (.lst xs) ∧ xs = (List.range j).map (fun j => V.bl (decide (k = j))) ∧ Same H6 G) ⟨[], upd_same, rfl, same_upd hD2⟩ ?_ ?_⟩
      · rintro j G hj ⟨xs, hx, ex, sG⟩
        refine ⟨rfl, _, rfl, _, rfl, rfl, xs, hx, ?_, ?_⟩
        · rw [ex, List.length_map, List.length_range]
          exact Nat.lt_of_lt_of_le hj (by decide)
        · refine ⟨_, upd_same, ?_, fun b o eb => ?_⟩
          · rw [List.range_succ, List.map_append, ← ex]
            have eqd : decide (V.int (0 + (j : Int)) = V.int (k : Int)) = decide (k = j) := by
              by_cases c : k = j
              · subst c
                rw [decide_eq_true rfl]
                exact decide_eq_true (by rw [Int.zero_add])
              · rw [decide_eq_false c]
                exact decide_eq_false fun z => c (by have := V.int.inj z; omega)
            rw [eqd]
            rfl
          · rw [upd_ne (ne_of_none eb hD2)]
            exact sG b o eb
      rintro G ⟨xs, hx, ex, sG⟩
      have elen : xs.length = 22 := by rw [ex, List.length_map, List.length_range]
      refine ⟨sz 1, fun l3 h3 => ?_⟩
      refine ⟨D2, l3, _, _, rfl, rfl, keep_new h3 _ _ hx, upd_same, ?_, fun l4 h4 => ?_⟩
      · show xs.length + 1 ≤ sizeLine
        rw [elen]
        decide
      have sall := (sG.trans (same_upd (o := .lst [.bl true]) h3)).trans (same_upd (o := .lst (xs ++ [.bl true])) h4)
      have el4 : xs ++ [V.bl true] = (kindsB k).map V.bl := by
        rw [← kinds_is, ex]
        rfl
      refine ⟨_, _, .lst (.of (sall _ _ (by rw [← kinds_is]; exact e6))) (flags_dp (kindsB k)), .lst (.of (by rw [← el4]; exact upd_same)) (flags_dp (kindsB k)), flags_shaped _, flags_shaped _, _, rfl, ?_⟩
      rw [flags_eqv]
      refine iteF ?_
      -- same(fields(..), due)
      refine ⟨_, rfl, _, rfl, _, rfl, k, v, u, rfl, hk22, fun l7 H8 s8 n8 e8 => ?_⟩
      have s58 := (s6.trans sall).trans s8
      have kp58 := Same.kp s58 k5.pool
      have hl8 := s58 _ _ hl'
      have dt58 := due_dt (Dt.on (k5.trans kp58).keep d v dv4) (Dt.on (k5.trans kp58).keep e u du) k
      refine ⟨_, rfl, p, .ref l7, .ref l', .list (dueD k d e), rfl, ?_, ?_, ?_, _, rfl, iteF ?_⟩
      · have nl7 : l7 ≠ p := by
          obtain ⟨_, _, _, _, _, ep⟩ := k5.pool
          exact (ne_of_none ((s6.trans sall) _ _ ep) n8).symm
        exact ⟨l7, _, rfl, nl7, e8, dt58⟩
      · exact ⟨l', _, rfl, nl, hl8, dt58⟩
      · exact due_ok okv oku k
      exact ⟨_, _, _, _, _, _, rfl, k05.trans kp58⟩
  · rintro σ H' ⟨v2, v3, v4, v5, v6, v7, rfl, k0⟩
    exact q _
end
end My

namespace My
open PySem L2
inductive KitRow (K : PySem.W.Frag) (t : Value) (i : Nat) : Nat → List Addr → Prop
  | nil (j : Nat) : KitRow K t i j []
  | cons {j : Nat} {c : Addr} {cs : List Addr} : PySem.W.kitOne K t (.ref c) = some (decide (i = j)) → KitRow K t i (j + 1) cs → KitRow K t i j (c :: cs)
inductive KitTab (K : PySem.W.Frag) (all : List Addr) : Nat → List Addr → Prop
  | nil (i : Nat) : KitTab K all i []
  | cons {i : Nat} {c : Addr} {cs : List Addr} : KitRow K (.ref c) i 0 all → KitTab K all (i + 1) cs → KitTab K all i (c :: cs)
inductive SubRow (K : PySem.W.Frag) (t : Value) (i : Nat) : Nat → List Addr → Prop
  | nil (j : Nat) : SubRow K t i j []
  | cons {j : Nat} {c : Addr} {cs : List Addr} : PySem.W.subIn K t (.ref c) = some (decide (i = j)) → SubRow K t i (j + 1) cs → SubRow K t i j (c :: cs)
inductive SubTab (K : PySem.W.Frag) (all : List Addr) : Nat → List Addr → Prop
  | nil (i : Nat) : SubTab K all i []
  | cons {i : Nat} {c : Addr} {cs : List Addr} : SubRow K (.ref c) i 0 all → SubTab K all (i + 1) cs → SubTab K all i (c :: cs)
/-- a fact of each class of a list -/
inductive AllC (f : Addr → Prop) : List Addr → Prop
  | nil : AllC f []
  | cons {c : Addr} {cs : List Addr} : f c → AllC f cs → AllC f (c :: cs)
theorem KitRow.get {K : PySem.W.Frag} {t : Value} {i : Nat} : ∀ {j0 : Nat} {cs : List Addr}, KitRow K t i j0 cs → ∀ (j : Nat) (c : Addr), cs[j]? = some c → PySem.W.kitOne K t (.ref c) = some (decide (i = j0 + j))
  | _, _, .nil _, _, _, e => by simp at e
  | _, _, .cons h _, 0, _, e => by
    simp at e
    subst e
    exact h
  | j0, _, .cons _ r, j + 1, c, e => by
    have q := KitRow.get r j c (by simpa using e)
    rw [show j0 + (j + 1) = j0 + 1 + j by omega]
    exact q
theorem SubRow.get {K : PySem.W.Frag} {t : Value} {i : Nat} : ∀ {j0 : Nat} {cs : List Addr}, SubRow K t i j0 cs → ∀ (j : Nat) (c : Addr), cs[j]? = some c → PySem.W.subIn K t (.ref c) = some (decide (i = j0 + j))
  | _, _, .nil _, _, _, e => by simp at e
  | _, _, .cons h _, 0, _, e => by
    simp at e
    subst e
    exact h
  | j0, _, .cons _ r, j + 1, c, e => by
    have q := SubRow.get r j c (by simpa using e)
    rw [show j0 + (j + 1) = j0 + 1 + j by omega]
    exact q
theorem KitTab.get {K : PySem.W.Frag} {all : List Addr} : ∀ {i0 : Nat} {cs : List Addr}, KitTab K all i0 cs → ∀ (i : Nat) (c : Addr), cs[i]? = some c → KitRow K (.ref c) (i0 + i) 0 all
  | _, _, .nil _, _, _, e => by simp at e
  | _, _, .cons h _, 0, _, e => by
    simp at e
    subst e
    exact h
  | i0, _, .cons _ r, i + 1, c, e => by
    have q := KitTab.get r i c (by simpa using e)
    rw [show i0 + (i + 1) = i0 + 1 + i by omega]
    exact q
theorem SubTab.get {K : PySem.W.Frag} {all : List Addr} : ∀ {i0 : Nat} {cs : List Addr}, SubTab K all i0 cs → ∀ (i : Nat) (c : Addr), cs[i]? = some c → SubRow K (.ref c) (i0 + i) 0 all
  | _, _, .nil _, _, _, e => by simp at e
  | _, _, .cons h _, 0, _, e => by
    simp at e
    subst e
    exact h
  | i0, _, .cons _ r, i + 1, c, e => by
    have q := SubTab.get r i c (by simpa using e)
    rw [show i0 + (i + 1) = i0 + 1 + i by omega]
    exact q
theorem AllC.get {f : Addr → Prop} : ∀ {cs : List Addr}, AllC f cs → ∀ (i : Nat) (c : Addr), cs[i]? = some c → f c
  | _, .nil, _, _, e => by simp at e
  | _, .cons h _, 0, _, e => by
    simp at e
    subst e
    exact h
  | _, .cons _ r, i + 1, c, e => AllC.get r i c (by simpa using e)
/-- what is asked of each class, for isinstance -/
structure ClsF (K : PySem.W.Frag) (D : Addr) : Prop where
  cl : PySem.W.isClsIn K D = true
  ga : PySem.W.findIn K (.ref D) "__getattribute__" = some (some (.builtin "BaseException.__getattribute__"))
  gg : PySem.W.findIn K (.ref D) "__getattr__" = some none
  ex : PySem.W.subIn K (.ref D) (.type "BaseException") = some true
  ca : PySem.W.findIn K (.ref D) "__class__" = some (some (.builtin "object.__class__"))
  cm : PySem.W.mroIn K D (.type "object") = some true
  ty : PySem.W.typeIn K (.ref D) = some (.type "type")
  hd : PySem.W.hasDictIn K D = true
/-! ### what the top has written, the head -/
theorem all_mk {l : PySem.W.OpenLaw} {w : World} {K : PySem.W.Frag} {h : Heap} {mg : Str → Option Value} {fa : Addr} (X : K.In h) (G : h.Ns mainGlobals mg) (hfa : mg "law" = some (.ref fa)) {CE x0 x1 x2 x3 x4 x5 x6 x7 x8 x9 x10 x11 x12 x13 x14 x15 x16 x17 x18 x19 x20 x21 g0 g1 g2 g3 g4 : Addr} {nm0 qn0 : Str} {nN0 : Addr} {bs0 bm0 : List Value} {sn0 : List Str} {sb0 : List Value} {ab0 : Bool} {co0 : Option Bool} {dd0 : Option Addr} {u00 u10 u20 u30 u50 : Option Value} {jod0 jan0 : Option Addr} {jsl0 : Array (Option Value)} {joc0 jkV0 jdc0 jpm0 jcd0 jct0 : Value} {nm1 qn1 : Str} {nN1 : Addr} {bs1 bm1 : List Value} {sn1 : List Str} {sb1 : List Value} {ab1 : Bool} {co1 : Option Bool} {dd1 : Option Addr} {u01 u11 u21 u31 u51 : Option Value} {jod1 jan1 : Option Addr} {jsl1 : Array (Option Value)} {joc1 jkV1 jdc1 jpm1 jcd1 jct1 : Value} {nm2 qn2 : Str} {nN2 : Addr} {bs2 bm2 : List Value} {sn2 : List Str} {sb2 : List Value} {ab2 : Bool} {co2 : Option Bool} {dd2 : Option Addr} {u02 u12 u22 u32 u52 : Option Value} {jod2 jan2 : Option Addr} {jsl2 : Array (Option Value)} {joc2 jkV2 jdc2 jpm2 jcd2 jct2 : Value} {nm3 qn3 : Str} {nN3 : Addr} {bs3 bm3 : List Value} {sn3 : List Str} {sb3 : List Value} {ab3 : Bool} {co3 : Option Bool} {dd3 : Option Addr} {u03 u13 u23 u33 u53 : Option Value} {jod3 jan3 : Option Addr} {jsl3 : Array (Option Value)} {joc3 jkV3 jdc3 jpm3 jcd3 jct3 : Value} {nm4 qn4 : Str} {nN4 : Addr} {bs4 bm4 : List Value} {sn4 : List Str} {sb4 : List Value} {ab4 : Bool} {co4 : Option Bool} {dd4 : Option Addr} {u04 u14 u24 u34 u54 : Option Value} {jod4 jan4 : Option Addr} {jsl4 : Array (Option Value)} {joc4 jkV4 jdc4 jpm4 jcd4 jct4 : Value} 
    {f0 : Addr} {od0 an0 : Option Addr} {sl0 : Array (Option Value)} {oc0 kV0 dc0 pm0 cd0 ct0 : Value} {f1 : Addr} {od1 an1 : Option Addr} {sl1 : Array (Option Value)} {oc1 kV1 dc1 pm1 cd1 ct1 : Value} {f2 : Addr} {od2 an2 : Option Addr} {sl2 : Array (Option Value)} {oc2 kV2 dc2 pm2 cd2 ct2 : Value} {f3 : Addr} {od3 an3 : Option Addr} {sl3 : Array (Option Value)} {oc3 kV3 dc3 pm3 cd3 ct3 : Value} {f4 : Addr} {od4 an4 : Option Addr} {sl4 : Array (Option Value)} {oc4 kV4 dc4 pm4 cd4 ct4 : Value} {f5 : Addr} {od5 an5 : Option Addr} {sl5 : Array (Option Value)} {oc5 kV5 dc5 pm5 cd5 ct5 : Value} {f6 : Addr} {od6 an6 : Option Addr} {sl6 : Array (Option Value)} {oc6 kV6 dc6 pm6 cd6 ct6 : Value} {f7 : Addr} {od7 an7 : Option Addr} {sl7 : Array (Option Value)} {oc7 kV7 dc7 pm7 cd7 ct7 : Value} {f8 : Addr} {od8 an8 : Option Addr} {sl8 : Array (Option Value)} {oc8 kV8 dc8 pm8 cd8 ct8 : Value} 
    (a0 : PySem.W.nsIn K mainGlobals "_law_pool" = some (some (.ref f0)))
    (l0 : K.lookup f0 = some ⟨oc0, od0, .func (PySem.W.fnOf "_law_pool" "_law_pool" (defArgs s_l_pool) (defBody s_l_pool) (defScope s_l_pool) .none kV0 dc0 pm0 an0 cd0 ct0), sl0⟩)
    (c0 : PySem.W.codeIn K cd0 "_law_pool" = true)
    (k0 : PySem.W.keepIn K (.ref f0) = true)
    (a1 : PySem.W.nsIn K mainGlobals "_law_draw" = some (some (.ref f1)))
    (l1 : K.lookup f1 = some ⟨oc1, od1, .func (PySem.W.fnOf "_law_draw" "_law_draw" (defArgs s_l_draw) (defBody s_l_draw) (defScope s_l_draw) .none kV1 dc1 pm1 an1 cd1 ct1), sl1⟩)
    (c1 : PySem.W.codeIn K cd1 "_law_draw" = true)
    (k1 : PySem.W.keepIn K (.ref f1) = true)
    (a2 : PySem.W.nsIn K mainGlobals "_law_one" = some (some (.ref f2)))
    (l2 : K.lookup f2 = some ⟨oc2, od2, .func (PySem.W.fnOf "_law_one" "_law_one" (defArgs s_l_one) (defBody s_l_one) (defScope s_l_one) .none kV2 dc2 pm2 an2 cd2 ct2), sl2⟩)
    (c2 : PySem.W.codeIn K cd2 "_law_one" = true)
    (k2 : PySem.W.keepIn K (.ref f2) = true)
    (a3 : PySem.W.nsIn K mainGlobals "_law_value" = some (some (.ref f3)))
    (l3 : K.lookup f3 = some ⟨oc3, od3, .func (PySem.W.fnOf "_law_value" "_law_value" (defArgs s_l_value) (defBody s_l_value) (defScope s_l_value) .none kV3 dc3 pm3 an3 cd3 ct3), sl3⟩)
    (c3 : PySem.W.codeIn K cd3 "_law_value" = true)
    (k3 : PySem.W.keepIn K (.ref f3) = true)
    (a4 : PySem.W.nsIn K mainGlobals "_law_raised" = some (some (.ref f4)))
    (l4 : K.lookup f4 = some ⟨oc4, od4, .func (PySem.W.fnOf "_law_raised" "_law_raised" (defArgs s_l_raised) (defBody s_l_raised) (defScope s_l_raised) .none kV4 dc4 pm4 an4 cd4 ct4), sl4⟩)
    (c4 : PySem.W.codeIn K cd4 "_law_raised" = true)
    (k4 : PySem.W.keepIn K (.ref f4) = true)
    (a5 : PySem.W.nsIn K mainGlobals "_law_kinds" = some (some (.ref f5)))
    (l5 : K.lookup f5 = some ⟨oc5, od5, .func (PySem.W.fnOf "_law_kinds" "_law_kinds" (defArgs s_l_kinds) (defBody s_l_kinds) (defScope s_l_kinds) .none kV5 dc5 pm5 an5 cd5 ct5), sl5⟩)
    (c5 : PySem.W.codeIn K cd5 "_law_kinds" = true)
    (k5 : PySem.W.keepIn K (.ref f5) = true)
    (a6 : PySem.W.nsIn K mainGlobals "_law_fields" = some (some (.ref f6)))
    (l6 : K.lookup f6 = some ⟨oc6, od6, .func (PySem.W.fnOf "_law_fields" "_law_fields" (defArgs s_l_fields) (defBody s_l_fields) (defScope s_l_fields) .none kV6 dc6 pm6 an6 cd6 ct6), sl6⟩)
    (c6 : PySem.W.codeIn K cd6 "_law_fields" = true)
    (k6 : PySem.W.keepIn K (.ref f6) = true)
    (a7 : PySem.W.nsIn K mainGlobals "_law_same" = some (some (.ref f7)))
    (l7 : K.lookup f7 = some ⟨oc7, od7, .func (PySem.W.fnOf "_law_same" "_law_same" (defArgs s_l_same) (defBody s_l_same) (defScope s_l_same) .none kV7 dc7 pm7 an7 cd7 ct7), sl7⟩)
    (c7 : PySem.W.codeIn K cd7 "_law_same" = true)
    (k7 : PySem.W.keepIn K (.ref f7) = true)
    (a8 : PySem.W.nsIn K mainGlobals "law" = some (some (.ref f8)))
    (l8 : K.lookup f8 = some ⟨oc8, od8, .func (PySem.W.fnOf "law" "law" (defArgs s_law) (defBody s_law) (defScope s_law) .none kV8 dc8 pm8 an8 cd8 ct8), sl8⟩)
    (c8 : PySem.W.codeIn K cd8 "law" = true)
    (k8 : PySem.W.keepIn K (.ref f8) = true)
    (z_int : PySem.W.nsIn K mainGlobals "int" = some none)
    (z_len : PySem.W.nsIn K mainGlobals "len" = some none)
    (z_range : PySem.W.nsIn K mainGlobals "range" = some none)
    (z_isinstance : PySem.W.nsIn K mainGlobals "isinstance" = some none)
    (z_bool : PySem.W.nsIn K mainGlobals "bool" = some none)
    (z_str : PySem.W.nsIn K mainGlobals "str" = some none)
    (z_tuple : PySem.W.nsIn K mainGlobals "tuple" = some none)
    (z_list : PySem.W.nsIn K mainGlobals "list" = some none)
    (z_ValueError : PySem.W.nsIn K mainGlobals "ValueError" = some none)
    (aE : PySem.W.nsIn K mainGlobals "CopyError" = some (some (.ref CE)))
    (b0 : PySem.W.nsIn K mainGlobals "NoBook" = some (some (.ref x0)))
    (b1 : PySem.W.nsIn K mainGlobals "NoRun" = some (some (.ref x1)))
    (b2 : PySem.W.nsIn K mainGlobals "NoFamily" = some (some (.ref x2)))
    (b3 : PySem.W.nsIn K mainGlobals "NoText" = some (some (.ref x3)))
    (b4 : PySem.W.nsIn K mainGlobals "TooMany" = some (some (.ref x4)))
    (b5 : PySem.W.nsIn K mainGlobals "NoMany" = some (some (.ref x5)))
    (b6 : PySem.W.nsIn K mainGlobals "NoStep" = some (some (.ref x6)))
    (b7 : PySem.W.nsIn K mainGlobals "NoKinds" = some (some (.ref x7)))
    (b8 : PySem.W.nsIn K mainGlobals "NoMost" = some (some (.ref x8)))
    (b9 : PySem.W.nsIn K mainGlobals "NoViews" = some (some (.ref x9)))
    (b10 : PySem.W.nsIn K mainGlobals "Undecided" = some (some (.ref x10)))
    (b11 : PySem.W.nsIn K mainGlobals "NoCache" = some (some (.ref x11)))
    (b12 : PySem.W.nsIn K mainGlobals "NoPick" = some (some (.ref x12)))
    (b13 : PySem.W.nsIn K mainGlobals "NoLines" = some (some (.ref x13)))
    (b14 : PySem.W.nsIn K mainGlobals "NoLine" = some (some (.ref x14)))
    (b15 : PySem.W.nsIn K mainGlobals "NoValue" = some (some (.ref x15)))
    (b16 : PySem.W.nsIn K mainGlobals "NoBack" = some (some (.ref x16)))
    (b17 : PySem.W.nsIn K mainGlobals "NoIndex" = some (some (.ref x17)))
    (b18 : PySem.W.nsIn K mainGlobals "NoRest" = some (some (.ref x18)))
    (b19 : PySem.W.nsIn K mainGlobals "NoPair" = some (some (.ref x19)))
    (b20 : PySem.W.nsIn K mainGlobals "NotRight" = some (some (.ref x20)))
    (b21 : PySem.W.nsIn K mainGlobals "NoBag" = some (some (.ref x21)))
    (o0 : K.lookup x0 = some (excClassObj nm0 qn0 x0 nN0 bs0 bm0 true sn0 sb0 ab0 co0 dd0 u00 u10 u20 u30 u50 "ValueError.__new__"))
    (oo0 : PySem.HandSPX.refsVE bm0 = true)
    (sa0 : PySem.W.findIn K (.ref x0) "__setattr__" = some (some (.builtin "object.__setattr__")))
    (kc0 : PySem.W.keepIn K (.ref x0) = true)
    (i0 : PySem.W.findIn K (.ref x0) "__init__" = some (some (.ref g0)))
    (it0 : PySem.W.typeIn K (.ref g0) = some (.type "function"))
    (jl0 : K.lookup g0 = some ⟨joc0, jod0, .func (PySem.W.fnOf "__init__" "NoBook.__init__" (defArgs s_NoBook__init_) (defBody s_NoBook__init_) (defScope s_NoBook__init_) .none jkV0 jdc0 jpm0 jan0 jcd0 jct0), jsl0⟩)
    (jc0 : PySem.W.codeIn K jcd0 "NoBook.__init__" = true)
    (jk0 : PySem.W.keepIn K (.ref g0) = true)
    (nf0part : PySem.W.findIn K (.ref x0) "part" = some none)
    (nf0index : PySem.W.findIn K (.ref x0) "index" = some none)
    (o1 : K.lookup x1 = some (excClassObj nm1 qn1 x1 nN1 bs1 bm1 true sn1 sb1 ab1 co1 dd1 u01 u11 u21 u31 u51 "ValueError.__new__"))
    (oo1 : PySem.HandSPX.refsVE bm1 = true)
    (sa1 : PySem.W.findIn K (.ref x1) "__setattr__" = some (some (.builtin "object.__setattr__")))
    (kc1 : PySem.W.keepIn K (.ref x1) = true)
    (i1 : PySem.W.findIn K (.ref x1) "__init__" = some (some (.ref g1)))
    (it1 : PySem.W.typeIn K (.ref g1) = some (.type "function"))
    (jl1 : K.lookup g1 = some ⟨joc1, jod1, .func (PySem.W.fnOf "__init__" "NoRun.__init__" (defArgs s_NoRun__init_) (defBody s_NoRun__init_) (defScope s_NoRun__init_) .none jkV1 jdc1 jpm1 jan1 jcd1 jct1), jsl1⟩)
    (jc1 : PySem.W.codeIn K jcd1 "NoRun.__init__" = true)
    (jk1 : PySem.W.keepIn K (.ref g1) = true)
    (nf1index : PySem.W.findIn K (.ref x1) "index" = some none)
    (o2 : K.lookup x2 = some (excClassObj nm2 qn2 x2 nN2 bs2 bm2 true sn2 sb2 ab2 co2 dd2 u02 u12 u22 u32 u52 "ValueError.__new__"))
    (oo2 : PySem.HandSPX.refsVE bm2 = true)
    (sa2 : PySem.W.findIn K (.ref x2) "__setattr__" = some (some (.builtin "object.__setattr__")))
    (kc2 : PySem.W.keepIn K (.ref x2) = true)
    (i2 : PySem.W.findIn K (.ref x2) "__init__" = some (some (.ref g2)))
    (it2 : PySem.W.typeIn K (.ref g2) = some (.type "function"))
    (jl2 : K.lookup g2 = some ⟨joc2, jod2, .func (PySem.W.fnOf "__init__" "NoFamily.__init__" (defArgs s_NoFamily__init_) (defBody s_NoFamily__init_) (defScope s_NoFamily__init_) .none jkV2 jdc2 jpm2 jan2 jcd2 jct2), jsl2⟩)
    (jc2 : PySem.W.codeIn K jcd2 "NoFamily.__init__" = true)
    (jk2 : PySem.W.keepIn K (.ref g2) = true)
    (nf2index : PySem.W.findIn K (.ref x2) "index" = some none)
    (o3 : K.lookup x3 = some (excClassObj nm3 qn3 x3 nN3 bs3 bm3 true sn3 sb3 ab3 co3 dd3 u03 u13 u23 u33 u53 "ValueError.__new__"))
    (oo3 : PySem.HandSPX.refsVE bm3 = true)
    (sa3 : PySem.W.findIn K (.ref x3) "__setattr__" = some (some (.builtin "object.__setattr__")))
    (kc3 : PySem.W.keepIn K (.ref x3) = true)
    (i3 : PySem.W.findIn K (.ref x3) "__init__" = some (some (.ref g3)))
    (it3 : PySem.W.typeIn K (.ref g3) = some (.type "function"))
    (jl3 : K.lookup g3 = some ⟨joc3, jod3, .func (PySem.W.fnOf "__init__" "NoText.__init__" (defArgs s_NoText__init_) (defBody s_NoText__init_) (defScope s_NoText__init_) .none jkV3 jdc3 jpm3 jan3 jcd3 jct3), jsl3⟩)
    (jc3 : PySem.W.codeIn K jcd3 "NoText.__init__" = true)
    (jk3 : PySem.W.keepIn K (.ref g3) = true)
    (nf3line : PySem.W.findIn K (.ref x3) "line" = some none)
    (o4 : K.lookup x4 = some (excClassObj nm4 qn4 x4 nN4 bs4 bm4 true sn4 sb4 ab4 co4 dd4 u04 u14 u24 u34 u54 "ValueError.__new__"))
    (oo4 : PySem.HandSPX.refsVE bm4 = true)
    (sa4 : PySem.W.findIn K (.ref x4) "__setattr__" = some (some (.builtin "object.__setattr__")))
    (kc4 : PySem.W.keepIn K (.ref x4) = true)
    (i4 : PySem.W.findIn K (.ref x4) "__init__" = some (some (.ref g4)))
    (it4 : PySem.W.typeIn K (.ref g4) = some (.type "function"))
    (jl4 : K.lookup g4 = some ⟨joc4, jod4, .func (PySem.W.fnOf "__init__" "TooMany.__init__" (defArgs s_TooMany__init_) (defBody s_TooMany__init_) (defScope s_TooMany__init_) .none jkV4 jdc4 jpm4 jan4 jcd4 jct4), jsl4⟩)
    (jc4 : PySem.W.codeIn K jcd4 "TooMany.__init__" = true)
    (jk4 : PySem.W.keepIn K (.ref g4) = true)
    (nf4most : PySem.W.findIn K (.ref x4) "most" = some none)
    (q5 : PySem.W.excIn K x5 [.type "ValueError", .type "Exception", .type "BaseException", .type "object"] "ValueError.__new__" = true)
    (kc5 : PySem.W.keepIn K (.ref x5) = true)
    (q6 : PySem.W.excIn K x6 [.type "ValueError", .type "Exception", .type "BaseException", .type "object"] "ValueError.__new__" = true)
    (kc6 : PySem.W.keepIn K (.ref x6) = true)
    (q7 : PySem.W.excIn K x7 [.type "ValueError", .type "Exception", .type "BaseException", .type "object"] "ValueError.__new__" = true)
    (kc7 : PySem.W.keepIn K (.ref x7) = true)
    (q8 : PySem.W.excIn K x8 [.type "ValueError", .type "Exception", .type "BaseException", .type "object"] "ValueError.__new__" = true)
    (kc8 : PySem.W.keepIn K (.ref x8) = true)
    (q9 : PySem.W.excIn K x9 [.type "ValueError", .type "Exception", .type "BaseException", .type "object"] "ValueError.__new__" = true)
    (kc9 : PySem.W.keepIn K (.ref x9) = true)
    (q10 : PySem.W.excIn K x10 [.type "ValueError", .type "Exception", .type "BaseException", .type "object"] "ValueError.__new__" = true)
    (kc10 : PySem.W.keepIn K (.ref x10) = true)
    (q11 : PySem.W.excIn K x11 [.type "ValueError", .type "Exception", .type "BaseException", .type "object"] "ValueError.__new__" = true)
    (kc11 : PySem.W.keepIn K (.ref x11) = true)
    (q12 : PySem.W.excIn K x12 [.type "ValueError", .type "Exception", .type "BaseException", .type "object"] "ValueError.__new__" = true)
    (kc12 : PySem.W.keepIn K (.ref x12) = true)
    (q13 : PySem.W.excIn K x13 [.type "ValueError", .type "Exception", .type "BaseException", .type "object"] "ValueError.__new__" = true)
    (kc13 : PySem.W.keepIn K (.ref x13) = true)
    (q14 : PySem.W.excIn K x14 [.type "ValueError", .type "Exception", .type "BaseException", .type "object"] "ValueError.__new__" = true)
    (kc14 : PySem.W.keepIn K (.ref x14) = true)
    (q15 : PySem.W.excIn K x15 [.type "ValueError", .type "Exception", .type "BaseException", .type "object"] "ValueError.__new__" = true)
    (kc15 : PySem.W.keepIn K (.ref x15) = true)
    (q16 : PySem.W.excIn K x16 [.type "ValueError", .type "Exception", .type "BaseException", .type "object"] "ValueError.__new__" = true)
    (kc16 : PySem.W.keepIn K (.ref x16) = true)
    (q17 : PySem.W.excIn K x17 [.type "ValueError", .type "Exception", .type "BaseException", .type "object"] "ValueError.__new__" = true)
    (kc17 : PySem.W.keepIn K (.ref x17) = true)
    (q18 : PySem.W.excIn K x18 [.type "ValueError", .type "Exception", .type "BaseException", .type "object"] "ValueError.__new__" = true)
    (kc18 : PySem.W.keepIn K (.ref x18) = true)
    (q19 : PySem.W.excIn K x19 [.type "ValueError", .type "Exception", .type "BaseException", .type "object"] "ValueError.__new__" = true)
    (kc19 : PySem.W.keepIn K (.ref x19) = true)
    (q20 : PySem.W.excIn K x20 [.type "ValueError", .type "Exception", .type "BaseException", .type "object"] "ValueError.__new__" = true)
    (kc20 : PySem.W.keepIn K (.ref x20) = true)
    (q21 : PySem.W.excIn K x21 [.type "ValueError", .type "Exception", .type "BaseException", .type "object"] "ValueError.__new__" = true)
    (kc21 : PySem.W.keepIn K (.ref x21) = true)
    (cf : AllC (ClsF K) [x0, x1, x2, x3, x4, x5, x6, x7, x8, x9, x10, x11, x12, x13, x14, x15, x16, x17, x18, x19, x20, x21])
    (ce : ClsF K CE)
    (cn : PySem.W.specialIn K (.builtin "object.__class__") "__get__" = some (some (.builtin "getset_descriptor.__get__")))
    (ct : PySem.W.takesIn K (.builtin "object.__class__") = some true)
    (kt : KitTab K [x0, x1, x2, x3, x4, x5, x6, x7, x8, x9, x10, x11, x12, x13, x14, x15, x16, x17, x18, x19, x20, x21] 0 [x0, x1, x2, x3, x4, x5, x6, x7, x8, x9, x10, x11, x12, x13, x14, x15, x16, x17, x18, x19, x20, x21])
    (kv : AllC (fun c => PySem.W.kitOne K (.ref c) (.type "ValueError") = some true) [x0, x1, x2, x3, x4, x5, x6, x7, x8, x9, x10, x11, x12, x13, x14, x15, x16, x17, x18, x19, x20, x21])
    (st : SubTab K [x0, x1, x2, x3, x4] 0 [x0, x1, x2, x3, x4, x5, x6, x7, x8, x9, x10, x11, x12, x13, x14, x15, x16, x17, x18, x19, x20, x21])
    (se : AllC (fun c => PySem.W.subIn K (.ref c) (.ref CE) = some true) [x0, x1, x2, x3, x4, x5, x6, x7, x8, x9, x10, x11, x12, x13, x14, x15, x16, x17, x18, x19, x20, x21])
    : ∃ fd : FuncData, (∀ (s : Shared) (v : Value), BindsTo s fd ⟨[v], []⟩ [("_law_script", v)]) ∧ ∀ base : Heap, K.In base → base.Ns mainGlobals mg → FnOk l.prog w K mg base CX0 6 fa fd ["_law_script"] (spLaw K) := by
  have e := hfa.symm.trans (PySem.W.mg_of X G a8)
  cases e
  have D0 : DefT K mg "_law_pool" "_law_pool" s_l_pool [] f0 (PySem.W.fnOf "_law_pool" "_law_pool" (defArgs s_l_pool) (defBody s_l_pool) (defScope s_l_pool) .none kV0 dc0 pm0 an0 cd0 ct0) := by
    have F := fun_mk (x := "_law_pool") (st := s_l_pool) l0 c0 k0
    exact ⟨PySem.W.mg_of X G a0, F, F.binds (ps := []) fun _ _ _ _ _ _ us hl => match us, hl with | [], _ => rfl⟩
  have D1 : DefT K mg "_law_draw" "_law_draw" s_l_draw ["_law_script", "_law_pool_here", "_law_limit"] f1 (PySem.W.fnOf "_law_draw" "_law_draw" (defArgs s_l_draw) (defBody s_l_draw) (defScope s_l_draw) .none kV1 dc1 pm1 an1 cd1 ct1) := by
    have F := fun_mk (x := "_law_draw") (st := s_l_draw) l1 c1 k1
    exact ⟨PySem.W.mg_of X G a1, F, F.binds (ps := ["_law_script", "_law_pool_here", "_law_limit"]) fun _ _ _ _ _ _ us hl => match us, hl with | [_, _, _], _ => rfl⟩
  have D2 : DefT K mg "_law_one" "_law_one" s_l_one ["_law_script", "_law_pool_here", "_law_row"] f2 (PySem.W.fnOf "_law_one" "_law_one" (defArgs s_l_one) (defBody s_l_one) (defScope s_l_one) .none kV2 dc2 pm2 an2 cd2 ct2) := by
    have F := fun_mk (x := "_law_one") (st := s_l_one) l2 c2 k2
    exact ⟨PySem.W.mg_of X G a2, F, F.binds (ps := ["_law_script", "_law_pool_here", "_law_row"]) fun _ _ _ _ _ _ us hl => match us, hl with | [_, _, _], _ => rfl⟩
  have D3 : DefT K mg "_law_value" "_law_value" s_l_value ["_law_script", "_law_pool_here"] f3 (PySem.W.fnOf "_law_value" "_law_value" (defArgs s_l_value) (defBody s_l_value) (defScope s_l_value) .none kV3 dc3 pm3 an3 cd3 ct3) := by
    have F := fun_mk (x := "_law_value") (st := s_l_value) l3 c3 k3
    exact ⟨PySem.W.mg_of X G a3, F, F.binds (ps := ["_law_script", "_law_pool_here"]) fun _ _ _ _ _ _ us hl => match us, hl with | [_, _], _ => rfl⟩
  have D4 : DefT K mg "_law_raised" "_law_raised" s_l_raised ["_law_k", "_law_one_here", "_law_two"] f4 (PySem.W.fnOf "_law_raised" "_law_raised" (defArgs s_l_raised) (defBody s_l_raised) (defScope s_l_raised) .none kV4 dc4 pm4 an4 cd4 ct4) := by
    have F := fun_mk (x := "_law_raised") (st := s_l_raised) l4 c4 k4
    exact ⟨PySem.W.mg_of X G a4, F, F.binds (ps := ["_law_k", "_law_one_here", "_law_two"]) fun _ _ _ _ _ _ us hl => match us, hl with | [_, _, _], _ => rfl⟩
  have D5 : DefT K mg "_law_kinds" "_law_kinds" s_l_kinds ["_law_k", "_law_one_here", "_law_two"] f5 (PySem.W.fnOf "_law_kinds" "_law_kinds" (defArgs s_l_kinds) (defBody s_l_kinds) (defScope s_l_kinds) .none kV5 dc5 pm5 an5 cd5 ct5) := by
    have F := fun_mk (x := "_law_kinds") (st := s_l_kinds) l5 c5 k5
    exact ⟨PySem.W.mg_of X G a5, F, F.binds (ps := ["_law_k", "_law_one_here", "_law_two"]) fun _ _ _ _ _ _ us hl => match us, hl with | [_, _, _], _ => rfl⟩
  have D6 : DefT K mg "_law_fields" "_law_fields" s_l_fields ["_law_k", "_law_one_here", "_law_two"] f6 (PySem.W.fnOf "_law_fields" "_law_fields" (defArgs s_l_fields) (defBody s_l_fields) (defScope s_l_fields) .none kV6 dc6 pm6 an6 cd6 ct6) := by
    have F := fun_mk (x := "_law_fields") (st := s_l_fields) l6 c6 k6
    exact ⟨PySem.W.mg_of X G a6, F, F.binds (ps := ["_law_k", "_law_one_here", "_law_two"]) fun _ _ _ _ _ _ us hl => match us, hl with | [_, _, _], _ => rfl⟩
  have D7 : DefT K mg "_law_same" "_law_same" s_l_same ["_law_told", "_law_due"] f7 (PySem.W.fnOf "_law_same" "_law_same" (defArgs s_l_same) (defBody s_l_same) (defScope s_l_same) .none kV7 dc7 pm7 an7 cd7 ct7) := by
    have F := fun_mk (x := "_law_same") (st := s_l_same) l7 c7 k7
    exact ⟨PySem.W.mg_of X G a7, F, F.binds (ps := ["_law_told", "_law_due"]) fun _ _ _ _ _ _ us hl => match us, hl with | [_, _], _ => rfl⟩
  have D8 : DefT K mg "law" "law" s_law ["_law_script"] fa (PySem.W.fnOf "law" "law" (defArgs s_law) (defBody s_law) (defScope s_law) .none kV8 dc8 pm8 an8 cd8 ct8) := by
    have F := fun_mk (x := "law") (st := s_law) l8 c8 k8
    exact ⟨PySem.W.mg_of X G a8, F, F.binds (ps := ["_law_script"]) fun _ _ _ _ _ _ us hl => match us, hl with | [_], _ => rfl⟩
  have Z : Zs mg := ⟨PySem.W.mg_none_of X G z_int, PySem.W.mg_none_of X G z_len, PySem.W.mg_none_of X G z_range, PySem.W.mg_none_of X G z_isinstance, PySem.W.mg_none_of X G z_bool, PySem.W.mg_none_of X G z_str, PySem.W.mg_none_of X G z_tuple, PySem.W.mg_none_of X G z_list⟩
  have cAt : ∀ i, i < 22 → ([x0, x1, x2, x3, x4, x5, x6, x7, x8, x9, x10, x11, x12, x13, x14, x15, x16, x17, x18, x19, x20, x21] : List Addr)[i]? = some (([x0, x1, x2, x3, x4, x5, x6, x7, x8, x9, x10, x11, x12, x13, x14, x15, x16, x17, x18, x19, x20, x21] : List Addr).getD i 0) := fun i hi => by
    rw [List.getD_eq_getElem?_getD, List.getElem?_eq_getElem (show i < ([x0, x1, x2, x3, x4, x5, x6, x7, x8, x9, x10, x11, x12, x13, x14, x15, x16, x17, x18, x19, x20, x21] : List Addr).length from hi)]
    rfl
  have F : ∀ i, i < 22 → ClsF K (([x0, x1, x2, x3, x4, x5, x6, x7, x8, x9, x10, x11, x12, x13, x14, x15, x16, x17, x18, x19, x20, x21] : List Addr).getD i 0) := fun i hi => cf.get i _ (cAt i hi)
  have I0 := fun_mk (x := "__init__") (qual := "NoBook.__init__") (st := s_NoBook__init_) jl0 jc0 jk0
  have E0 : FlX K mg "NoBook" "NoBook.__init__" s_NoBook__init_ ["self", "part", "index"] x0 g0 _ := ⟨PySem.W.mg_of X G b0, ⟨⟨_, _, _, _, _, _, _, _, _, _, _, _, _, _, _, o0, oo0⟩, sa0, (F 0 (by decide)).ex, (F 0 (by decide)).ty, kc0⟩, i0, it0, I0, I0.binds (ps := ["self", "part", "index"]) fun _ _ _ _ _ _ us hl => match us, hl with | [_, _, _], _ => rfl⟩
  have I1 := fun_mk (x := "__init__") (qual := "NoRun.__init__") (st := s_NoRun__init_) jl1 jc1 jk1
  have E1 : FlX K mg "NoRun" "NoRun.__init__" s_NoRun__init_ ["self", "index"] x1 g1 _ := ⟨PySem.W.mg_of X G b1, ⟨⟨_, _, _, _, _, _, _, _, _, _, _, _, _, _, _, o1, oo1⟩, sa1, (F 1 (by decide)).ex, (F 1 (by decide)).ty, kc1⟩, i1, it1, I1, I1.binds (ps := ["self", "index"]) fun _ _ _ _ _ _ us hl => match us, hl with | [_, _], _ => rfl⟩
  have I2 := fun_mk (x := "__init__") (qual := "NoFamily.__init__") (st := s_NoFamily__init_) jl2 jc2 jk2
  have E2 : FlX K mg "NoFamily" "NoFamily.__init__" s_NoFamily__init_ ["self", "index"] x2 g2 _ := ⟨PySem.W.mg_of X G b2, ⟨⟨_, _, _, _, _, _, _, _, _, _, _, _, _, _, _, o2, oo2⟩, sa2, (F 2 (by decide)).ex, (F 2 (by decide)).ty, kc2⟩, i2, it2, I2, I2.binds (ps := ["self", "index"]) fun _ _ _ _ _ _ us hl => match us, hl with | [_, _], _ => rfl⟩
  have I3 := fun_mk (x := "__init__") (qual := "NoText.__init__") (st := s_NoText__init_) jl3 jc3 jk3
  have E3 : FlX K mg "NoText" "NoText.__init__" s_NoText__init_ ["self", "line"] x3 g3 _ := ⟨PySem.W.mg_of X G b3, ⟨⟨_, _, _, _, _, _, _, _, _, _, _, _, _, _, _, o3, oo3⟩, sa3, (F 3 (by decide)).ex, (F 3 (by decide)).ty, kc3⟩, i3, it3, I3, I3.binds (ps := ["self", "line"]) fun _ _ _ _ _ _ us hl => match us, hl with | [_, _], _ => rfl⟩
  have I4 := fun_mk (x := "__init__") (qual := "TooMany.__init__") (st := s_TooMany__init_) jl4 jc4 jk4
  have E4 : FlX K mg "TooMany" "TooMany.__init__" s_TooMany__init_ ["self", "most"] x4 g4 _ := ⟨PySem.W.mg_of X G b4, ⟨⟨_, _, _, _, _, _, _, _, _, _, _, _, _, _, _, o4, oo4⟩, sa4, (F 4 (by decide)).ex, (F 4 (by decide)).ty, kc4⟩, i4, it4, I4, I4.binds (ps := ["self", "most"]) fun _ _ _ _ _ _ us hl => match us, hl with | [_, _], _ => rfl⟩
  have Er : Errs K mg (fun i => ([x0, x1, x2, x3, x4, x5, x6, x7, x8, x9, x10, x11, x12, x13, x14, x15, x16, x17, x18, x19, x20, x21] : List Addr).getD i 0) (fun i => ([g0, g1, g2, g3, g4] : List Addr).getD i 0) (fun i => match i with | 0 => _ | 1 => _ | 2 => _ | 3 => _ | _ => _) :=
    { x0 := E0,
      n0part := nf0part,
      n0index := nf0index,
      x1 := E1,
      n1index := nf1index,
      x2 := E2,
      n2index := nf2index,
      x3 := E3,
      n3line := nf3line,
      x4 := E4,
      n4most := nf4most,
      x5 := ⟨PySem.W.mg_of X G b5, q5, kc5, (F 5 (by decide)).ex, (F 5 (by decide)).ty⟩,
      x6 := ⟨PySem.W.mg_of X G b6, q6, kc6, (F 6 (by decide)).ex, (F 6 (by decide)).ty⟩,
      x7 := ⟨PySem.W.mg_of X G b7, q7, kc7, (F 7 (by decide)).ex, (F 7 (by decide)).ty⟩,
      x8 := ⟨PySem.W.mg_of X G b8, q8, kc8, (F 8 (by decide)).ex, (F 8 (by decide)).ty⟩,
      x9 := ⟨PySem.W.mg_of X G b9, q9, kc9, (F 9 (by decide)).ex, (F 9 (by decide)).ty⟩,
      x10 := ⟨PySem.W.mg_of X G b10, q10, kc10, (F 10 (by decide)).ex, (F 10 (by decide)).ty⟩,
      x11 := ⟨PySem.W.mg_of X G b11, q11, kc11, (F 11 (by decide)).ex, (F 11 (by decide)).ty⟩,
      x12 := ⟨PySem.W.mg_of X G b12, q12, kc12, (F 12 (by decide)).ex, (F 12 (by decide)).ty⟩,
      x13 := ⟨PySem.W.mg_of X G b13, q13, kc13, (F 13 (by decide)).ex, (F 13 (by decide)).ty⟩,
      x14 := ⟨PySem.W.mg_of X G b14, q14, kc14, (F 14 (by decide)).ex, (F 14 (by decide)).ty⟩,
      x15 := ⟨PySem.W.mg_of X G b15, q15, kc15, (F 15 (by decide)).ex, (F 15 (by decide)).ty⟩,
      x16 := ⟨PySem.W.mg_of X G b16, q16, kc16, (F 16 (by decide)).ex, (F 16 (by decide)).ty⟩,
      x17 := ⟨PySem.W.mg_of X G b17, q17, kc17, (F 17 (by decide)).ex, (F 17 (by decide)).ty⟩,
      x18 := ⟨PySem.W.mg_of X G b18, q18, kc18, (F 18 (by decide)).ex, (F 18 (by decide)).ty⟩,
      x19 := ⟨PySem.W.mg_of X G b19, q19, kc19, (F 19 (by decide)).ex, (F 19 (by decide)).ty⟩,
      x20 := ⟨PySem.W.mg_of X G b20, q20, kc20, (F 20 (by decide)).ex, (F 20 (by decide)).ty⟩,
      x21 := ⟨PySem.W.mg_of X G b21, q21, kc21, (F 21 (by decide)).ex, (F 21 (by decide)).ty⟩ }
  have Kd : Kinds K mg (fun i => ([x0, x1, x2, x3, x4, x5, x6, x7, x8, x9, x10, x11, x12, x13, x14, x15, x16, x17, x18, x19, x20, x21] : List Addr).getD i 0) CE :=
    { g := PySem.W.mg_of X G aE, ve := PySem.W.mg_none_of X G z_ValueError,
      isx := fun i hi => ⟨(F i hi).cl, (F i hi).ga, (F i hi).gg, (F i hi).ex, (F i hi).ca, cn, ct, (F i hi).cm⟩,
      kit := fun i j hi hj => by
        have q := (kt.get i _ (cAt i hi)).get j _ (cAt j hj)
        rw [Nat.zero_add, Nat.zero_add] at q
        exact q,
      kv := fun i hi => kv.get i _ (cAt i hi),
      exm := fun i j hi hj => by
        have a5 : ([x0, x1, x2, x3, x4] : List Addr)[j]? = some (([x0, x1, x2, x3, x4, x5, x6, x7, x8, x9, x10, x11, x12, x13, x14, x15, x16, x17, x18, x19, x20, x21] : List Addr).getD j 0) := by
          match j, hj with
          | 0, _ => rfl
          | 1, _ => rfl
          | 2, _ => rfl
          | 3, _ => rfl
          | 4, _ => rfl
        have q := (st.get i _ (cAt i hi)).get j _ a5
        rw [Nat.zero_add, Nat.zero_add] at q
        exact PySem.W.exm_ref (F j (by omega)).ex (F j (by omega)).hd (F j (by omega)).ty q,
      hd := fun i hi => (F i (by omega)).hd,
      exc := fun i hi => PySem.W.exm_ref ce.ex ce.hd ce.ty (se.get i _ (cAt i hi)) }
  exact ⟨(PySem.W.fnOf "law" "law" (defArgs s_law) (defBody s_law) (defScope s_law) .none kV8 dc8 pm8 an8 cd8 ct8), fun s v => .of_eq rfl, fun base _ _ => ok_law D8 Z Er Kd D0 D1 D2 D3 D4 D5 D6 D7⟩
theorem walk {l : PySem.W.OpenLaw} {q : Program} {loose : List Str} {XP : (Str → Option Value) → Heap → Prop} {YP : World → Heap → Prop} {d : DefRec} {K : Params → PySem.W.Frag} (hn : l.most = some 63) (hdf : d.params.defaults = [])
    (hY : ∀ (w : World) (h : Heap), YP w h → (K w.params).In h)
    (F : ∀ (w : World) (mg : Str → Option Value) (fa : Addr) (h : Heap), (K w.params).In h → h.Ns mainGlobals mg → mg d.name = some (.ref fa) →
      ∃ fd : FuncData, (∀ (s : Shared) (u : Value), BindsTo s fd ⟨[u], []⟩ [("_law_script", u)]) ∧ ∀ base : Heap, (K w.params).In base → base.Ns mainGlobals mg → FnOk l.prog w (K w.params) mg base CX0 6 fa fd ["_law_script"] (spLaw (K w.params))) :
    PySem.W.WalkO q loose XP YP l.row.toRowW d [] (fun f vs => PySem.call f vs) :=
  L2.walk_of (n := 63) (k := 6) (x := "_law_script") (CX := fun _ => CX0) (sp := fun w => spLaw (K w.params)) hn (by decide) hdf ⟨rfl, by decide, by decide⟩ hY F (fun _ _ a ns hl _ hS => ⟨a, ns, rfl, hS, hl, fun _ => rfl⟩) fun _ _ _ _ _ z => z

end My
open PySem PySem.W PyProof.Rows in
set_option maxRecDepth 100000 in
set_option maxHeartbeats 0 in
theorem PySem.Challenge.cw_copybooks_k00_errors_holds : PySem.Challenge.rw_copybooks_k00_errors.Holds := by
  w_on; o_law; k_head; (case hw => w_witness2)
  k_fill
  refine My.walk (l := PySem.Challenge.rw_copybooks_k00_errors) rfl rfl (fun w h Y => PySem.W.kIn_of Y) ?F
  case F =>
    intro w mg fa h KX G hmg
    refine' My.all_mk KX G hmg ?a0 ?l0 ?c0 ?k0 ?a1 ?l1 ?c1 ?k1 ?a2 ?l2 ?c2 ?k2 ?a3 ?l3 ?c3 ?k3 ?a4 ?l4 ?c4 ?k4 ?a5 ?l5 ?c5 ?k5 ?a6 ?l6 ?c6 ?k6 ?a7 ?l7 ?c7 ?k7 ?a8 ?l8 ?c8 ?k8 ?z_int ?z_len ?z_range ?z_isinstance ?z_bool ?z_str ?z_tuple ?z_list ?z_ValueError ?aE ?b0 ?b1 ?b2 ?b3 ?b4 ?b5 ?b6 ?b7 ?b8 ?b9 ?b10 ?b11 ?b12 ?b13 ?b14 ?b15 ?b16 ?b17 ?b18 ?b19 ?b20 ?b21 ?o0 ?oo0 ?sa0 ?kc0 ?i0 ?it0 ?jl0 ?jc0 ?jk0 ?nf0part ?nf0index ?o1 ?oo1 ?sa1 ?kc1 ?i1 ?it1 ?jl1 ?jc1 ?jk1 ?nf1index ?o2 ?oo2 ?sa2 ?kc2 ?i2 ?it2 ?jl2 ?jc2 ?jk2 ?nf2index ?o3 ?oo3 ?sa3 ?kc3 ?i3 ?it3 ?jl3 ?jc3 ?jk3 ?nf3line ?o4 ?oo4 ?sa4 ?kc4 ?i4 ?it4 ?jl4 ?jc4 ?jk4 ?nf4most ?q5 ?kc5 ?q6 ?kc6 ?q7 ?kc7 ?q8 ?kc8 ?q9 ?kc9 ?q10 ?kc10 ?q11 ?kc11 ?q12 ?kc12 ?q13 ?kc13 ?q14 ?kc14 ?q15 ?kc15 ?q16 ?kc16 ?q17 ?kc17 ?q18 ?kc18 ?q19 ?kc19 ?q20 ?kc20 ?q21 ?kc21 ?cf ?ce ?cn ?ct ?kt ?kv ?st ?se
    (case a0 => k_is)
    (case l0 => k_is)
    (case c0 => k_is)
    (case k0 => k_is)
    (case a1 => k_is)
    (case l1 => k_is)
    (case c1 => k_is)
    (case k1 => k_is)
    (case a2 => k_is)
    (case l2 => k_is)
    (case c2 => k_is)
    (case k2 => k_is)
    (case a3 => k_is)
    (case l3 => k_is)
    (case c3 => k_is)
    (case k3 => k_is)
    (case a4 => k_is)
    (case l4 => k_is)
    (case c4 => k_is)
    (case k4 => k_is)
    (case a5 => k_is)
    (case l5 => k_is)
    (case c5 => k_is)
    (case k5 => k_is)
    (case a6 => k_is)
    (case l6 => k_is)
    (case c6 => k_is)
    (case k6 => k_is)
    (case a7 => k_is)
    (case l7 => k_is)
    (case c7 => k_is)
    (case k7 => k_is)
    (case a8 => k_is)
    (case l8 => k_is)
    (case c8 => k_is)
    (case k8 => k_is)
    (case z_int => k_is)
    (case z_len => k_is)
    (case z_range => k_is)
    (case z_isinstance => k_is)
    (case z_bool => k_is)
    (case z_str => k_is)
    (case z_tuple => k_is)
    (case z_list => k_is)
    (case z_ValueError => k_is)
    (case aE => k_is)
    (case b0 => k_is)
    (case b1 => k_is)
    (case b2 => k_is)
    (case b3 => k_is)
    (case b4 => k_is)
    (case b5 => k_is)
    (case b6 => k_is)
    (case b7 => k_is)
    (case b8 => k_is)
    (case b9 => k_is)
    (case b10 => k_is)
    (case b11 => k_is)
    (case b12 => k_is)
    (case b13 => k_is)
    (case b14 => k_is)
    (case b15 => k_is)
    (case b16 => k_is)
    (case b17 => k_is)
    (case b18 => k_is)
    (case b19 => k_is)
    (case b20 => k_is)
    (case b21 => k_is)
    (case o0 => k_is)
    (case oo0 => first | rfl | decide +kernel)
    (case sa0 => k_is)
    (case kc0 => k_is)
    (case i0 => k_is)
    (case it0 => k_is)
    (case jl0 => k_is)
    (case jc0 => k_is)
    (case jk0 => k_is)
    (case nf0part => k_is)
    (case nf0index => k_is)
    (case o1 => k_is)
    (case oo1 => first | rfl | decide +kernel)
    (case sa1 => k_is)
    (case kc1 => k_is)
    (case i1 => k_is)
    (case it1 => k_is)
    (case jl1 => k_is)
    (case jc1 => k_is)
    (case jk1 => k_is)
    (case nf1index => k_is)
    (case o2 => k_is)
    (case oo2 => first | rfl | decide +kernel)
    (case sa2 => k_is)
    (case kc2 => k_is)
    (case i2 => k_is)
    (case it2 => k_is)
    (case jl2 => k_is)
    (case jc2 => k_is)
    (case jk2 => k_is)
    (case nf2index => k_is)
    (case o3 => k_is)
    (case oo3 => first | rfl | decide +kernel)
    (case sa3 => k_is)
    (case kc3 => k_is)
    (case i3 => k_is)
    (case it3 => k_is)
    (case jl3 => k_is)
    (case jc3 => k_is)
    (case jk3 => k_is)
    (case nf3line => k_is)
    (case o4 => k_is)
    (case oo4 => first | rfl | decide +kernel)
    (case sa4 => k_is)
    (case kc4 => k_is)
    (case i4 => k_is)
    (case it4 => k_is)
    (case jl4 => k_is)
    (case jc4 => k_is)
    (case jk4 => k_is)
    (case nf4most => k_is)
    (case q5 => k_exc)
    (case kc5 => k_is)
    (case q6 => k_exc)
    (case kc6 => k_is)
    (case q7 => k_exc)
    (case kc7 => k_is)
    (case q8 => k_exc)
    (case kc8 => k_is)
    (case q9 => k_exc)
    (case kc9 => k_is)
    (case q10 => k_exc)
    (case kc10 => k_is)
    (case q11 => k_exc)
    (case kc11 => k_is)
    (case q12 => k_exc)
    (case kc12 => k_is)
    (case q13 => k_exc)
    (case kc13 => k_is)
    (case q14 => k_exc)
    (case kc14 => k_is)
    (case q15 => k_exc)
    (case kc15 => k_is)
    (case q16 => k_exc)
    (case kc16 => k_is)
    (case q17 => k_exc)
    (case kc17 => k_is)
    (case q18 => k_exc)
    (case kc18 => k_is)
    (case q19 => k_exc)
    (case kc19 => k_is)
    (case q20 => k_exc)
    (case kc20 => k_is)
    (case q21 => k_exc)
    (case kc21 => k_is)
    (case cf => repeat (first | exact .nil | refine .cons ⟨by k_is, by k_is, by k_is, by k_is, by k_is, by k_is, by k_is, by k_is⟩ ?_))
    (case ce => exact ⟨by k_is, by k_is, by k_is, by k_is, by k_is, by k_is, by k_is, by k_is⟩)
    (case cn => k_is)
    (case ct => k_is)
    (case kt => repeat (first | exact .nil _ | refine .cons (by repeat (first | exact .nil _ | refine .cons (by kit_is) ?_)) ?_))
    (case kv => repeat (first | exact .nil | refine .cons (by kit_is) ?_))
    (case st => repeat (first | exact .nil _ | refine .cons (by repeat (first | exact .nil _ | refine .cons (by k_is) ?_)) ?_))
    (case se => repeat (first | exact .nil | refine .cons (by k_is) ?_))
#print axioms PySem.Challenge.cw_copybooks_k00_errors_holds

