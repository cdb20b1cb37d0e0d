import PyProof.Rows.All
import Wide.All
import OpenK.AllK
import Wide.FinOn
import HandS.ForMost
import HandS.Codes
import HandS.Evl
import HandS.Flow
import HandS.Star
import HandS.Defaults
import HandS.MakeKwOnly
import HandS.IsInst
import HandS.ClsMeth
import HandS.TupAny
import KE.GoesEnum
import HandS.Walk
import KE.GoesMore
import PySem.Challenge.RW_stillmeant_k08_contents_merged
set_option Elab.async false
set_option linter.all false
set_option maxRecDepth 100000
set_option maxHeartbeats 4000000
namespace K8
open PySem PySem.Spec PyProof.Rows L2
/-! ### the text -/
def top (i : Nat) : Stmt := PySem.Challenge.pw_stillmeant_k08_contents_merged.main.body.getD i (.Pass ⟨0, 0, 0, 0⟩)
abbrev sOpened : Stmt := top 19
abbrev sPull : Stmt := top 20
abbrev sAny : Stmt := top 21
abbrev sNames : Stmt := top 23
abbrev sWord : Stmt := top 24
abbrev sTable : Stmt := top 25
abbrev sGround : Stmt := top 26
abbrev sShape : Stmt := top 27
abbrev sLaw : Stmt := top 29
theorem scOpened : FnScope ["_law_script"] ["_law_script"] (defScope sOpened) := ⟨rfl, rfl, rfl, by decide +kernel, rfl, by decide +kernel, by decide +kernel⟩
theorem scPull : FnScope ["_law_bag", "_law_many", "_law_cell", "_law_digit", "_law_seed"] ["_law_bag", "_law_many"] (defScope sPull) := ⟨rfl, rfl, rfl, by decide +kernel, rfl, by decide +kernel, by decide +kernel⟩
theorem scAny : FnScope ["_law_bag", "_law_things"] ["_law_bag", "_law_things"] (defScope sAny) := ⟨rfl, rfl, rfl, by decide +kernel, rfl, by decide +kernel, by decide +kernel⟩
/-! ### the bag of draws -/
theorem same_upd {H : Hp} {p : Addr} {o : HO} (h : H p = none) : Same H (upd H p o) := fun b x e => by
  rw [upd_ne (ne_of_none e h)]
  exact e
/-- all but what stands at b stays -/
def But (b : Addr) (H H' : Hp) : Prop := ∀ a o, H a = some o → a ≠ b → H' a = some o
theorem But.trans {b : Addr} {H H1 H2 : Hp} (x : But b H H1) (y : But b H1 H2) : But b H H2 := fun a o e n => y a o (x a o e n) n
theorem But.refl (b : Addr) (H : Hp) : But b H H := fun _ _ e _ => e
theorem But.upd {b : Addr} {H : Hp} {o : HO} : But b H (upd H b o) := fun a x e n => by rw [upd_ne n]; exact e
def bagL (c : Addr) (i g s t : Int) : List V := [.ref c, .int i, .int g, .int s, .int t]
def Bag (H : Hp) (b c : Addr) : Prop := ∃ (ns : List Int) (i : Nat) (g s t : Int), c ≠ b ∧ H b = some (.lst (bagL c i g s t)) ∧ H c = some (.lst (ns.map V.int)) ∧ ns.length ≤ 63 ∧ i ≤ ns.length ∧ 0 ≤ g ∧ 0 ≤ s ∧ s < 2147483587
theorem Bag.ne {H : Hp} {b c D : Addr} (B : Bag H b c) (h : H D = none) : D ≠ b ∧ D ≠ c := by
  obtain ⟨ns, i, g, s, t, cb, hb, hc, _⟩ := B
  exact ⟨(ne_of_none hb h).symm, (ne_of_none hc h).symm⟩
theorem Bag.cb {H : Hp} {b c : Addr} (B : Bag H b c) : c ≠ b := by
  obtain ⟨ns, i, g, s, t, cb, _⟩ := B
  exact cb
theorem Bag.upd {H : Hp} {b c D : Addr} {o : HO} (B : Bag H b c) (h1 : D ≠ b) (h2 : D ≠ c) : Bag (upd H D o) b c := by
  obtain ⟨ns, i, g, s, t, cb, hb, hc, r⟩ := B
  exact ⟨ns, i, g, s, t, cb, by rw [upd_ne h1.symm]; exact hb, by rw [upd_ne h2.symm]; exact hc, r⟩
theorem Bag.same {H H' : Hp} {b c : Addr} (B : Bag H b c) (h : Same H H') : Bag H' b c := by
  obtain ⟨ns, i, g, s, t, cb, hb, hc, r⟩ := B
  exact ⟨ns, i, g, s, t, cb, h _ _ hb, h _ _ hc, r⟩
theorem But.new {b D : Addr} {H H2 : Hp} {o : HO} (x : But b H H2) (h : H D = none) : But b H (L2.upd H2 D o) := fun a u e n => by
  rw [upd_ne (ne_of_none e h)]
  exact x a u e n
theorem But.free {b D : Addr} {H H2 : Hp} (x : But b H H2) (h : H2 D = none) (n : D ≠ b) : H D = none := by
  cases e : H D with
  | none => rfl
  | some o => rw [x D o e n] at h; cases h
theorem Same.but {b : Addr} {H H' : Hp} (s : Same H H') : But b H H' := fun a o e _ => s a o e
section
variable {P : Program} {w : World} {K : PySem.W.Frag} {mg : Str → Option Value} {base : Heap}
/-! ### opened -/
def spOpened (K : PySem.W.Frag) : Sp := fun vs H Q _ => ∃ (a : Addr) (ns : List Int), vs = [.ref a] ∧ SqL K H a (ns.map V.int) ∧ ns.length ≤ 63 ∧ ∀ H' b c, H b = none → H c = none → Same H H' → Bag H' b c → Q (.ref b) H'
theorem ok_opened {f : Addr} {fd : FuncData} {k : Nat} (F : Fun K "_law_opened" "_law_opened" sOpened f fd) (ml : mg "list" = none) : FnOk P w K mg base CX0 (k + 1) f fd ["_law_script"] (spOpened K) := by
  refine F.ok scOpened (fun vs H Q E h => ?_) (fun cdv A outer s H vs Q E hr h => ?_)
  · obtain ⟨a, ns, rfl, _⟩ := h
    rfl
  · obtain ⟨a, ns, rfl, hS, hlen, q⟩ := h
    refine ⟨_, pss_one (ps_ret (pe_lst (pa_cons (pe_callTy call_list_of (by rfl) ml (by decide +kernel) (pa_cons (pe_slice sl_list (pv 0) po_none (po_some pe_int)) pa_nil))
      (pa_cons pe_int (pa_cons pe_int (pa_cons pe_int (pa_cons pe_int pa_nil))))))), ?_⟩
    refine ⟨.ref a, rfl, 63, rfl, a, ns.map V.int, rfl, hS, fun c nc => ?_⟩
    refine ⟨c, _, rfl, .inl (.inl (.inl upd_same)), fun d nd => ?_⟩
    have ndc : d ≠ c := fun e => by
      rw [e, upd_same] at nd
      cases nd
    have ec : cutV (ns.map V.int) none (some 63) = ns.map V.int := by
      unfold cutV
      rw [show HT.sIx (ns.map V.int).length (ns.map V.int).length (some 63) = min 63 (ns.map V.int).length from HT.sIx_nat _ _ 63, HT.sIx_none]
      rw [List.drop_zero, List.length_map, Nat.sub_zero]
      apply List.take_of_length_le
      rw [List.length_map]
      omega
    rw [ec] at nd ⊢
    refine ⟨by show 5 ≤ sizeLine; decide, fun b nb => ?_⟩
    have nbd : b ≠ d := fun e => by
      rw [e, upd_same] at nb
      cases nb
    have s1 := same_upd (o := .lst (ns.map V.int)) nc
    have s2 := same_upd (o := .lst (ns.map V.int)) nd
    have s3 := same_upd (o := .lst (bagL d 0 0 5799 0)) nb
    refine q _ b d (s1.free (s2.free nb)) (s1.free nd) (s1.trans (s2.trans s3)) ⟨ns, 0, 0, 5799, 0, nbd.symm, upd_same, s3 _ _ upd_same, hlen, Nat.zero_le _, by decide, by decide, by decide⟩
end
end K8

namespace K8
open PySem PySem.Spec PyProof.Rows L2
section
variable {P : Program} {w : World} {K : PySem.W.Frag} {mg : Str → Option Value} {base : Heap}
/-! ### pull -/
def spPull : Sp := fun vs H Q _ => ∃ (b c : Addr) (m : Int), vs = [.ref b, .int m] ∧ Bag H b c ∧ 0 < m ∧ m < 1073741824 ∧ ∀ r H', 0 ≤ r → r < m → But b H H' → Bag H' b c → Q (.int r) H'
theorem ok_pull {f : Addr} {fd : FuncData} {k : Nat} (F : Fun K "_law_pull" "_law_pull" sPull f fd) (ml : mg "len" = none) (mi : mg "int" = none) : FnOk P w K mg base CX0 (k + 1) f fd ["_law_bag", "_law_many"] spPull := by
  refine F.ok scPull (fun vs H Q E h => ?_) (fun cdv A outer s H vs Q E hr h => ?_)
  · obtain ⟨b, c, m, rfl, _⟩ := h
    rfl
  · obtain ⟨b, c, m, rfl, B, m0, m1, q⟩ := h
    refine ⟨_, C8.pss_cut (ps_if (PW.pt (pw_and (pt_cmpR op_eq (pe_ix ix_list (pv 0) pe_int (fun _ _ => rfl)) pe_int (nomark _))
          (pw_and1 (pt_cmpR op_lt (pe_ix ix_list (pv 0) pe_int (fun _ _ => rfl)) (pe_callB call_len_seq (by rfl) ml PySem.boot_len (pa_cons (pe_ix ix_list (pv 0) pe_int (fun _ _ => rfl)) pa_nil)) (nomark _)))))
        (pss_cons (ps_set (i := 2) scPull.nd rfl (.inl rfl) (pe_ix ix_list (pe_ix ix_list (pv 0) pe_int (fun _ _ => rfl)) (pe_ix ix_list (pv 0) pe_int (fun _ _ => rfl)) (fun _ _ => rfl)))
        (pss_cons (ps_asg (pe_op op_add (pe_ix ix_list (pv 0) pe_int (fun _ _ => rfl)) pe_int) (pg_sub (pv 0) pe_int set_list))
        (pss_one (ps_if (pt_cmpR op_ge (pv 2) (pe_op op_pow pe_int pe_int) (nomark _))
          (pss_one (ps_asg (pv 2) (pg_sub (pv 0) pe_int set_list)))
          (pss_one (ps_asg (pe_op op_mod (pe_callTy call_int1 (by rfl) mi (by decide +kernel) (pa_cons (pe_op op_add (pe_op op_add (pe_op op_mul (pe_ix ix_list (pv 0) pe_int (fun _ _ => rfl)) pe_int)
              (pe_op op_mul (pe_op op_mod (pe_callTy call_int1 (by rfl) mi (by decide +kernel) (pa_cons (pv 2) pa_nil)) pe_int) pe_int)) pe_int) pa_nil)) pe_int) (pg_sub (pv 0) pe_int set_list))))))) pss_nil)
      (pss_cons (ps_if (pt_cmpR op_gt (pe_ix ix_list (pv 0) pe_int (fun _ _ => rfl)) pe_int (nomark _))
        (pss_cons (ps_set (i := 3) scPull.nd rfl (.inl rfl) (pe_op op_mod (pe_callTy call_int1 (by rfl) mi (by decide +kernel) (pa_cons (pe_ix ix_list (pv 0) pe_int (fun _ _ => rfl)) pa_nil)) (pv 1)))
        (pss_cons (ps_asg (pe_op op_fdiv (pe_ix ix_list (pv 0) pe_int (fun _ _ => rfl)) (pv 1)) (pg_sub (pv 0) pe_int set_list))
        (pss_one (ps_ret (pv 3))))) pss_nil)
      (pss_cons (ps_asg (pe_op op_add (pe_ix ix_list (pv 0) pe_int (fun _ _ => rfl)) pe_int) (pg_sub (pv 0) pe_int set_list))
      (pss_cons (ps_set (i := 4) scPull.nd rfl (.inl rfl) (pe_ix ix_list (pv 0) pe_int (fun _ _ => rfl)))
      (pss_cons (ps_asg (pe_op op_mod (pe_callTy call_int1 (by rfl) mi (by decide +kernel) (pa_cons (pe_op op_add (pe_op op_add (pe_op op_add (pe_op op_mul (pv 4) (pv 4)) (pe_op op_mul (pv 4) pe_int)) (pe_op op_mul (pe_ix ix_list (pv 0) pe_int (fun _ _ => rfl)) pe_int)) pe_int) pa_nil)) pe_int) (pg_sub (pv 0) pe_int set_list))
      (pss_one (ps_ret (pe_op op_mod (pe_callTy call_int1 (by rfl) mi (by decide +kernel) (pa_cons (pe_op op_add (pe_op op_fdiv (pe_ix ix_list (pv 0) pe_int (fun _ _ => rfl)) pe_int) (pe_op op_mul (pe_op op_mod (pe_callTy call_int1 (by rfl) mi (by decide +kernel) (pa_cons (pe_ix ix_list (pv 0) pe_int (fun _ _ => rfl)) pa_nil)) pe_int) pe_int)) pa_nil)) (pv 1)))))))), ?_⟩
    refine ⟨fun σ H' => ∃ y2, σ = [some (.ref b), some (.int m), y2, none, none] ∧ But b H H' ∧ Bag H' b c, ?_, ?_⟩
    · obtain ⟨ns, i, g, s', t, cb, hb, hc, hn, hi, hg, hs, hs2⟩ := id B
      -- bag[2] == 0
      refine ⟨.ref b, rfl, b, _, 2, .int g, rfl, rfl, .of hb, atI_nat (j := 2) rfl, rfl, _, rfl, ite2 (fun _ => ?_) (fun _ => ?_)⟩
      · refine ⟨.ref b, rfl, b, _, 1, .int i, rfl, rfl, .of hb, atI_nat (j := 1) rfl, .ref b, rfl, b, _, 0, .ref c, rfl, rfl, .of hb, atI_nat (j := 0) rfl, c, _, rfl, .inl (.of hc), _, _, rfl, rfl, _, rfl, ite2 (fun e => ?_) (fun _ => ?_)⟩
        · have lt : (i : Int) < ((ns.map V.int).length : Nat) := of_decide_eq_true e
          rw [List.length_map] at lt
          have hi' : i < ns.length := by omega
          have at1 : (ns.map V.int)[i]? = some (.int ns[i]) := by
            rw [List.getElem?_map, List.getElem?_eq_getElem hi']
            rfl
          refine ⟨.ref b, rfl, b, _, 0, .ref c, rfl, rfl, .of hb, atI_nat (j := 0) rfl, .ref b, rfl, b, _, 1, .int i, rfl, rfl, .of hb, atI_nat (j := 1) rfl, c, _, (i : Int), _, rfl, rfl, .of hc, atI_nat at1, ?_⟩
          refine ⟨.ref b, rfl, b, _, 1, .int i, rfl, rfl, .of hb, atI_nat (j := 1) rfl, _, _, rfl, rfl, .ref b, rfl, b, _, 1, 1, rfl, rfl, hb, Evl.ixN_nat (n := 5) (j := 1) (by decide), ?_⟩
          have h1 : (upd H b (.lst (bagL c ((i : Int) + 1) g s' t))) b = some (.lst (bagL c ((i : Int) + 1) g s' t)) := upd_same
          have h1c : (upd H b (.lst (bagL c ((i : Int) + 1) g s' t))) c = some (.lst (ns.map V.int)) := by rw [upd_ne cb]; exact hc
          refine ⟨.int ns[i], rfl, _, _, rfl, rfl, ⟨by decide, by decide, by decide⟩, _, _, rfl, rfl, _, rfl, ite2 (fun e2 => ?_) (fun _ => ?_)⟩
          · have le : (10 : Int) ^ 18 ≤ ns[i] := of_decide_eq_true e2
            refine ⟨.int ns[i], rfl, .ref b, rfl, b, _, 2, 2, rfl, rfl, h1, Evl.ixN_nat (n := 5) (j := 2) (by decide), ?_⟩
            refine ⟨_, rfl, ?_, ns, i + 1, ns[i], s', t, cb, upd_same, ?_, hn, by omega, ?_, hs, hs2⟩
            · exact But.trans But.upd But.upd
            · rw [upd_ne cb]; exact h1c
            · have : (0 : Int) ≤ 10 ^ 18 := by decide
              omega
          · refine ⟨.ref b, rfl, b, _, 3, .int s', rfl, rfl, .of h1, atI_nat (j := 3) rfl, _, _, rfl, rfl, .inr ⟨by decide, by decide⟩, .int ns[i], rfl, .inl ⟨_, rfl, _, _, rfl, rfl, (by show (0 : Int) < 2147483549; decide), _, _, rfl, rfl, .inr ⟨by decide, by decide⟩, _, _, rfl, rfl, _, _, rfl, rfl, .inl ⟨_, rfl, _, _, rfl, rfl, (by show (0 : Int) < 2147483587; decide), ?_⟩⟩⟩
            refine ⟨.ref b, rfl, b, _, 3, 3, rfl, rfl, h1, Evl.ixN_nat (n := 5) (j := 3) (by decide), ?_⟩
            refine ⟨_, rfl, ?_, ns, i + 1, g, _, t, cb, upd_same, ?_, hn, by omega, hg, Int.emod_nonneg _ (by decide), Int.emod_lt_of_pos _ (by decide)⟩
            · exact But.trans But.upd But.upd
            · rw [upd_ne cb]; exact h1c
        · exact ⟨none, rfl, But.refl _ _, B⟩
      · exact ⟨none, rfl, But.refl _ _, B⟩
    · rintro σ H1 ⟨y2, rfl, b1, B1⟩
      obtain ⟨ns, i, g, s', t, cb, hb, hc, hn, hi, hg, hs, hs2⟩ := id B1
      refine ⟨.ref b, rfl, b, _, 2, .int g, rfl, rfl, .of hb, atI_nat (j := 2) rfl, _, _, rfl, rfl, _, rfl, ite2 (fun e => ?_) (fun _ => ?_)⟩
      · refine ⟨.ref b, rfl, b, _, 2, .int g, rfl, rfl, .of hb, atI_nat (j := 2) rfl, .inl ⟨_, rfl, .int m, rfl, _, _, rfl, rfl, m0, ?_⟩⟩
        refine ⟨.ref b, rfl, b, _, 2, .int g, rfl, rfl, .of hb, atI_nat (j := 2) rfl, .int m, rfl, _, _, rfl, rfl, ⟨m0, m1⟩, .ref b, rfl, b, _, 2, 2, rfl, rfl, hb, Evl.ixN_nat (n := 5) (j := 2) (by decide), .int (g % m), rfl, ?_⟩
        refine q _ _ (Int.emod_nonneg _ (by omega)) (Int.emod_lt_of_pos _ m0) (b1.trans But.upd) ⟨ns, i, g / m, s', t, cb, upd_same, ?_, hn, hi, Int.ediv_nonneg hg (by omega), hs, hs2⟩
        rw [upd_ne cb]; exact hc
      · refine ⟨.ref b, rfl, b, _, 4, .int t, rfl, rfl, .of hb, atI_nat (j := 4) rfl, _, _, rfl, rfl, .ref b, rfl, b, _, 4, 4, rfl, rfl, hb, Evl.ixN_nat (n := 5) (j := 4) (by decide), ?_⟩
        have h1 : (upd H1 b (.lst (bagL c i g s' (t + 1)))) b = some (.lst (bagL c i g s' (t + 1))) := upd_same
        refine ⟨.ref b, rfl, b, _, 3, .int s', rfl, rfl, .of h1, atI_nat (j := 3) rfl, ?_⟩
        refine ⟨.int s', rfl, .int s', rfl, _, _, rfl, rfl, .inl ⟨by omega, by omega⟩, .int s', rfl, _, _, rfl, rfl, .inr ⟨by decide, by decide⟩, _, _, rfl, rfl, .ref b, rfl, b, _, 4, .int (t + 1), rfl, rfl, .of h1, atI_nat (j := 4) rfl, _, _, rfl, rfl, .inr ⟨by decide, by decide⟩, _, _, rfl, rfl, _, _, rfl, rfl, .inl ⟨_, rfl, _, _, rfl, rfl, (by show (0 : Int) < 2147483587; decide), ?_⟩⟩
        refine ⟨.ref b, rfl, b, _, 3, 3, rfl, rfl, h1, Evl.ixN_nat (n := 5) (j := 3) (by decide), ?_⟩
        let s2 : Int := (s' * s' + s' * 35023 + (t + 1) * 1299721 + 93251) % 2147483587
        have h2 : (upd (upd H1 b (.lst (bagL c i g s' (t + 1)))) b (.lst (bagL c i g s2 (t + 1)))) b = some (.lst (bagL c i g s2 (t + 1))) := upd_same
        refine ⟨.ref b, rfl, b, _, 3, .int s2, rfl, rfl, .of h2, atI_nat (j := 3) rfl, _, _, rfl, rfl, ⟨by decide, by decide⟩, .ref b, rfl, b, _, 3, .int s2, rfl, rfl, .of h2, atI_nat (j := 3) rfl, .inl ⟨_, rfl, _, _, rfl, rfl, (by show (0 : Int) < 7927; decide), _, _, rfl, rfl, .inr ⟨by decide, by decide⟩, _, _, rfl, rfl, .inl ⟨_, rfl, .int m, rfl, _, _, rfl, rfl, m0, ?_⟩⟩⟩
        refine q _ _ (Int.emod_nonneg _ (by omega)) (Int.emod_lt_of_pos _ m0) ((b1.trans But.upd).trans But.upd) ⟨ns, i, g, s2, t + 1, cb, upd_same, ?_, hn, hi, hg, Int.emod_nonneg _ (by decide), Int.emod_lt_of_pos _ (by decide)⟩
        rw [upd_ne cb, upd_ne cb]; exact hc
end
end K8

namespace K8
open PySem PySem.Spec PyProof.Rows L2
section
variable {P : Program} {w : World} {K : PySem.W.Frag} {mg : Str → Option Value} {base : Heap}
/-! ### any -/
def spAny : Sp := fun vs H Q _ => ∃ (b c : Addr) (x : V), vs = [.ref b, x] ∧ Bag H b c ∧
  ((∃ (p : Addr) (xs : List V), x = .ref p ∧ H p = some (.lst xs) ∧ p ≠ b ∧ 0 < xs.length ∧ xs.length ≤ 1000 ∧ ∀ (r : Nat) v H', xs[r]? = some v → But b H H' → Bag H' b c → Q v H') ∨
   (∃ z : Str, x = .str z ∧ 0 < z.length ∧ z.length ≤ 1000 ∧ ∀ (r : Nat) d H', z.cps.toList[r]? = some d → But b H H' → Bag H' b c → Q (.str ⟨#[d]⟩) H'))
theorem ok_any {f fP : Addr} {fd fdP : FuncData} {k : Nat} (F : Fun K "_law_any" "_law_any" sAny f fd) (FP : Fun K "_law_pull" "_law_pull" sPull fP fdP) (bP : Binds K fdP ["_law_bag", "_law_many"] []) (gP : mg "_law_pull" = some (.ref fP)) (ml : mg "len" = none) (mi : mg "int" = none) :
    FnOk P w K mg base CX0 (k + 2) f fd ["_law_bag", "_law_things"] spAny := by
  have GP : FnOk P w K mg base CX0 (k + 1) fP fdP ["_law_bag", "_law_many"] spPull := ok_pull FP ml mi
  refine F.ok scAny (fun vs H Q E h => ?_) (fun cdv A outer s H vs Q E hr h => ?_)
  · obtain ⟨b, c, x, rfl, _⟩ := h
    rfl
  · obtain ⟨b, c, x, rfl, B, h⟩ := h
    refine ⟨_, pss_one (ps_ret (pe_ix ix_seq (pv 1) (pe_call GP hr (by rfl) gP FP.kp bP .nil pass0 (pa_cons (pv 0) (pa_cons (pe_callB call_len (by rfl) ml PySem.boot_len (pa_cons (pv 1) pa_nil)) pa_nil))) (fun _ _ => rfl))), ?_⟩
    rcases h with ⟨p, xs, rfl, hp, pb, l0, l1, q⟩ | ⟨z, rfl, l0, l1, q⟩
    · refine ⟨.ref p, rfl, .ref b, rfl, .ref p, rfl, .ref p, xs.length, rfl, .inl ⟨xs, .of hp, rfl⟩, b, c, _, rfl, B, by omega, by omega, fun r H' r0 r1 bt B' => ?_⟩
      obtain ⟨j, rfl⟩ : ∃ j : Nat, r = j := ⟨r.toNat, by omega⟩
      have hj : j < xs.length := by omega
      exact .inl ⟨p, xs, j, xs[j], rfl, rfl, .of (bt _ _ hp pb), atI_nat (List.getElem?_eq_getElem hj), q j _ _ (List.getElem?_eq_getElem hj) bt B'⟩
    · have zl : z.length ≤ sizeLine := Nat.le_of_lt (small1000 l1)
      refine ⟨.str z, rfl, .ref b, rfl, .str z, rfl, .str z, z.length, rfl, ⟨zl, rfl⟩, b, c, _, rfl, B, by omega, by omega, fun r H' r0 r1 bt B' => ?_⟩
      obtain ⟨j, rfl⟩ : ∃ j : Nat, r = j := ⟨r.toNat, by omega⟩
      have hj : j < z.cps.toList.length := by
        have e : z.cps.toList.length = z.length := by simp [Str.length]
        omega
      exact .inr (.inr ⟨z, j, z.cps.toList[j], rfl, rfl, zl, atI_nat (List.getElem?_eq_getElem hj), q j _ _ (List.getElem?_eq_getElem hj) bt B'⟩)
end
end K8

namespace K8
open PySem PySem.Spec PyProof.Rows L2
theorem scNames : FnScope ["_law_bag", "_law_many", "_law_letters", "_law_stem", "_law_at", "_law_first", "_law_k"] ["_law_bag", "_law_many"] (defScope sNames) := ⟨rfl, rfl, rfl, by decide +kernel, rfl, by decide +kernel, by decide +kernel⟩
/-! ### names -/
def lets : List Nat := (List.range 26).map (· + 97)
def letS : Str := "abcdefghijklmnopqrstuvwxyz"
theorem letS_codes : letS.cps.toList = lets := by decide +kernel
def LC (c : Nat) : Prop := 97 ≤ c ∧ c ≤ 122
structure NameS (z : Str) : Prop where
  lo : 1 ≤ z.length
  hi : z.length ≤ 8
  al : ∀ c ∈ z.cps.toList, LC c
theorem lets_get {r c : Nat} (h : lets[r]? = some c) : LC c ∧ c = 97 + r ∧ r < 26 := by
  unfold lets at h
  rw [List.getElem?_map] at h
  have hr : r < 26 := by
    apply Classical.byContradiction
    intro hn
    rw [List.getElem?_eq_none (by simp; omega)] at h
    cases h
  rw [List.getElem?_eq_getElem (by simpa using hr)] at h
  simp at h
  unfold LC
  omega
def nameL (stem : List Nat) (at_ : Nat) (c : Nat) : List Nat := stem.take at_ ++ [c] ++ stem.drop at_
theorem nameL_len (stem : List Nat) (n c : Nat) : (nameL stem n c).length = stem.length + 1 := by
  simp [nameL]
  omega
theorem nameL_inj {stem : List Nat} {n c d : Nat} (h : nameL stem n c = nameL stem n d) : c = d := by
  simpa [nameL] using h
theorem ext_cps {x y : Str} (h : x.cps.toList = y.cps.toList) : x = y := by
  cases x; cases y
  simp at h
  subst h
  rfl
open TL in
theorem join_ones : ∀ cs : List Nat, (Txt.join (⟨#[]⟩ : Str) (cs.map fun c => (⟨#[c]⟩ : Str))).cps.toList = cs := by
  intro cs
  rw [join_eq]
  have e := tl_join (⟨#[]⟩ : Str) (cs.map fun c => (⟨#[c]⟩ : Str))
  have e2 : ∀ cs : List Nat, joinL (tl (⟨#[]⟩ : Str)) ((cs.map fun c => (⟨#[c]⟩ : Str)).map tl) = cs := by
    intro cs
    induction cs with
    | nil => rfl
    | cons c r ih =>
      cases r with
      | nil => rfl
      | cons d r =>
        show [c] ++ ([] ++ joinL _ _) = _
        simp only [List.map_cons] at ih
        simp only [List.map_cons]
        rw [ih]
        rfl
  exact e.trans (e2 cs)
theorem sum_ones : ∀ cs : List Nat, ((cs.map fun c => (⟨#[c]⟩ : Str)).map (·.length)).sum = cs.length
  | [] => rfl
  | c :: r => by
    rw [List.map_cons, List.map_cons, List.sum_cons, sum_ones r]
    show 1 + r.length = r.length + 1
    omega
theorem cut_pre {st : Str} {n : Nat} (h : n ≤ st.length) : (cutS st none (some (n : Int))).cps.toList = st.cps.toList.take n := by
  unfold cutS
  rw [HT.sIx_nat, HT.sIx_none]
  simp only [List.drop_zero, Nat.sub_zero]
  rw [Nat.min_eq_left h]
theorem cut_post {st : Str} {n : Nat} (h : n ≤ st.length) : (cutS st (some (n : Int)) none).cps.toList = st.cps.toList.drop n := by
  unfold cutS
  rw [HT.sIx_nat, HT.sIx_none, Nat.min_eq_left h]
  show List.take _ _ = _
  apply List.take_of_length_le
  rw [List.length_drop]
  simp [Str.length]
theorem len_codes (z : Str) : z.length = z.cps.toList.length := by simp [Str.length]
theorem name_codes {st : Str} {cs : List Nat} {n c : Nat} (e : st.cps.toList = cs) (h : n ≤ st.length) :
    (cutS st none (some (n : Int)) ++ (⟨#[c]⟩ : Str) ++ cutS st (some (n : Int)) none).cps.toList = nameL cs n c := by
  have a := TL.tl_append (cutS st none (some (n : Int)) ++ (⟨#[c]⟩ : Str)) (cutS st (some (n : Int)) none)
  have a2 := TL.tl_append (cutS st none (some (n : Int))) (⟨#[c]⟩ : Str)
  unfold TL.tl at a a2
  rw [a, a2, cut_pre h, cut_post h, e]
  rfl
section
variable {P : Program} {w : World} {K : PySem.W.Frag} {mg : Str → Option Value} {base : Heap}
def spNames : Sp := fun vs H Q _ => ∃ (b c : Addr) (m : Nat), vs = [.ref b, .int m] ∧ Bag H b c ∧ 2 ≤ m ∧ m ≤ 3 ∧
  ∀ (H' : Hp) (l : Addr) (zs : List Str), H l = none → H' l = some (.lst (zs.map V.str)) → But b H H' → Bag H' b c → zs.length = m → (∀ z ∈ zs, NameS z) → zs.Nodup → Q (.ref l) H'
theorem ok_names {f fP fA : Addr} {fd fdP fdA : FuncData} {k : Nat} (F : Fun K "_law_names" "_law_names" sNames f fd) (FP : Fun K "_law_pull" "_law_pull" sPull fP fdP) (bP : Binds K fdP ["_law_bag", "_law_many"] []) (gP : mg "_law_pull" = some (.ref fP))
    (FA : Fun K "_law_any" "_law_any" sAny fA fdA) (bA : Binds K fdA ["_law_bag", "_law_things"] []) (gA : mg "_law_any" = some (.ref fA)) (ml : mg "len" = none) (mi : mg "int" = none) (mr : mg "range" = none) :
    FnOk P w K mg base CX0 (k + 3) f fd ["_law_bag", "_law_many"] spNames := by
  have GP : FnOk P w K mg base CX0 (k + 1) fP fdP ["_law_bag", "_law_many"] spPull := ok_pull FP ml mi
  have GA : FnOk P w K mg base CX0 (k + 2) fA fdA ["_law_bag", "_law_things"] spAny := ok_any FA FP bP gP ml mi
  refine F.ok scNames (fun vs H Q E h => ?_) (fun cdv A outer s H vs Q E hr h => ?_)
  · obtain ⟨b, c, m, rfl, _⟩ := h
    rfl
  · obtain ⟨b, c, m, rfl, B, m0, m1, q⟩ := h
    have hr1 : Room (k + 1) _ := hr.mono (Nat.le_succ _)
    refine ⟨_, pss_cons (ps_set (i := 2) scNames.nd rfl (.inr rfl) pe_str)
      (pss_cons (ps_set (i := 3) scNames.nd rfl (.inr rfl) (pe_join pe_str (pe_lc (own := [("_law_k", 6)]) (g := gName 6) (tt := tYes) rfl scNames.nd
          (pi_range1 rfl mr (pa_cons (pe_call GP hr1 (by rfl) gP FP.kp bP .nil pass0 (pa_cons (pv 0) (pa_cons pe_int pa_nil))) pa_nil))
          (blkOk_by (N := ["_law_bag", "_law_many", "_law_letters", "_law_stem", "_law_at", "_law_first", "_law_k"]) (sc := defScope sNames) (by decide +kernel))
          (fun _ _ _ _ _ => pg_name (i := 6) scNames.nd rfl (Or.inl rfl)) (fun _ _ _ _ _ => pts_nil)
          (fun _ _ _ _ _ => pe_call GA hr (by rfl) gA FA.kp bA .nil pass0 (pa_cons (pv 0) (pa_cons (pv 2) pa_nil))))))
      (pss_cons (ps_asg (pe_tup (pa_cons (pe_call GP hr1 (by rfl) gP FP.kp bP .nil pass0 (pa_cons (pv 0) (pa_cons (pe_op op_add (pe_callB call_len_str (by rfl) ml PySem.boot_len (pa_cons (pv 3) pa_nil)) pe_int) pa_nil)))
            (pa_cons (pe_call GP hr1 (by rfl) gP FP.kp bP .nil pass0 (pa_cons (pv 0) (pa_cons pe_int pa_nil))) pa_nil)))
          (pg_tup rfl (pgs_cons (pg_name (i := 4) scNames.nd rfl (.inr rfl)) (pgs_cons (pg_name (i := 5) scNames.nd rfl (.inr rfl)) pgs_nil))))
      (pss_one (ps_ret (pe_lc (own := [("_law_k", 6)]) (g := gName 6) (tt := tYes) rfl scNames.nd
          (pi_range1 rfl mr (pa_cons (pv 1) pa_nil))
          (blkOk_by (N := ["_law_bag", "_law_many", "_law_letters", "_law_stem", "_law_at", "_law_first", "_law_k"]) (sc := defScope sNames) (by decide +kernel))
          (fun _ _ _ _ _ => pg_name (i := 6) scNames.nd rfl (Or.inl rfl)) (fun _ _ _ _ _ => pts_nil)
          (fun _ _ _ _ _ => pe_op op_add_str (pe_op op_add_str (pe_slice sl_str (pv 3) po_none (po_some (pv 4))) (pe_ix ix_str (pv 2) (pe_op op_mod (pe_callTy call_int1 (by rfl) mi (by decide +kernel) (pa_cons (pe_op op_add (pv 5) (pe_op op_mul pe_int (pv 6))) pa_nil)) pe_int) (fun _ _ => rfl)))
            (pe_slice sl_str (pv 3) (po_some (pv 4)) po_none))))))), ?_⟩
    -- letters; the stem
    refine ⟨⟨_, rfl⟩, .ref b, rfl, b, c, 8, rfl, B, by decide, by decide, fun r H1 r0 r1 bt B1 => ?_⟩
    refine ⟨r, rfl, by omega, by omega, fun D nD => ?_⟩
    obtain ⟨Db, Dc⟩ := B1.ne nD
    have nDH : H D = none := bt.free nD Db
    refine lc_range (lo := 0) (n := r.toNat) (fun i H2 => ∃ cs : List Nat, cs.length = i ∧ (∀ c ∈ cs, LC c) ∧ H2 D = some (.lst ((cs.map fun c => (⟨#[c]⟩ : Str)).map V.str)) ∧ But b H H2 ∧ Bag H2 b c)
      ⟨[], rfl, (fun _ h => by cases h), upd_same, bt.new nDH, B1.upd Db Dc⟩ ?_ ?_
    · rintro i H2 hi ⟨cs, hl, ha, hD, bt2, B2⟩
      refine ⟨rfl, .ref b, rfl, .str letS, rfl, b, c, .str letS, rfl, B2, .inr ⟨letS, rfl, by decide +kernel, by decide +kernel, fun j d H3 hc bt3 B3 => ?_⟩⟩
      rw [letS_codes] at hc
      have D3 := bt3 _ _ hD Db
      refine ⟨_, D3, ?_, cs ++ [d], by simp [hl], fun x hx => ?_, ?_, (bt2.trans bt3).new nDH, B3.upd Db Dc⟩
      · simp only [List.length_map]
        exact small1000 (by omega)
      · rcases List.mem_append.mp hx with h | h
        · exact ha x h
        · simp at h
          subst h
          exact (lets_get hc).1
      · rw [upd_same]
        simp
    · rintro H2 ⟨cs, hl, ha, hD, bt2, B2⟩
      have r7 : r.toNat ≤ 7 := by omega
      refine ⟨(⟨#[]⟩ : Str), D, cs.map fun c => (⟨#[c]⟩ : Str), rfl, rfl, .inl (.of hD), ?_, ?_⟩
      · rw [sum_ones]
        show cs.length + (cs.map fun c => (⟨#[c]⟩ : Str)).length * 0 ≤ _
        omega
      -- at, first
      generalize hst : Txt.join (⟨#[]⟩ : Str) (cs.map fun c => (⟨#[c]⟩ : Str)) = st
      have est : st.cps.toList = cs := by rw [← hst]; exact join_ones cs
      have elen : st.length = cs.length := by
        rw [← est]
        simp [Str.length]
      have stl : st.length ≤ sizeLine := Nat.le_of_lt (small1000 (by omega))
      refine ⟨.ref b, rfl, .str st, rfl, _, rfl, stl, _, _, rfl, rfl, b, c, _, rfl, B2, by omega, by omega, fun at_ H3 a0 a1 bt3 B3 => ?_⟩
      refine ⟨.ref b, rfl, b, c, 26, rfl, B3, by decide, by decide, fun fi H4 f0 f1 bt4 B4 => ?_⟩
      refine ⟨by show 2 ≤ sizeLine; decide, fun T nT => ?_⟩
      obtain ⟨Tb, Tc⟩ := B4.ne nT
      have bH4 : But b H H4 := (bt2.trans bt3).trans bt4
      have nTH : H T = none := bH4.free nT Tb
      refine ⟨T, [.int at_, .int fi], rfl, .of upd_same, rfl, .int at_, [.int fi], rfl, .int fi, [], rfl, rfl, ?_⟩
      -- the names
      refine ⟨.int m, rfl, m, rfl, by omega, by omega, fun l nl => ?_⟩
      have B5 := B4.upd (o := .tup [.int at_, .int fi]) Tb Tc
      have bH5 := bH4.new (o := .tup [.int at_, .int fi]) nTH
      obtain ⟨lb, lc⟩ := B5.ne nl
      have nlH : H l = none := bH5.free nl lb
      refine lc_range (lo := 0) (n := (m : Int).toNat) (fun i H2 => ∃ zs : List Str, zs.length = i ∧ (∀ j (z : Str), zs[j]? = some z → z.cps.toList = nameL cs at_.toNat (97 + (fi.toNat + 7 * j) % 26)) ∧ H2 l = some (.lst (zs.map V.str)) ∧ But b H H2 ∧ Bag H2 b c)
        ⟨[], rfl, (fun j z h => by simp at h), upd_same, bH5.new nlH, B5.upd lb lc⟩ ?_ ?_
      · rintro i H6 hi ⟨zs, zl, za, hl6, bt6, B6⟩
        refine ⟨rfl, .str st, rfl, .int at_, rfl, at_, rfl, st, rfl, stl, .str letS, rfl, .int fi, rfl, .int (0 + i), rfl, _, _, rfl, rfl, .inl ⟨by decide, by decide⟩, _, _, rfl, rfl, .inl ⟨_, rfl, _, _, rfl, rfl, (by show (0 : Int) < 26; decide), ?_⟩⟩
        have e1 : (fi + 7 * (0 + (i : Int))) % 26 = (((fi.toNat + 7 * i) % 26 : Nat) : Int) := by omega
        have ea : at_ = ((at_.toNat : Nat) : Int) := by omega
        have hat : at_.toNat ≤ st.length := by omega
        have hg : lets[(fi.toNat + 7 * i) % 26]? = some (97 + (fi.toNat + 7 * i) % 26) := by
          have h26 : (fi.toNat + 7 * i) % 26 < 26 := Nat.mod_lt _ (by decide)
          unfold lets
          rw [List.getElem?_map, List.getElem?_eq_getElem (by simpa using h26)]
          simp
          omega
        have nc := name_codes (c := 97 + (fi.toNat + 7 * i) % 26) est hat
        rw [← ea] at nc
        have lcs : cs.length ≤ 7 := by omega
        have lp : (cutS st none (some at_)).length ≤ 8 := by
          rw [len_codes, ea, cut_pre hat, List.length_take]
          omega
        have lq : (cutS st (some at_) none).length ≤ 8 := by
          rw [len_codes, ea, cut_post hat, List.length_drop, est]
          omega
        have lm : (cutS st none (some at_) ++ (⟨#[97 + (fi.toNat + 7 * i) % 26]⟩ : Str)).length ≤ 9 := by
          rw [len_codes]
          have a2 := TL.tl_append (cutS st none (some at_)) (⟨#[97 + (fi.toNat + 7 * i) % 26]⟩ : Str)
          unfold TL.tl at a2
          rw [a2, List.length_append, ← len_codes]
          show _ + 1 ≤ 9
          omega
        refine ⟨letS, _, 97 + (fi.toNat + 7 * i) % 26, rfl, rfl, by decide +kernel, ?_, _, _, rfl, rfl, ?_, .str st, rfl, .int at_, rfl, at_, rfl, st, rfl, stl, _, _, rfl, rfl, ?_, _, hl6, ?_, zs ++ [cutS st none (some at_) ++ (⟨#[97 + (fi.toNat + 7 * i) % 26]⟩ : Str) ++ cutS st (some at_) none], ?_, ?_, ?_, bt6.new nlH, B6.upd lb lc⟩
        · rw [e1, letS_codes]
          exact atI_nat hg
        · exact Nat.le_of_lt (small1000 (by show _ + 1 ≤ 1000; omega))
        · exact Nat.le_of_lt (small1000 (by omega))
        · rw [List.length_map]
          exact small1000 (by omega)
        · simp [zl]
        · intro j z hz
          rcases Nat.lt_trichotomy j zs.length with h | h | h
          · rw [List.getElem?_append_left h] at hz
            exact za j z hz
          · subst h
            simp at hz
            subst hz
            rw [nc, zl]
          · rw [List.getElem?_eq_none (by simp; omega)] at hz
            cases hz
        · rw [upd_same]
          simp
      · rintro H6 ⟨zs, zl, za, hl6, bt6, B6⟩
        have zl3 : zs.length = m := by omega
        refine q H6 l zs nlH hl6 bt6 B6 zl3 ?_ ?_
        · intro z hz
          obtain ⟨j, hj⟩ := List.mem_iff_getElem?.mp hz
          have ez := za j z hj
          have lz : z.length = cs.length + 1 := by rw [len_codes, ez, nameL_len]
          refine ⟨by omega, by omega, fun d hd => ?_⟩
          rw [ez] at hd
          unfold nameL at hd
          rcases List.mem_append.mp hd with h | h
          · rcases List.mem_append.mp h with h | h
            · exact ha d (List.mem_of_mem_take h)
            · simp at h
              unfold LC
              omega
          · exact ha d (List.mem_of_mem_drop h)
        · refine List.pairwise_iff_getElem.mpr fun i j hi hj hij e3 => ?_
          have e1 := za i _ (List.getElem?_eq_getElem hi)
          have e2 := za j _ (List.getElem?_eq_getElem hj)
          rw [e3, e2] at e1
          have e4 := nameL_inj e1
          omega
end
end K8

namespace K8
open PySem PySem.Spec PyProof.Rows L2
theorem scWord : FnScope ["_law_bag"] ["_law_bag"] (defScope sWord) := ⟨rfl, rfl, rfl, by decide +kernel, rfl, by decide +kernel, by decide +kernel⟩
theorem scTable : FnScope ["_law_bag", "_law_k"] ["_law_bag"] (defScope sTable) := ⟨rfl, rfl, rfl, by decide +kernel, rfl, by decide +kernel, by decide +kernel⟩
theorem scGround : FnScope ["_law_bag", "_law_most", "_law_names_here"] ["_law_bag", "_law_most"] (defScope sGround) := ⟨rfl, rfl, rfl, by decide +kernel, rfl, by decide +kernel, by decide +kernel⟩
def basesL : List Str := ["newest", "eldest", "any", "every", "refuse"]
structure Tab (z : Str) : Prop where
  len : z.cps.toList.length = 4
  dig : ∀ c ∈ z.cps.toList, c = 48 ∨ c = 49
structure Gnd (H : Hp) (g n : Addr) (zs : List Str) (pl : Nat) (tb wd : Str) : Prop where
  gt : H g = some (.tup [.ref n, .int pl, .str tb, .str wd])
  nt : H n = some (.tup (zs.map V.str))
  lo : 2 ≤ zs.length
  hi : zs.length ≤ 3
  nm : ∀ z ∈ zs, NameS z
  nd : zs.Nodup
  p1 : 1 ≤ pl
  p2 : pl ≤ 2
  tb : Tab tb
  wd : wd ∈ basesL
section
variable {P : Program} {w : World} {K : PySem.W.Frag} {mg : Str → Option Value} {base : Heap}
/-- what the prelude's defs want of the top -/
structure Pre (K : PySem.W.Frag) (mg : Str → Option Value) (fP fA : Addr) (fdP fdA : FuncData) : Prop where
  FP : Fun K "_law_pull" "_law_pull" sPull fP fdP
  bP : Binds K fdP ["_law_bag", "_law_many"] []
  gP : mg "_law_pull" = some (.ref fP)
  FA : Fun K "_law_any" "_law_any" sAny fA fdA
  bA : Binds K fdA ["_law_bag", "_law_things"] []
  gA : mg "_law_any" = some (.ref fA)
  ml : mg "len" = none
  mi : mg "int" = none
  mr : mg "range" = none
  mt : mg "tuple" = none
theorem Pre.okP {fP fA : Addr} {fdP fdA : FuncData} (T : Pre K mg fP fA fdP fdA) (k : Nat) : FnOk P w K mg base CX0 (k + 1) fP fdP ["_law_bag", "_law_many"] spPull := ok_pull T.FP T.ml T.mi
theorem Pre.okA {fP fA : Addr} {fdP fdA : FuncData} (T : Pre K mg fP fA fdP fdA) (k : Nat) : FnOk P w K mg base CX0 (k + 2) fA fdA ["_law_bag", "_law_things"] spAny := ok_any T.FA T.FP T.bP T.gP T.ml T.mi
def spWord : Sp := fun vs H Q _ => ∃ (b c : Addr), vs = [.ref b] ∧ Bag H b c ∧ ∀ (H' : Hp) (z : Str), But b H H' → Bag H' b c → z ∈ basesL → Q (.str z) H'
theorem ok_word {f fP fA : Addr} {fd fdP fdA : FuncData} {k : Nat} (F : Fun K "_law_bases_word" "_law_bases_word" sWord f fd) (T : Pre K mg fP fA fdP fdA) : FnOk P w K mg base CX0 (k + 3) f fd ["_law_bag"] spWord := by
  refine F.ok scWord (fun vs H Q E h => ?_) (fun cdv A outer s H vs Q E hr h => ?_)
  · obtain ⟨b, c, rfl, _⟩ := h
    rfl
  · obtain ⟨b, c, rfl, B, q⟩ := h
    refine ⟨_, pss_one (ps_ret (pe_call (T.okA k) hr (by rfl) T.gA T.FA.kp T.bA .nil pass0 (pa_cons (pv 0) (pa_cons (pe_lst (pa_cons pe_str (pa_cons pe_str (pa_cons pe_str (pa_cons pe_str (pa_cons pe_str pa_nil)))))) pa_nil)))), ?_⟩
    refine ⟨.ref b, rfl, by show 5 ≤ sizeLine; decide, fun l nl => ?_⟩
    obtain ⟨lb, lc⟩ := B.ne nl
    refine ⟨b, c, .ref l, rfl, B.upd lb lc, .inl ⟨l, _, rfl, upd_same, lb, by decide, by decide, fun r v H' hv bt B' => ?_⟩⟩
    have hm : v ∈ basesL.map V.str := List.mem_of_getElem? hv
    obtain ⟨z, hz, rfl⟩ := List.mem_map.mp hm
    exact q H' z (But.trans ((But.refl b H).new nl) bt) B' hz
def spTable : Sp := fun vs H Q _ => ∃ (b c : Addr), vs = [.ref b] ∧ Bag H b c ∧ ∀ (H' : Hp) (z : Str), But b H H' → Bag H' b c → Tab z → Q (.str z) H'
theorem ok_table {f fP fA : Addr} {fd fdP fdA : FuncData} {k : Nat} (F : Fun K "_law_table" "_law_table" sTable f fd) (T : Pre K mg fP fA fdP fdA) : FnOk P w K mg base CX0 (k + 3) f fd ["_law_bag"] spTable := by
  refine F.ok scTable (fun vs H Q E h => ?_) (fun cdv A outer s H vs Q E hr h => ?_)
  · obtain ⟨b, c, rfl, _⟩ := h
    rfl
  · obtain ⟨b, c, rfl, B, q⟩ := h
    have hr1 : Room (k + 1) _ := hr.mono (Nat.le_succ _)
    refine ⟨_, pss_cons (ps_if (pt_cmpR op_eq (pe_call (T.okP k) hr1 (by rfl) T.gP T.FP.kp T.bP .nil pass0 (pa_cons (pv 0) (pa_cons pe_int pa_nil))) pe_int (nomark _)) (pss_one (ps_ret pe_str)) pss_nil)
      (pss_one (ps_ret (pe_join pe_str (pe_lc (own := [("_law_k", 1)]) (g := gName 1) (tt := tYes) rfl scTable.nd
          (pi_range1 rfl T.mr (pa_cons pe_int pa_nil))
          (blkOk_by (N := ["_law_bag", "_law_k"]) (sc := defScope sTable) (by decide +kernel))
          (fun _ _ _ _ _ => pg_name (i := 1) scTable.nd rfl (Or.inl rfl)) (fun _ _ _ _ _ => pts_nil)
          (fun _ _ _ _ _ => pe_call (T.okA k) hr (by rfl) T.gA T.FA.kp T.bA .nil pass0 (pa_cons (pv 0) (pa_cons pe_str pa_nil))))))), ?_⟩
    refine ⟨.ref b, rfl, b, c, 2, rfl, B, by decide, by decide, fun r H1 r0 r1 bt B1 => ?_⟩
    refine ⟨rfl, _, rfl, ite2 (fun _ => ?_) (fun _ => ?_)⟩
    · exact q H1 _ bt B1 ⟨by decide +kernel, by decide +kernel⟩
    · refine ⟨⟨_, rfl⟩, 4, rfl, by decide, by decide, fun D nD => ?_⟩
      obtain ⟨Db, Dc⟩ := B1.ne nD
      have nDH : H D = none := bt.free nD Db
      refine lc_range (lo := 0) (n := 4) (fun i H2 => ∃ cs : List Nat, cs.length = i ∧ (∀ c ∈ cs, c = 48 ∨ c = 49) ∧ H2 D = some (.lst ((cs.map fun c => (⟨#[c]⟩ : Str)).map V.str)) ∧ But b H H2 ∧ Bag H2 b c)
        ⟨[], rfl, (fun _ h => by cases h), upd_same, bt.new nDH, B1.upd Db Dc⟩ ?_ ?_
      · rintro i H2 hi ⟨cs, hl, ha, hD, bt2, B2⟩
        refine ⟨rfl, .ref b, rfl, b, c, .str "01", rfl, B2, .inr ⟨_, rfl, by decide +kernel, by decide +kernel, fun j d H3 hc bt3 B3 => ?_⟩⟩
        have D3 := bt3 _ _ hD Db
        refine ⟨_, D3, ?_, cs ++ [d], by simp [hl], fun x hx => ?_, ?_, (bt2.trans bt3).new nDH, B3.upd Db Dc⟩
        · simp only [List.length_map]
          exact small1000 (by omega)
        · rcases List.mem_append.mp hx with h | h
          · exact ha x h
          · simp at h
            subst h
            have e : ("01" : Str).cps.toList = [48, 49] := by decide +kernel
            rw [e] at hc
            have hm := List.mem_of_getElem? hc
            simpa using hm
        · rw [upd_same]
          simp
      · rintro H2 ⟨cs, hl, ha, hD, bt2, B2⟩
        refine ⟨(⟨#[]⟩ : Str), D, cs.map fun c => (⟨#[c]⟩ : Str), rfl, rfl, .inl (.of hD), ?_, ?_⟩
        · rw [sum_ones]
          show cs.length + (cs.map fun c => (⟨#[c]⟩ : Str)).length * 0 ≤ _
          omega
        · refine q H2 _ bt2 B2 ⟨?_, ?_⟩
          · rw [join_ones]; exact hl
          · rw [join_ones]; exact ha
def spGround : Sp := fun vs H Q _ => ∃ (b c : Addr) (m : Nat), vs = [.ref b, .int m] ∧ Bag H b c ∧ 2 ≤ m ∧ m ≤ 3 ∧
  ∀ (H' : Hp) (g n : Addr) (zs : List Str) (pl : Nat) (tb wd : Str), H g = none → H n = none → g ≠ n → But b H H' → Bag H' b c → zs.length ≤ m → Gnd H' g n zs pl tb wd → Q (.ref g) H'
theorem ok_ground {f fP fA fN fT fW : Addr} {fd fdP fdA fdN fdT fdW : FuncData} {k : Nat} (F : Fun K "_law_ground" "_law_ground" sGround f fd) (T : Pre K mg fP fA fdP fdA)
    (FN : Fun K "_law_names" "_law_names" sNames fN fdN) (bN : Binds K fdN ["_law_bag", "_law_many"] []) (gN : mg "_law_names" = some (.ref fN))
    (FT : Fun K "_law_table" "_law_table" sTable fT fdT) (bT : Binds K fdT ["_law_bag"] []) (gT : mg "_law_table" = some (.ref fT))
    (FW : Fun K "_law_bases_word" "_law_bases_word" sWord fW fdW) (bW : Binds K fdW ["_law_bag"] []) (gW : mg "_law_bases_word" = some (.ref fW)) : FnOk P w K mg base CX0 (k + 4) f fd ["_law_bag", "_law_most"] spGround := by
  have GN : FnOk P w K mg base CX0 (k + 3) fN fdN ["_law_bag", "_law_many"] spNames := ok_names FN T.FP T.bP T.gP T.FA T.bA T.gA T.ml T.mi T.mr
  have GT : FnOk P w K mg base CX0 (k + 3) fT fdT ["_law_bag"] spTable := ok_table FT T
  have GW : FnOk P w K mg base CX0 (k + 3) fW fdW ["_law_bag"] spWord := ok_word FW T
  refine F.ok scGround (fun vs H Q E h => ?_) (fun cdv A outer s H vs Q E hr h => ?_)
  · obtain ⟨b, c, m, rfl, _⟩ := h
    rfl
  · obtain ⟨b, c, m, rfl, B, m0, m1, q⟩ := h
    have hr1 : Room (k + 1) _ := hr.mono (by omega)
    refine ⟨_, pss_cons (ps_set (i := 2) scGround.nd rfl (.inl rfl) (pe_call GN hr (by rfl) gN FN.kp bN .nil pass0 (pa_cons (pv 0) (pa_cons (pe_op op_add pe_int (pe_call (T.okP k) hr1 (by rfl) T.gP T.FP.kp T.bP .nil pass0 (pa_cons (pv 0) (pa_cons (pe_op op_sub (pv 1) pe_int) pa_nil)))) pa_nil))))
      (pss_one (ps_ret (pe_tup (pa_cons (pe_callTy call_tuple_of (by rfl) T.mt (by decide +kernel) (pa_cons (pv 2) pa_nil))
        (pa_cons (pe_op op_add pe_int (pe_call (T.okP k) hr1 (by rfl) T.gP T.FP.kp T.bP .nil pass0 (pa_cons (pv 0) (pa_cons pe_int pa_nil))))
        (pa_cons (pe_call GT hr (by rfl) gT FT.kp bT .nil pass0 (pa_cons (pv 0) pa_nil))
        (pa_cons (pe_call GW hr (by rfl) gW FW.kp bW .nil pass0 (pa_cons (pv 0) pa_nil)) pa_nil))))))), ?_⟩
    refine ⟨.ref b, rfl, .ref b, rfl, .int m, rfl, _, _, rfl, rfl, b, c, _, rfl, B, by omega, by omega, fun r H1 r0 r1 bt1 B1 => ?_⟩
    have er : (2 + r : Int) = ((2 + r.toNat : Nat) : Int) := by omega
    refine ⟨_, _, rfl, rfl, b, c, 2 + r.toNat, congrArg (fun z => [V.ref b, V.int z]) er, B1, by omega, by omega, fun H2 l zs nl hl bt2 B2 zl zn zd => ?_⟩
    have lb := (B1.ne nl).1
    have nlH : H l = none := bt1.free nl lb
    -- tuple(names)
    refine ⟨.ref l, rfl, l, _, rfl, .inl ⟨.of hl, fun n nn => ?_⟩⟩
    obtain ⟨nb, nc⟩ := B2.ne nn
    have nnH : H n = none := (bt1.trans bt2).free nn nb
    have B3 := B2.upd (o := .tup (zs.map V.str)) nb nc
    have bt3 := (bt1.trans bt2).new (o := .tup (zs.map V.str)) nnH
    refine ⟨.ref b, rfl, b, c, 2, rfl, B3, by decide, by decide, fun pl H4 p0 p1 bt4 B4 => ?_⟩
    have n4 := bt4 _ _ upd_same nb
    refine ⟨_, _, rfl, rfl, .ref b, rfl, b, c, rfl, B4, fun H5 tb bt5 B5 ht => ?_⟩
    have n5 := bt5 _ _ n4 nb
    refine ⟨.ref b, rfl, b, c, rfl, B5, fun H6 wd bt6 B6 hw => ?_⟩
    have n6 := bt6 _ _ n5 nb
    refine ⟨by show 4 ≤ sizeLine; decide, fun g ng => ?_⟩
    obtain ⟨gb, gc⟩ := B6.ne ng
    have bt := ((bt3.trans bt4).trans bt5).trans bt6
    have ngH : H g = none := bt.free ng gb
    have gn : g ≠ n := (ne_of_none n6 ng).symm
    have ep : (1 + pl : Int) = ((1 + pl.toNat : Nat) : Int) := by omega
    refine q _ g n zs (1 + pl.toNat) tb wd ngH nnH gn (bt.new ngH) (B6.upd gb gc) (by omega) ⟨?_, ?_, by omega, by omega, zn, zd, by omega, by omega, ht, hw⟩
    · exact upd_same.trans (congrArg (fun z => some (HO.tup [V.ref n, V.int z, V.str tb, V.str wd])) ep)
    · rw [upd_ne gn.symm]; exact n6
end
end K8

namespace K8
open PySem PySem.Spec PyProof.Rows L2
/-! ### enumerate(v), one argument, v whatever begins -/
set_option maxHeartbeats 8000000 in
theorem enum1_new {v : Value} {o : Obj} {Hs : Heap → Prop} (B : Begins v o Hs) :
    Meets (Builtin.«enumerate.__new__» ⟨[.type "enumerate", v], []⟩) (fun _ R s => Hs s.heap ∧
      R (.ok (.ret (.ref (s.heap.push o).objs.size))) { s with heap := (s.heap.push o).push { cls := .type "enumerate", data := .fields #[.none, .bool false, .ref s.heap.objs.size, rawInt 0, .none, .none] } }) :=
  .of_wp fun P' w' A' R' s' hyp => by
    obtain ⟨hp, g, d, tk, os⟩ := s'; obtain ⟨hst, hR⟩ := hyp
    have hsub := sub_enumerate
    have beg : ∀ {Ar : Around} {Er : Value → Shared → Prop} {Qr : Value → Shared → Prop}, Qr (.ref hp.objs.size) ⟨hp.push o, g, d, tk, os⟩ → wpAny (model P' w') Ar (pyIter v) Qr Er ⟨hp, g, d, tk, os⟩ :=
      fun q => B.iter P' w' _ _ ⟨hp, g, d, tk, os⟩ _ hst q
    wp_walk using beg
    refine wpAny_stack_any fun st => wpAny_pure ?_
    split
    · rename_i cc _ _ _ _ _
      cases (cc == Value.type "enumerate")
      · wp_walk using beg
        exact ⟨_, rfl, hR⟩
      · wp_walk using beg
        exact ⟨_, rfl, hR⟩
    · wp_walk using beg
      exact ⟨_, rfl, hR⟩
section
variable {prog : Program} {w : World} {A : Around} {E : Value → Shared → Prop} {s : Shared}
theorem enum1_call {v : Value} {o : Obj} {Hs : Heap → Prop} {Q : Value → Shared → Prop} (B : Begins v o Hs) (hs : Hs s.heap)
    (q : ∀ hq, IsEnum hq (s.heap.objs.size + 1) s.heap.objs.size 0 .none → hq.get? s.heap.objs.size = some o → (∀ b u, s.heap.get? b = some u → hq.get? b = some u) → Q (.ref (s.heap.objs.size + 1)) { s with heap := hq }) :
    wpAny (model prog w) A (call (.type "enumerate") [v]) Q E s := by
  refine callType_new F.called_enumerate (by decide) (F.typeCall_enumerate_1 _) (F.newCall_enumerate_1 _) (fun ob => F.args_object_init_2 ob _) F.entry_enumerate_new (enum1_new B) ⟨hs, ?_⟩
  have sz : (s.heap.push o).objs.size = s.heap.objs.size + 1 := Heap.size_push ..
  show _ ∧ _
  rw [sz]
  have en : IsEnum ((s.heap.push o).push { cls := .type "enumerate", data := .fields #[.none, .bool false, .ref s.heap.objs.size, rawInt 0, .none, .none] }) (s.heap.objs.size + 1) s.heap.objs.size 0 .none := by
    have z := Heap.get?_push_size (s.heap.push o) (o := { cls := .type "enumerate", data := .fields #[.none, .bool false, .ref s.heap.objs.size, rawInt 0, .none, .none] }) rfl
    rw [sz] at z
    exact z
  exact ⟨⟨_, en, rfl⟩, q _ en (Heap.get?_push_of_some _ (Heap.get?_push_size _ B.free)) fun b u x => Heap.get?_push_of_some _ (Heap.get?_push_of_some _ x)⟩
end
/-! ### for i, x in enumerate(a tuple) -/
def Iet (K : PySem.W.Frag) (a : Addr) : It :=
  ⟨fun i H => ∃ (xs : List V) (x : V), SqT K H a xs ∧ xs[i]? = some x,
   fun i H v H' => ∃ T x, v = .ref T ∧ H T = none ∧ H' = upd H T (.tup [.int (i : Nat), x]) ∧ ∀ xs, SqT K H a xs → xs[i]? = some x,
   fun i H => ∃ xs : List V, SqT K H a xs ∧ xs.length = i⟩
theorem isTup_tuple {h : Heap} {a : Addr} {its : Array Value} (p : IsTup h a its) : h.IsTuple a its := p
theorem turn_iet {P : Program} {w : World} {K : PySem.W.Frag} {elts : List Expr} {kk : Nat} {tpos : Pos} (a e it : Addr) :
    Turn P w K (.Tuple elts kk tpos) (Iet K a) [e, it] e (fun i h => (∃ old, IsEnum h e it ((i : Nat) : Int) old) ∧ h.IsTupleIter it a i ∧ e ≠ it) where
  mem := by simp
  obj := fun i h st b hb => by
    obtain ⟨⟨old, en⟩, ⟨oi, gi, _, di⟩, _⟩ := st
    have cases2 : b = e ∨ b = it := by simpa using hb
    rcases cases2 with z | z
    · subst z
      exact ⟨_, en, fun v q => nomatch q⟩
    · subst z
      exact ⟨oi, gi, fun v q => by rw [di] at q; cases q⟩
  keep := fun i h h' st k => let ⟨⟨old, en⟩, hi, ne⟩ := st; ⟨⟨old, k e (by simp) _ en⟩, hi.at fun u q => k it (by simp) u q, ne⟩
  item := by
    intro X eP eW eK hc i pins s σ H E I hf st hg
    subst eP eW eK
    obtain ⟨⟨old, en⟩, hit, ne⟩ := st
    obtain ⟨xs, x, hq, hx⟩ := hg
    obtain ⟨its, rv, tp, hz⟩ := I.tuple hq
    obtain ⟨u0, hu, ru⟩ := rv.get hx
    have el : e < s.heap.objs.size := Heap.lt_size en
    have il : it < s.heap.objs.size := by obtain ⟨_, q, _⟩ := hit; exact Heap.lt_size q
    have tne : a ≠ it := fun z => by
      obtain ⟨o1, g1, c1, n1, d1⟩ := isTup_tuple tp
      obtain ⟨o2, g2, c2, d2⟩ := hit
      rw [z, g2] at g1
      cases g1
      rw [c2] at c1
      have c3 : Value.type "tuple_iterator" = Value.type "tuple" := c1
      exact absurd c3 (by decide)
    have ane : a ≠ e := fun z => by
      obtain ⟨o1, g1, c1, n1, d1⟩ := isTup_tuple tp
      rw [z] at g1
      have g2 : s.heap.get? e = _ := en
      rw [g2] at g1
      cases g1
      have c3 : Value.type "enumerate" = Value.type "tuple" := c1
      exact absurd c3 (by decide)
    have hi' : i < its.length := (List.getElem?_eq_some_iff.mp hu).1
    refine wpAny_pyNext_enum_itemD (Draws.tuple (A := X.A.in1) (I.ok.hd hc) it a tne its.toArray) en ⟨hit, isTup_tuple tp⟩ (by simpa using hi') ne (by simp [ne, Ne.symm ane]) fun u h1 tk hPx ho hit1 hT _ hk => ?_
    have eu : u = u0 := by
      have : its[i]? = some u := by simpa using hPx
      rw [hu] at this
      exact (Option.some.inj this).symm
    subst eu
    refine ⟨_, rfl, wpAny_letOwnedTupleGo_enum (s := { s with heap := h1, toks := tk + 1 }) ho fun h2 en2 sb => ?_⟩
    have gT : h2.get? s.heap.objs.size = some { cls := .type "tuple", data := .seq #[.int i tk, u] } := (sb.2 _ (Nat.ne_of_gt el)).trans hT
    have new : ObjOk X.prog X.w (upd H s.heap.objs.size (.tup [.int (i : Nat), x])) h2 s.heap.objs.size (.tup [.int (i : Nat), x]) :=
      ⟨by show 2 ≤ sizeLine; decide, [.int i tk, u], .cons ⟨_, rfl⟩ (.cons ru .nil), ⟨_, gT, rfl, _, rfl⟩⟩
    have I1 : Inv X pins σ (upd H s.heap.objs.size (.tup [.int (i : Nat), x])) { s with heap := h2, toks := tk + 1 } :=
      I.turnedNew (ch := [e, it]) (fun b ob hb q => (sb.2 b (fun z => hb (by simp [z]))).trans (hk b ob (fun z => hb (by simp [z])) (fun z => hb (by simp [z])) q)) hf (Nat.le_refl _) new
    refine ⟨.ref s.heap.objs.size, _, I1, rfl, ⟨_, x, rfl, I.hok.fresh (Nat.le_refl _), rfl, fun ys hy => by rw [I.tuple_inj hy hq]; exact hx⟩, ⟨⟨u, ?_⟩, hit1.1.at fun o q => (sb.2 it (Ne.symm ne)).trans q, ne⟩, fun b hb => ?_⟩
    · have e1 : ((i + 1 : Nat) : Int) = (i : Int) + 1 := by omega
      rw [e1]; exact en2
    · have bl : b < s.heap.objs.size := by
        have cases2 : b = e ∨ b = it := by simpa using hb
        rcases cases2 with z | z
        · rw [z]; exact el
        · rw [z]; exact il
      rw [upd_ne (Nat.ne_of_lt bl)]
      exact (hf b hb).1
  done := by
    intro X eP eW eK hc i pins s σ H E I hf st hg
    subst eP eW eK
    obtain ⟨⟨old, en⟩, hit, ne⟩ := st
    obtain ⟨xs, hq, hx⟩ := hg
    obtain ⟨its, rv, tp, hz⟩ := I.tuple hq
    obtain ⟨f0, f1, f2, f3, f4, f5⟩ := hf it (by simp)
    have hl := rv.length
    have tne : a ≠ it := fun z => by
      obtain ⟨o1, g1, c1, n1, d1⟩ := isTup_tuple tp
      obtain ⟨o2, g2, c2, d2⟩ := hit
      rw [z, g2] at g1
      cases g1
      rw [c2] at c1
      have c3 : Value.type "tuple_iterator" = Value.type "tuple" := c1
      exact absurd c3 (by decide)
    have ei : i = its.toArray.size := by simp; omega
    exact wpAny_pyNext_enum_endD (Draws.tuple (A := X.A.in1) (I.ok.hd hc) it a tne its.toArray) en (by rw [← ei]; exact ⟨hit, isTup_tuple tp⟩) fun h1 eb => ⟨rfl, I.turned (t' := s.toks) (fun b o hb q => eb b o hb q) f0 f1 f3 f4 f5⟩
  self := fun A i s Q E st h => let ⟨⟨_, en⟩, _⟩ := st; wpAny_pyIter_enum en h
theorem walk_iet {K : PySem.W.Frag} {a : Addr} {xs : List V} : Walk (Iet K a) xs.length (fun H => SqT K H a xs) (YPair (fun i => some (.int (i : Nat))) (fun i => xs[i]?)) := by
  refine ⟨fun i _ hi q => ⟨xs, xs[i], q, by simp [hi]⟩, fun _ q => ⟨xs, q, rfl⟩, fun i H v H' _ q y => ?_⟩
  obtain ⟨T, x, y1, y2, y3, y4⟩ := y
  exact ⟨T, .int (i : Nat), x, y1, y2, y3, rfl, y4 xs q⟩
def tEnT (K : PySem.W.Frag) (ta : TA) : TI := fun σ H R => ta σ H fun vs H1 => ∃ a xs, vs = [.ref a] ∧ SqT K H1 a xs ∧ R (Iet K a) H1
theorem pi_enT {X : Cx} {e : Expr} {ta : TA} {p pos tpos : Pos} {elts : List Expr} {kk : Nat} (hg : Gl X "enumerate") (hm : X.mg "enumerate" = none) (ha : PA X [e] ta) (hs : starEach [e] X.env = [(false, eval e X.env)] := by rfl) :
    PI X (.Tuple elts kk tpos) (.Call (.Name "enumerate" p) [e] [] pos) (tEnT X.K ta) := by
  refine ⟨fun pins s σ H R I h => ?_⟩
  refine Call_ (ld_blt I hg hm boot_enumerate (PyProof.Rows.callWith_type1 (thn (ha.run pos pins s σ H _ I h) fun us s1 ⟨vs, H1, I1, r1, q1⟩ => ?_) hs rfl))
  obtain ⟨a, xs, ev, hq, q⟩ := q1
  subst ev
  obtain ⟨u, eu, ru⟩ := vals1 r1
  subst eu
  cases ru
  obtain ⟨its, rv, tp, hz⟩ := I1.tuple hq
  refine enum1_call (begins_tuple a its.toArray) (isTup_tuple tp) fun hq2 en git kp => wpAny_pyIter_enum en ?_
  have I2 : Inv X pins σ H1 { s1 with heap := hq2 } := I1.kept (t' := s1.toks) kp
  refine ⟨s1.heap.objs.size + 1, [s1.heap.objs.size + 1, s1.heap.objs.size], _, _, H1, rfl, I2, turn_iet a (s1.heap.objs.size + 1) s1.heap.objs.size, ⟨⟨.none, en⟩, ⟨_, git, rfl, rfl⟩, Nat.succ_ne_self _⟩, fun b hb => ?_, q⟩
  have cases2 : b = s1.heap.objs.size + 1 ∨ b = s1.heap.objs.size := by simpa using hb
  have ge : s1.heap.objs.size ≤ b := by
    rcases cases2 with z | z
    · rw [z]; exact Nat.le_succ _
    · rw [z]; exact Nat.le_refl _
  exact I1.fpOk ge (I1.hok.fresh ge)
end K8

namespace K8
open PySem PySem.Spec PyProof.Rows L2
abbrev sNum : Stmt := top 12
abbrev sIsName : Stmt := top 14
abbrev sCheck : Stmt := top 16
abbrev sIsTab : Stmt := top 17
theorem scNum : FnScope ["value"] ["value"] (defScope sNum) := ⟨rfl, rfl, rfl, by decide +kernel, rfl, by decide +kernel, by decide +kernel⟩
theorem scIsName : FnScope ["value", "letter"] ["value"] (defScope sIsName) := ⟨rfl, rfl, rfl, by decide +kernel, rfl, by decide +kernel, by decide +kernel⟩
theorem scIsTab : FnScope ["value", "digit"] ["value"] (defScope sIsTab) := ⟨rfl, rfl, rfl, by decide +kernel, rfl, by decide +kernel, by decide +kernel⟩
/-- built-in names that the program does not shadow -/
structure Blt (mg : Str → Option Value) : Prop where
  mint : mg "int" = none
  mbool : mg "bool" = none
  mstr : mg "str" = none
  misi : mg "isinstance" = none
  mlen : mg "len" = none
  mall : mg "all" = none
  mrange : mg "range" = none
  mtuple : mg "tuple" = none
  menum : mg "enumerate" = none
section
variable {P : Program} {w : World} {K : PySem.W.Frag} {mg : Str → Option Value} {base : Heap}
def spNum : Sp := fun vs H Q _ => ∃ i : Int, vs = [.int i] ∧ Q (.bl true) H
theorem ok_num {f : Addr} {fd : FuncData} {k : Nat} (F : Fun K "is_number" "is_number" sNum f fd) (T : Blt mg) : FnOk P w K mg base CX0 (k + 1) f fd ["value"] spNum := by
  refine F.ok scNum (fun vs H Q E h => ?_) (fun cdv A outer s H vs Q E hr h => ?_)
  · obtain ⟨i, rfl, _⟩ := h
    rfl
  · obtain ⟨i, rfl, q⟩ := h
    refine ⟨_, pss_one (ps_ret (pe_and (pe_callB call_isi (by rfl) T.misi (by decide +kernel) (pa_cons (pv 0) (pa_cons (pe_bltn (v := .ty "int") (by rfl) T.mint (by decide +kernel) rfl) pa_nil)))
      (pe_one (pe_not (pe_callB call_isi (by rfl) T.misi (by decide +kernel) (pa_cons (pv 0) (pa_cons (pe_bltn (v := .ty "bool") (by rfl) T.mbool (by decide +kernel) rfl) pa_nil))))))), ?_⟩
    refine ⟨.int i, rfl, .int i, .ty "int", _, _, true, rfl, .ty "int", .base (.int i), kit_ty (by decide +kernel), true, rfl, iteT ?_⟩
    exact ⟨.int i, rfl, .int i, .ty "bool", _, _, false, rfl, .ty "bool", .base (.int i), kit_ty (by decide +kernel), false, rfl, q⟩
def spIsName : Sp := fun vs H Q _ => ∃ z : Str, vs = [.str z] ∧ NameS z ∧ ∀ H', Same H H' → Q (.bl true) H'
theorem ok_isname {f : Addr} {fd : FuncData} {k : Nat} (F : Fun K "is_name" "is_name" sIsName f fd) (T : Blt mg) : FnOk P w K mg base CX0 (k + 1) f fd ["value"] spIsName := by
  refine F.ok scIsName (fun vs H Q E h => ?_) (fun cdv A outer s H vs Q E hr h => ?_)
  · obtain ⟨i, rfl, _⟩ := h
    rfl
  · obtain ⟨z, rfl, N, q⟩ := h
    refine ⟨_, pss_cons (ps_if (PW.pt (pw_or (pt_not (pt_val (pe_callB call_isi (by rfl) T.misi (by decide +kernel) (pa_cons (pv 0) (pa_cons (pe_bltn (v := .ty "str") (by rfl) T.mstr (by decide +kernel) rfl) pa_nil)))))
        (pw_or1 (pt_not (pt_chain op_le op_le pe_int (pe_callB call_len_str (by rfl) T.mlen PySem.boot_len (pa_cons (pv 0) pa_nil)) pe_int))))) (pss_one (ps_ret pe_bl)) pss_nil)
      (pss_one (ps_ret (pe_callB (cr_all rfl) (by rfl) T.mall (by decide +kernel) (pa_cons (pe_lc (own := [("letter", 1)]) (g := gName 1) (tt := tYes) rfl scIsName.nd
          (pi_str (pv 0)) (blkOk_by (N := ["value", "letter"]) (sc := defScope sIsName) (by decide +kernel))
          (fun _ _ _ _ _ => pg_name (i := 1) scIsName.nd rfl (Or.inl rfl)) (fun _ _ _ _ _ => pts_nil)
          (fun _ _ _ _ _ => pe_chain op_le_str op_le_str pe_str (pv 1) pe_str)) pa_nil)))), ?_⟩
    have h1 := N.lo
    have h2 := N.hi
    have zl : z.length ≤ sizeLine := Nat.le_of_lt (small1000 (by omega))
    have hl : (decide ((1 : Int) ≤ (z.length : Int))) = true := decide_eq_true (by omega)
    have hl2 : (decide ((z.length : Int) ≤ 8)) = true := decide_eq_true (by omega)
    refine ⟨.str z, rfl, .str z, .ty "str", _, _, true, rfl, .ty "str", .base (.str z), kit_ty (by decide +kernel), true, rfl, iteF ?_⟩
    refine ⟨.str z, rfl, _, rfl, zl, _, _, rfl, rfl, true, congrArg V.bl hl, iteT ?_⟩
    refine ⟨_, _, rfl, rfl, true, congrArg V.bl hl2, iteF ?_⟩
    -- all letters
    refine ⟨.str z, rfl, z, rfl, fun D nD => ?_⟩
    refine lc_it walk_str (fun i H2 => Same H H2 ∧ H2 D = some (.lst ((List.replicate i true).map V.bl))) ⟨same_upd nD, upd_same⟩ (fun _ _ _ _ => trivial) ?_ ?_
    · rintro i x H2 H' hi ⟨s2, hD⟩ ⟨rfl, c, hc, rfl⟩
      have hm : c ∈ z.cps.toList := by
        have := List.mem_of_getElem? (l := z.cps.toList) (i := i) (a := c) (by simpa using hc)
        exact this
      have lc := N.al c hm
      unfold LC at lc
      have c1 : (!decide ((⟨#[c]⟩ : Str).cps.toList < ("a" : Str).cps.toList)) = true := by
        have e : ("a" : Str).cps.toList = [97] := by decide +kernel
        rw [e]
        have : ¬ ([c] < [97]) := by
          simp [List.cons_lt_cons_iff]
          omega
        simp [this]
      have c2 : (!decide (("z" : Str).cps.toList < (⟨#[c]⟩ : Str).cps.toList)) = true := by
        have e : ("z" : Str).cps.toList = [122] := by decide +kernel
        rw [e]
        have : ¬ ([122] < [c]) := by
          simp [List.cons_lt_cons_iff]
          omega
        simp [this]
      refine ⟨rfl, .str ⟨#[c]⟩, rfl, _, _, rfl, rfl, true, congrArg V.bl c1, iteT ?_⟩
      refine ⟨_, _, rfl, rfl, _, hD, ?_, ?_, ?_⟩
      · rw [List.length_map, List.length_replicate]
        have e : z.cps.size = z.length := rfl
        exact small1000 (by omega)
      · exact fun a o e => by
          have na : a ≠ D := ne_of_none e nD
          rw [upd_ne na]
          exact s2 a o e
      · rw [upd_same]
        have e : (V.bl (!decide (("z" : Str).cps.toList < (⟨#[c]⟩ : Str).cps.toList))) = V.bl true := congrArg V.bl c2
        show some (HO.lst (_ ++ [V.bl (!decide (("z" : Str).cps.toList < (⟨#[c]⟩ : Str).cps.toList))])) = _
        rw [e, List.replicate_succ', List.map_append]
        rfl
    · rintro H2 ⟨s2, hD⟩
      refine ⟨D, List.replicate z.cps.size true, rfl, .of hD, ?_⟩
      have e : (List.replicate z.cps.size true).all id = true := by simp
      rw [e]
      exact q H2 s2
def spIsTab : Sp := fun vs H Q _ => ∃ z : Str, vs = [.str z] ∧ Tab z ∧ ∀ H', Same H H' → Q (.bl true) H'
theorem ok_istab {f : Addr} {fd : FuncData} {k : Nat} (F : Fun K "_is_table" "_is_table" sIsTab f fd) (T : Blt mg) : FnOk P w K mg base CX0 (k + 1) f fd ["value"] spIsTab := by
  refine F.ok scIsTab (fun vs H Q E h => ?_) (fun cdv A outer s H vs Q E hr h => ?_)
  · obtain ⟨i, rfl, _⟩ := h
    rfl
  · obtain ⟨z, rfl, N, q⟩ := h
    refine ⟨_, pss_one (ps_ret (pe_and (pe_callB call_isi (by rfl) T.misi (by decide +kernel) (pa_cons (pv 0) (pa_cons (pe_bltn (v := .ty "str") (by rfl) T.mstr (by decide +kernel) rfl) pa_nil)))
      (pe_and (pe_cmpR op_eq (pe_callB call_len_str (by rfl) T.mlen PySem.boot_len (pa_cons (pv 0) pa_nil)) pe_int (nomark _))
      (pe_one (pe_callB (cr_all rfl) (by rfl) T.mall (by decide +kernel) (pa_cons (pe_lc (own := [("digit", 1)]) (g := gName 1) (tt := tYes) rfl scIsTab.nd
          (pi_str (pv 0)) (blkOk_by (N := ["value", "digit"]) (sc := defScope sIsTab) (by decide +kernel))
          (fun _ _ _ _ _ => pg_name (i := 1) scIsTab.nd rfl (Or.inl rfl)) (fun _ _ _ _ _ => pts_nil)
          (fun _ _ _ _ _ => pe_cmpR op_in_sign (pv 1) pe_str (by rfl))) pa_nil)))))), ?_⟩
    have l4 : z.length = 4 := by rw [len_codes]; exact N.len
    have zl : z.length ≤ sizeLine := Nat.le_of_lt (small1000 (by omega))
    refine ⟨.str z, rfl, .str z, .ty "str", _, _, true, rfl, .ty "str", .base (.str z), kit_ty (by decide +kernel), true, rfl, iteT ?_⟩
    refine ⟨.str z, rfl, _, rfl, zl, rfl, true, ?_, iteT ?_⟩
    · rw [l4]
      rfl
    refine ⟨.str z, rfl, z, rfl, fun D nD => ?_⟩
    refine lc_it walk_str (fun i H2 => Same H H2 ∧ H2 D = some (.lst ((List.replicate i true).map V.bl))) ⟨same_upd nD, upd_same⟩ (fun _ _ _ _ => trivial) ?_ ?_
    · rintro i x H2 H' hi ⟨s2, hD⟩ ⟨rfl, c, hc, rfl⟩
      have hm : c ∈ z.cps.toList := List.mem_of_getElem? (l := z.cps.toList) (i := i) (a := c) (by simpa using hc)
      have hd := N.dig c hm
      have c1 : decide (c ∈ ("01" : Str).cps.toList) = true := by
        have e : ("01" : Str).cps.toList = [48, 49] := by decide +kernel
        rw [e]
        rcases hd with rfl | rfl <;> decide
      refine ⟨rfl, .str ⟨#[c]⟩, rfl, c, "01", rfl, rfl, _, hD, ?_, ?_, ?_⟩
      · rw [List.length_map, List.length_replicate]
        have e : z.cps.size = z.length := rfl
        exact small1000 (by omega)
      · exact fun a o e => by
          have na : a ≠ D := ne_of_none e nD
          rw [upd_ne na]
          exact s2 a o e
      · rw [upd_same, c1, List.replicate_succ', List.map_append]
        rfl
    · rintro H2 ⟨s2, hD⟩
      refine ⟨D, List.replicate z.cps.size true, rfl, .of hD, ?_⟩
      have e : (List.replicate z.cps.size true).all id = true := by simp
      rw [e]
      exact q H2 s2
end
end K8

namespace K8
open PySem PySem.Spec PyProof.Rows L2
theorem scCheck : FnScope ["branches", "branch", "at"] ["branches"] (defScope sCheck) := ⟨rfl, rfl, rfl, by decide +kernel, rfl, by decide +kernel, by decide +kernel⟩
theorem flat_strs (zs : List Str) : (zs.map V.str).all flatV = true := by
  simp [flatV]
theorem inV_strs (z : Str) (zs : List Str) : inV (.str z) (zs.map V.str) = decide (z ∈ zs) := by
  unfold inV
  rw [List.any_map]
  induction zs with
  | nil => rfl
  | cons a r ih =>
    simp only [List.any_cons, Function.comp_apply]
    rw [show (fun y => eqV y (V.str z)) ∘ V.str = fun y => eqV (V.str y) (V.str z) from rfl] at ih
    rw [show (r.any ((fun y => eqV y (V.str z)) ∘ V.str)) = decide (z ∈ r) from ih]
    show ((a == z) || decide (z ∈ r)) = _
    by_cases h : a = z
    · subst h; simp
    · have h' : ¬ z = a := fun q => h q.symm
      simp [h, h']
section
variable {P : Program} {w : World} {K : PySem.W.Frag} {mg : Str → Option Value} {base : Heap}
def spCheck (K : PySem.W.Frag) : Sp := fun vs H Q _ => ∃ (p : Addr) (zs : List Str), vs = [.ref p] ∧ H p = some (.tup (zs.map V.str)) ∧ 2 ≤ zs.length ∧ zs.length ≤ 3 ∧ (∀ z ∈ zs, NameS z) ∧ zs.Nodup ∧ ∀ H', Same H H' → Q .non H'
theorem ok_check {f fI : Addr} {fd fdI : FuncData} {k : Nat} (F : Fun K "_check_branches" "_check_branches" sCheck f fd) (T : Blt mg) (FI : Fun K "is_name" "is_name" sIsName fI fdI) (bI : Binds K fdI ["value"] []) (gI : mg "is_name" = some (.ref fI)) :
    FnOk P w K mg base CX0 (k + 2) f fd ["branches"] (spCheck K) := by
  have GI : FnOk P w K mg base CX0 (k + 1) fI fdI ["value"] spIsName := ok_isname FI T
  refine F.ok scCheck (fun vs H Q E h => ?_) (fun cdv A outer s H vs Q E hr h => ?_)
  · obtain ⟨i, zs, rfl, _⟩ := h
    rfl
  · obtain ⟨p, zs, rfl, hp, l2, l3, nm, nd, q⟩ := h
    refine ⟨_, pss_cons (ps_if (pt_cmpR op_notIn_seq (pe_callB call_len_seq (by rfl) T.mlen PySem.boot_len (pa_cons (pv 0) pa_nil)) (pe_tup (pa_cons pe_int (pa_cons pe_int pa_nil))) (by rfl)) (pss_one ps_never) pss_nil)
      (pss_cons (ps_for PassesOwn.never rfl (pi_tup (pv 0)) (pg_name (i := 1) scCheck.nd rfl (.inl rfl))
        (pss_one (ps_if (pt_not (pt_val (pe_call GI hr (by rfl) gI FI.kp bI .nil pass0 (pa_cons (pv 1) pa_nil)))) (pss_one ps_never) pss_nil)))
      (pss_one (ps_for PassesOwn.never rfl (pi_enT rfl T.menum (pa_cons (pv 0) pa_nil)) (pg_tup rfl (pgs_cons (pg_name (i := 2) scCheck.nd rfl (.inl rfl)) (pgs_cons (pg_name (i := 1) scCheck.nd rfl (.inl rfl)) pgs_nil)))
        (pss_one (ps_if (pt_cmpR op_in_seq (pv 1) (pe_slice sl_tup (pv 0) po_none (po_some (pv 2))) (by rfl)) (pss_one ps_never) pss_nil))))), ?_⟩
    -- the number of branches
    have len2 : (zs.map V.str).length = zs.length := List.length_map _
    refine ⟨.ref p, rfl, p, _, rfl, .inr (.of hp), by show 2 ≤ sizeLine; decide, fun t nt => ⟨t, _, rfl, .inr (.of upd_same), rfl, rfl, false, ?_, iteF ?_⟩⟩
    · rw [len2]
      have : zs.length = 2 ∨ zs.length = 3 := by omega
      rcases this with e | e <;> rw [e] <;> rfl
    have s1 := same_upd (o := .tup [V.int 2, V.int 3]) nt
    have hp1 := s1 _ _ hp
    -- each is a name
    refine ⟨_, rfl, p, rfl, ⟨_, .of hp1⟩, for_tup (K := K) (a := p) (xs := zs.map V.str) (fun i σ H2 => ∃ y, σ = [some (.ref p), y, none] ∧ Same H H2) ⟨none, rfl, s1⟩ (fun i σ H2 _ ⟨_, _, s2⟩ => .of (s2 _ _ hp)) ?_ ?_⟩
    · rintro i x σ H2 hi ⟨y, rfl, s2⟩
      obtain ⟨z, hz, rfl⟩ : ∃ z, zs[i]? = some z ∧ x = V.str z := by
        rw [List.getElem?_map] at hi
        cases e : zs[i]? with
        | none => rw [e] at hi; cases hi
        | some z => rw [e] at hi; exact ⟨z, rfl, (Option.some.inj hi).symm⟩
      refine ⟨.str z, rfl, z, rfl, nm z (List.mem_of_getElem? hz), fun H3 s3 => ⟨true, rfl, iteF ?_⟩⟩
      exact ⟨_, rfl, s2.trans s3⟩
    · rintro σ H2 ⟨y, rfl, s2⟩
      -- no two alike
      refine ⟨.ref p, rfl, p, _, rfl, .of (s2 _ _ hp), for_it walk_iet (fun i σ H2 => ∃ y2 y3, σ = [some (.ref p), y2, y3] ∧ Same H H2) ⟨_, _, rfl, s2⟩ (fun i σ H2 _ ⟨_, _, _, s3⟩ => .of (s3 _ _ hp)) ?_ ?_⟩
      · rintro i x σ H3 H3' hi ⟨y2, y3, rfl, s3⟩ ⟨T', x1, x2, rfl, nT, rfl, e1, e2⟩
        obtain rfl := Option.some.inj e1
        obtain ⟨z, hz, rfl⟩ : ∃ z, zs[i]? = some z ∧ x2 = V.str z := by
          have e2 : (zs.map V.str)[i]? = some x2 := e2
          rw [List.getElem?_map] at e2
          cases e : zs[i]? with
          | none => rw [e] at e2; cases e2
          | some z => rw [e] at e2; exact ⟨z, rfl, (Option.some.inj e2).symm⟩
        have s4 := s3.trans (same_upd (o := .tup [V.int i, V.str z]) nT)
        refine ⟨T', _, rfl, .of upd_same, rfl, .int i, _, rfl, .str z, _, rfl, rfl, ?_⟩
        have hi2 : i < zs.length := by simpa using hi
        refine ⟨.str z, rfl, .ref p, rfl, .int i, rfl, i, rfl, p, _, rfl, .of (s4 _ _ hp), ?_, fun c nc => ?_⟩
        · rintro ⟨_, e⟩
          rw [show HT.sIx (zs.map V.str).length (zs.map V.str).length (some (i : Int)) = min i (zs.map V.str).length from HT.sIx_nat _ _ i] at e
          rw [List.length_map] at e
          omega
        · have ec : cutV (zs.map V.str) none (some (i : Int)) = (zs.take i).map V.str := by
            unfold cutV
            rw [show HT.sIx (zs.map V.str).length (zs.map V.str).length (some (i : Int)) = min i (zs.map V.str).length from HT.sIx_nat _ _ i, HT.sIx_none]
            rw [List.length_map, Nat.sub_zero, List.drop_zero, Nat.min_eq_left (Nat.le_of_lt hi2), List.map_take]
          rw [ec] at *
          refine ⟨c, _, rfl, .inr (.of upd_same), rfl, flat_strs _, false, ?_, iteF ?_⟩
          · show V.bl (inV (.str z) ((zs.take i).map V.str)) = V.bl false
            rw [inV_strs]
            have : z ∉ zs.take i := fun hm => by
              obtain ⟨j, hj⟩ := List.mem_iff_getElem?.mp hm
              rw [List.getElem?_take] at hj
              split at hj
              · rename_i hji
                have a := List.pairwise_iff_getElem.mp nd j i (by omega) hi2 hji
                have ej : zs[j]? = some zs[j] := List.getElem?_eq_getElem (by omega)
                have ei : zs[i]? = some zs[i] := List.getElem?_eq_getElem hi2
                rw [ej] at hj
                rw [ei] at hz
                exact a ((Option.some.inj hj).trans (Option.some.inj hz).symm)
              · cases hj
            simp [this]
          · exact ⟨_, _, rfl, s4.trans (same_upd nc)⟩
      · rintro σ H3 ⟨y2, y3, rfl, s3⟩
        exact q H3 s3
end
end K8

namespace K8
open PySem PySem.Spec PyProof.Rows L2
abbrev sInit : Stmt := inClass (top 15) 2
abbrev sMerged : Stmt := inClass (top 15) 10
abbrev sStands : Stmt := inClass (top 15) 13
theorem scInit : FnScope ["self", "places", "table", "bases", "branches"] ((["self", "places", "table", "bases"] : List Str) ++ (["branches"] : List Str)) (defScope sInit) := ⟨rfl, rfl, rfl, by decide +kernel, rfl, by decide +kernel, by decide +kernel⟩
def kwA (a b c : Value) : List (Str × Value) := (["places", "table", "bases"] : List Str).zip [a, b, c]
def kwB (a b c : Value) : List (Str × Value) := (["bases", "table", "places"] : List Str).zip [c, b, a]
theorem bindA (kV doc pm : Value) (an : Option Addr) (cdv ct u a b c : Value) (us : List Value) (h : us.length = 2 ∨ us.length = 3) :
    bindArgs (PySem.W.fnOf "__init__" "Shape.__init__" (defArgs sInit) (defBody sInit) (defScope sInit) .none kV doc pm an cdv ct) ⟨u :: us, kwA a b c⟩ = (newTuple us >>= fun t => pure ((["self", "places", "table", "bases"] : List Str).zip [u, a, b, c] ++ [(("branches" : Str), t)])) := by
  match us, h with
  | [x, y], _ => rfl
  | [x, y, z], _ => rfl
theorem bindB (kV doc pm : Value) (an : Option Addr) (cdv ct u a b c : Value) (us : List Value) (h : us.length = 2 ∨ us.length = 3) :
    bindArgs (PySem.W.fnOf "__init__" "Shape.__init__" (defArgs sInit) (defBody sInit) (defScope sInit) .none kV doc pm an cdv ct) ⟨u :: us, kwB a b c⟩ = (newTuple us >>= fun t => pure ((["self", "places", "table", "bases"] : List Str).zip [u, a, b, c] ++ [(("branches" : Str), t)])) := by
  match us, h with
  | [x, y], _ => rfl
  | [x, y, z], _ => rfl
theorem sum_le8 : ∀ {ys : List Str}, (∀ z ∈ ys, z.length ≤ 8) → (ys.map (·.length)).sum ≤ 8 * ys.length
  | [], _ => Nat.zero_le _
  | y :: r, h => by
    have a := h y List.mem_cons_self
    have b := sum_le8 (ys := r) fun z hz => h z (List.mem_cons_of_mem _ hz)
    rw [List.map_cons, List.sum_cons, List.length_cons]
    omega
theorem bases_len : ∀ z ∈ basesL, z.length ≤ 8 := by decide +kernel
/-! ### the object -/
def txtOf (zs : List Str) (pl : Nat) (tb wd : Str) : Str := Txt.join " " ((("shape" : Str) :: zs) ++ ([Str.ofString (toString (pl : Int)), tb, wd] : List Str))
def sflds (p : Addr) (pl : Nat) (tb wd t : Str) : List (Str × V) := putF "_text" (.str t) (putF "_bases" (.str wd) (putF "_table" (.str tb) (putF "_places" (.int pl) (putF "_branches" (.ref p) []))))
/-- what the class and the built-ins are -/
structure ShT (K : PySem.W.Frag) (mg : Str → Option Value) (C : Addr) (mc : Value) (aB : Addr) : Prop where
  cl : Cls K C
  n1 : NoAttr K C "_branches"
  n2 : NoAttr K C "_places"
  n3 : NoAttr K C "_table"
  n4 : NoAttr K C "_bases"
  n5 : NoAttr K C "_text"
  mgC : mg "Shape" = some (.ref C)
  rd : ClX.CRead K C mc
  cB : ClX.CVal K C mc "BASES" (.ref aB) (.ref aB)
  tB : ∀ H, SqT K H aB (basesL.map V.str)
section
variable {P : Program} {w : World} {K : PySem.W.Frag} {mg : Str → Option Value} {base : Heap} {C aB : Addr} {mc : Value}
def spInit (C : Addr) : Sp := fun vs H Q _ => ∃ (x dx p : Addr) (zs : List Str) (pl : Nat) (tb wd : Str), vs = [.ref x, .int pl, .str tb, .str wd, .ref p] ∧ H x = some (.ins C dx []) ∧ H p = some (.tup (zs.map V.str)) ∧
  2 ≤ zs.length ∧ zs.length ≤ 3 ∧ (∀ z ∈ zs, NameS z) ∧ zs.Nodup ∧ 1 ≤ pl ∧ pl ≤ 2 ∧ Tab tb ∧ wd ∈ basesL ∧
  ∀ H', (∀ a o, H a = some o → a ≠ x → H' a = some o) → H' x = some (.ins C dx (sflds p pl tb wd (txtOf zs pl tb wd))) → Q .non H'
theorem body_init {fK fN fT : Addr} {fdK fdN fdT : FuncData} {k : Nat} (T : Blt mg) (S : ShT K mg C mc aB)
    (GK : FnOk P w K mg base CX0 (k + 2) fK fdK ["branches"] (spCheck K)) (kK : PySem.W.keepIn K (.ref fK) = true) (bK : Binds K fdK ["branches"] []) (gK : mg "_check_branches" = some (.ref fK))
    (GN : FnOk P w K mg base CX0 (k + 1) fN fdN ["value"] spNum) (kN : PySem.W.keepIn K (.ref fN) = true) (bN : Binds K fdN ["value"] []) (gN : mg "is_number" = some (.ref fN))
    (GT : FnOk P w K mg base CX0 (k + 1) fT fdT ["value"] spIsTab) (kT : PySem.W.keepIn K (.ref fT) = true) (bT : Binds K fdT ["value"] []) (gT : mg "_is_table" = some (.ref fT))
    {f : Addr} (cdv : Value) (A : Around) (outer : List Env) (s : Shared) (H : Hp) (vs : List V) (Q : VK) (E : XK) (hr : Room (k + 2) (A.deeper (envOfC "Shape.__init__" (defScope sInit) s.heap.objs.size f cdv))) (h : spInit C vs H Q E) :
    ∃ t, PSs (cxOf CX0 P w K mg base ["self", "places", "table", "bases", "branches"] "Shape.__init__" (defScope sInit) f cdv A outer s H E).nox (defBody sInit) t ∧ t { nx := fun _ H' => Q .non H', rt := Q } (start ["self", "places", "table", "bases", "branches"] vs) H := by
  obtain ⟨x, dx, p, zs, pl, tb, wd, rfl, hx, hp, l2, l3, nm, nd, p1, p2, ht, hw, q⟩ := h
  have hr1 : Room (k + 1) _ := hr.mono (Nat.le_succ _)
  have ndN := scInit.nd
  refine ⟨_, pss_cons (ps_expr (pe_call GK hr (by rfl) gK kK bK .nil pass0 (pa_cons (pv 4) pa_nil)))
    (pss_cons (ps_if (PW.pt (pw_or (pt_not (pt_val (pe_call GN hr1 (by rfl) gN kN bN .nil pass0 (pa_cons (pv 1) pa_nil)))) (pw_or1 (pt_cmpR op_notIn_seq (pv 1) (pe_tup (pa_cons pe_int (pa_cons pe_int pa_nil))) (by rfl))))) (pss_one ps_never) pss_nil)
    (pss_cons (ps_if (pt_not (pt_val (pe_call GT hr1 (by rfl) gT kT bT .nil pass0 (pa_cons (pv 2) pa_nil)))) (pss_one ps_never) pss_nil)
    (pss_cons (ps_if (pt_cmpR op_notIn_seq (pv 3) (ClX.pe_cval (pe_glob (v := .ref C) (by rfl) S.mgC rfl)) (by rfl)) (pss_one ps_never) pss_nil)
    (pss_cons (ps_fld (pv 0) (pv 4) rfl)
    (pss_cons (ps_fld (pv 0) (pv 1) rfl)
    (pss_cons (ps_fld (pv 0) (pv 2) rfl)
    (pss_cons (ps_fld (pv 0) (pv 3) rfl)
    (pss_one (ps_fld (pv 0) (pe_join pe_str (pe_lst (pa_cons pe_str (StX.pa_star (pv 4) (pa_cons (pe_callTy call_str_int (by rfl) T.mstr (by decide +kernel) (pa_cons (pv 1) pa_nil)) (pa_cons (pv 2) (pa_cons (pv 3) pa_nil))))))) rfl))))))))), ?_⟩
  -- the three checks
  refine ⟨.ref p, rfl, p, zs, rfl, hp, l2, l3, nm, nd, fun H1 s1 => ?_⟩
  refine ⟨.int pl, rfl, pl, rfl, true, rfl, iteF ?_⟩
  refine ⟨.int pl, rfl, by show 2 ≤ sizeLine; decide, fun t nt => ⟨t, _, rfl, .inr (.of upd_same), rfl, rfl, false, ?_, iteF ?_⟩⟩
  · have : pl = 1 ∨ pl = 2 := by omega
    rcases this with rfl | rfl <;> rfl
  have s2 := s1.trans (same_upd (o := .tup [V.int 1, V.int 2]) nt)
  refine ⟨.str tb, rfl, tb, rfl, ht, fun H3 s3 => ⟨true, rfl, iteF ?_⟩⟩
  refine ⟨.str wd, rfl, C, mc, .ref aB, .ref aB, rfl, S.rd, S.cB, aB, _, rfl, .inr (S.tB _), rfl, flat_strs _, false, ?_, iteF ?_⟩
  · show V.bl (!inV (.str wd) (basesL.map V.str)) = V.bl false
    rw [inV_strs, decide_eq_true hw]
    rfl
  -- the five fields
  have s4 := s2.trans s3
  have hx4 := s4 _ _ hx
  have xp : x ≠ p := ne_of hx hp (by intro z; cases z)
  refine ⟨.ref p, rfl, .ref x, rfl, x, C, dx, _, rfl, hx4, S.cl, S.n1, by show 0 < 1000; decide, ?_⟩
  refine ⟨.int pl, rfl, .ref x, rfl, x, C, dx, _, rfl, upd_same, S.cl, S.n2, by show 1 < 1000; decide, ?_⟩
  have g1 := length_putF ("_branches" : Str) (V.ref p) []
  have g2 := length_putF ("_places" : Str) (V.int pl) (putF "_branches" (V.ref p) [])
  have g3 := length_putF ("_table" : Str) (V.str tb) (putF "_places" (V.int pl) (putF "_branches" (V.ref p) []))
  have g4 := length_putF ("_bases" : Str) (V.str wd) (putF "_table" (V.str tb) (putF "_places" (V.int pl) (putF "_branches" (V.ref p) [])))
  simp only [List.length_nil] at g1
  refine ⟨.str tb, rfl, .ref x, rfl, x, C, dx, _, rfl, upd_same, S.cl, S.n3, by omega, ?_⟩
  refine ⟨.str wd, rfl, .ref x, rfl, x, C, dx, _, rfl, upd_same, S.cl, S.n4, by omega, ?_⟩
  have hp4 : ∀ o, (upd (upd H3 x o) x o) p = (upd H3 x o) p := fun o => by rw [upd_upd]
  -- the text
  refine ⟨⟨_, rfl⟩, .ref p, rfl, p, zs.map V.str, rfl, .inl (.of ?_), .int pl, rfl, pl, rfl, ?_, .str tb, rfl, .str wd, rfl, ?_, fun l nl => ?_⟩
  · rw [upd_ne xp.symm, upd_ne xp.symm, upd_ne xp.symm, upd_ne xp.symm]
    exact s4 _ _ hp
  · have : pl = 1 ∨ pl = 2 := by omega
    rcases this with rfl | rfl <;> decide +kernel
  · simp only [List.length_cons, List.length_append, List.length_map, List.length_nil]
    exact Nat.le_of_lt (small1000 (by omega))
  · refine ⟨" ", l, ((("shape" : Str) :: zs) ++ ([Str.ofString (toString (pl : Int)), tb, wd] : List Str)), rfl, rfl, .inl (.of ?_), ?_, ?_⟩
    · rw [upd_same]
      simp
    · have b8 : ∀ z ∈ ((("shape" : Str) :: zs) ++ ([Str.ofString (toString (pl : Int)), tb, wd] : List Str)), z.length ≤ 8 := by
        intro z hz
        rcases List.mem_append.mp hz with h | h
        · rcases List.mem_cons.mp h with rfl | h
          · decide +kernel
          · exact (nm z h).hi
        · rcases List.mem_cons.mp h with rfl | h
          · have : pl = 1 ∨ pl = 2 := by omega
            rcases this with rfl | rfl <;> decide +kernel
          · rcases List.mem_cons.mp h with rfl | h
            · rw [len_codes, ht.len]
              decide
            · rcases List.mem_cons.mp h with rfl | h
              · exact bases_len _ hw
              · cases h
      have sb := sum_le8 b8
      simp only [List.length_cons, List.length_append, List.length_nil] at sb ⊢
      have e1 : (" " : Str).length = 1 := by decide +kernel
      rw [e1]
      omega
    · have nx : x ≠ l := fun z => by
        rw [← z, upd_same] at nl
        cases nl
      refine ⟨.ref x, rfl, x, C, dx, _, rfl, by rw [upd_ne nx]; exact upd_same, S.cl, S.n5, by omega, ?_⟩
      refine q _ (fun a o e na => ?_) ?_
      · have nl' : a ≠ l := fun z => by
          rw [z] at e
          rw [upd_ne nx.symm, upd_ne nx.symm, upd_ne nx.symm, upd_ne nx.symm, s4 _ _ e] at nl
          cases nl
        rw [upd_ne na, upd_ne nl', upd_ne na, upd_ne na, upd_ne na, upd_ne na]
        exact s4 _ _ e
      · rw [upd_same]
        rfl
end
end K8

namespace K8
open PySem PySem.Spec PyProof.Rows L2
def ksA : List Str := ["places", "table", "bases"]
def ksB : List Str := ["bases", "table", "places"]
/-- a def called with positional values and three keywords; what is left over of the positional ones is a new tuple -/
def FnS (P : Program) (w : World) (K : PySem.W.Frag) (mg : Str → Option Value) (base : Heap) (k : Nat) (f : Addr) (ks : List Str) (g : V → V → V → List V) (sp : Sp) : Prop :=
  ∀ (A : Around) (outer : List Env) (s : Shared) (H : Hp) (u a b c : Value) (us : List Value) (x z1 z2 z3 : V) (rest : List V) (Q : VK) (E : XK), Room k A → Env0 P w K mg base A outer s H → RelV x u → Vals rest us →
    RelV z1 a → RelV z2 b → RelV z3 c → (rest.length = 2 ∨ rest.length = 3) → (∀ p, H p = none → sp (x :: g z1 z2 z3 ++ [.ref p]) (upd H p (.tup rest)) Q E) →
    codeAny (model P w) A (.call (.ref f) ⟨u :: us, ks.zip [a, b, c]⟩) (CR CX0 outer P w H s Q E) s
section
variable {P : Program} {w : World} {K : PySem.W.Frag} {mg : Str → Option Value} {base : Heap} {C aB : Addr} {mc : Value}
theorem fnS_of {f : Addr} {fd : FuncData} {k : Nat} {ks : List Str} {g : V → V → V → List V} {gv : Value → Value → Value → List Value} {sp : Sp} (F : Fun K "__init__" "Shape.__init__" sInit f fd)
    (hg : ∀ {z1 z2 z3 : V} {a b c : Value}, RelV z1 a → RelV z2 b → RelV z3 c → Vals (g z1 z2 z3) (gv a b c)) (hl3 : ∀ z1 z2 z3, (g z1 z2 z3).length = 3)
    (hbind : ∀ (kV doc pm : Value) (an : Option Addr) (cdv ct u a b c : Value) (us : List Value), us.length = 2 ∨ us.length = 3 →
      bindArgs (PySem.W.fnOf "__init__" "Shape.__init__" (defArgs sInit) (defBody sInit) (defScope sInit) .none kV doc pm an cdv ct) ⟨u :: us, ks.zip [a, b, c]⟩ = (newTuple us >>= fun t => pure ((["self", "places", "table", "bases"] : List Str).zip (u :: gv a b c) ++ [(("branches" : Str), t)])))
    (hbody : ∀ (cdv : Value) (A : Around) (outer : List Env) (s : Shared) (H : Hp) (vs : List V) (Q : VK) (E : XK), Room k (A.deeper (envOfC "Shape.__init__" (defScope sInit) s.heap.objs.size f cdv)) → sp vs H Q E →
      ∃ t, PSs (cxOf CX0 P w K mg base ["self", "places", "table", "bases", "branches"] "Shape.__init__" (defScope sInit) f cdv A outer s H E).nox (defBody sInit) t ∧ t { nx := fun _ H' => Q .non H', rt := Q } (start ["self", "places", "table", "bases", "branches"] vs) H) :
    FnS P w K mg base (k + 1) f ks g sp := by
  obtain ⟨oc, od, kV, doc, pm, an, cdv, ct, osl, rfl, lk, hcd⟩ := F.ex
  intro A outer s H u a b c us x z1 z2 z3 rest Q E hr e0 rx rr r1 r2 r3 hlen hq
  have hn : H s.heap.objs.size = none := e0.hok.fresh (Nat.le_refl _)
  have lus : us.length = 2 ∨ us.length = 3 := by rw [← rr.length]; exact hlen
  have line : us.length ≤ sizeLine := Nat.le_of_lt (small1000 (by omega))
  have lineV : rest.length ≤ sizeLine := Nat.le_of_lt (small1000 (by omega))
  refine StX.run_bnd lk hcd scInit hr e0 (G := fun xs H2 => ∃ p, H p = none ∧ xs = x :: g z1 z2 z3 ++ [V.ref p] ∧ H2 = upd H p (.tup rest)) (fun A' Ex Q' h => ?_) fun s2 H2 xs ⟨p, fresh, ex, eH⟩ hr' => ?_
  · rw [hbind kV doc pm an cdv ct u a b c us lus]
    refine wpAny_bind (wpAny_newTuple (wpAny_pure ?_) line)
    have laid : ObjOk P w (upd H s.heap.objs.size (.tup rest)) (s.heap.push ({ cls := .type "tuple", data := .seq us.toArray } : Obj)) s.heap.objs.size (.tup rest) := ⟨lineV, us, rr, ⟨_, Heap.get?_push_size _ rfl, rfl, _, rfl⟩⟩
    have un := StX.un_laid (fs := frs outer) (s := s) (o := ({ cls := .type "tuple", data := .seq us.toArray } : Obj)) (u := .tup rest) hn
    have vall : Vals (x :: g z1 z2 z3 ++ [V.ref s.heap.objs.size]) (u :: gv a b c ++ [Value.ref s.heap.objs.size]) := .cons rx ((hg r1 r2 r3).append (.cons rfl .nil))
    have z := h _ _ _ _ (StX.env0_laid e0 laid) un rfl (fun e s' q => q) vall (by simp [hl3]) ⟨_, hn, rfl, rfl⟩
    have lg : (gv a b c).length = 3 := by rw [← (hg r1 r2 r3).length]; exact hl3 _ _ _
    rw [show (u :: gv a b c ++ [Value.ref s.heap.objs.size]) = (u :: gv a b c) ++ [Value.ref s.heap.objs.size] from rfl] at z
    rw [List.zip_append (by simp [lg])] at z
    exact z
  · subst ex eH
    obtain ⟨t, h1, h2⟩ := hbody cdv A outer s2 _ _ Q E hr' (hq p fresh)
    exact ⟨t, h1.nox, h2⟩
/-- C(e, .., k1 = .., k2 = .., k3 = ..) -/
def tMakeS (C : Addr) (g : V → V → V → List V) (sp : Sp) (t tk : TA) : TE := fun σ H Q => t σ H fun vs H1 => tk σ H1 fun zs H2 => ∃ z1 z2 z3, zs = [z1, z2, z3] ∧ (vs.length = 2 ∨ vs.length = 3) ∧ ∀ x dx p, H2 x = none → H2 dx = none → H2 p = none → dx ≠ x → p ≠ x → p ≠ dx →
  sp (.ref x :: g z1 z2 z3 ++ [.ref p]) (upd (upd (upd H2 dx (.own x)) x (.ins C dx [])) p (.tup vs)) (fun v H3 => v = .non ∧ Q (.ref x) H3) E0
end
section
variable {X : Cx} {k : Nat} {f C : Addr} {ks : List Str} {g : V → V → V → List V} {sp : Sp} {x : Str} {p pos : Pos} {e : Expr} {es : List Expr} {kws : List Keyword} {t tk : TA}
theorem pe_makeS (M : Mk X.K C f) (F : FnS X.prog X.w X.K X.mg X.base k f ks g sp) (hr : Room (k + 1) X.A) (hg : Gl X x) (hm : X.mg x = some (.ref C)) (ha : PA X (e :: es) t) (hkw : PK X kws tk) (hl : ks.length = 3)
    (hall : (backToKw pos (keywordEach kws X.env)).all (·.1.isSome) = true := by rfl) (hks : (backToKw pos (keywordEach kws X.env)).filterMap (·.1) = ks := by rfl) (hdb : (x == ("__debug__" : Str)) = false := by decide)
    (he : starEach (e :: es) X.env = (false, eval e X.env) :: starEach es X.env := by rfl) (hpl : ((backTo pos (starEach (e :: es) X.env)).any (·.1) || (backToKw pos (keywordEach kws X.env)).any (·.1.isNone)) = false := by rfl) :
    PE X (.Call (.Name x p) (e :: es) kws pos) (tMakeS C g sp t tk) := by
  refine ⟨fun pins s σ H Q I h => ?_⟩
  refine wpAny_Call_Name_kw (ld_glob I hg hm ?_ hdb)
  refine PySem.W.callWith_KW (h₀ := X.base) I.ok.mod.kin M.kp hall (thn (ha.run pos pins s σ H _ I h) fun us s1 ⟨vs, H1, I1, r, q⟩ => ?_) hpl he
  refine thn (hkw.run pos pins s1 σ H1 _ I1 q) fun ws s2 ⟨zs, H2, I2, rz, q2⟩ => ⟨I2.kIn, ?_⟩
  rw [hks]
  obtain ⟨z1, z2, z3, rfl, lv, q3⟩ := q2
  cases rz with | cons r1 rz => cases rz with | cons r2 rz => cases rz with | cons r3 rz =>
  cases rz
  rename_i w1 w2 w3 hap
  have n0 := I2.hok.fresh (a := s2.heap.objs.size) (Nat.le_refl _)
  have n1 := I2.hok.fresh (a := s2.heap.objs.size + 1) (Nat.le_succ _)
  have I3 := Inv.made (C := C) I2
  have ne01 : s2.heap.objs.size ≠ s2.heap.objs.size + 1 := Nat.ne_of_lt (Nat.lt_succ_self _)
  refine wpAny_call (make_map (f := f) I2.kIn M.makes M.init (beq_iff_eq.mp M.fn) (codeAny_mono (F _ X.stack _ _ (Value.ref (s2.heap.objs.size + 1)) w1 w2 w3 us (V.ref (s2.heap.objs.size + 1)) z1 z2 z3 vs (fun v H3 => v = .non ∧ Q (.ref (s2.heap.objs.size + 1)) H3) E0
    (hr.make C us _) (I3.env0.make C us _) rfl r r1 r2 r3 lv fun pp np => ?_) fun rr s' hq' => ?_))
  · have px : pp ≠ s2.heap.objs.size + 1 := fun z => by rw [z, upd_same] at np; cases np
    have pd : pp ≠ s2.heap.objs.size := fun z => by rw [z, upd_ne ne01, upd_same] at np; cases np
    rw [upd_ne px, upd_ne pd] at np
    exact q3 _ _ pp n1 n0 np ne01 px pd
  · cases rr with
    | error er => exact False.elim hq'
    | ok fl =>
      cases fl with
      | ret u =>
        obtain ⟨v, H', I4, rv, ev, q5⟩ := I3.after hq'
        subst ev
        exact ⟨rv, ⟨V.ref (s2.heap.objs.size + 1), H', I4, rfl, q5⟩⟩
      | next => exact False.elim hq'
      | brk => exact False.elim hq'
      | cont => exact False.elim hq'
end
end K8

namespace K8
open PySem PySem.Spec PyProof.Rows L2
theorem scShape : FnScope ["_law_ground_here", "_law_names_here"] ["_law_ground_here"] (defScope sShape) := ⟨rfl, rfl, rfl, by decide +kernel, rfl, by decide +kernel, by decide +kernel⟩
structure ShapeAt (C : Addr) (H : Hp) (x p : Addr) (zs : List Str) (pl : Nat) (tb wd : Str) : Prop where
  ob : ∃ dx, H x = some (.ins C dx (sflds p pl tb wd (txtOf zs pl tb wd)))
  tp : H p = some (.tup (zs.map V.str))
theorem ShapeAt.same {C : Addr} {H H' : Hp} {x p : Addr} {zs : List Str} {pl : Nat} {tb wd : Str} (S : ShapeAt C H x p zs pl tb wd) (s : Same H H') : ShapeAt C H' x p zs pl tb wd := by
  obtain ⟨⟨dx, h⟩, h2⟩ := S
  exact ⟨⟨dx, s _ _ h⟩, s _ _ h2⟩
/-- what Shape(..) wants of the top -/
structure MkT (P : Program) (w : World) (K : PySem.W.Frag) (mg : Str → Option Value) (base : Heap) (C f : Addr) (k : Nat) : Prop where
  mkc : Mk K C f
  gC : mg "Shape" = some (.ref C)
  fA : FnS P w K mg base k f ksA (fun a b c => [a, b, c]) (spInit C)
  fB : FnS P w K mg base k f ksB (fun a b c => [c, b, a]) (spInit C)
section
variable {P : Program} {w : World} {K : PySem.W.Frag} {mg : Str → Option Value} {base : Heap} {C : Addr}
def spShape (C : Addr) : Sp := fun vs H Q _ => ∃ (g n : Addr) (zs : List Str) (pl : Nat) (tb wd : Str), vs = [.ref g] ∧ Gnd H g n zs pl tb wd ∧
  ∀ H' x p, H x = none → Same H H' → ShapeAt C H' x p zs pl tb wd → Q (.ref x) H'
theorem ok_shape {f fI : Addr} {fd : FuncData} {k : Nat} (F : Fun K "_law_shape" "_law_shape" sShape f fd) (T : Blt mg) (M : MkT P w K mg base C fI k) : FnOk P w K mg base CX0 (k + 2) f fd ["_law_ground_here"] (spShape C) := by
  refine F.ok scShape (fun vs H Q E h => ?_) (fun cdv A outer s H vs Q E hr h => ?_)
  · obtain ⟨g, n, zs, pl, tb, wd, rfl, _⟩ := h
    rfl
  · obtain ⟨g, n, zs, pl, tb, wd, rfl, G, q⟩ := h
    refine ⟨_, pss_cons (ps_set (i := 1) scShape.nd rfl (.inl rfl) (pe_ix ix_tup (pv 0) pe_int (fun _ _ => rfl)))
      (pss_cons (ps_if (pt_cmpR op_eq (pe_callB call_len_seq (by rfl) T.mlen PySem.boot_len (pa_cons (pv 1) pa_nil)) pe_int (nomark _))
        (pss_one (ps_ret (pe_makeS M.mkc M.fA hr (by rfl) M.gC (pa_cons (pe_ix ix_tup (pv 1) pe_int (fun _ _ => rfl)) (pa_cons (pe_ix ix_tup (pv 1) pe_int (fun _ _ => rfl)) pa_nil))
          (pk_cons (pe_ix ix_tup (pv 0) pe_int (fun _ _ => rfl)) (pk_cons (pe_ix ix_tup (pv 0) pe_int (fun _ _ => rfl)) (pk_cons (pe_ix ix_tup (pv 0) pe_int (fun _ _ => rfl)) pk_nil))) rfl))) pss_nil)
      (pss_one (ps_ret (pe_makeS M.mkc M.fB hr (by rfl) M.gC (pa_cons (pe_ix ix_tup (pv 1) pe_int (fun _ _ => rfl)) (pa_cons (pe_ix ix_tup (pv 1) pe_int (fun _ _ => rfl)) (pa_cons (pe_ix ix_tup (pv 1) pe_int (fun _ _ => rfl)) pa_nil)))
          (pk_cons (pe_ix ix_tup (pv 0) pe_int (fun _ _ => rfl)) (pk_cons (pe_ix ix_tup (pv 0) pe_int (fun _ _ => rfl)) (pk_cons (pe_ix ix_tup (pv 0) pe_int (fun _ _ => rfl)) pk_nil))) rfl)))), ?_⟩
    have gt := G.gt
    have nt := G.nt
    refine ⟨.ref g, rfl, g, _, 0, .ref n, rfl, rfl, .of gt, atI_nat (j := 0) rfl, ?_⟩
    refine ⟨.ref n, rfl, n, _, rfl, .inr (.of nt), rfl, _, rfl, ite2 (fun e => ?_) (fun e => ?_)⟩
    · have l2 : zs.length = 2 := by
        have e2 : V.int ((zs.map V.str).length : Nat) = V.int 2 := of_decide_eq_true e
        have e3 := V.int.inj e2
        rw [List.length_map] at e3
        omega
      obtain ⟨z1, z2, rfl⟩ : ∃ a b, zs = [a, b] := by
        match zs, l2 with
        | [a, b], _ => exact ⟨a, b, rfl⟩
      refine ⟨.ref n, rfl, n, _, 0, .str z1, rfl, rfl, .of nt, atI_nat (j := 0) rfl, .ref n, rfl, n, _, 1, .str z2, rfl, rfl, .of nt, atI_nat (j := 1) rfl, ?_⟩
      refine ⟨.ref g, rfl, g, _, 1, .int pl, rfl, rfl, .of gt, atI_nat (j := 1) rfl, .ref g, rfl, g, _, 2, .str tb, rfl, rfl, .of gt, atI_nat (j := 2) rfl, .ref g, rfl, g, _, 3, .str wd, rfl, rfl, .of gt, atI_nat (j := 3) rfl, ?_⟩
      refine ⟨_, _, _, rfl, .inl rfl, fun x dx p nx nd np dxx px pd => ?_⟩
      refine ⟨x, dx, p, [z1, z2], pl, tb, wd, rfl, ?_, upd_same, G.lo, G.hi, G.nm, G.nd, G.p1, G.p2, G.tb, G.wd, fun H' kp ho => ⟨rfl, ?_⟩⟩
      · rw [upd_ne px.symm, upd_same]
      · refine q H' x p nx (fun a o e => kp a o ?_ (ne_of_none e nx)) ⟨⟨dx, ho⟩, kp p _ upd_same px⟩
        rw [upd_ne (ne_of_none e np), upd_ne (ne_of_none e nx), upd_ne (ne_of_none e nd)]
        exact e
    · have l3 : zs.length = 3 := by
        have a := G.lo
        have b := G.hi
        have : zs.length ≠ 2 := fun z => e (by
          rw [List.length_map, z]
          rfl)
        omega
      obtain ⟨z1, z2, z3, rfl⟩ : ∃ a b c, zs = [a, b, c] := by
        match zs, l3 with
        | [a, b, c], _ => exact ⟨a, b, c, rfl⟩
      refine ⟨.ref n, rfl, n, _, 0, .str z1, rfl, rfl, .of nt, atI_nat (j := 0) rfl, .ref n, rfl, n, _, 1, .str z2, rfl, rfl, .of nt, atI_nat (j := 1) rfl, .ref n, rfl, n, _, 2, .str z3, rfl, rfl, .of nt, atI_nat (j := 2) rfl, ?_⟩
      refine ⟨.ref g, rfl, g, _, 3, .str wd, rfl, rfl, .of gt, atI_nat (j := 3) rfl, .ref g, rfl, g, _, 2, .str tb, rfl, rfl, .of gt, atI_nat (j := 2) rfl, .ref g, rfl, g, _, 1, .int pl, rfl, rfl, .of gt, atI_nat (j := 1) rfl, ?_⟩
      refine ⟨_, _, _, rfl, .inr rfl, fun x dx p nx nd np dxx px pd => ?_⟩
      refine ⟨x, dx, p, [z1, z2, z3], pl, tb, wd, rfl, ?_, upd_same, G.lo, G.hi, G.nm, G.nd, G.p1, G.p2, G.tb, G.wd, fun H' kp ho => ⟨rfl, ?_⟩⟩
      · rw [upd_ne px.symm, upd_same]
      · refine q H' x p nx (fun a o e => kp a o ?_ (ne_of_none e nx)) ⟨⟨dx, ho⟩, kp p _ upd_same px⟩
        rw [upd_ne (ne_of_none e np), upd_ne (ne_of_none e nx), upd_ne (ne_of_none e nd)]
        exact e
end
end K8

namespace K8
open PySem PySem.Spec PyProof.Rows L2
theorem scStands : FnScope ["self", "place", "base", "ours", "theirs", "mine", "digit"] ["self", "place", "base", "ours", "theirs"] (defScope sStands) := ⟨rfl, rfl, rfl, by decide +kernel, rfl, by decide +kernel, by decide +kernel⟩
theorem scMerged : FnScope ["self", "base", "ours", "theirs", "place"] ["self", "base", "ours", "theirs"] (defScope sMerged) := ⟨rfl, rfl, rfl, by decide +kernel, rfl, by decide +kernel, by decide +kernel⟩
/-! ### the mirror -/
def nvs (cs : List Nat) : List V := cs.map fun n => V.int (n : Nat)
def stand (tb : List Nat) (k : Nat) (b o t : List Nat) : Bool :=
  if decide (k ∈ o) = decide (k ∈ t) then decide (k ∈ o) else tb.getD ((if k ∈ b then 2 else 0) + (if k ∈ o then 1 else 0)) 0 == 49
def mergedM (tb : List Nat) (pl : Nat) (b o t : List Nat) : List Nat := (List.range pl).filter fun k => stand tb k b o t
theorem flat_ints (cs : List Nat) : (nvs cs).all flatV = true := by simp [nvs, flatV]
theorem inV_ints (k : Nat) (cs : List Nat) : inV (.int k) (nvs cs) = decide (k ∈ cs) := by
  unfold inV nvs
  rw [List.any_map]
  induction cs with
  | nil => rfl
  | cons a r ih =>
    simp only [List.any_cons, Function.comp_apply]
    rw [show (r.any ((fun y => eqV y (V.int k)) ∘ fun n => V.int (n : Nat))) = decide (k ∈ r) from ih]
    show (((a : Int) == (k : Int)) || decide (k ∈ r)) = _
    by_cases h : a = k
    · subst h; simp
    · have h' : ¬ k = a := fun q => h q.symm
      have h2 : ¬ (a : Int) = k := by omega
      simp [h', h2]
theorem fl_nodup : ¬ ("_text" : Str) = "_table" ∧ ¬ ("_bases" : Str) = "_table" ∧ ¬ ("_table" : Str) = "_places" ∧ ¬ ("_text" : Str) = "_places" ∧ ¬ ("_bases" : Str) = "_places" := by decide +kernel
theorem sflds_table {p : Addr} {pl : Nat} {tb wd t : Str} : (sflds p pl tb wd t).lookup ("_table" : Str) = some (.str tb) := by
  obtain ⟨a, b, c, d, e⟩ := fl_nodup
  unfold sflds
  rw [lookup_putF, if_neg (fun h => a h.symm), lookup_putF, if_neg (fun h => b h.symm), lookup_putF, if_pos rfl]
theorem sflds_places {p : Addr} {pl : Nat} {tb wd t : Str} : (sflds p pl tb wd t).lookup ("_places" : Str) = some (.int pl) := by
  obtain ⟨a, b, c, d, e⟩ := fl_nodup
  unfold sflds
  rw [lookup_putF, if_neg (fun h => d h.symm), lookup_putF, if_neg (fun h => e h.symm), lookup_putF, if_neg (fun h => c h.symm), lookup_putF, if_pos rfl]
theorem sflds_no {p : Addr} {pl : Nat} {tb wd t m : Str} (h : m ≠ "_text" ∧ m ≠ "_bases" ∧ m ≠ "_table" ∧ m ≠ "_places" ∧ m ≠ "_branches") : (sflds p pl tb wd t).lookup m = none := by
  obtain ⟨a, b, c, d, e⟩ := h
  unfold sflds
  rw [lookup_putF, if_neg a, lookup_putF, if_neg b, lookup_putF, if_neg c, lookup_putF, if_neg d, lookup_putF, if_neg e]
  rfl
section
variable {P : Program} {w : World} {K : PySem.W.Frag} {mg : Str → Option Value} {base : Heap} {C aB : Addr} {mc : Value}
def spStands (C : Addr) : Sp := fun vs H Q _ => ∃ (x p b o t : Addr) (zs : List Str) (pl : Nat) (tb wd : Str) (k : Nat) (bs os ts : List Nat), vs = [.ref x, .int k, .ref b, .ref o, .ref t] ∧ ShapeAt C H x p zs pl tb wd ∧ Tab tb ∧
  H b = some (.tup (nvs bs)) ∧ H o = some (.tup (nvs os)) ∧ H t = some (.tup (nvs ts)) ∧ Q (.bl (stand tb.cps.toList k bs os ts)) H
theorem ok_stands {f : Addr} {fd : FuncData} {k : Nat} (F : Fun K "_stands" "Shape._stands" sStands f fd) (S : ShT K mg C mc aB) : FnOk P w K mg base CX0 (k + 1) f fd ["self", "place", "base", "ours", "theirs"] (spStands C) := by
  refine F.ok scStands (fun vs H Q E h => ?_) (fun cdv A outer s H vs Q E hr h => ?_)
  · obtain ⟨x, p, b, o, t, zs, pl, tb, wd, k, bs, os, ts, rfl, _⟩ := h
    rfl
  · obtain ⟨x, p, b, o, t, zs, pl, tb, wd, k, bs, os, ts, rfl, ⟨⟨dx, hx⟩, hp⟩, ht, hb, ho, htt, q⟩ := h
    refine ⟨_, pss_cons (ps_set (i := 5) scStands.nd rfl (.inl rfl) (pe_cmpR op_in_seq (pv 1) (pv 3) (by rfl)))
      (pss_cons (ps_if (pt_cmpR op_eq (pv 5) (pe_cmpR op_in_seq (pv 1) (pv 4) (by rfl)) (nomark _)) (pss_one (ps_ret (pv 5))) pss_nil)
      (pss_cons (ps_set (i := 6) scStands.nd rfl (.inl rfl) (pe_ifExp (pt_cmpR op_in_seq (pv 1) (pv 2) (by rfl)) pe_int pe_int))
      (C8.pss_cut (ps_if (pt_val (pv 5)) (pss_one (ps_aug (i := 6) scStands.nd rfl (.inl rfl) pe_int ip_add)) pss_nil)
      (pss_one (ps_ret (pe_cmpR op_eq (pe_ix ix_str (pe_fld (pv 0) rfl) (pv 6) (fun _ _ => rfl)) pe_str (nomark _))))))), ?_⟩
    refine ⟨.int k, rfl, .ref o, rfl, o, _, rfl, .inr (.of ho), rfl, flat_ints _, ?_⟩
    have e1 : (if false = true then !inV (.int k) (nvs os) else inV (.int k) (nvs os)) = decide (k ∈ os) := inV_ints k os
    have e2 : (if false = true then !inV (.int k) (nvs ts) else inV (.int k) (nvs ts)) = decide (k ∈ ts) := inV_ints k ts
    have e3 : (if false = true then !inV (.int k) (nvs bs) else inV (.int k) (nvs bs)) = decide (k ∈ bs) := inV_ints k bs
    rw [e1]
    refine ⟨.bl (decide (k ∈ os)), rfl, .int k, rfl, .ref t, rfl, t, _, rfl, .inr (.of htt), rfl, flat_ints _, ?_⟩
    rw [e2]
    refine ⟨rfl, _, rfl, ite2 (fun e => ?_) (fun e => ?_)⟩
    · have e4 : decide (k ∈ os) = decide (k ∈ ts) := V.bl.inj (of_decide_eq_true e)
      refine ⟨_, rfl, ?_⟩
      have es : stand tb.cps.toList k bs os ts = decide (k ∈ os) := by unfold stand; rw [if_pos e4]
      rw [es] at q
      exact q
    · have e4 : ¬ decide (k ∈ os) = decide (k ∈ ts) := fun z => e (decide_eq_true (congrArg V.bl z))
      refine ⟨.int k, rfl, .ref b, rfl, b, _, rfl, .inr (.of hb), rfl, flat_ints _, decide (k ∈ bs), congrArg V.bl e3, ?_⟩
      have tl : tb.cps.toList.length = 4 := ht.len
      have zl : tb.length ≤ sizeLine := Nat.le_of_lt (small1000 (by rw [len_codes, tl]; decide))
      have fin : ∀ (dg : Nat) (Hh : Hp) (σ' : L2.St), Hh = H → dg < 4 → dg = (if k ∈ bs then 2 else 0) + (if k ∈ os then 1 else 0) → σ' = [some (.ref x), some (.int k), some (.ref b), some (.ref o), some (.ref t), some (.bl (decide (k ∈ os))), some (.int dg)] →
          (tRet (tOp rEq (tOp rIxS (tFld K (tVar 0) "_table") (tVar 6)) (tC (.str "1")))) { nx := fun _ H' => Q .non H', rt := Q } σ' Hh := by
        intro dg Hh σ' eH hd4 ed es
        subst eH es
        have hg : tb.cps.toList[dg]? = some (tb.cps.toList.getD dg 0) := by
          rw [List.getD_eq_getElem?_getD, List.getElem?_eq_getElem (by omega)]
          rfl
        refine ⟨.ref x, rfl, x, C, dx, _, .str tb, rfl, hx, S.cl, S.n3, sflds_table, .int dg, rfl, tb, dg, _, rfl, rfl, zl, atI_nat hg, rfl, ?_⟩
        have e5 : stand tb.cps.toList k bs os ts = decide (V.str ⟨#[tb.cps.toList.getD dg 0]⟩ = V.str "1") := by
          unfold stand
          rw [if_neg e4, ← ed]
          have e6 : ("1" : Str) = ⟨#[49]⟩ := by decide +kernel
          rw [e6]
          by_cases h : tb.cps.toList.getD dg 0 = 49
          · rw [h]; rfl
          · have h2 : ¬ V.str ⟨#[tb.cps.toList.getD dg 0]⟩ = V.str ⟨#[49]⟩ := fun z => h (by
              have := V.str.inj z
              injection this with z2
              simpa using z2)
            rw [decide_eq_false h2]
            simpa using h
        rw [e5] at q
        exact q
      by_cases hk : k ∈ bs
      · rw [decide_eq_true hk]
        refine iteT ⟨fun σ' H' => H' = H ∧ σ' = [some (.ref x), some (.int k), some (.ref b), some (.ref o), some (.ref t), some (.bl (decide (k ∈ os))), some (.int ((2 + (if k ∈ os then 1 else 0) : Nat) : Int))], ?_, fun σ' H' ⟨eH, es⟩ => fin _ _ _ eH (by split <;> omega) (by rw [if_pos hk]) es⟩
        refine ⟨_, rfl, _, rfl, ?_⟩
        by_cases ho2 : k ∈ os
        · rw [decide_eq_true ho2, if_pos ho2]
          exact iteT ⟨.int 2, rfl, _, _, rfl, rfl, rfl, rfl⟩
        · rw [decide_eq_false ho2, if_neg ho2]
          exact iteF ⟨rfl, rfl⟩
      · rw [decide_eq_false hk]
        refine iteF ⟨fun σ' H' => H' = H ∧ σ' = [some (.ref x), some (.int k), some (.ref b), some (.ref o), some (.ref t), some (.bl (decide (k ∈ os))), some (.int ((0 + (if k ∈ os then 1 else 0) : Nat) : Int))], ?_, fun σ' H' ⟨eH, es⟩ => fin _ _ _ eH (by split <;> omega) (by rw [if_neg hk]) es⟩
        refine ⟨_, rfl, _, rfl, ?_⟩
        by_cases ho2 : k ∈ os
        · rw [decide_eq_true ho2, if_pos ho2]
          exact iteT ⟨.int 0, rfl, _, _, rfl, rfl, rfl, rfl⟩
        · rw [decide_eq_false ho2, if_neg ho2]
          exact iteF ⟨rfl, rfl⟩
end
end K8

namespace K8
open PySem PySem.Spec PyProof.Rows L2
section
variable {P : Program} {w : World} {K : PySem.W.Frag} {mg : Str → Option Value} {base : Heap} {C aB : Addr} {mc : Value}
def spMerged (C : Addr) : Sp := fun vs H Q _ => ∃ (x p b o t : Addr) (zs : List Str) (pl : Nat) (tb wd : Str) (bs os ts : List Nat), vs = [.ref x, .ref b, .ref o, .ref t] ∧ ShapeAt C H x p zs pl tb wd ∧ Tab tb ∧ pl ≤ 2 ∧
  H b = some (.tup (nvs bs)) ∧ H o = some (.tup (nvs os)) ∧ H t = some (.tup (nvs ts)) ∧ ∀ H' r, H r = none → Same H H' → H' r = some (.tup (nvs (mergedM tb.cps.toList pl bs os ts))) → Q (.ref r) H'
theorem ok_merged {f fS : Addr} {fd fdS : FuncData} {k : Nat} (F : Fun K "merged" "Shape.merged" sMerged f fd) (T : Blt mg) (S : ShT K mg C mc aB) (FS : Fun K "_stands" "Shape._stands" sStands fS fdS) (bS : Binds K fdS ["self", "place", "base", "ours", "theirs"] []) (mS : Meth K C "_stands" fS) :
    FnOk P w K mg base CX0 (k + 2) f fd ["self", "base", "ours", "theirs"] (spMerged C) := by
  have GS : FnOk P w K mg base CX0 (k + 1) fS fdS ["self", "place", "base", "ours", "theirs"] (spStands C) := ok_stands FS S
  refine F.ok scMerged (fun vs H Q E h => ?_) (fun cdv A outer s H vs Q E hr h => ?_)
  · obtain ⟨x, p, b, o, t, zs, pl, tb, wd, bs, os, ts, rfl, _⟩ := h
    rfl
  · obtain ⟨x, p, b, o, t, zs, pl, tb, wd, bs, os, ts, rfl, SA, ht, p2, hb, ho, htt, q⟩ := h
    obtain ⟨⟨dx, hx⟩, hp⟩ := id SA
    refine ⟨_, pss_one (ps_ret (pe_callTy call_tuple_of (by rfl) T.mtuple (by decide +kernel) (pa_cons (pe_lc (own := [("place", 4)]) (g := gName 4) rfl scMerged.nd
        (pi_range1 rfl T.mrange (pa_cons (pe_fld (pv 0) rfl) pa_nil)) (blkOk_by (N := ["self", "base", "ours", "theirs", "place"]) (sc := defScope sMerged) (by decide +kernel))
        (fun _ _ _ _ _ => pg_name (i := 4) scMerged.nd rfl (Or.inl rfl))
        (fun _ _ _ _ _ => pts_one (pt_val (pe_meth (pv 0) S.cl mS GS hr bS .nil pass0 (pa_cons (pv 4) (pa_cons (pv 1) (pa_cons (pv 2) (pa_cons (pv 3) pa_nil)))))))
        (fun _ _ _ _ _ => pv 4)) pa_nil))), ?_⟩
    refine ⟨.ref x, rfl, x, C, dx, _, .int pl, rfl, hx, S.cl, S.n2, sflds_places, pl, rfl, by omega, by omega, fun D nD => ?_⟩
    refine lc_range (lo := 0) (n := (pl : Int).toNat) (fun i H2 => Same H H2 ∧ H2 D = some (.lst (nvs ((List.range i).filter fun k => stand tb.cps.toList k bs os ts)))) ⟨same_upd nD, upd_same⟩ ?_ ?_
    · rintro i H2 hi ⟨s2, hD⟩
      have e0 : (V.int (0 + (i : Int))) = V.int (i : Nat) := by
        congr 1
        omega
      rw [e0]
      refine ⟨rfl, .ref x, rfl, x, dx, _, rfl, s2 _ _ hx, sflds_no (by decide +kernel), .int i, rfl, .ref b, rfl, .ref o, rfl, .ref t, rfl, ?_⟩
      refine ⟨x, p, b, o, t, zs, pl, tb, wd, i, bs, os, ts, rfl, SA.same s2, ht, s2 _ _ hb, s2 _ _ ho, s2 _ _ htt, _, rfl, ?_⟩
      have er : ((List.range (i + 1)).filter fun k => stand tb.cps.toList k bs os ts) = ((List.range i).filter fun k => stand tb.cps.toList k bs os ts) ++ (if stand tb.cps.toList i bs os ts = true then [i] else []) := by
        rw [List.range_succ, List.filter_append]
        congr 1
        by_cases h : stand tb.cps.toList i bs os ts = true <;> simp [h]
      by_cases h : stand tb.cps.toList i bs os ts = true
      · rw [h]
        refine iteT ⟨_, rfl, _, hD, ?_, fun a u e => ?_, ?_⟩
        · have l1 := List.length_filter_le (fun k => stand tb.cps.toList k bs os ts) (List.range i)
          rw [List.length_range] at l1
          unfold nvs
          rw [List.length_map]
          exact small1000 (by omega)
        · rw [upd_ne (ne_of_none e nD)]
          exact s2 a u e
        · rw [upd_same, er, if_pos h]
          unfold nvs
          rw [List.map_append]
          rfl
      · have hf : stand tb.cps.toList i bs os ts = false := by simpa using h
        rw [hf]
        refine iteF ⟨s2, ?_⟩
        rw [er, if_neg h, List.append_nil]
        exact hD
    · rintro H2 ⟨s2, hD⟩
      refine ⟨D, _, rfl, .inl ⟨.of hD, fun r nr => ?_⟩⟩
      exact q _ r (s2.free nr) (s2.trans (same_upd nr)) upd_same
end
end K8

namespace K8
open PySem PySem.Spec PyProof.Rows L2
/-! ### the law's mathematics -/
def conts (pl : Nat) : List (List Nat) := [[], [0]] ++ (if pl = 2 then [[1], [0, 1]] else [])
def plain1 (tb : List Nat) (pl : Nat) (b l : List Nat) : Bool := decide (mergedM tb pl b b l = l) && decide (mergedM tb pl b l b = l)
def even1 (tb : List Nat) (pl : Nat) (b l o : List Nat) : Bool := decide (mergedM tb pl b l o = mergedM tb pl b o l)
def plainAll (tb : List Nat) (pl : Nat) : Bool := (conts pl).all fun b => (conts pl).all fun l => plain1 tb pl b l
def evenAll (tb : List Nat) (pl : Nat) : Bool := (conts pl).all fun b => (conts pl).all fun l => (conts pl).all fun o => even1 tb pl b l o
def bits : List Nat := [48, 49]
theorem all_tables : (bits.all fun a => bits.all fun b => bits.all fun c => bits.all fun d => ([1, 2] : List Nat).all fun pl =>
    (plainAll [a, b, c, d] pl == decide ([a, b, c, d] = [49, 49, 48, 48])) && (evenAll [a, b, c, d] pl == (decide (a = b) && decide (c = d)))) = true := by decide +kernel
theorem tab_split {z : Str} (h : Tab z) : ∃ a b c d, z.cps.toList = [a, b, c, d] ∧ a ∈ bits ∧ b ∈ bits ∧ c ∈ bits ∧ d ∈ bits := by
  have l := h.len
  match e : z.cps.toList, l with
  | [a, b, c, d], _ =>
    have k : ∀ x ∈ [a, b, c, d], x ∈ bits := fun x hx => by
      have y := h.dig x (by rw [e]; exact hx)
      unfold bits
      simp
      omega
    exact ⟨a, b, c, d, rfl, k a (by simp), k b (by simp), k c (by simp), k d (by simp)⟩
theorem table_says {a b c d pl : Nat} (ha : a ∈ bits) (hb : b ∈ bits) (hc : c ∈ bits) (hd : d ∈ bits) (h1 : 1 ≤ pl) (h2 : pl ≤ 2) :
    plainAll [a, b, c, d] pl = decide ([a, b, c, d] = [49, 49, 48, 48]) ∧ evenAll [a, b, c, d] pl = (decide (a = b) && decide (c = d)) := by
  have z := all_tables
  have z1 := List.all_eq_true.mp z a ha
  have z2 := List.all_eq_true.mp z1 b hb
  have z3 := List.all_eq_true.mp z2 c hc
  have z4 := List.all_eq_true.mp z3 d hd
  have z5 := List.all_eq_true.mp z4 pl (by simp; omega)
  simp only [Bool.and_eq_true, beq_iff_eq] at z5
  exact z5
theorem all_take {α : Type} {xs : List α} {p : α → Bool} {i : Nat} {x : α} (h : xs[i]? = some x) : (xs.take (i + 1)).all p = ((xs.take i).all p && p x) := by
  rw [List.take_add_one, h, List.all_append]
  simp
theorem all_take_len {α : Type} {xs : List α} {p : α → Bool} : (xs.take xs.length).all p = xs.all p := by rw [List.take_length]
theorem conts_len (pl : Nat) : (conts pl).length ≤ 4 := by
  unfold conts
  split <;> simp
/-! ### tuples of numbers compared -/
def dat (cs : List Nat) : PyData := .tuple (cs.map fun n => PyData.int (n : Nat))
theorem dp_all {K : PySem.W.Frag} {H : Hp} : ∀ cs : List Nat, DpAll K H (nvs cs) (cs.map fun n => PyData.int (n : Nat))
  | [] => .nil
  | c :: r => .cons (.int _) (dp_all r)
theorem dp_nvs {K : PySem.W.Frag} {H : Hp} {a : Addr} {cs : List Nat} (h : H a = some (.tup (nvs cs))) : Dp K H (.ref a) (dat cs) := .tup (.of h) (dp_all cs)
theorem eqv_all : ∀ cs ds : List Nat, PyData.eqvAll (cs.map fun n => PyData.int (n : Nat)) (ds.map fun n => PyData.int (n : Nat)) = decide (cs = ds)
  | [], [] => by simp [PyData.eqvAll]
  | [], _ :: _ => by simp [PyData.eqvAll]
  | _ :: _, [] => by simp [PyData.eqvAll]
  | c :: r, d :: q => by
    rw [List.map_cons, List.map_cons]
    unfold PyData.eqvAll
    rw [eqv_all r q]
    unfold PyData.eqv
    by_cases h : c = d
    · subst h; simp
    · have h2 : ¬ (c : Int) = d := by omega
      simp [h, h2]
theorem eqv_dat (cs ds : List Nat) : PyData.eqv (dat cs) (dat ds) = decide (cs = ds) := by
  unfold dat PyData.eqv
  exact eqv_all cs ds
theorem shaped_dat {cs : List Nat} (h : cs.length ≤ 2) : SeqAt.shaped (dat cs) = true := by
  match cs, h with
  | [], _ => rfl
  | [a], _ => rfl
  | [a, b], _ => rfl
theorem merged_len {tb : List Nat} {pl : Nat} {b o t : List Nat} (h : pl ≤ 2) : (mergedM tb pl b o t).length ≤ 2 := by
  have l := List.length_filter_le (fun k => stand tb k b o t) (List.range pl)
  rw [List.length_range] at l
  unfold mergedM
  omega
theorem conts_each {pl : Nat} {c : List Nat} (h : c ∈ conts pl) : c.length ≤ 2 := by
  unfold conts at h
  split at h <;> simp at h
  · rcases h with rfl | rfl | rfl | rfl <;> simp
  · rcases h with rfl | rfl <;> simp
/-- the list of all contents, each a tuple of its own -/
def Conts (H : Hp) (l : Addr) (pl : Nat) : Prop := ∃ rs : List Addr, H l = some (.lst (rs.map V.ref)) ∧ rs.length = (conts pl).length ∧ ∀ (i : Nat) r c, rs[i]? = some r → (conts pl)[i]? = some c → H r = some (.tup (nvs c))
end K8

namespace K8
open PySem PySem.Spec PyProof.Rows L2
/-! ### like: found and due hold the same data -/
abbrev sLike : Stmt := top 22
theorem scLike : FnScope ["_law_found", "_law_due", "_law_k"] ["_law_found", "_law_due"] (defScope sLike) := ⟨rfl, rfl, rfl, by decide +kernel, rfl, by decide +kernel, by decide +kernel⟩
inductive DLe : Nat → PyData → Prop
  | non {n : Nat} : DLe n .none
  | bl {n : Nat} (b : Bool) : DLe n (.bool b)
  | int {n : Nat} (i : Int) : DLe n (.int i)
  | str {n : Nat} (z : Str) : DLe n (.str z)
  | lst {n : Nat} {ds : List PyData} (hl : ds.length ≤ 1000) (h : ∀ d ∈ ds, DLe n d) : DLe (n + 1) (.list ds)
  | tup {n : Nat} {ds : List PyData} (hl : ds.length ≤ 1000) (h : ∀ d ∈ ds, DLe n d) : DLe (n + 1) (.tuple ds)
section
variable {K : PySem.W.Frag} {H H' : Hp}
theorem same_seqT {a : Addr} {xs : List V} (e : Same H H') (h : SqT K H a xs) : SqT K H' a xs := by
  rcases h with (h | ⟨o, h⟩) | h
  · exact .inl (.inl (e _ _ h))
  · exact .inl (.inr ⟨o, e _ _ h⟩)
  · exact .inr h
mutual
theorem dp_same (e : Same H H') : ∀ {v : V} {d : PyData}, Dp K H v d → Dp K H' v d
  | _, _, .non => .non
  | _, _, .bl b => .bl b
  | _, _, .int i => .int i
  | _, _, .str x => .str x
  | _, _, .lst h1 h2 => .lst (e.seq h1) (dpAll_same e h2)
  | _, _, .tup h1 h2 => .tup (same_seqT e h1) (dpAll_same e h2)
theorem dpAll_same (e : Same H H') : ∀ {vs : List V} {ds : List PyData}, DpAll K H vs ds → DpAll K H' vs ds
  | _, _, .nil => .nil
  | _, _, .cons h1 h2 => .cons (dp_same e h1) (dpAll_same e h2)
end
theorem dpAll_len : ∀ {vs : List V} {ds : List PyData}, DpAll K H vs ds → vs.length = ds.length
  | _, _, .nil => rfl
  | _, _, .cons _ h => by rw [List.length_cons, List.length_cons, dpAll_len h]
theorem dpAll_get : ∀ {vs : List V} {ds : List PyData} {i : Nat} {d : PyData}, DpAll K H vs ds → ds[i]? = some d → ∃ v, vs[i]? = some v ∧ Dp K H v d
  | _, _, _, _, .nil, h => by simp at h
  | _, _, 0, _, .cons h1 _, h => ⟨_, rfl, by have := Option.some.inj h; rw [← this]; exact h1⟩
  | _, _, i + 1, _, .cons _ h2, h => dpAll_get (i := i) h2 h
theorem ty_lst {a : Addr} {xs : List V} (h : SqL K H a xs) : TyX K H (.ref a) (.type "list") := by
  rcases h with (h | ⟨o, h⟩) | ⟨o, its, n, h, hc, _⟩
  · exact .base (.lst h)
  · exact .base (.frz h)
  · exact .kList h hc
theorem ty_tup {a : Addr} {xs : List V} (h : SqT K H a xs) : TyX K H (.ref a) (.type "tuple") := by
  rcases h with (h | ⟨o, h⟩) | ⟨o, its, n, h, hc, _⟩
  · exact .base (.tup h)
  · exact .fTuple h
  · exact .kTuple h hc
theorem kit_any2 {t : String} {b1 b2 : Bool} (h1 : PySem.W.kitOne K (.type t) (.type "list") = some b1) (h2 : PySem.W.kitOne K (.type t) (.type "tuple") = some b2) : PySem.W.kitAny K (.type t) [.type "list", .type "tuple"] = some (b1 || b2) := by
  unfold PySem.W.kitAny
  rw [h1]
  cases b1
  · unfold PySem.W.kitAny
    rw [h2]
    cases b2
    · rfl
    · rfl
  · rfl
end
section
variable {P : Program} {w : World} {K : PySem.W.Frag} {mg : Str → Option Value} {base : Heap}
def spLike (K : PySem.W.Frag) (n : Nat) : Sp := fun vs H Q _ => ∃ (u v : V) (d : PyData), vs = [u, v] ∧ Dp K H u d ∧ Dp K H v d ∧ DLe n d ∧ ∀ H', Same H H' → Q (.bl true) H'
theorem body_like {f : Addr} {fd : FuncData} {n : Nat} (F : Fun K "_law_like" "_law_like" sLike f fd) (T : Blt mg) (ml : mg "list" = none) (bL : Binds K fd ["_law_found", "_law_due"] []) (gL : mg "_law_like" = some (.ref f))
    (sub : FnOk P w K mg base CX0 n f fd ["_law_found", "_law_due"] (fun vs H Q E => ∃ m, n = m + 1 ∧ spLike K m vs H Q E)) : FnOk P w K mg base CX0 (n + 1) f fd ["_law_found", "_law_due"] (spLike K n) := by
  refine F.ok scLike (fun vs H Q E h => ?_) (fun cdv A outer s H vs Q E hr h => ?_)
  · obtain ⟨u, v, d, rfl, _⟩ := h
    rfl
  · obtain ⟨u, v, d, rfl, hu, hv, hd, q⟩ := h
    have isi : ∀ (i : Nat) (T' : String) (hi : i < 2), True := fun _ _ _ => trivial
    refine ⟨_, pss_cons (ps_if (PW.pt (pw_or (pt_cmpR op_isN (pv 0) pe_non (nomark _)) (pw_or1 (pt_cmpR op_isN (pv 1) pe_non (nomark _))))) (pss_one (ps_ret (pe_and (pe_cmpR op_isN (pv 0) pe_non (nomark _)) (pe_one (pe_cmpR op_isN (pv 1) pe_non (nomark _)))))) pss_nil)
      (pss_cons (ps_if (pt_val (pe_callB call_isiT (by rfl) T.misi (by decide +kernel) (pa_cons (pv 1) (pa_cons (pe_tup (pa_cons (pe_bltn (v := .ty "list") (by rfl) ml (by decide +kernel) rfl) (pa_cons (pe_bltn (v := .ty "tuple") (by rfl) T.mtuple (by decide +kernel) rfl) pa_nil))) pa_nil))))
        (pss_cons (ps_if (PW.pt (pw_or (pt_cmpR op_ne (pe_callB call_isi (by rfl) T.misi (by decide +kernel) (pa_cons (pv 0) (pa_cons (pe_bltn (v := .ty "list") (by rfl) ml (by decide +kernel) rfl) pa_nil))) (pe_callB call_isi (by rfl) T.misi (by decide +kernel) (pa_cons (pv 1) (pa_cons (pe_bltn (v := .ty "list") (by rfl) ml (by decide +kernel) rfl) pa_nil))) (nomark _))
            (pw_or1 (pt_cmpR op_ne (pe_callB call_isi (by rfl) T.misi (by decide +kernel) (pa_cons (pv 0) (pa_cons (pe_bltn (v := .ty "tuple") (by rfl) T.mtuple (by decide +kernel) rfl) pa_nil))) (pe_callB call_isi (by rfl) T.misi (by decide +kernel) (pa_cons (pv 1) (pa_cons (pe_bltn (v := .ty "tuple") (by rfl) T.mtuple (by decide +kernel) rfl) pa_nil))) (nomark _))))) (pss_one (ps_ret pe_bl)) pss_nil)
        (pss_one (ps_ret (pe_and (pe_cmpR op_eq (pe_callB call_len_seq (by rfl) T.mlen PySem.boot_len (pa_cons (pv 0) pa_nil)) (pe_callB call_len_seq (by rfl) T.mlen PySem.boot_len (pa_cons (pv 1) pa_nil)) (nomark _))
          (pe_one (pe_callB (cr_all rfl) (by rfl) T.mall (by decide +kernel) (pa_cons (pe_lc (own := [("_law_k", 2)]) (g := gName 2) (tt := tYes) rfl scLike.nd
            (pi_range1 rfl T.mrange (pa_cons (pe_callB call_len_seq (by rfl) T.mlen PySem.boot_len (pa_cons (pv 1) pa_nil)) pa_nil)) (blkOk_by (N := ["_law_found", "_law_due", "_law_k"]) (sc := defScope sLike) (by decide +kernel))
            (fun _ _ _ _ _ => pg_name (i := 2) scLike.nd rfl (Or.inl rfl)) (fun _ _ _ _ _ => pts_nil)
            (fun _ _ _ _ _ => pe_call sub hr (by rfl) gL F.kp bL .nil pass0 (pa_cons (pe_ix (r := rIx K) ix_seq (pv 0) (pv 2) (fun _ _ => rfl)) (pa_cons (pe_ix (r := rIx K) ix_seq (pv 1) (pv 2) (fun _ _ => rfl)) pa_nil)))) pa_nil)))))))
        pss_nil)
      (pss_cons (ps_if (PW.pt (pw_or (pt_cmpR op_ne (pe_callB call_isi (by rfl) T.misi (by decide +kernel) (pa_cons (pv 0) (pa_cons (pe_bltn (v := .ty "bool") (by rfl) T.mbool (by decide +kernel) rfl) pa_nil))) (pe_callB call_isi (by rfl) T.misi (by decide +kernel) (pa_cons (pv 1) (pa_cons (pe_bltn (v := .ty "bool") (by rfl) T.mbool (by decide +kernel) rfl) pa_nil))) (nomark _))
          (pw_or1 (pt_cmpR op_ne (pe_callB call_isi (by rfl) T.misi (by decide +kernel) (pa_cons (pv 0) (pa_cons (pe_bltn (v := .ty "int") (by rfl) T.mint (by decide +kernel) rfl) pa_nil))) (pe_callB call_isi (by rfl) T.misi (by decide +kernel) (pa_cons (pv 1) (pa_cons (pe_bltn (v := .ty "int") (by rfl) T.mint (by decide +kernel) rfl) pa_nil))) (nomark _))))) (pss_one (ps_ret pe_bl)) pss_nil)
      (pss_one (ps_ret (pe_and (pe_cmpR op_eq (pe_callB call_isi (by rfl) T.misi (by decide +kernel) (pa_cons (pv 0) (pa_cons (pe_bltn (v := .ty "str") (by rfl) T.mstr (by decide +kernel) rfl) pa_nil))) (pe_callB call_isi (by rfl) T.misi (by decide +kernel) (pa_cons (pv 1) (pa_cons (pe_bltn (v := .ty "str") (by rfl) T.mstr (by decide +kernel) rfl) pa_nil))) (nomark _))
        (pe_one (pe_cmpR op_eq (pv 0) (pv 1) (nomark _)))))))), ?_⟩
    have nn : ∀ {x : V}, x ≠ .non → V.bl (decide (x = V.non)) = V.bl false := fun h => congrArg V.bl (decide_eq_false h)
    have sm : ∀ b : Bool, V.bl (!decide (V.bl b = V.bl b)) = V.bl false := fun b => by rw [decide_eq_true rfl]; rfl
    have three : (d = .none) ∨ (∃ (x : V) (t : String) (cb ci cs : Bool), u = x ∧ v = x ∧ x ≠ .non ∧ scal x x = true ∧ (∀ H, TyX K H x (.type t)) ∧ PySem.W.kitOne K (.type t) (.type "bool") = some cb ∧ PySem.W.kitOne K (.type t) (.type "int") = some ci ∧
        PySem.W.kitOne K (.type t) (.type "str") = some cs ∧ PySem.W.kitOne K (.type t) (.type "list") = some false ∧ PySem.W.kitOne K (.type t) (.type "tuple") = some false) ∨
        (∃ (a a' : Addr) (xs ys : List V) (ds : List PyData) (t : String) (l1 l2 : Bool) (m : Nat), u = .ref a ∧ v = .ref a' ∧ (SqL K H a xs ∨ SqT K H a xs) ∧ (SqL K H a' ys ∨ SqT K H a' ys) ∧ DpAll K H xs ds ∧ DpAll K H ys ds ∧ n = m + 1 ∧ ds.length ≤ 1000 ∧ (∀ d ∈ ds, DLe m d) ∧
          (∀ H', Same H H' → TyX K H' (.ref a) (.type t) ∧ TyX K H' (.ref a') (.type t)) ∧ PySem.W.kitOne K (.type t) (.type "list") = some l1 ∧ PySem.W.kitOne K (.type t) (.type "tuple") = some l2 ∧ (l1 || l2) = true) := by
      cases hd with
      | non => exact .inl rfl
      | bl b =>
        cases hu; cases hv
        exact .inr (.inl ⟨.bl b, "bool", true, true, false, rfl, rfl, (fun z => nomatch z), rfl, fun H => .base (.bl b), kit_ty (by decide +kernel), kit_ty (by decide +kernel), kit_ty (by decide +kernel), kit_ty (by decide +kernel), kit_ty (by decide +kernel)⟩)
      | int i =>
        cases hu; cases hv
        exact .inr (.inl ⟨.int i, "int", false, true, false, rfl, rfl, (fun z => nomatch z), rfl, fun H => .base (.int i), kit_ty (by decide +kernel), kit_ty (by decide +kernel), kit_ty (by decide +kernel), kit_ty (by decide +kernel), kit_ty (by decide +kernel)⟩)
      | str i =>
        cases hu; cases hv
        exact .inr (.inl ⟨.str i, "str", false, false, true, rfl, rfl, (fun z => nomatch z), rfl, fun H => .base (.str i), kit_ty (by decide +kernel), kit_ty (by decide +kernel), kit_ty (by decide +kernel), kit_ty (by decide +kernel), kit_ty (by decide +kernel)⟩)
      | lst hl hds =>
        cases hu with | lst a1 a2 => cases hv with | lst b1 b2 =>
        exact .inr (.inr ⟨_, _, _, _, _, "list", true, false, _, rfl, rfl, .inl a1, .inl b1, a2, b2, rfl, hl, hds, fun H' s' => ⟨ty_lst (s'.seq a1), ty_lst (s'.seq b1)⟩, kit_ty (by decide +kernel), kit_ty (by decide +kernel), rfl⟩)
      | tup hl hds =>
        cases hu with | tup a1 a2 => cases hv with | tup b1 b2 =>
        exact .inr (.inr ⟨_, _, _, _, _, "tuple", false, true, _, rfl, rfl, .inr a1, .inr b1, a2, b2, rfl, hl, hds, fun H' s' => ⟨ty_tup (same_seqT s' a1), ty_tup (same_seqT s' b1)⟩, kit_ty (by decide +kernel), kit_ty (by decide +kernel), rfl⟩)
    rcases three with rfl | ⟨x, t, cb, ci, cs, rfl, rfl, xn, sx, ty, kb, ki, ks, kl, kt⟩ | ⟨a, a', xs, ys, ds, t, l1, l2, m, rfl, rfl, ha, ha', da, da', rfl, hl, hds, ty, kl, kt, k12⟩
    · cases hu; cases hv
      refine ⟨.non, rfl, rfl, true, congrArg V.bl (decide_eq_true rfl), iteT (iteT ?_)⟩
      refine ⟨.non, rfl, rfl, true, congrArg V.bl (decide_eq_true rfl), iteT ⟨.non, rfl, rfl, ?_⟩⟩
      rw [decide_eq_true rfl]
      exact q H (Same.refl H)
    · refine ⟨_, rfl, rfl, false, nn xn, iteF ⟨_, rfl, rfl, false, nn xn, iteF ?_⟩⟩
      refine ⟨_, rfl, by show 2 ≤ sizeLine; decide, fun tt ntt => ⟨_, tt, _, _, _, false, rfl, upd_same, .cons (.ty _) (.cons (.ty _) .nil), ty _, kit_any2 kl kt, false, rfl, iteF ?_⟩⟩
      have s1 := same_upd (o := .tup [V.ty "list", V.ty "tuple"]) ntt
      refine ⟨_, rfl, _, .ty "bool", _, _, cb, rfl, .ty _, ty _, kb, _, rfl, _, .ty "bool", _, _, cb, rfl, .ty _, ty _, kb, rfl, false, sm cb, iteF ?_⟩
      refine ⟨_, rfl, _, .ty "int", _, _, ci, rfl, .ty _, ty _, ki, _, rfl, _, .ty "int", _, _, ci, rfl, .ty _, ty _, ki, rfl, false, sm ci, iteF ?_⟩
      refine ⟨_, rfl, _, .ty "str", _, _, cs, rfl, .ty _, ty _, ks, _, rfl, _, .ty "str", _, _, cs, rfl, .ty _, ty _, ks, rfl, true, congrArg V.bl (decide_eq_true rfl), iteT ?_⟩
      refine ⟨_, rfl, _, rfl, sx, ?_⟩
      rw [decide_eq_true rfl]
      exact q _ s1
    · have an : ∀ b : Addr, V.ref b ≠ V.non := fun b z => nomatch z
      refine ⟨_, rfl, rfl, false, nn (an _), iteF ⟨_, rfl, rfl, false, nn (an _), iteF ?_⟩⟩
      refine ⟨_, rfl, by show 2 ≤ sizeLine; decide, fun tt ntt => ?_⟩
      have s1 := same_upd (o := .tup [V.ty "list", V.ty "tuple"]) ntt
      obtain ⟨ty1, ty2⟩ := ty _ s1
      have lx := dpAll_len da
      have ly := dpAll_len da'
      refine ⟨_, tt, _, _, _, true, rfl, upd_same, .cons (.ty _) (.cons (.ty _) .nil), ty2, (kit_any2 kl kt).trans (congrArg some k12), true, rfl, iteT ?_⟩
      refine ⟨_, rfl, _, .ty "list", _, _, l1, rfl, .ty _, ty1, kl, _, rfl, _, .ty "list", _, _, l1, rfl, .ty _, ty2, kl, rfl, false, sm l1, iteF ?_⟩
      refine ⟨_, rfl, _, .ty "tuple", _, _, l2, rfl, .ty _, ty1, kt, _, rfl, _, .ty "tuple", _, _, l2, rfl, .ty _, ty2, kt, rfl, false, sm l2, iteF ?_⟩
      have sq : ∀ {b : Addr} {zs : List V} {H' : Hp}, Same H H' → (SqL K H b zs ∨ SqT K H b zs) → (SqL K H' b zs ∨ SqT K H' b zs) := fun s' h => h.elim (fun z => .inl (s'.seq z)) (fun z => .inr (same_seqT s' z))
      refine ⟨_, rfl, a, xs, rfl, sq s1 ha, _, rfl, a', ys, rfl, sq s1 ha', rfl, true, ?_, iteT ?_⟩
      · rw [lx, ly, decide_eq_true rfl]
      refine ⟨_, rfl, a', ys, rfl, sq s1 ha', ys.length, rfl, by omega, by omega, fun D nD => ?_⟩
      refine lc_range (lo := 0) (n := (ys.length : Int).toNat) (fun i H2 => Same H H2 ∧ H2 D = some (.lst ((List.replicate i true).map V.bl))) ⟨s1.trans (same_upd nD), upd_same⟩ ?_ ?_
      · rintro i H2 hi ⟨s2, hD⟩
        have e0 : (V.int (0 + (i : Int))) = V.int (i : Nat) := by
          congr 1
          omega
        rw [e0]
        have hid : i < ds.length := by omega
        have gd : ds[i]? = some ds[i] := List.getElem?_eq_getElem hid
        obtain ⟨x1, gx, dx⟩ := dpAll_get da gd
        obtain ⟨y1, gy, dy⟩ := dpAll_get da' gd
        have ix : ∀ {b : Addr} {zs : List V} {z : V} {Qz : VK}, (SqL K H b zs ∨ SqT K H b zs) → zs[i]? = some z → Qz z H2 → rIx K (.ref b) (.int (i : Nat)) H2 Qz := fun h hz hq =>
          (sq s2 h).elim (fun y => .inl ⟨_, _, _, _, rfl, rfl, y, atI_nat hz, hq⟩) (fun y => .inr (.inl ⟨_, _, _, _, rfl, rfl, y, atI_nat hz, hq⟩))
        refine ⟨rfl, _, rfl, _, rfl, ix ha gx ⟨_, rfl, _, rfl, ix ha' gy ?_⟩⟩
        refine ⟨m, rfl, x1, y1, _, rfl, dp_same s2 dx, dp_same s2 dy, hds _ (List.getElem_mem hid), fun H3 s3 => ?_⟩
        have hnD : H D = none := s1.free nD
        refine ⟨_, s3 _ _ hD, ?_, fun b o e => ?_, ?_⟩
        · rw [List.length_map, List.length_replicate]
          exact small1000 (by omega)
        · rw [upd_ne (ne_of_none e hnD)]
          exact s3 _ _ (s2 _ _ e)
        · rw [upd_same, List.replicate_succ', List.map_append]
          rfl
      · rintro H2 ⟨s2, hD⟩
        refine ⟨D, _, rfl, .of hD, ?_⟩
        have e : (List.replicate (ys.length : Int).toNat true).all id = true := by simp
        rw [e]
        exact q H2 s2
/-- at every depth -/
theorem ok_like {f : Addr} {fd : FuncData} (F : Fun K "_law_like" "_law_like" sLike f fd) (T : Blt mg) (ml : mg "list" = none) (bL : Binds K fd ["_law_found", "_law_due"] []) (gL : mg "_law_like" = some (.ref f)) :
    ∀ n : Nat, FnOk P w K mg base CX0 (n + 1) f fd ["_law_found", "_law_due"] (spLike K n)
  | 0 => body_like F T ml bL gL { len := fun vs H Q E h => (by obtain ⟨m, e, _⟩ := h; exact absurd e (by omega)), run := fun A outer s H args us vs Q E _ _ _ _ h => (by obtain ⟨m, e, _⟩ := h; exact absurd e (by omega)) }
  | n + 1 => body_like F T ml bL gL ((ok_like F T ml bL gL n).imp fun vs H Q E h => by obtain ⟨m, e, h⟩ := h; cases e; exact h)
end
end K8

namespace K8
open PySem PySem.Spec PyProof.Rows L2
abbrev sDue : Stmt := top 28
theorem scDue : FnScope ["_law_ground_here", "_law_base_z", "_law_ours_z", "_law_theirs_z", "_law_found", "_law_place", "_law_x", "_law_y", "_law_digit"] ["_law_ground_here", "_law_base_z", "_law_ours_z", "_law_theirs_z"] (defScope sDue) := ⟨rfl, rfl, rfl, by decide +kernel, rfl, by decide +kernel, by decide +kernel⟩
/-- the place of the digit, by the law's own reckoning -/
def dueIx (k : Nat) (b t : List Nat) : Nat := if k ∈ b then (if k ∈ t then 2 else 3) else (if k ∈ t then 0 else 1)
theorem dueIx_lt (k : Nat) (b t : List Nat) : dueIx k b t < 4 := by
  unfold dueIx
  split <;> split <;> omega
theorem due_stand (tb : List Nat) (k : Nat) (b o t : List Nat) : stand tb k b o t = ((decide (k ∈ o) && decide (k ∈ t)) || (!decide (decide (k ∈ o) = decide (k ∈ t)) && (tb.getD (dueIx k b t) 0 == 49))) := by
  unfold stand dueIx
  by_cases ho : k ∈ o <;> by_cases ht : k ∈ t <;> by_cases hb : k ∈ b <;> simp [ho, ht, hb]
section
variable {P : Program} {w : World} {K : PySem.W.Frag} {mg : Str → Option Value} {base : Heap}
def spDue : Sp := fun vs H Q _ => ∃ (g n b o t : Addr) (pl : Nat) (tb wd : Str) (bs os ts : List Nat), vs = [.ref g, .ref b, .ref o, .ref t] ∧ H g = some (.tup [.ref n, .int pl, .str tb, .str wd]) ∧ Tab tb ∧ pl ≤ 2 ∧
  H b = some (.tup (nvs bs)) ∧ H o = some (.tup (nvs os)) ∧ H t = some (.tup (nvs ts)) ∧ ∀ H' r, Same H H' → H' r = some (.tup (nvs (mergedM tb.cps.toList pl bs os ts))) → Q (.ref r) H'
theorem ok_due {f : Addr} {fd : FuncData} {k : Nat} (F : Fun K "_law_merged" "_law_merged" sDue f fd) (T : Blt mg) : FnOk P w K mg base CX0 (k + 1) f fd ["_law_ground_here", "_law_base_z", "_law_ours_z", "_law_theirs_z"] spDue := by
  refine F.ok scDue (fun vs H Q E h => ?_) (fun cdv A outer s H vs Q E hr h => ?_)
  · obtain ⟨g, n, b, o, t, pl, tb, wd, bs, os, ts, rfl, _⟩ := h
    rfl
  · obtain ⟨g, n, b, o, t, pl, tb, wd, bs, os, ts, rfl, hg, tab, p2, hb, ho, ht, q⟩ := h
    have nd := scDue.nd
    refine ⟨_, pss_cons (ps_set (i := 4) scDue.nd rfl (.inl rfl) (pe_lst pa_nil))
      (pss_cons (ps_for PassesOwn.never rfl (pi_range1 rfl T.mrange (pa_cons (pe_ix ix_tup (pv 0) pe_int (fun _ _ => rfl)) pa_nil)) (pg_name (i := 5) scDue.nd rfl (.inl rfl))
        (pss_cons (ps_par (i := 6) (j := 7) rfl scDue.nd rfl rfl (by decide) rfl rfl (pa_cons (pe_cmpR op_in_seq (pv 5) (pv 2) (by rfl)) (pa_cons (pe_cmpR op_in_seq (pv 5) (pv 3) (by rfl)) pa_nil)) (by rfl))
        (C8.pss_cut (ps_set (i := 8) scDue.nd rfl (.inl rfl) (pe_ifExp (pt_cmpR op_notIn_seq (pv 5) (pv 1) (by rfl))
            (pe_ix ix_str (pe_ix ix_tup (pv 0) pe_int (fun _ _ => rfl)) (pe_ix ix_list (pe_lst (pa_cons pe_int (pa_cons pe_int pa_nil))) (pe_callTy call_int1 (by rfl) T.mint (by decide +kernel) (pa_cons (pv 7) pa_nil)) (fun _ _ => rfl)) (fun _ _ => rfl))
            (pe_ix ix_str (pe_ix ix_tup (pv 0) pe_int (fun _ _ => rfl)) (pe_ix ix_list (pe_lst (pa_cons pe_int (pa_cons pe_int pa_nil))) (pe_callTy call_int1 (by rfl) T.mint (by decide +kernel) (pa_cons (pv 7) pa_nil)) (fun _ _ => rfl)) (fun _ _ => rfl))))
        (pss_one (ps_if (PW.pt (pw_or (PW.pt (pw_and (pt_val (pv 6)) (pw_and1 (pt_val (pv 7))))) (pw_or1 (PW.pt (pw_and (pt_cmpR op_ne (pv 6) (pv 7) (nomark _)) (pw_and1 (pt_cmpR op_eq (pv 8) pe_str (nomark _))))))))
          (pss_one (ps_expr (pe_bm PySem.F.plainAttrs_list PySem.F.slot_list_append PySem.F.type_list_append mt_append (pv 4) (pa_cons (pv 5) pa_nil)))) pss_nil)))))
      (pss_one (ps_ret (pe_callTy call_tuple_of (by rfl) T.mtuple (by decide +kernel) (pa_cons (pv 4) pa_nil))))), ?_⟩
    refine ⟨Nat.zero_le _, fun fo nf => ?_⟩
    have s0 := same_upd (o := .lst []) nf
    refine ⟨.ref g, rfl, g, _, 1, .int pl, rfl, rfl, .of (s0 _ _ hg), atI_nat (j := 1) rfl, pl, rfl, by omega, by omega, ?_⟩
    refine for_range (lo := 0) (n := (pl : Int).toNat) (fun i σ H2 => ∃ y5 y6 y7 y8, σ = [some (.ref g), some (.ref b), some (.ref o), some (.ref t), some (.ref fo), y5, y6, y7, y8] ∧ Same H H2 ∧ H2 fo = some (.lst (nvs ((List.range i).filter fun k => stand tb.cps.toList k bs os ts))))
      ⟨none, none, none, none, rfl, s0, upd_same⟩ ?_ ?_
    · rintro i σ H2 hi ⟨y5, y6, y7, y8, rfl, s2, hf⟩
      have e0 : (V.int (0 + (i : Int))) = V.int (i : Nat) := by
        congr 1
        omega
      rw [e0]
      have er : ((List.range (i + 1)).filter fun k => stand tb.cps.toList k bs os ts) = ((List.range i).filter fun k => stand tb.cps.toList k bs os ts) ++ (if stand tb.cps.toList i bs os ts = true then [i] else []) := by
        rw [List.range_succ, List.filter_append]
        congr 1
        by_cases h : stand tb.cps.toList i bs os ts = true <;> simp [h]
      have in1 : ∀ cs : List Nat, (if false = true then !inV (.int i) (nvs cs) else inV (.int i) (nvs cs)) = decide (i ∈ cs) := fun cs => inV_ints i cs
      refine ⟨.int i, rfl, .ref o, rfl, o, _, rfl, .inr (.of (s2 _ _ ho)), rfl, flat_ints _, ?_⟩
      refine ⟨.int i, rfl, .ref t, rfl, t, _, rfl, .inr (.of (s2 _ _ ht)), rfl, flat_ints _, _, _, rfl, ?_⟩
      rw [in1, in1]
      refine ⟨fun σ H3 => σ = [some (.ref g), some (.ref b), some (.ref o), some (.ref t), some (.ref fo), some (.int i), some (.bl (decide (i ∈ os))), some (.bl (decide (i ∈ ts))), some (.str ⟨#[tb.cps.toList.getD (dueIx i bs ts) 0]⟩)] ∧ Same H H3 ∧ H3 fo = some (.lst (nvs ((List.range i).filter fun k => stand tb.cps.toList k bs os ts))), ?_, ?_⟩
      · have zl : tb.length ≤ sizeLine := Nat.le_of_lt (small1000 (by rw [len_codes, tab.len]; decide))
        have tl := tab.len
        have gt : ∀ j : Nat, j < 4 → tb.cps.toList[j]? = some (tb.cps.toList.getD j 0) := fun j hj => by
          rw [List.getD_eq_getElem?_getD, List.getElem?_eq_getElem (by omega)]
          rfl
        refine ⟨.int i, rfl, .ref b, rfl, b, _, rfl, .inr (.of (s2 _ _ hb)), rfl, flat_ints _, ?_⟩
        by_cases hbm : i ∈ bs <;> by_cases htm : i ∈ ts
        · have e1 : dueIx i bs ts = 2 := by unfold dueIx; simp [hbm, htm]
          have ey : decide (i ∈ ts) = true := by simp [htm]
          have eb : V.bl (if true = true then !inV (.int i) (nvs bs) else inV (.int i) (nvs bs)) = V.bl false := by
            rw [if_pos rfl, inV_ints]
            simp [hbm]
          refine ⟨false, eb, iteF ?_⟩
          rw [ey]
          refine ⟨.ref g, rfl, g, _, 2, .str tb, rfl, rfl, .of (s2 _ _ (hg)), atI_nat (j := 2) rfl, by show 2 ≤ sizeLine; decide, fun l nl => ?_⟩
          have s3 := same_upd (o := .lst [V.int 3, V.int 2]) nl
          refine ⟨.bl true, rfl, .inr ⟨true, rfl, l, _, 1, .int 2, rfl, rfl, .of upd_same, atI_nat (j := 1) rfl, tb, 2, _, rfl, rfl, zl, atI_nat (j := 2) (gt 2 (by decide)), ?_⟩⟩
          rw [e1]
          exact ⟨rfl, s2.trans s3, s3 _ _ hf⟩
        · have e1 : dueIx i bs ts = 3 := by unfold dueIx; simp [hbm, htm]
          have ey : decide (i ∈ ts) = false := by simp [htm]
          have eb : V.bl (if true = true then !inV (.int i) (nvs bs) else inV (.int i) (nvs bs)) = V.bl false := by
            rw [if_pos rfl, inV_ints]
            simp [hbm]
          refine ⟨false, eb, iteF ?_⟩
          rw [ey]
          refine ⟨.ref g, rfl, g, _, 2, .str tb, rfl, rfl, .of (s2 _ _ (hg)), atI_nat (j := 2) rfl, by show 2 ≤ sizeLine; decide, fun l nl => ?_⟩
          have s3 := same_upd (o := .lst [V.int 3, V.int 2]) nl
          refine ⟨.bl false, rfl, .inr ⟨false, rfl, l, _, 0, .int 3, rfl, rfl, .of upd_same, atI_nat (j := 0) rfl, tb, 3, _, rfl, rfl, zl, atI_nat (j := 3) (gt 3 (by decide)), ?_⟩⟩
          rw [e1]
          exact ⟨rfl, s2.trans s3, s3 _ _ hf⟩
        · have e1 : dueIx i bs ts = 0 := by unfold dueIx; simp [hbm, htm]
          have ey : decide (i ∈ ts) = true := by simp [htm]
          have eb : V.bl (if true = true then !inV (.int i) (nvs bs) else inV (.int i) (nvs bs)) = V.bl true := by
            rw [if_pos rfl, inV_ints]
            simp [hbm]
          refine ⟨true, eb, iteT ?_⟩
          rw [ey]
          refine ⟨.ref g, rfl, g, _, 2, .str tb, rfl, rfl, .of (s2 _ _ (hg)), atI_nat (j := 2) rfl, by show 2 ≤ sizeLine; decide, fun l nl => ?_⟩
          have s3 := same_upd (o := .lst [V.int 1, V.int 0]) nl
          refine ⟨.bl true, rfl, .inr ⟨true, rfl, l, _, 1, .int 0, rfl, rfl, .of upd_same, atI_nat (j := 1) rfl, tb, 0, _, rfl, rfl, zl, atI_nat (j := 0) (gt 0 (by decide)), ?_⟩⟩
          rw [e1]
          exact ⟨rfl, s2.trans s3, s3 _ _ hf⟩
        · have e1 : dueIx i bs ts = 1 := by unfold dueIx; simp [hbm, htm]
          have ey : decide (i ∈ ts) = false := by simp [htm]
          have eb : V.bl (if true = true then !inV (.int i) (nvs bs) else inV (.int i) (nvs bs)) = V.bl true := by
            rw [if_pos rfl, inV_ints]
            simp [hbm]
          refine ⟨true, eb, iteT ?_⟩
          rw [ey]
          refine ⟨.ref g, rfl, g, _, 2, .str tb, rfl, rfl, .of (s2 _ _ (hg)), atI_nat (j := 2) rfl, by show 2 ≤ sizeLine; decide, fun l nl => ?_⟩
          have s3 := same_upd (o := .lst [V.int 1, V.int 0]) nl
          refine ⟨.bl false, rfl, .inr ⟨false, rfl, l, _, 0, .int 1, rfl, rfl, .of upd_same, atI_nat (j := 0) rfl, tb, 1, _, rfl, rfl, zl, atI_nat (j := 1) (gt 1 (by decide)), ?_⟩⟩
          rw [e1]
          exact ⟨rfl, s2.trans s3, s3 _ _ hf⟩
      · rintro σ H3 ⟨rfl, s3, hf3⟩
        have es := due_stand tb.cps.toList i bs os ts
        have ap : stand tb.cps.toList i bs os ts = true → ∃ y5 y6 y7 y8, ([some (.ref g), some (.ref b), some (.ref o), some (.ref t), some (.ref fo), some (.int i), some (.bl (decide (i ∈ os))), some (.bl (decide (i ∈ ts))), some (.str ⟨#[tb.cps.toList.getD (dueIx i bs ts) 0]⟩)] : List (Option V)) = [some (.ref g), some (.ref b), some (.ref o), some (.ref t), some (.ref fo), y5, y6, y7, y8] ∧
            Same H (upd H3 fo (.lst (nvs ((List.range i).filter fun k => stand tb.cps.toList k bs os ts) ++ [V.int i]))) ∧ (upd H3 fo (.lst (nvs ((List.range i).filter fun k => stand tb.cps.toList k bs os ts) ++ [V.int i]))) fo = some (.lst (nvs ((List.range (i + 1)).filter fun k => stand tb.cps.toList k bs os ts))) := fun hs => by
          refine ⟨_, _, _, _, rfl, fun a u e => ?_, ?_⟩
          · rw [upd_ne (ne_of_none e nf)]
            exact s3 _ _ e
          · rw [upd_same, er, if_pos hs]
            unfold nvs
            rw [List.map_append]
            rfl
        have nap : stand tb.cps.toList i bs os ts = false → ∃ y5 y6 y7 y8, ([some (.ref g), some (.ref b), some (.ref o), some (.ref t), some (.ref fo), some (.int i), some (.bl (decide (i ∈ os))), some (.bl (decide (i ∈ ts))), some (.str ⟨#[tb.cps.toList.getD (dueIx i bs ts) 0]⟩)] : List (Option V)) = [some (.ref g), some (.ref b), some (.ref o), some (.ref t), some (.ref fo), y5, y6, y7, y8] ∧
            Same H H3 ∧ H3 fo = some (.lst (nvs ((List.range (i + 1)).filter fun k => stand tb.cps.toList k bs os ts))) := fun hs => by
          refine ⟨_, _, _, _, rfl, s3, ?_⟩
          rw [er, hs]
          simpa using hf3
        have sz : (nvs ((List.range i).filter fun k => stand tb.cps.toList k bs os ts)).length < sizeLine := by
          have l1 := List.length_filter_le (fun k => stand tb.cps.toList k bs os ts) (List.range i)
          rw [List.length_range] at l1
          unfold nvs
          rw [List.length_map]
          exact small1000 (by omega)
        have dd : ∀ u : Nat, decide (V.str ⟨#[u]⟩ = V.str "1") = (u == 49) := fun u => by
          have e6 : ("1" : Str) = ⟨#[49]⟩ := by decide +kernel
          rw [e6]
          by_cases h : u = 49
          · subst h; simp
          · have h2 : ¬ V.str ⟨#[u]⟩ = V.str ⟨#[49]⟩ := fun z => h (by
              have z1 := V.str.inj z
              injection z1 with z2
              simpa using z2)
            rw [decide_eq_false h2]
            simp [h]
        have bb : ∀ u v : Bool, decide (V.bl u = V.bl v) = decide (u = v) := fun u v => by cases u <;> cases v <;> rfl
        -- the test, by x and y
        refine ⟨_, rfl, decide (i ∈ os), rfl, ?_⟩
        by_cases hom : i ∈ os <;> by_cases htm : i ∈ ts
        · have hs : stand tb.cps.toList i bs os ts = true := by rw [es]; simp [hom, htm]
          rw [decide_eq_true hom]
          refine iteT ⟨_, rfl, decide (i ∈ ts), rfl, ?_⟩
          rw [decide_eq_true htm]
          refine iteT (iteT ⟨.ref fo, rfl, .inl ⟨rfl, _, .of hf3⟩, .int i, rfl, fo, _, _, rfl, rfl, hf3, sz, ?_⟩)
          have z := ap hs
          rw [decide_eq_true hom, decide_eq_true htm] at z
          exact z
        · have hs : stand tb.cps.toList i bs os ts = (tb.cps.toList.getD (dueIx i bs ts) 0 == 49) := by rw [es]; simp [hom, htm]
          rw [decide_eq_true hom]
          refine iteT ⟨_, rfl, decide (i ∈ ts), rfl, ?_⟩
          rw [decide_eq_false htm]
          refine iteF ⟨_, rfl, _, rfl, rfl, true, rfl, iteT ⟨_, rfl, rfl, _, rfl, ?_⟩⟩
          rw [dd, ← hs]
          by_cases hk : stand tb.cps.toList i bs os ts = true
          · rw [hk]
            refine iteT ⟨.ref fo, rfl, .inl ⟨rfl, _, .of hf3⟩, .int i, rfl, fo, _, _, rfl, rfl, hf3, sz, ?_⟩
            have z := ap hk
            rw [decide_eq_true hom, decide_eq_false htm] at z
            exact z
          · have hk2 : stand tb.cps.toList i bs os ts = false := by simpa using hk
            rw [hk2]
            have z := nap hk2
            rw [decide_eq_true hom, decide_eq_false htm] at z
            exact iteF z
        · have hs : stand tb.cps.toList i bs os ts = (tb.cps.toList.getD (dueIx i bs ts) 0 == 49) := by rw [es]; simp [hom, htm]
          rw [decide_eq_false hom, decide_eq_true htm]
          refine iteF (iteF ⟨_, rfl, _, rfl, rfl, true, rfl, iteT ⟨_, rfl, rfl, _, rfl, ?_⟩⟩)
          rw [dd, ← hs]
          by_cases hk : stand tb.cps.toList i bs os ts = true
          · rw [hk]
            refine iteT ⟨.ref fo, rfl, .inl ⟨rfl, _, .of hf3⟩, .int i, rfl, fo, _, _, rfl, rfl, hf3, sz, ?_⟩
            have z := ap hk
            rw [decide_eq_false hom, decide_eq_true htm] at z
            exact z
          · have hk2 : stand tb.cps.toList i bs os ts = false := by simpa using hk
            rw [hk2]
            have z := nap hk2
            rw [decide_eq_false hom, decide_eq_true htm] at z
            exact iteF z
        · have hs : stand tb.cps.toList i bs os ts = false := by rw [es]; simp [hom, htm]
          rw [decide_eq_false hom, decide_eq_false htm]
          refine iteF (iteF ⟨_, rfl, _, rfl, rfl, false, rfl, iteF ?_⟩)
          have z := nap hs
          rw [decide_eq_false hom, decide_eq_false htm] at z
          exact iteF z
    · rintro σ H2 ⟨y5, y6, y7, y8, rfl, s2, hf⟩
      refine ⟨.ref fo, rfl, fo, _, rfl, .inl ⟨.of hf, fun r nr => ?_⟩⟩
      exact q _ r (s2.trans (same_upd nr)) upd_same
end
end K8

namespace K8
open PySem PySem.Spec PyProof.Rows L2
/-! ### o.m(k = v, ..) -/
def tMethK (C : Addr) (m : Str) (sp : Sp) (gV : List V → List V → List V) (E : XK) (ta : TE) (tk : TA) : TE := fun σ H Q => ta σ H fun x H1 => ∃ a dx fs, x = .ref a ∧ H1 a = some (.ins C dx fs) ∧ fs.lookup m = none ∧ tk σ H1 fun zs H2 => sp (gV [.ref a] zs) H2 Q E
section
variable {X : Cx} {CX : CXT} {k : Nat} {f C : Addr} {fd : FuncData} {ps ks : List Str} {sp : Sp} {E : XK} {m : Str} {apos pos : Pos} {o : Expr} {kws : List Keyword} {ta : TE} {tk : TA} {g : List Value → List Value → List Value} {gV : List V → List V → List V}
theorem pe_methK0 {pl : Sem Bool} (he : PE X o ta) (c : Cls X.K C) (hm : Meth X.K C m f) (F : FnOk X.prog X.w X.K X.mg X.base CX k f fd ps sp) (hr : Room k X.A) (hb : KBinds X.K fd ps ks g gV) (hx : Passes CX X E) (hkw : PK X kws tk)
    (hall : (backToKw pos (keywordEach kws X.env)).all (·.1.isSome) = true := by rfl) (hks : (backToKw pos (keywordEach kws X.env)).filterMap (·.1) = ks := by rfl)
    (hpl : ((backTo pos (starEach [] X.env)).any (·.1) || (backToKw pos (keywordEach kws X.env)).any (·.1.isNone)) = false := by rfl)
    (ht : eval (.Call (.Attribute o m apos) [] kws pos) X.env = (eval o X.env >>= fun ov => standAt apos.atName >>= fun _ => holding [ov] (getMethod ov m pl) >>= fun z => callWith pos z.1 z.2 (backTo pos (starEach [] X.env)) (backToKw pos (keywordEach kws X.env))) := by rfl) :
    PE X (.Call (.Attribute o m apos) [] kws pos) (tMethK C m sp gV E ta tk) := by
  refine ⟨fun pins s σ H Q I h => ?_⟩
  refine PySem.W.methodCall_KW (pl := pl) (thn (he.run pins s σ H _ I h) fun u s1 hh => ?_) ht
  obtain ⟨x, H1, I1, rx, a, dx, fs, ex, ea, l, q⟩ := hh
  subst ex
  cases rx
  refine getmeth_ok I1 ea c hm l ?_
  refine PySem.W.callWith_KW0 (first := [.ref a]) (h₀ := X.base) I.ok.mod.kin hm.kp hall (thn (hkw.run pos pins s1 σ H1 _ I1 q) fun ws s2 ⟨zs, H2, I2, rz, q2⟩ => ⟨I2.kIn, ?_⟩) hpl
  rw [hks]
  exact run_fnk (us := [.ref a]) (vs := [.ref a]) F hr hb hx I2 (.cons rfl .nil) rz q2
end
def reM {α : Type} : List α → List α → List α
  | [s], [t, b, o] => [s, b, o, t]
  | _, _ => []
theorem reM_rel : ∀ {vs : List V} {us : List Value} {zs : List V} {ws : List Value}, Vals vs us → Vals zs ws → Vals (reM vs zs) (reM us ws)
  | _, _, _, _, .cons r .nil, .cons r1 (.cons r2 (.cons r3 .nil)) => .cons r (.cons r2 (.cons r3 (.cons r1 .nil)))
  | _, _, _, _, .nil, .nil => .nil
  | _, _, _, _, .nil, .cons _ _ => .nil
  | _, _, _, _, .cons _ .nil, .nil => .nil
  | _, _, _, _, .cons _ .nil, .cons _ .nil => .nil
  | _, _, _, _, .cons _ .nil, .cons _ (.cons _ .nil) => .nil
  | _, _, _, _, .cons _ .nil, .cons _ (.cons _ (.cons _ (.cons _ _))) => .nil
  | _, _, _, _, .cons _ (.cons _ _), .nil => .nil
  | _, _, _, _, .cons _ (.cons _ _), .cons _ _ => .nil
theorem kb_merged {K : PySem.W.Frag} {f : Addr} {fd : FuncData} (F : Fun K "merged" "Shape.merged" sMerged f fd) : KBinds K fd ["self", "base", "ours", "theirs"] (["theirs", "base", "ours"] : List Str) reM reM := by
  obtain ⟨oc, od, kV, doc, pm, an, cdv, ct, osl, rfl, lk, hcd⟩ := F.ex
  refine ⟨fun s us ws X hl => ?_, reM_rel⟩
  match us, ws, hl with
  | [u], [a, b, c], _ => exact .of_eq rfl
/-! ### the law's mathematics -/
theorem all_merges : (bits.all fun a => bits.all fun b => bits.all fun c => bits.all fun d => ([1, 2] : List Nat).all fun pl =>
    ((conts pl).all fun x => (conts pl).all fun y => decide (mergedM [a, b, c, d] pl x y y = y) && (!decide ([a, b, c, d] = [49, 49, 48, 48]) || decide (mergedM [a, b, c, d] pl x x y = y))) && decide (mergedM [a, b, c, d] pl [] [] [0] = if a = 49 then [0] else [])) = true := by decide +kernel
structure Says (T : List Nat) (pl : Nat) : Prop where
  alike : ∀ x ∈ conts pl, ∀ y ∈ conts pl, mergedM T pl x y y = y
  plain : T = [49, 49, 48, 48] → ∀ x ∈ conts pl, ∀ y ∈ conts pl, mergedM T pl x x y = y
  one : mergedM T pl [] [] [0] = if T.getD 0 0 = 49 then [0] else []
theorem says {z : Str} {pl : Nat} (h : Tab z) (h1 : 1 ≤ pl) (h2 : pl ≤ 2) : Says z.cps.toList pl := by
  obtain ⟨a, b, c, d, e, ha, hb, hc, hd⟩ := tab_split h
  rw [e]
  have z5 := List.all_eq_true.mp (List.all_eq_true.mp (List.all_eq_true.mp (List.all_eq_true.mp (List.all_eq_true.mp all_merges a ha) b hb) c hc) d hd) pl (by simp; omega)
  rw [Bool.and_eq_true] at z5
  obtain ⟨z6, z7⟩ := z5
  have z8 := fun x (hx : x ∈ conts pl) y (hy : y ∈ conts pl) => List.all_eq_true.mp (List.all_eq_true.mp z6 x hx) y hy
  refine ⟨fun x hx y hy => ?_, fun ht x hx y hy => ?_, ?_⟩
  · have z9 := z8 x hx y hy
    rw [Bool.and_eq_true] at z9
    exact of_decide_eq_true z9.1
  · have z9 := z8 x hx y hy
    rw [Bool.and_eq_true, Bool.or_eq_true] at z9
    rcases z9.2 with w | w
    · rw [decide_eq_true ht] at w
      cases w
    · exact of_decide_eq_true w
  · have z9 := of_decide_eq_true z7
    rw [z9]
    rfl
abbrev sLaw8 : Stmt := top 29
theorem scLaw : FnScope ["_law_script", "_law_bag", "_law_ground_here", "_law_shape_here", "_law_some", "_law_base_z", "_law_ours_z", "_law_theirs_z", "_law_found"] ["_law_script"] (defScope sLaw8) := ⟨rfl, rfl, rfl, by decide +kernel, rfl, by decide +kernel, by decide +kernel⟩
theorem dle_dat {cs : List Nat} (h : cs.length ≤ 1000) : DLe 1 (dat cs) := .tup (by rw [List.length_map]; exact h) fun d hd => by
  obtain ⟨n, _, rfl⟩ := List.mem_map.mp hd
  exact .int _
section
variable {P : Program} {w : World} {K : PySem.W.Frag} {mg : Str → Option Value} {base : Heap} {C aB : Addr} {mc : Value}
def spLaw (K : PySem.W.Frag) : Sp := fun vs H Q _ => ∃ (a : Addr) (ns : List Int), vs = [.ref a] ∧ SqL K H a (ns.map V.int) ∧ ns.length ≤ 63 ∧ ∀ H', Q (.bl true) H'
theorem ok_law {f fO fG fS fM fL fD : Addr} {fd fdO fdG fdS fdM fdL fdD : FuncData} {k : Nat} (F : Fun K "law" "law" sLaw8 f fd) (S : ShT K mg C mc aB)
    (GO : FnOk P w K mg base CX0 (k + 1) fO fdO ["_law_script"] (spOpened K)) (kO : PySem.W.keepIn K (.ref fO) = true) (bO : Binds K fdO ["_law_script"] []) (gO : mg "_law_opened" = some (.ref fO))
    (GG : FnOk P w K mg base CX0 (k + 4) fG fdG ["_law_bag", "_law_most"] spGround) (kG : PySem.W.keepIn K (.ref fG) = true) (bG : Binds K fdG ["_law_bag", "_law_most"] []) (gG : mg "_law_ground" = some (.ref fG))
    (GS : FnOk P w K mg base CX0 (k + 5) fS fdS ["_law_ground_here"] (spShape C)) (kS : PySem.W.keepIn K (.ref fS) = true) (bS : Binds K fdS ["_law_ground_here"] []) (gS : mg "_law_shape" = some (.ref fS))
    (GM : FnOk P w K mg base CX0 (k + 2) fM fdM ["self", "base", "ours", "theirs"] (spMerged C)) (bM : Binds K fdM ["self", "base", "ours", "theirs"] []) (mM : Meth K C "merged" fM) (kB : KBinds K fdM ["self", "base", "ours", "theirs"] (["theirs", "base", "ours"] : List Str) reM reM)
    (GL : FnOk P w K mg base CX0 (k + 2) fL fdL ["_law_found", "_law_due"] (spLike K 1)) (kL : PySem.W.keepIn K (.ref fL) = true) (bL : Binds K fdL ["_law_found", "_law_due"] []) (gL : mg "_law_like" = some (.ref fL))
    (GD : FnOk P w K mg base CX0 (k + 1) fD fdD ["_law_ground_here", "_law_base_z", "_law_ours_z", "_law_theirs_z"] spDue) (kD : PySem.W.keepIn K (.ref fD) = true) (bD : Binds K fdD ["_law_ground_here", "_law_base_z", "_law_ours_z", "_law_theirs_z"] []) (gD : mg "_law_merged" = some (.ref fD)) :
    FnOk P w K mg base CX0 (k + 6) f fd ["_law_script"] (spLaw K) := by
  refine F.ok scLaw (fun vs H Q E h => ?_) (fun cdv A outer s H vs Q E hr h => ?_)
  · obtain ⟨a, ns, rfl, _⟩ := h
    rfl
  · obtain ⟨a, ns, rfl, hS, hlen, q⟩ := h
    have hr1 : Room (k + 1) _ := hr.mono (by omega)
    have hr2 : Room (k + 2) _ := hr.mono (by omega)
    have hr4 : Room (k + 4) _ := hr.mono (by omega)
    refine ⟨_, pss_cons (ps_set (i := 1) scLaw.nd rfl (.inl rfl) (pe_call GO hr1 (by rfl) gO kO bO .nil pass0 (pa_cons (pv 0) pa_nil)))
      (pss_cons (ps_set (i := 2) scLaw.nd rfl (.inl rfl) (pe_call GG hr4 (by rfl) gG kG bG .nil pass0 (pa_cons (pv 1) (pa_cons pe_int pa_nil))))
      (C8.pss_cut (ps_par (i := 3) (j := 4) rfl scLaw.nd rfl rfl (by decide) rfl rfl (pa_cons (pe_call GS hr (by rfl) gS kS bS .nil pass0 (pa_cons (pv 2) pa_nil)) (pa_cons (pe_op op_cat (pe_lst (pa_cons (pe_tup pa_nil) (pa_cons (pe_tup (pa_cons pe_int pa_nil)) pa_nil))) (pe_ifExp (pt_cmpR op_eq (pe_ix ix_tup (pv 2) pe_int (fun _ _ => rfl)) pe_int (nomark _)) (pe_lst (pa_cons (pe_tup (pa_cons pe_int pa_nil)) (pa_cons (pe_tup (pa_cons pe_int (pa_cons pe_int pa_nil))) pa_nil))) (pe_lst pa_nil))) pa_nil)) (by rfl))
      (pss_cons (ps_for PassesOwn.never rfl (pi_list (pv 4)) (pg_name (i := 5) scLaw.nd rfl (.inl rfl)) (pss_one (ps_for PassesOwn.never rfl (pi_list (pv 4)) (pg_name (i := 6) scLaw.nd rfl (.inl rfl)) (pss_one (ps_for PassesOwn.never rfl (pi_list (pv 4)) (pg_name (i := 7) scLaw.nd rfl (.inl rfl)) (pss_cons (ps_set (i := 8) scLaw.nd rfl (.inl rfl) (pe_meth (pv 3) S.cl mM GM hr2 bM .nil pass0 (pa_cons (pv 5) (pa_cons (pv 6) (pa_cons (pv 7) pa_nil)))))
      (pss_cons (ps_if (pt_not (pt_val (pe_call GL hr2 (by rfl) gL kL bL .nil pass0 (pa_cons (pv 8) (pa_cons (pe_call GD hr1 (by rfl) gD kD bD .nil pass0 (pa_cons (pv 2) (pa_cons (pv 5) (pa_cons (pv 6) (pa_cons (pv 7) pa_nil))))) pa_nil))))) (pss_one (ps_ret pe_bl)) pss_nil)
      (pss_one (ps_if (PW.pt (pw_or (PW.pt (pw_and (pt_cmpR (op_eqD hr.units) (pv 6) (pv 7) (nomark _)) (pw_and1 (pt_cmpR (op_neD hr.units) (pv 8) (pv 6) (nomark _))))) (pw_or1 (PW.pt (pw_and (pt_cmpR op_eq (pe_ix ix_tup (pv 2) pe_int (fun _ _ => rfl)) pe_str (nomark _)) (pw_and (pt_cmpR (op_eqD hr.units) (pv 5) (pv 6) (nomark _)) (pw_and1 (pt_cmpR (op_neD hr.units) (pv 8) (pv 7) (nomark _))))))))) (pss_one (ps_ret pe_bl)) pss_nil)))))))))
      (pss_one (ps_ret (pe_call GL hr2 (by rfl) gL kL bL .nil pass0 (pa_cons (pe_methK0 (pv 3) S.cl mM GM hr2 kB pass0 (pk_cons (pe_tup (pa_cons pe_int pa_nil)) (pk_cons (pe_tup pa_nil) (pk_cons (pe_tup pa_nil) pk_nil)))) (pa_cons (pe_ifExp (pt_cmpR op_eq (pe_ix ix_str (pe_ix ix_tup (pv 2) pe_int (fun _ _ => rfl)) pe_int (fun _ _ => rfl)) pe_str (nomark _)) (pe_tup (pa_cons pe_int pa_nil)) (pe_tup pa_nil)) pa_nil)))))))), ?_⟩
    -- the draws
    refine ⟨.ref a, rfl, a, ns, rfl, hS, hlen, fun H1 b c nb nc s1 B1 => ?_⟩
    refine ⟨.ref b, rfl, b, c, 2, rfl, B1, by decide, by decide, fun H2 g n zs pl tb wd ng nn gn bt B2 zl G => ?_⟩
    have g1 := G.p1
    have g2 := G.p2
    refine ⟨fun σ H => ∃ (x p l : Addr), σ = [some (.ref a), some (.ref b), some (.ref g), some (.ref x), some (.ref l), none, none, none, none] ∧ H g = some (.tup [.ref n, .int pl, .str tb, .str wd]) ∧ ShapeAt C H x p zs pl tb wd ∧ Conts H l pl, ?_, ?_⟩
    · refine ⟨.ref g, rfl, g, n, zs, pl, tb, wd, rfl, G, fun H3 x p nx s3 SA => ?_⟩
      refine ⟨Nat.zero_le _, fun r0 n0 => ⟨by show 1 ≤ sizeLine; decide, fun r1 n1 => ⟨by show 2 ≤ sizeLine; decide, fun la nla => ?_⟩⟩⟩
      have t0 := same_upd (o := .tup []) n0
      have t1 := same_upd (o := .tup [V.int 0]) n1
      have t2 := same_upd (o := .lst [V.ref r0, V.ref r1]) nla
      have s4 := (t0.trans t1).trans t2
      have hg := s4 _ _ (s3 _ _ G.gt)
      have h0 := (t1.trans t2) r0 _ upd_same
      have h1 := t2 r1 _ upd_same
      refine ⟨.ref g, rfl, g, _, 1, .int pl, rfl, rfl, .of hg, atI_nat (j := 1) rfl, rfl, _, rfl, ite2 (fun e => ?_) (fun e => ?_)⟩
      · have p2 : pl = 2 := by
          have z : V.int (pl : Nat) = V.int 2 := of_decide_eq_true e
          have z2 := V.int.inj z
          omega
        refine ⟨by show 1 ≤ sizeLine; decide, fun r2 n2 => ⟨by show 2 ≤ sizeLine; decide, fun r3 n3 => ⟨by show 2 ≤ sizeLine; decide, fun lb nlb => ?_⟩⟩⟩
        have t3 := same_upd (o := .tup [V.int 1]) n2
        have t4 := same_upd (o := .tup [V.int 0, V.int 1]) n3
        have t5 := same_upd (o := .lst [V.ref r2, V.ref r3]) nlb
        have s5 := (t3.trans t4).trans t5
        refine ⟨la, lb, [V.ref r0, V.ref r1], [V.ref r2, V.ref r3], rfl, rfl, s5 _ _ upd_same, upd_same, by show 4 ≤ sizeLine; decide, fun l nl => ?_⟩
        have t6 := same_upd (o := .lst ([V.ref r0, V.ref r1] ++ [V.ref r2, V.ref r3])) nl
        refine ⟨_, _, rfl, x, p, l, rfl, t6 _ _ (s5 _ _ hg), ((SA.same s4).same s5).same t6, [r0, r1, r2, r3], upd_same, by rw [p2]; rfl, fun i r cc hr hc => ?_⟩
        rw [p2] at hc
        match i with
        | 0 => cases hr; cases hc; exact t6 _ _ (s5 _ _ h0)
        | 1 => cases hr; cases hc; exact t6 _ _ (s5 _ _ h1)
        | 2 => cases hr; cases hc; exact t6 _ _ ((t4.trans t5) _ _ upd_same)
        | 3 => cases hr; cases hc; exact t6 _ _ (t5 _ _ upd_same)
        | i + 4 => cases hr
      · have p1 : pl = 1 := by
          have z : ¬ pl = 2 := fun z => e (by subst z; rfl)
          omega
        refine ⟨Nat.zero_le _, fun lb nlb => ?_⟩
        have t5 := same_upd (o := .lst []) nlb
        refine ⟨la, lb, [V.ref r0, V.ref r1], [], rfl, rfl, t5 _ _ upd_same, upd_same, by show 2 ≤ sizeLine; decide, fun l nl => ?_⟩
        have t6 := same_upd (o := .lst ([V.ref r0, V.ref r1] ++ [])) nl
        refine ⟨_, _, rfl, x, p, l, rfl, t6 _ _ (t5 _ _ hg), ((SA.same s4).same t5).same t6, [r0, r1], upd_same, by rw [p1]; rfl, fun i r cc hr hc => ?_⟩
        rw [p1] at hc
        match i with
        | 0 => cases hr; cases hc; exact t6 _ _ (t5 _ _ h0)
        | 1 => cases hr; cases hc; exact t6 _ _ (t5 _ _ h1)
        | i + 2 => cases hr
    · rintro σ H5 ⟨x, p, l, rfl, hg, SA, rs, hl, lrs, hrs⟩
      have tab := G.tb
      have W := says tab g1 g2
      obtain ⟨⟨dx, hx⟩, hp⟩ := id SA
      have nm : ∀ {H : Hp}, Same H5 H → ∃ ddx fs, H x = some (.ins C ddx fs) ∧ fs.lookup ("merged" : Str) = none := fun sm => ⟨dx, _, sm _ _ hx, sflds_no (by decide +kernel)⟩
      have item : ∀ {i : Nat} {y : V}, (rs.map V.ref)[i]? = some y → ∃ r cc, y = .ref r ∧ cc ∈ conts pl ∧ cc.length ≤ 2 ∧ H5 r = some (.tup (nvs cc)) := by
        intro i y hy
        rw [List.getElem?_map] at hy
        cases er : rs[i]? with
        | none => rw [er] at hy; cases hy
        | some r =>
          rw [er] at hy
          have li : i < rs.length := (List.getElem?_eq_some_iff.mp er).1
          have hc : (conts pl)[i]? = some (conts pl)[i] := List.getElem?_eq_getElem (by omega)
          exact ⟨r, _, (Option.some.inj hy).symm, List.mem_of_getElem? hc, conts_each (List.mem_of_getElem? hc), hrs i r _ er hc⟩
      refine ⟨.ref l, rfl, l, rfl, ⟨_, .of hl⟩, for_list (K := K) (a := l) (xs := rs.map V.ref) (fun i σ H => ∃ y5 y6 y7 y8, σ = [some (.ref a), some (.ref b), some (.ref g), some (.ref x), some (.ref l), y5, y6, y7, y8] ∧ Same H5 H)
        ⟨none, none, none, none, rfl, Same.refl _⟩ (fun i σ H _ ⟨_, _, _, _, _, sm⟩ => .of (sm _ _ hl)) ?_ ?_⟩
      · rintro i y σ H hi ⟨y5, y6, y7, y8, rfl, sm⟩
        obtain ⟨rb, cb, rfl, mb, lcb, hrb⟩ := item hi
        refine ⟨.ref l, rfl, l, rfl, ⟨_, .of (sm _ _ hl)⟩, for_list (K := K) (a := l) (xs := rs.map V.ref) (fun i σ H => ∃ y6 y7 y8, σ = [some (.ref a), some (.ref b), some (.ref g), some (.ref x), some (.ref l), some (.ref rb), y6, y7, y8] ∧ Same H5 H)
          ⟨y6, y7, y8, rfl, sm⟩ (fun i σ H _ ⟨_, _, _, _, sm⟩ => .of (sm _ _ hl)) ?_ ?_⟩
        · rintro j y σ H' hj ⟨y6, y7, y8, rfl, sm2⟩
          obtain ⟨ro, co, rfl, mo, lco, hro⟩ := item hj
          refine ⟨.ref l, rfl, l, rfl, ⟨_, .of (sm2 _ _ hl)⟩, for_list (K := K) (a := l) (xs := rs.map V.ref) (fun i σ H => ∃ y8 y7, σ = [some (.ref a), some (.ref b), some (.ref g), some (.ref x), some (.ref l), some (.ref rb), some (.ref ro), y7, y8] ∧ Same H5 H)
            ⟨y8, y7, rfl, sm2⟩ (fun i σ H _ ⟨_, _, _, sm⟩ => .of (sm _ _ hl)) ?_ ?_⟩
          · rintro k y σ H7 hk ⟨y8, y7, rfl, sm7⟩
            obtain ⟨rt, ct, rfl, mt, lct, hrt⟩ := item hk
            obtain ⟨ddx, fs, hxx, hno⟩ := nm sm7
            refine ⟨.ref x, rfl, x, ddx, fs, rfl, hxx, hno, .ref rb, rfl, .ref ro, rfl, .ref rt, rfl, x, p, rb, ro, rt, zs, pl, tb, wd, cb, co, ct, rfl, SA.same sm7, tab, g2, sm7 _ _ hrb, sm7 _ _ hro, sm7 _ _ hrt, fun H8 r8 _ s8 h8 => ?_⟩
            have sm8 := sm7.trans s8
            refine ⟨.ref r8, rfl, .ref g, rfl, .ref rb, rfl, .ref ro, rfl, .ref rt, rfl, g, n, rb, ro, rt, pl, tb, wd, cb, co, ct, rfl, sm8 _ _ hg, tab, g2, sm8 _ _ hrb, sm8 _ _ hro, sm8 _ _ hrt, fun H9 r9 s9 h9 => ?_⟩
            refine ⟨.ref r8, .ref r9, dat _, rfl, dp_nvs (s9 _ _ h8), dp_nvs h9, dle_dat (Nat.le_trans (merged_len g2) (by decide)), fun HX sX => ⟨true, rfl, iteF ?_⟩⟩
            have smX := (sm8.trans s9).trans sX
            have h8X := sX _ _ (s9 _ _ h8)
            -- ours == theirs and found != ours, or the plain table
            refine ⟨.ref ro, rfl, .ref rt, rfl, dat co, dat ct, dp_nvs (smX _ _ hro), dp_nvs (smX _ _ hrt), shaped_dat lco, shaped_dat lct, ?_⟩
            rw [eqv_dat]
            refine ⟨_, rfl, ?_⟩
            by_cases e1 : co = ct
            · rw [decide_eq_true e1]
              refine iteT ⟨.ref r8, rfl, .ref ro, rfl, dat _, dat co, dp_nvs h8X, dp_nvs (smX _ _ hro), shaped_dat (merged_len g2), shaped_dat lco, ?_⟩
              have eM : mergedM tb.cps.toList pl cb co ct = co := by rw [← e1]; exact W.alike cb mb co mo
              rw [eqv_dat, eM, decide_eq_true rfl]
              refine ⟨false, rfl, iteF ?_⟩
              refine ⟨.ref g, rfl, g, _, 2, .str tb, rfl, rfl, .of (smX _ _ hg), atI_nat (j := 2) rfl, rfl, _, rfl, ite2 (fun e => ?_) (fun e => ?_)⟩
              · have eT : tb.cps.toList = [49, 49, 48, 48] := by
                  have z : V.str tb = V.str "1100" := of_decide_eq_true e
                  rw [V.str.inj z]
                  decide +kernel
                refine ⟨.ref rb, rfl, .ref ro, rfl, dat cb, dat co, dp_nvs (smX _ _ hrb), dp_nvs (smX _ _ hro), shaped_dat lcb, shaped_dat lco, ?_⟩
                rw [eqv_dat]
                refine ⟨_, rfl, ?_⟩
                by_cases e2 : cb = co
                · rw [decide_eq_true e2]
                  refine iteT ⟨.ref r8, rfl, .ref rt, rfl, dat _, dat ct, dp_nvs h8X, dp_nvs (smX _ _ hrt), shaped_dat (merged_len g2), shaped_dat lct, ?_⟩
                  have eM : mergedM tb.cps.toList pl cb co ct = ct := by rw [← e2]; exact W.plain eT cb mb ct mt
                  rw [eqv_dat, eM, decide_eq_true rfl]
                  exact ⟨false, rfl, iteF ⟨some (.ref r8), some (.ref rt), rfl, smX⟩⟩
                · rw [decide_eq_false e2]
                  exact iteF (iteF ⟨some (.ref r8), some (.ref rt), rfl, smX⟩)
              · exact iteF ⟨some (.ref r8), some (.ref rt), rfl, smX⟩
            · rw [decide_eq_false e1]
              refine iteF (iteF ?_)
              refine ⟨.ref g, rfl, g, _, 2, .str tb, rfl, rfl, .of (smX _ _ hg), atI_nat (j := 2) rfl, rfl, _, rfl, ite2 (fun e => ?_) (fun e => ?_)⟩
              · have eT : tb.cps.toList = [49, 49, 48, 48] := by
                  have z : V.str tb = V.str "1100" := of_decide_eq_true e
                  rw [V.str.inj z]
                  decide +kernel
                refine ⟨.ref rb, rfl, .ref ro, rfl, dat cb, dat co, dp_nvs (smX _ _ hrb), dp_nvs (smX _ _ hro), shaped_dat lcb, shaped_dat lco, ?_⟩
                rw [eqv_dat]
                refine ⟨_, rfl, ?_⟩
                by_cases e2 : cb = co
                · rw [decide_eq_true e2]
                  refine iteT ⟨.ref r8, rfl, .ref rt, rfl, dat _, dat ct, dp_nvs h8X, dp_nvs (smX _ _ hrt), shaped_dat (merged_len g2), shaped_dat lct, ?_⟩
                  have eM : mergedM tb.cps.toList pl cb co ct = ct := by rw [← e2]; exact W.plain eT cb mb ct mt
                  rw [eqv_dat, eM, decide_eq_true rfl]
                  exact ⟨false, rfl, iteF ⟨some (.ref r8), some (.ref rt), rfl, smX⟩⟩
                · rw [decide_eq_false e2]
                  exact iteF (iteF ⟨some (.ref r8), some (.ref rt), rfl, smX⟩)
              · exact iteF ⟨some (.ref r8), some (.ref rt), rfl, smX⟩
          · rintro σ H7 ⟨y8, y7, rfl, sm7⟩
            exact ⟨some (.ref ro), y7, y8, rfl, sm7⟩
        · rintro σ H' ⟨y6, y7, y8, rfl, sm2⟩
          exact ⟨some (.ref rb), y6, y7, y8, rfl, sm2⟩
      · rintro σ H ⟨y5, y6, y7, y8, rfl, sm⟩
        -- the last call, by keywords
        obtain ⟨ddx, fs, hxx, hno⟩ := nm sm
        refine ⟨.ref x, rfl, x, ddx, fs, rfl, hxx, hno, by show 1 ≤ sizeLine; decide, fun kt nkt => ⟨Nat.zero_le _, fun kb nkb => ⟨Nat.zero_le _, fun ko nko => ?_⟩⟩⟩
        have t1 := same_upd (o := .tup [V.int 0]) nkt
        have t2 := same_upd (o := .tup []) nkb
        have t3 := same_upd (o := .tup []) nko
        have sm3 := ((sm.trans t1).trans t2).trans t3
        refine ⟨x, p, kb, ko, kt, zs, pl, tb, wd, [], [], [0], rfl, SA.same sm3, tab, g2, t3 _ _ upd_same, upd_same, t3 _ _ (t2 _ _ upd_same), fun H8 r8 _ s8 h8 => ?_⟩
        have sm8 := sm3.trans s8
        rw [W.one] at h8
        have tl := tab.len
        have zl : tb.length ≤ sizeLine := Nat.le_of_lt (small1000 (by rw [len_codes, tl]; decide))
        have at0 : tb.cps.toList[0]? = some (tb.cps.toList.getD 0 0) := by
          rw [List.getD_eq_getElem?_getD, List.getElem?_eq_getElem (by omega)]
          rfl
        refine ⟨.ref g, rfl, g, _, 2, .str tb, rfl, rfl, .of (sm8 _ _ hg), atI_nat (j := 2) rfl, tb, 0, _, rfl, rfl, zl, atI_nat (j := 0) at0, rfl, _, rfl, ite2 (fun e => ?_) (fun e => ?_)⟩
        · have e9 : tb.cps.toList.getD 0 0 = 49 := by
            have z := V.str.inj (of_decide_eq_true e)
            have e6 : ("1" : Str) = ⟨#[49]⟩ := by decide +kernel
            rw [e6] at z
            injection z with z2
            simpa using z2
          rw [if_pos e9] at h8
          refine ⟨by show 1 ≤ sizeLine; decide, fun y ny => ?_⟩
          have t9 := same_upd (o := .tup [V.int 0]) ny
          exact ⟨.ref r8, .ref y, dat [0], rfl, dp_nvs (t9 _ _ h8), dp_nvs upd_same, dle_dat (by decide), fun H' _ => q H'⟩
        · have e9 : ¬ tb.cps.toList.getD 0 0 = 49 := fun z => e (by
            have e6 : ("1" : Str) = ⟨#[49]⟩ := by decide +kernel
            rw [e6, z]
            exact decide_eq_true rfl)
          rw [if_neg e9] at h8
          refine ⟨Nat.zero_le _, fun y ny => ?_⟩
          have t9 := same_upd (o := .tup []) ny
          exact ⟨.ref r8, .ref y, dat [], rfl, dp_nvs (t9 _ _ h8), dp_nvs upd_same, dle_dat (by decide), fun H' _ => q H'⟩
end
end K8

namespace K8
open PySem PySem.Spec PyProof.Rows L2
theorem all_mk {l : PySem.W.OpenLaw} {w : World} {K : PySem.W.Frag} {h : Heap} {mg : Str → Option Value} {fa C aB f_opened f_pull f_any f_names f_word f_table f_ground f_shape f_num f_isn f_chk f_ist f_like f_due f_law f_init f_mer f_sta : Addr} (X : K.In h) (G : h.Ns mainGlobals mg) (hfa : mg "law" = some (.ref fa))
    {od_opened an_opened od_pull an_pull od_any an_any od_names an_names od_word an_word od_table an_table od_ground an_ground od_shape an_shape od_num an_num od_isn an_isn od_chk an_chk od_ist an_ist od_like an_like od_due an_due od_law an_law od_init an_init od_mer an_mer od_sta an_sta odB : Option Addr} {sl_opened sl_pull sl_any sl_names sl_word sl_table sl_ground sl_shape sl_num sl_isn sl_chk sl_ist sl_like sl_due sl_law sl_init sl_mer sl_sta slB : Array (Option Value)} {oc_opened kV_opened dc_opened pm_opened cd_opened ct_opened oc_pull kV_pull dc_pull pm_pull cd_pull ct_pull oc_any kV_any dc_any pm_any cd_any ct_any oc_names kV_names dc_names pm_names cd_names ct_names oc_word kV_word dc_word pm_word cd_word ct_word oc_table kV_table dc_table pm_table cd_table ct_table oc_ground kV_ground dc_ground pm_ground cd_ground ct_ground oc_shape kV_shape dc_shape pm_shape cd_shape ct_shape oc_num kV_num dc_num pm_num cd_num ct_num oc_isn kV_isn dc_isn pm_isn cd_isn ct_isn oc_chk kV_chk dc_chk pm_chk cd_chk ct_chk oc_ist kV_ist dc_ist pm_ist cd_ist ct_ist oc_like kV_like dc_like pm_like cd_like ct_like oc_due kV_due dc_due pm_due cd_due ct_due oc_law kV_law dc_law pm_law cd_law ct_law oc_init kV_init dc_init pm_init cd_init ct_init oc_mer kV_mer dc_mer pm_mer cd_mer ct_mer oc_sta kV_sta dc_sta pm_sta cd_sta ct_sta : Value} {u0 u1 u2 u3 u4 : Tok} {nB : Nat}
    (a_opened : PySem.W.nsIn K mainGlobals "_law_opened" = some (some (.ref f_opened))) (l_opened : K.lookup f_opened = some ⟨oc_opened, od_opened, .func (PySem.W.fnOf "_law_opened" "_law_opened" (defArgs sOpened) (defBody sOpened) (defScope sOpened) .none kV_opened dc_opened pm_opened an_opened cd_opened ct_opened), sl_opened⟩) (c_opened : PySem.W.codeIn K cd_opened "_law_opened" = true) (k_opened : PySem.W.keepIn K (.ref f_opened) = true)
    (a_pull : PySem.W.nsIn K mainGlobals "_law_pull" = some (some (.ref f_pull))) (l_pull : K.lookup f_pull = some ⟨oc_pull, od_pull, .func (PySem.W.fnOf "_law_pull" "_law_pull" (defArgs sPull) (defBody sPull) (defScope sPull) .none kV_pull dc_pull pm_pull an_pull cd_pull ct_pull), sl_pull⟩) (c_pull : PySem.W.codeIn K cd_pull "_law_pull" = true) (k_pull : PySem.W.keepIn K (.ref f_pull) = true)
    (a_any : PySem.W.nsIn K mainGlobals "_law_any" = some (some (.ref f_any))) (l_any : K.lookup f_any = some ⟨oc_any, od_any, .func (PySem.W.fnOf "_law_any" "_law_any" (defArgs sAny) (defBody sAny) (defScope sAny) .none kV_any dc_any pm_any an_any cd_any ct_any), sl_any⟩) (c_any : PySem.W.codeIn K cd_any "_law_any" = true) (k_any : PySem.W.keepIn K (.ref f_any) = true)
    (a_names : PySem.W.nsIn K mainGlobals "_law_names" = some (some (.ref f_names))) (l_names : K.lookup f_names = some ⟨oc_names, od_names, .func (PySem.W.fnOf "_law_names" "_law_names" (defArgs sNames) (defBody sNames) (defScope sNames) .none kV_names dc_names pm_names an_names cd_names ct_names), sl_names⟩) (c_names : PySem.W.codeIn K cd_names "_law_names" = true) (k_names : PySem.W.keepIn K (.ref f_names) = true)
    (a_word : PySem.W.nsIn K mainGlobals "_law_bases_word" = some (some (.ref f_word))) (l_word : K.lookup f_word = some ⟨oc_word, od_word, .func (PySem.W.fnOf "_law_bases_word" "_law_bases_word" (defArgs sWord) (defBody sWord) (defScope sWord) .none kV_word dc_word pm_word an_word cd_word ct_word), sl_word⟩) (c_word : PySem.W.codeIn K cd_word "_law_bases_word" = true) (k_word : PySem.W.keepIn K (.ref f_word) = true)
    (a_table : PySem.W.nsIn K mainGlobals "_law_table" = some (some (.ref f_table))) (l_table : K.lookup f_table = some ⟨oc_table, od_table, .func (PySem.W.fnOf "_law_table" "_law_table" (defArgs sTable) (defBody sTable) (defScope sTable) .none kV_table dc_table pm_table an_table cd_table ct_table), sl_table⟩) (c_table : PySem.W.codeIn K cd_table "_law_table" = true) (k_table : PySem.W.keepIn K (.ref f_table) = true)
    (a_ground : PySem.W.nsIn K mainGlobals "_law_ground" = some (some (.ref f_ground))) (l_ground : K.lookup f_ground = some ⟨oc_ground, od_ground, .func (PySem.W.fnOf "_law_ground" "_law_ground" (defArgs sGround) (defBody sGround) (defScope sGround) .none kV_ground dc_ground pm_ground an_ground cd_ground ct_ground), sl_ground⟩) (c_ground : PySem.W.codeIn K cd_ground "_law_ground" = true) (k_ground : PySem.W.keepIn K (.ref f_ground) = true)
    (a_shape : PySem.W.nsIn K mainGlobals "_law_shape" = some (some (.ref f_shape))) (l_shape : K.lookup f_shape = some ⟨oc_shape, od_shape, .func (PySem.W.fnOf "_law_shape" "_law_shape" (defArgs sShape) (defBody sShape) (defScope sShape) .none kV_shape dc_shape pm_shape an_shape cd_shape ct_shape), sl_shape⟩) (c_shape : PySem.W.codeIn K cd_shape "_law_shape" = true) (k_shape : PySem.W.keepIn K (.ref f_shape) = true)
    (a_num : PySem.W.nsIn K mainGlobals "is_number" = some (some (.ref f_num))) (l_num : K.lookup f_num = some ⟨oc_num, od_num, .func (PySem.W.fnOf "is_number" "is_number" (defArgs sNum) (defBody sNum) (defScope sNum) .none kV_num dc_num pm_num an_num cd_num ct_num), sl_num⟩) (c_num : PySem.W.codeIn K cd_num "is_number" = true) (k_num : PySem.W.keepIn K (.ref f_num) = true)
    (a_isn : PySem.W.nsIn K mainGlobals "is_name" = some (some (.ref f_isn))) (l_isn : K.lookup f_isn = some ⟨oc_isn, od_isn, .func (PySem.W.fnOf "is_name" "is_name" (defArgs sIsName) (defBody sIsName) (defScope sIsName) .none kV_isn dc_isn pm_isn an_isn cd_isn ct_isn), sl_isn⟩) (c_isn : PySem.W.codeIn K cd_isn "is_name" = true) (k_isn : PySem.W.keepIn K (.ref f_isn) = true)
    (a_chk : PySem.W.nsIn K mainGlobals "_check_branches" = some (some (.ref f_chk))) (l_chk : K.lookup f_chk = some ⟨oc_chk, od_chk, .func (PySem.W.fnOf "_check_branches" "_check_branches" (defArgs sCheck) (defBody sCheck) (defScope sCheck) .none kV_chk dc_chk pm_chk an_chk cd_chk ct_chk), sl_chk⟩) (c_chk : PySem.W.codeIn K cd_chk "_check_branches" = true) (k_chk : PySem.W.keepIn K (.ref f_chk) = true)
    (a_ist : PySem.W.nsIn K mainGlobals "_is_table" = some (some (.ref f_ist))) (l_ist : K.lookup f_ist = some ⟨oc_ist, od_ist, .func (PySem.W.fnOf "_is_table" "_is_table" (defArgs sIsTab) (defBody sIsTab) (defScope sIsTab) .none kV_ist dc_ist pm_ist an_ist cd_ist ct_ist), sl_ist⟩) (c_ist : PySem.W.codeIn K cd_ist "_is_table" = true) (k_ist : PySem.W.keepIn K (.ref f_ist) = true)
    (a_like : PySem.W.nsIn K mainGlobals "_law_like" = some (some (.ref f_like))) (l_like : K.lookup f_like = some ⟨oc_like, od_like, .func (PySem.W.fnOf "_law_like" "_law_like" (defArgs sLike) (defBody sLike) (defScope sLike) .none kV_like dc_like pm_like an_like cd_like ct_like), sl_like⟩) (c_like : PySem.W.codeIn K cd_like "_law_like" = true) (k_like : PySem.W.keepIn K (.ref f_like) = true)
    (a_due : PySem.W.nsIn K mainGlobals "_law_merged" = some (some (.ref f_due))) (l_due : K.lookup f_due = some ⟨oc_due, od_due, .func (PySem.W.fnOf "_law_merged" "_law_merged" (defArgs sDue) (defBody sDue) (defScope sDue) .none kV_due dc_due pm_due an_due cd_due ct_due), sl_due⟩) (c_due : PySem.W.codeIn K cd_due "_law_merged" = true) (k_due : PySem.W.keepIn K (.ref f_due) = true)
    (a_law : PySem.W.nsIn K mainGlobals "law" = some (some (.ref f_law))) (l_law : K.lookup f_law = some ⟨oc_law, od_law, .func (PySem.W.fnOf "law" "law" (defArgs sLaw8) (defBody sLaw8) (defScope sLaw8) .none kV_law dc_law pm_law an_law cd_law ct_law), sl_law⟩) (c_law : PySem.W.codeIn K cd_law "law" = true) (k_law : PySem.W.keepIn K (.ref f_law) = true)
    (a_init : PySem.W.findIn K (.ref C) "__init__" = some (some (.ref f_init))) (i_init : PySem.W.isFn K (.ref f_init) = true) (l_init : K.lookup f_init = some ⟨oc_init, od_init, .func (PySem.W.fnOf "__init__" "Shape.__init__" (defArgs sInit) (defBody sInit) (defScope sInit) .none kV_init dc_init pm_init an_init cd_init ct_init), sl_init⟩) (c_init : PySem.W.codeIn K cd_init "Shape.__init__" = true) (k_init : PySem.W.keepIn K (.ref f_init) = true)
    (a_mer : PySem.W.findIn K (.ref C) "merged" = some (some (.ref f_mer))) (i_mer : PySem.W.isFn K (.ref f_mer) = true) (l_mer : K.lookup f_mer = some ⟨oc_mer, od_mer, .func (PySem.W.fnOf "merged" "Shape.merged" (defArgs sMerged) (defBody sMerged) (defScope sMerged) .none kV_mer dc_mer pm_mer an_mer cd_mer ct_mer), sl_mer⟩) (c_mer : PySem.W.codeIn K cd_mer "Shape.merged" = true) (k_mer : PySem.W.keepIn K (.ref f_mer) = true)
    (a_sta : PySem.W.findIn K (.ref C) "_stands" = some (some (.ref f_sta))) (i_sta : PySem.W.isFn K (.ref f_sta) = true) (l_sta : K.lookup f_sta = some ⟨oc_sta, od_sta, .func (PySem.W.fnOf "_stands" "Shape._stands" (defArgs sStands) (defBody sStands) (defScope sStands) .none kV_sta dc_sta pm_sta an_sta cd_sta ct_sta), sl_sta⟩) (c_sta : PySem.W.codeIn K cd_sta "Shape._stands" = true) (k_sta : PySem.W.keepIn K (.ref f_sta) = true)
    (aC : PySem.W.nsIn K mainGlobals "Shape" = some (some (.ref C)))
    (pg : PySem.W.plainGet K C Str.empty = true)
    (hd : PySem.W.hasDictIn K C = true)
    (po : PySem.W.plainOver K C = true)
    (sa : PySem.W.findIn K (.ref C) "__setattr__" = some (some (.builtin "object.__setattr__")))
    (mk : PySem.W.makesIn K C = true)
    (kc : PySem.W.keepIn K (.ref C) = true)
    (rd : PySem.W.readsIn K C (.type "type") = true)
    (ga : PySem.W.specialIn K (.ref C) "__getattribute__" = some (some (.builtin "type.__getattribute__")))
    (vB : PySem.W.findCls K (.ref C) (.type "type") "BASES" = some (.val (.ref aB)))
    (lB : K.lookup aB = some ⟨.type "tuple", odB, .seq #[.str "newest" u0, .str "eldest" u1, .str "any" u2, .str "every" u3, .str "refuse" u4] nB, slB⟩)
    (n1 : PySem.W.findIn K (.ref C) "_branches" = some none)
    (n2 : PySem.W.findIn K (.ref C) "_places" = some none)
    (n3 : PySem.W.findIn K (.ref C) "_table" = some none)
    (n4 : PySem.W.findIn K (.ref C) "_bases" = some none)
    (n5 : PySem.W.findIn K (.ref C) "_text" = some none)
    (z_list : PySem.W.nsIn K mainGlobals "list" = some none)
    (z_len : PySem.W.nsIn K mainGlobals "len" = some none)
    (z_int : PySem.W.nsIn K mainGlobals "int" = some none)
    (z_range : PySem.W.nsIn K mainGlobals "range" = some none)
    (z_tuple : PySem.W.nsIn K mainGlobals "tuple" = some none)
    (z_bool : PySem.W.nsIn K mainGlobals "bool" = some none)
    (z_str : PySem.W.nsIn K mainGlobals "str" = some none)
    (z_isinstance : PySem.W.nsIn K mainGlobals "isinstance" = some none)
    (z_all : PySem.W.nsIn K mainGlobals "all" = some none)
    (z_enumerate : PySem.W.nsIn K mainGlobals "enumerate" = some none) :
    ∃ fd : FuncData, (∀ (s : Shared) (v : Value), BindsTo s fd ⟨[v], []⟩ [("_law_script", v)]) ∧ ∀ base : Heap, K.In base → base.Ns mainGlobals mg → FnOk l.prog w K mg base CX0 6 fa fd ["_law_script"] (spLaw K) := by
  have e := hfa.symm.trans (PySem.W.mg_of X G a_law)
  cases e
  have F_opened := fun_mk (st := sOpened) l_opened c_opened k_opened
  have F_pull := fun_mk (st := sPull) l_pull c_pull k_pull
  have F_any := fun_mk (st := sAny) l_any c_any k_any
  have F_names := fun_mk (st := sNames) l_names c_names k_names
  have F_word := fun_mk (st := sWord) l_word c_word k_word
  have F_table := fun_mk (st := sTable) l_table c_table k_table
  have F_ground := fun_mk (st := sGround) l_ground c_ground k_ground
  have F_shape := fun_mk (st := sShape) l_shape c_shape k_shape
  have F_num := fun_mk (st := sNum) l_num c_num k_num
  have F_isn := fun_mk (st := sIsName) l_isn c_isn k_isn
  have F_chk := fun_mk (st := sCheck) l_chk c_chk k_chk
  have F_ist := fun_mk (st := sIsTab) l_ist c_ist k_ist
  have F_like := fun_mk (st := sLike) l_like c_like k_like
  have F_due := fun_mk (st := sDue) l_due c_due k_due
  have F_law := fun_mk (st := sLaw8) l_law c_law k_law
  have F_init := fun_mk (st := sInit) l_init c_init k_init
  have F_mer := fun_mk (st := sMerged) l_mer c_mer k_mer
  have F_sta := fun_mk (st := sStands) l_sta c_sta k_sta
  have b_opened := F_opened.binds (ps := ["_law_script"]) fun _ _ _ _ _ _ us hl => match us, hl with | [_], _ => rfl
  have b_pull := F_pull.binds (ps := ["_law_bag", "_law_many"]) fun _ _ _ _ _ _ us hl => match us, hl with | [_, _], _ => rfl
  have b_any := F_any.binds (ps := ["_law_bag", "_law_things"]) fun _ _ _ _ _ _ us hl => match us, hl with | [_, _], _ => rfl
  have b_names := F_names.binds (ps := ["_law_bag", "_law_many"]) fun _ _ _ _ _ _ us hl => match us, hl with | [_, _], _ => rfl
  have b_word := F_word.binds (ps := ["_law_bag"]) fun _ _ _ _ _ _ us hl => match us, hl with | [_], _ => rfl
  have b_table := F_table.binds (ps := ["_law_bag"]) fun _ _ _ _ _ _ us hl => match us, hl with | [_], _ => rfl
  have b_ground := F_ground.binds (ps := ["_law_bag", "_law_most"]) fun _ _ _ _ _ _ us hl => match us, hl with | [_, _], _ => rfl
  have b_shape := F_shape.binds (ps := ["_law_ground_here"]) fun _ _ _ _ _ _ us hl => match us, hl with | [_], _ => rfl
  have b_num := F_num.binds (ps := ["value"]) fun _ _ _ _ _ _ us hl => match us, hl with | [_], _ => rfl
  have b_isn := F_isn.binds (ps := ["value"]) fun _ _ _ _ _ _ us hl => match us, hl with | [_], _ => rfl
  have b_chk := F_chk.binds (ps := ["branches"]) fun _ _ _ _ _ _ us hl => match us, hl with | [_], _ => rfl
  have b_ist := F_ist.binds (ps := ["value"]) fun _ _ _ _ _ _ us hl => match us, hl with | [_], _ => rfl
  have b_like := F_like.binds (ps := ["_law_found", "_law_due"]) fun _ _ _ _ _ _ us hl => match us, hl with | [_, _], _ => rfl
  have b_due := F_due.binds (ps := ["_law_ground_here", "_law_base_z", "_law_ours_z", "_law_theirs_z"]) fun _ _ _ _ _ _ us hl => match us, hl with | [_, _, _, _], _ => rfl
  have b_law := F_law.binds (ps := ["_law_script"]) fun _ _ _ _ _ _ us hl => match us, hl with | [_], _ => rfl
  have b_mer := F_mer.binds (ps := ["self", "base", "ours", "theirs"]) fun _ _ _ _ _ _ us hl => match us, hl with | [_, _, _, _], _ => rfl
  have b_sta := F_sta.binds (ps := ["self", "place", "base", "ours", "theirs"]) fun _ _ _ _ _ _ us hl => match us, hl with | [_, _, _, _, _], _ => rfl
  have mb : ∀ {x : Str}, PySem.W.nsIn K mainGlobals x = some none → mg x = none := fun z => PySem.W.mg_none_of X G z
  have mf : ∀ {x : Str} {v : Value}, PySem.W.nsIn K mainGlobals x = some (some v) → mg x = some v := fun z => PySem.W.mg_of X G z
  have T : Blt mg := ⟨mb z_int, mb z_bool, mb z_str, mb z_isinstance, mb z_len, mb z_all, mb z_range, mb z_tuple, mb z_enumerate⟩
  have tB : ∀ H, SqT K H aB (basesL.map V.str) := fun H => .inr ⟨_, _, _, lB, rfl, rfl, by show 5 ≤ sizeLine; decide, .cons ⟨_, rfl⟩ (.cons ⟨_, rfl⟩ (.cons ⟨_, rfl⟩ (.cons ⟨_, rfl⟩ (.cons ⟨_, rfl⟩ .nil))))⟩
  have S : ShT K mg C (.type "type") aB := ⟨⟨pg, hd, po, sa⟩, n1, n2, n3, n4, n5, mf aC, ⟨rd, ga⟩, ⟨vB, rfl⟩, tB⟩
  have Pr : Pre K mg f_pull f_any _ _ := ⟨F_pull, b_pull, mf a_pull, F_any, b_any, mf a_any, mb z_len, mb z_int, mb z_range, mb z_tuple⟩
  refine ⟨PySem.W.fnOf "law" "law" (defArgs sLaw8) (defBody sLaw8) (defScope sLaw8) .none kV_law dc_law pm_law an_law cd_law ct_law, fun s v => .of_eq rfl, fun base _ _ => ?_⟩
  have GK : FnOk l.prog w K mg base CX0 2 f_chk _ ["branches"] (spCheck K) := ok_check F_chk T F_isn b_isn (mf a_isn)
  have GN : FnOk l.prog w K mg base CX0 1 f_num _ ["value"] spNum := ok_num F_num T
  have GT : FnOk l.prog w K mg base CX0 1 f_ist _ ["value"] spIsTab := ok_istab F_ist T
  have body := fun (cdv : Value) (A : Around) (outer : List Env) (s : Shared) (H : Hp) (vs : List V) (Q : VK) (E : XK) (hr : Room 2 (A.deeper (envOfC "Shape.__init__" (defScope sInit) s.heap.objs.size f_init cdv))) (h : spInit C vs H Q E) =>
    body_init (k := 0) (P := l.prog) (w := w) (base := base) T S GK k_chk b_chk (mf a_chk) GN k_num b_num (mf a_num) GT k_ist b_ist (mf a_ist) (f := f_init) cdv A outer s H vs Q E hr h
  have M : MkT l.prog w K mg base C f_init 3 :=
    ⟨⟨mk, a_init, i_init, kc⟩, mf aC,
     fnS_of (gv := fun a b c => [a, b, c]) F_init (fun r1 r2 r3 => .cons r1 (.cons r2 (.cons r3 .nil))) (fun _ _ _ => rfl) (fun kV doc pm an cdv ct u a b c us hl => bindA kV doc pm an cdv ct u a b c us hl) body,
     fnS_of (gv := fun a b c => [c, b, a]) F_init (fun r1 r2 r3 => .cons r3 (.cons r2 (.cons r1 .nil))) (fun _ _ _ => rfl) (fun kV doc pm an cdv ct u a b c us hl => bindB kV doc pm an cdv ct u c b a us hl) body⟩
  exact ok_law F_law S (ok_opened (k := 0) F_opened (mb z_list)) k_opened b_opened (mf a_opened)
    (ok_ground (k := 0) F_ground Pr F_names b_names (mf a_names) F_table b_table (mf a_table) F_word b_word (mf a_word)) k_ground b_ground (mf a_ground)
    (ok_shape F_shape T M) k_shape b_shape (mf a_shape) (ok_merged (k := 0) F_mer T S F_sta b_sta ⟨a_sta, i_sta, k_sta⟩) b_mer ⟨a_mer, i_mer, k_mer⟩ (kb_merged F_mer)
    (ok_like F_like T (mb z_list) b_like (mf a_like) 1) k_like b_like (mf a_like) (ok_due (k := 0) F_due T) k_due b_due (mf a_due)
end K8

open PySem PySem.W PyProof.Rows
set_option maxRecDepth 100000 in
set_option maxHeartbeats 0 in
theorem PySem.Challenge.cw_stillmeant_k08_contents_merged_holds : PySem.Challenge.rw_stillmeant_k08_contents_merged.Holds := by
  w_on; o_law; k_head; (case hw => w_witness2)
  k_fill
  refine L2.walk_of (l := PySem.Challenge.rw_stillmeant_k08_contents_merged) (n := 63) (k := 6) (x := "_law_script") (CX := fun _ => L2.CX0) (sp := fun w => K8.spLaw _) rfl (by decide) rfl ⟨rfl, by decide, by decide⟩ (fun w h Y => PySem.W.kIn_of Y) ?F (fun _ _ a ns hl _ hS => ⟨a, ns, rfl, hS, hl, fun _ => rfl⟩) (fun _ _ _ _ _ h => h)
  case F =>
    intro w mg fa h KX G hmg
    refine' K8.all_mk KX G hmg ?a_opened ?l_opened ?c_opened ?k_opened ?a_pull ?l_pull ?c_pull ?k_pull ?a_any ?l_any ?c_any ?k_any ?a_names ?l_names ?c_names ?k_names ?a_word ?l_word ?c_word ?k_word ?a_table ?l_table ?c_table ?k_table ?a_ground ?l_ground ?c_ground ?k_ground ?a_shape ?l_shape ?c_shape ?k_shape ?a_num ?l_num ?c_num ?k_num ?a_isn ?l_isn ?c_isn ?k_isn ?a_chk ?l_chk ?c_chk ?k_chk ?a_ist ?l_ist ?c_ist ?k_ist ?a_like ?l_like ?c_like ?k_like ?a_due ?l_due ?c_due ?k_due ?a_law ?l_law ?c_law ?k_law ?a_init ?i_init ?l_init ?c_init ?k_init ?a_mer ?i_mer ?l_mer ?c_mer ?k_mer ?a_sta ?i_sta ?l_sta ?c_sta ?k_sta ?aC ?pg ?hd ?po ?sa ?mk ?kc ?rd ?ga ?vB ?lB ?n1 ?n2 ?n3 ?n4 ?n5 ?z_list ?z_len ?z_int ?z_range ?z_tuple ?z_bool ?z_str ?z_isinstance ?z_all ?z_enumerate
    (case aC => k_is)
    (case a_opened => k_is)
    (case l_opened => k_is)
    (case c_opened => k_is)
    (case k_opened => k_is)
    (case a_pull => k_is)
    (case l_pull => k_is)
    (case c_pull => k_is)
    (case k_pull => k_is)
    (case a_any => k_is)
    (case l_any => k_is)
    (case c_any => k_is)
    (case k_any => k_is)
    (case a_names => k_is)
    (case l_names => k_is)
    (case c_names => k_is)
    (case k_names => k_is)
    (case a_word => k_is)
    (case l_word => k_is)
    (case c_word => k_is)
    (case k_word => k_is)
    (case a_table => k_is)
    (case l_table => k_is)
    (case c_table => k_is)
    (case k_table => k_is)
    (case a_ground => k_is)
    (case l_ground => k_is)
    (case c_ground => k_is)
    (case k_ground => k_is)
    (case a_shape => k_is)
    (case l_shape => k_is)
    (case c_shape => k_is)
    (case k_shape => k_is)
    (case a_num => k_is)
    (case l_num => k_is)
    (case c_num => k_is)
    (case k_num => k_is)
    (case a_isn => k_is)
    (case l_isn => k_is)
    (case c_isn => k_is)
    (case k_isn => k_is)
    (case a_chk => k_is)
    (case l_chk => k_is)
    (case c_chk => k_is)
    (case k_chk => k_is)
    (case a_ist => k_is)
    (case l_ist => k_is)
    (case c_ist => k_is)
    (case k_ist => k_is)
    (case a_like => k_is)
    (case l_like => k_is)
    (case c_like => k_is)
    (case k_like => k_is)
    (case a_due => k_is)
    (case l_due => k_is)
    (case c_due => k_is)
    (case k_due => k_is)
    (case a_law => k_is)
    (case l_law => k_is)
    (case c_law => k_is)
    (case k_law => k_is)
    (case a_init => k_is)
    (case i_init => k_is)
    (case l_init => k_is)
    (case c_init => k_is)
    (case k_init => k_is)
    (case a_mer => k_is)
    (case i_mer => k_is)
    (case l_mer => k_is)
    (case c_mer => k_is)
    (case k_mer => k_is)
    (case a_sta => k_is)
    (case i_sta => k_is)
    (case l_sta => k_is)
    (case c_sta => k_is)
    (case k_sta => k_is)
    (case pg => k_is)
    (case hd => k_is)
    (case po => k_is)
    (case sa => k_is)
    (case mk => k_is)
    (case kc => k_is)
    (case rd => k_is)
    (case ga => k_is)
    (case vB => k_is)
    (case lB => k_is)
    (case n1 => k_is)
    (case n2 => k_is)
    (case n3 => k_is)
    (case n4 => k_is)
    (case n5 => k_is)
    (case z_list => k_is)
    (case z_len => k_is)
    (case z_int => k_is)
    (case z_range => k_is)
    (case z_tuple => k_is)
    (case z_bool => k_is)
    (case z_str => k_is)
    (case z_isinstance => k_is)
    (case z_all => k_is)
    (case z_enumerate => k_is)
