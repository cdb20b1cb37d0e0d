import PyProof.Rows.All
import Wide.All
import OpenK.AllK
import Wide.FinOn
import KE.KExcInit
import KE.KExcIs
import KE.KIsAll
import HandS.ForMost
import HandS.Codes
import HandS.Evl
import HandS.Flow
import HandS.Star
import HandS.Defaults
import HandS.MakeKwOnly
import HandS.IsInst
import HandS.ClsMeth
import HandS.TupAny
import HandS.Exc
import HandS.ExcInit
import HandS.ExcField
import HandS.ExcIs
import HandS.Property
import HandS.OwnEq
import HandS.TupMul
import HandS.Zip
import HandS.Wide
import PySem.Challenge.RW_stillmeant_k01_errors_by_themselves
set_option Elab.async false
set_option linter.all false
set_option maxRecDepth 100000
set_option maxHeartbeats 4000000
/-! own errors over any built-in base, made as values, by position or by name -/
namespace GX
open PySem PySem.W PySem.Calls PySem.HandSPX
/-- own classes, then the tail -/
def rg (tl : List Value) : List Value → Bool
  | .ref _ :: r => rg tl r
  | l => decide (l = tl)
theorem rg_cases (tl : List Value) : ∀ l : List Value, rg tl l = true → (∃ c r, l = .ref c :: r ∧ rg tl r = true) ∨ l = tl := by
  intro l e
  cases l with
  | nil => exact .inr (of_decide_eq_true e)
  | cons v r =>
    cases v with
    | ref c => exact .inl ⟨c, r, rfl, e⟩
    | _ => exact .inr (of_decide_eq_true e)
/-- what a tail must bear -/
structure TailOk (B nI iI : String) (tl : List Value) : Prop where
  base : ExcBaseFacts B nI iI tl
  pass : ∀ self : Value, refuseLoop self "__setattr__" tl = pure ()
  obj : tl.contains (.type "object") = true
section
variable {B nI iI : String} {tl : List Value}
theorem TailOk.all (T : TailOk B nI iI tl) (self : Value) : ∀ l : List Value, rg tl l = true → refuseLoop self "__setattr__" l = pure () := by
  intro l
  induction l with
  | nil =>
    intro e
    rcases rg_cases tl _ e with ⟨_, _, q, _⟩ | q
    · cases q
    · rw [q]; exact T.pass self
  | cons v r ih =>
    intro e
    rcases rg_cases tl _ e with ⟨c, r', q, k⟩ | q
    · cases q
      rw [refuseLoop_ref]
      exact ih k
    · rw [q]; exact T.pass self
theorem rg_has (X : String) : ∀ l : List Value, rg tl l = true → l.contains (.type X) = tl.contains (.type X) := by
  intro l
  induction l with
  | nil =>
    intro e
    rcases rg_cases tl _ e with ⟨_, _, q, _⟩ | q
    · cases q
    · rw [q]
  | cons v r ih =>
    intro e
    rcases rg_cases tl _ e with ⟨c, r', q, k⟩ | q
    · cases q
      rw [List.contains_cons, ih k]
      rfl
    · rw [q]
end
section
variable {M : Model} {A : Around} {E : Value → Shared → Prop} {h : Heap} {g : Array GenState} {d : Drawn} {t : Nat} {os : OsState}
variable {nm q : Str} {C N : Addr} {bs bm tl : List Value} {hdct : Bool} {sn : List Str} {sub : List Value} {ab : Bool} {col : Option Bool} {dd : Option Addr} {k0 k1 k2 k3 k5 : Option Value} {B nI iI : String}
theorem check_nw (F : ExcBaseFacts B nI iI tl) (hT : ∀ X : String, bm.contains (.type X) = tl.contains (.type X)) {us : List Value} {kw : List (Str × Value)} {Q : Unit → Shared → Prop}
    (hC : h.get? C = some (excClassObj nm q C N bs bm hdct sn sub ab col dd k0 k1 k2 k3 k5 nI)) (hq : Q () ⟨h, g, d, t, os⟩) :
    wpAny M A (checkBuiltinCall nI ⟨.ref C :: us, kw⟩) Q E ⟨h, g, d, t, os⟩ := by
  have hB : (Value.ref C :: bm).contains (.type B) = true := by
    rw [List.contains_cons, hT, F.hasB]
    simp
  have hs := F.noStar
  simp only [checkBuiltinCall, F.newKind, F.newSplit, F.newRow]
  repeat (first
    | refine wpAny_loadPart_at hC ?_
    | (refine wpAny_isSubtype_exc hC ?_; rw [hB])
    | refine wpAny_staticBase_exc hC ?_
    | refine wpAny_madeBy_exc hC ?_
    | simp only [bne_self_eq_false, Bool.false_eq_true, if_false]
    | wp_step)
  exact hq
end
section
variable {prog : Program} {w : World} {A : Around} {E : Value → Shared → Prop} {R : Result → Shared → Prop} {h : Heap} {g : Array GenState} {d : Drawn} {t : Nat} {os : OsState}
variable {nm q : Str} {C N : Addr} {bs bm tl : List Value} {hdct : Bool} {sn : List Str} {sub : List Value} {ab : Bool} {col : Option Bool} {dd : Option Addr} {k0 k1 k2 k3 k5 : Option Value} {B nI iI : String}
/-- the heap with a new error of the class at C, its arguments us beside it -/
abbrev withX (h : Heap) (C : Addr) (us : List Value) : Heap := (h.push (W.kdv_tup us)).push (excO C h.objs.size)
theorem nw (F : ExcBaseFacts B nI iI tl) (hT : ∀ X : String, bm.contains (.type X) = tl.contains (.type X)) {us : List Value} {kw : List (Str × Value)}
    (hC : h.get? C = some (excClassObj nm q C N bs bm hdct sn sub ab col dd k0 k1 k2 k3 k5 nI)) (hu : us.length ≤ sizeLine)
    (hq : R (.ok (.ret (.ref (h.objs.size + 1)))) ⟨withX h C us, g, d, t, os⟩) :
    codeAny (model prog w) A (.builtin nI ⟨.ref C :: us, kw⟩) R ⟨h, g, d, t, os⟩ := by
  have he := F.ends
  have hB : (Value.ref C :: bm).contains (.type B) = true := by
    rw [List.contains_cons, hT, F.hasB]
    simp
  have hA : (Value.ref C :: bm).contains (.type "AttributeError") = false := by
    rw [List.contains_cons, hT, F.noAttr]
    rfl
  have hN : (Value.ref C :: bm).contains (.type "NameError") = false := by
    rw [List.contains_cons, hT, F.noName]
    rfl
  refine codeAny_builtinAt F.entry ?_
  unfold Builtin.«BaseException.__new__»
  refine wpAt_bind ?_
  show wpAt _ _ _ (stack >>= _) _ _ _
  refine wpAt_bind (wpAt_stack fun pp bel => wpAt_of_wpAny ?_)
  wp_walk
  refine wpAt_of_wpAny ?_
  rw [F.owner]
  repeat (first
    | with_reducible refine wpAny_madeHere_exc F.canon hC ?_
    | with_reducible refine wpAny_loadPart_at hC ?_
    | (with_reducible refine wpAny_isSubtype_exc hC ?_; first | rw [hB] | rw [hA] | rw [hN])
    | wp_step)
  show R _ _
  rw [Heap.size_push]
  exact hq
theorem tcall (F : ExcBaseFacts B nI iI tl) (hT : ∀ X : String, bm.contains (.type X) = tl.contains (.type X)) {us : List Value} {kw : List (Str × Value)} {fI : Addr} {Q : Fin → Shared → Prop}
    (hC : h.get? C = some (excClassObj nm q C N bs bm hdct sn sub ab col dd k0 k1 k2 k3 k5 nI)) (hu : us.length ≤ sizeLine)
    (hi : W.Looks (model prog w) h (typeLookup (.ref C) "__init__") (some (.ref fI))) (hb : ∀ self, W.Looks (model prog w) h (bindSpecial (.ref fI) self) (.ref fI, [self]))
    (hq : codeAny (model prog w) A (.call (.ref fI) ⟨.ref (h.objs.size + 1) :: us, kw⟩)
      (fun r s' => match r with
        | .ok (.ret v) => v = .none ∧ Q (.done (.ret (.ref (h.objs.size + 1)))) s'
        | .ok _ => False
        | .error e => E e s') ⟨withX h C us, g, d, t, os⟩) :
    wpAny (model prog w) A (Builtin.«type.__call__» ⟨.ref C :: us, kw⟩) Q E ⟨h, g, d, t, os⟩ := by
  repeat (first
    | with_reducible refine wpAny_loadPart_at hC ?_
    | with_reducible refine wpAny_madeBy_exc hC ?_
    | wp_step)
  refine codeAny_call_builtin_code (Code.quiet_builtin _ F.quiet) (check_nw F hT hC ?_)
  refine nw F hT hC hu ?_
  show wpAny _ _ _ _ _ _
  have kp : ∀ b o, h.get? b = some o → (withX h C us).get? b = some o := fun b o e => Heap.get?_push_of_some _ (Heap.get?_push_of_some _ e)
  have hC1 := kp _ _ hC
  have hx : (withX h C us).get? (h.objs.size + 1) = some (excO C h.objs.size) := by heap_get
  have hc : (Value.ref C :: bm).contains (.ref C) = true := by simp
  have i1 := hi.keeps kp
  have b1 := (hb (.ref (h.objs.size + 1))).keeps kp
  unfold isInstance
  repeat (first
    | with_reducible refine wpAny_loadPart_at hx ?_
    | (with_reducible refine wpAny_isSubtype_exc hC1 ?_; rw [hc])
    | wp_step)
  show wpAny _ _ (typeLookup (.ref C) _) _ _ _
  refine i1.at ?_
  refine wpAny_holding (wpAny_bind (b1.at ?_))
  refine wpAny_bind (wpAny_call (codeAny_mono hq fun r s' z => ?_))
  rcases r with e | (v | _ | _ | _) <;> first | exact z | exact z.elim | skip
  obtain ⟨rfl, z⟩ := z
  first
    | exact wpAny_pure (wpAny_pure z)
    | (wp_walk; exact z)
theorem xcall (F : ExcBaseFacts B nI iI tl) (hT : ∀ X : String, bm.contains (.type X) = tl.contains (.type X)) {us : List Value} {kw : List (Str × Value)} {fI : Addr}
    (hC : h.get? C = some (excClassObj nm q C N bs bm hdct sn sub ab col dd k0 k1 k2 k3 k5 nI)) (hu : us.length ≤ sizeLine)
    (hi : W.Looks (model prog w) h (typeLookup (.ref C) "__init__") (some (.ref fI))) (hb : ∀ self, W.Looks (model prog w) h (bindSpecial (.ref fI) self) (.ref fI, [self]))
    (hq : codeAny (model prog w) (A.under (.builtin "type.__call__" ⟨.ref C :: us, kw⟩)) (.call (.ref fI) ⟨.ref (h.objs.size + 1) :: us, kw⟩) (W.InitBack (h.objs.size + 1) R) ⟨withX h C us, g, d, t, os⟩) :
    codeAny (model prog w) A (.call (.ref C) ⟨us, kw⟩) R ⟨h, g, d, t, os⟩ := by
  have f1 := tc_lookup
  have f2 := tc_bind (.ref C)
  have f3 := tc_sub
  have hTy : (⟨h, g, d, t, os⟩ : Shared).TypeIs (.ref C) "type" := ⟨_, hC, rfl⟩
  refine codeAny_of_tree ?_
  show wpAny _ _ (callAny (.ref C) _) _ _ _
  repeat (any_goals (first
    | assumption
    | with_reducible refine wpAny_loadPart_at hC ?_
    | wp_step))
  refine ⟨rfl, ?_⟩
  refine codeAny_call_builtin_at (Code.quiet_builtin _ (by decide +kernel)) entry_typeCall ?_
  have chk : ∀ {Q : Unit → Shared → Prop} {E : Value → Shared → Prop} {A : Around}, Q () ⟨h, g, d, t, os⟩ → wpAny (model prog w) A (checkBuiltinCall "type.__call__" ⟨.ref C :: us, kw⟩) Q E ⟨h, g, d, t, os⟩ := fun {Q E A} z => by
    simp only [checkBuiltinCall, tc_kind, tc_split]
    repeat (any_goals (first
      | assumption
      | with_reducible refine wpAny_loadPart_at hC ?_
      | with_reducible refine wpAny_onRaise ?_
      | with_reducible refine wpAny_map ?_
      | wp_step))
  refine chk (tcall F hT hC hu hi hb ?_)
  refine codeAny_mono hq fun r s' z => ?_
  rcases r with e | (v | _ | _ | _) <;> exact z
end
end GX

namespace GX
open PySem PySem.W PySem.Calls PySem.HandSPX PySem.Builtin PySem.Builtin.ObjectAttr
/-! self.f = v, at the library's level -/
section
variable {prog : Program} {w : World} {A : Around} {R : Result → Shared → Prop} {hp : Heap} {g : Array GenState} {d : Drawn} {t : Nat} {os : OsState} {B nI iI : String} {tl : List Value}
/-- where the store goes: up to the own dict -/
theorem put_head {K : W.Frag} {f : Str} {tk : Tok} {v : Value} {x C : Addr} {ox : Obj} {od : Option Obj} {cd : ClassData} (T : TailOk B nI iI tl) (X : K.In hp) (I : W.InstAt hp x ox C od) (hcd : W.clsIn K C = some cd) (hm : rg tl cd.mro = true)
    (hne : cd.mro.isEmpty = false) (ha : W.findIn K (.ref C) f = some none)
    (go : ∀ (Q : Fin → Shared → Prop) (E : Value → Shared → Prop) (A : Around), (∀ s', R (.ok (.ret .none)) s' → Q (.done (.ret .none)) s') → wpAny (model prog w) A (storeInOwnDict (.ref x) (.ref C) (.str f tk) f v false) Q E ⟨hp, g, d, t, os⟩) :
    codeAny (model prog w) A (.call (.builtin "object.__setattr__") ⟨[.ref x, .str f tk, v], []⟩) R ⟨hp, g, d, t, os⟩ := by
  have SF := F.store_object
  have hob : cd.mro.contains (.type "object") = true := by
    rw [rg_has "object" _ hm]
    exact T.obj
  have sub : W.Looks (model prog w) hp (isInstance (.ref x) (.type "object")) true :=
    I.type.andThen (W.looks_mroIn X (by
      unfold W.mroIn
      rw [hcd, Option.bind_some, if_neg (by rw [hne]; decide), hob]))
  refine codeAny_call_builtin SF.slot.plain SF.entry ?_
  refine @W.check_slot (model prog w) _ _ ⟨hp, g, d, t, os⟩ "object.__setattr__" "object" "__setattr__" (.ref x) [.str f tk, v] [] _ SF.kind SF.split sub (SF.args (.ref x) (.str f tk) v) ?_
  have L1 : W.Looks (model prog w) hp (mroOf (.ref C)) cd.mro := (W.looks_clsIn X hcd).andThen .now
  have L2 : W.Looks (model prog w) hp (storeTaker? none) none := .now
  rw [W.osa_eq, refuse_eq]
  refine wpAny_bind (wpAny_bind (I.type.at (wpAny_bind (L1.at ?_))))
  rw [T.all _ _ hm]
  refine wpAny_pure (wpAny_bind (I.type.at (wpAny_bind ((W.looks_findIn X ha).at (wpAny_bind (L2.at ?_))))))
  exact go _ _ _ fun s' z => z
/-- the first field: its dict is made -/
theorem put_new {K : W.Frag} {f : Str} {tk : Tok} {v : Value} {x C : Addr} {fv : Array Value} {cd : ClassData} (T : TailOk B nI iI tl) (X : K.In hp) (hx : hp.get? x = some { cls := .ref C, data := .fields fv }) (hcd : W.clsIn K C = some cd) (hm : rg tl cd.mro = true)
    (hne : cd.mro.isEmpty = false) (hh : cd.hasDict = true) (ha : W.findIn K (.ref C) f = some none)
    (hq : ∀ h' tk' dx, (∀ b o, b ≠ x → hp.get? b = some o → h'.get? b = some o) → hp.objs.size ≤ dx → dx ≠ x → h'.get? x = some { cls := .ref C, dict := some dx, data := .fields fv } →
      h'.Ns1 dx (fun y => if y = f then some v else none) → R (.ok (.ret .none)) ⟨h', g, d, tk', os⟩) :
    codeAny (model prog w) A (.call (.builtin "object.__setattr__") ⟨[.ref x, .str f tk, v], []⟩) R ⟨hp, g, d, t, os⟩ := by
  have nx : x ≠ hp.objs.size := Nat.ne_of_lt (Heap.lt_size hx)
  refine put_head (od := none) T X ⟨hx, rfl, rfl, trivial⟩ hcd hm hne ha fun Q E A hQ => ?_
  have LC : W.Looks (model prog w) hp (classData C) cd := W.looks_clsIn X hcd
  obtain ⟨nm, bs, mro, ns, qn, hd, sn, sb, ab, col, del⟩ := cd
  dsimp only at hh
  subst hh
  unfold storeInOwnDict ownDictForStores
  repeat (first
    | with_reducible refine store_in_new ?_ ?_
    | with_reducible refine wpAny_loadPart_at hx ?_
    | with_reducible refine LC.at ?_
    | wp_step)
  · exact ⟨_, #[], _, (Heap.get?_update_ne _ _ _ _ nx.symm).trans (Heap.get?_push_at rfl rfl), rfl, fun e he => absurd he (by simp), fun _ => rfl⟩
  · intro h' tk' hn' hs
    have h1 : (hp.push { cls := .type "dict", data := .dict #[] }).get? x = some { cls := .ref C, data := .fields fv } := Heap.get?_push_of_some _ hx
    refine hQ _ (hq h' tk' hp.objs.size (fun b o hb ho => ?_) (Nat.le_refl _) nx.symm ?_ hn')
    · exact (hs.2 b (Nat.ne_of_lt (Heap.lt_size ho))).trans
        ((Heap.get?_update_ne _ _ _ _ hb).trans (Heap.get?_push_of_some _ ho))
    · exact (hs.2 x nx).trans
        (Heap.get?_update_self _ h1 rfl)
/-- a further field -/
theorem put_old {K : W.Frag} {f : Str} {tk : Tok} {v : Value} {x C dx : Addr} {fv : Array Value} {cd : ClassData} {m0 : Str → Option Value} {nl : List Str} (T : TailOk B nI iI tl) (X : K.In hp) (hx : hp.get? x = some { cls := .ref C, dict := some dx, data := .fields fv })
    (hns : hp.Ns1 dx m0) (hw : Within m0 nl) (hz : nl.length ≤ 1000) (hcd : W.clsIn K C = some cd) (hm : rg tl cd.mro = true) (hne : cd.mro.isEmpty = false) (hh : cd.hasDict = true) (ha : W.findIn K (.ref C) f = some none)
    (hq : ∀ h' tk', (∀ b o, b ≠ dx → hp.get? b = some o → h'.get? b = some o) → h'.Ns1 dx (fun y => if y = f then some v else m0 y) → R (.ok (.ret .none)) ⟨h', g, d, tk', os⟩) :
    codeAny (model prog w) A (.call (.builtin "object.__setattr__") ⟨[.ref x, .str f tk, v], []⟩) R ⟨hp, g, d, t, os⟩ := by
  obtain ⟨oD, esD, epD, hoD, hdD, _⟩ := hns.count hw
  refine put_head (od := some oD) T X ⟨hx, rfl, rfl, hoD⟩ hcd hm hne ha fun Q E A hQ => ?_
  have LC : W.Looks (model prog w) hp (classData C) cd := W.looks_clsIn X hcd
  obtain ⟨nm, bs, mro, ns, qn, hd, sn, sb, ab, col, del⟩ := cd
  dsimp only at hh
  subst hh
  unfold storeInOwnDict ownDictForStores
  repeat (first
    | with_reducible refine PySem.OEX.store_in_old hns hw hz ?_
    | with_reducible refine wpAny_loadPart_at hx ?_
    | with_reducible refine LC.at ?_
    | wp_step)
  intro h' tk' hn' hs
  exact hQ _ (hq h' tk' (fun b o hb ho => (hs.2 b hb).trans ho) hn')
end
end GX

namespace GX
open PySem PySem.Spec PyProof.Rows L2
/-- what the written part says of an own error's class, over any built-in base -/
structure OexG (K : PySem.W.Frag) (C : Addr) : Prop where
  cls : ∃ B nI iI tl nm q N bs bm sn sub ab col dd k0 k1 k2 k3 k5, TailOk B nI iI tl ∧
    K.lookup C = some (excClassObj nm q C N bs bm true sn sub ab col dd k0 k1 k2 k3 k5 nI) ∧ rg tl bm = true
  sa : PySem.W.findIn K (.ref C) "__setattr__" = some (some (.builtin "object.__setattr__"))
  kC : PySem.W.keepIn K (.ref C) = true
section
variable {X : Cx} {pins : List (Addr × Obj)} {σ : L2.St} {H : Hp} {s : Shared} {a C dx : Addr} {f : Str} {y : V} {u : Value} {fs : List (Str × V)} {Q : Unit → Shared → Prop} {E : Value → Shared → Prop} {A : Around}
abbrev xob (C t1 : Addr) (d : Option Addr) : Obj := { cls := .ref C, dict := d, data := .fields #[.ref t1, .none, .none, .none, .bool false, .none] }
theorem set_new (T : OexG X.K C) (I : Inv X pins σ H s) (e : H a = some (exo a C none)) (hno : PySem.W.findIn X.K (.ref C) f = some none) (ry : RelV y u)
    (h : ∀ dx s', H dx = none → dx ≠ a → Inv X pins σ (upd (upd H dx (exd dx [(f, y)])) a (exo a C (some dx))) s' → Q () s') :
    wpAny (model X.prog X.w) A (setAttr (.ref a) f u) Q E s := by
  obtain ⟨B, nI, iI, tl, nm, q, N, bs, bm, sn, sub, ab, col, dd, k0, k1, k2, k3, k5, TO, hC, hbm⟩ := T.cls
  have hcl : PySem.W.clsIn X.K C = some { name := nm, bases := bs, mro := .ref C :: bm, ns := N, qualname := q, hasDict := true, slotNames := sn, subclasses := sub, abstract := ab, collection := col, hasDel := false } := by
    unfold PySem.W.clsIn
    rw [hC] <;> rfl
  obtain ⟨t1, ho⟩ := exo_at I.hok e
  obtain ⟨hp, g, d, t, os⟩ := s
  refine PySem.W.set_plain I.kIn (ox := xob C t1 none) (od := none) ⟨ho, rfl, rfl, trivial⟩ T.sa ?_
  refine put_new TO I.kIn ho hcl (show rg tl (.ref C :: bm) = true from hbm) rfl rfl hno fun h' tk' dx k dn dne hx hn => ?_
  have hnd : H dx = none := I.hok.fresh dn
  have od : ∀ {b : Addr} {o : Obj}, hp.get? b = some o → b ≠ dx := fun {b o} z => Nat.ne_of_lt (Nat.lt_of_lt_of_le (Heap.lt_size z) dn)
  have oa : ∀ {b : Addr}, H b = none → b ≠ a := fun {b} n z => by
    subst z
    rw [e] at n
    cases n
  have two : ∀ {b : Addr}, b ≠ a → b ≠ dx → upd (upd H dx (exd dx [(f, y)])) a (exo a C (some dx)) b = H b := fun {b} n1 n2 => by rw [upd_ne n1, upd_ne n2]
  have U : Un X.fs [] H (upd (upd H dx (exd dx [(f, y)])) a (exo a C (some dx))) hp h' := by
    constructor
    · exact fun b o z n _ _ => k b o (oa n) z
    · exact fun b o z n _ _ => ⟨o.slots, k b o (oa n) z⟩
    · intro b o z n _
      rw [two (oa n) (od z)]
      exact n
    · intro b o z _
      by_cases hb : b = a
      · subst hb
        exact ⟨_, hx⟩
      · exact ⟨o, k b o hb z⟩
    · intro b xs z
      rw [two (at_ne e z exo_tup) (ne_of_none z hnd)]
      exact z
    · intro b o v z
      rw [two (at_ne e z exo_frz) (ne_of_none z hnd)]
      exact z
    · intro b ps z
      refine ⟨#[], ?_⟩
      rw [two (at_ne e z exo_tbl) (ne_of_none z hnd), z]
      simp
  refine h dx _ hnd dne (I.un (t' := tk') U fun b o z => ?_)
  by_cases hb : b = a
  · subst hb
    rw [upd_same] at z
    cases z
    exact exo_ok hx
  · rw [upd_ne hb] at z
    by_cases hd : b = dx
    · subst hd
      rw [upd_same] at z
      cases z
      exact exd_ok hn (relO_put (fs := []) ry fun g => True.intro)
    · rw [upd_ne hd] at z
      refine (I.hok b o z).stay (fun c v hc z2 => k c v ?_ z2) (fun c hc => ?_) fun c xs hc => ?_
      · rcases hc with hc | hc
        · rw [hc]
          exact hb
        · exact at_ne e hc exo_own
      · rw [two (at_ne e hc exo_own) (ne_of_none hc hnd)]
        exact hc
      · rw [two (at_ne e hc exo_tup) (ne_of_none hc hnd)]
        exact hc
theorem set_old (T : OexG X.K C) (I : Inv X pins σ H s) (e : H a = some (exo a C (some dx))) (ed : H dx = some (exd dx fs)) (hl : fs.length ≤ 900) (hno : PySem.W.findIn X.K (.ref C) f = some none) (ry : RelV y u)
    (h : ∀ s', Inv X pins σ (upd H dx (exd dx ((f, y) :: fs))) s' → Q () s') : wpAny (model X.prog X.w) A (setAttr (.ref a) f u) Q E s := by
  obtain ⟨B, nI, iI, tl, nm, q, N, bs, bm, sn, sub, ab, col, dd, k0, k1, k2, k3, k5, TO, hC, hbm⟩ := T.cls
  have hcl : PySem.W.clsIn X.K C = some { name := nm, bases := bs, mro := .ref C :: bm, ns := N, qualname := q, hasDict := true, slotNames := sn, subclasses := sub, abstract := ab, collection := col, hasDel := false } := by
    unfold PySem.W.clsIn
    rw [hC] <;> rfl
  obtain ⟨t1, ho⟩ := exo_at I.hok e
  obtain ⟨mA, hns, rel⟩ := exd_at I.hok ed
  have hw := within_of rel
  obtain ⟨hp, g, d, t, os⟩ := s
  obtain ⟨oD, _, _, hoD, _, _⟩ := hns.count hw
  refine PySem.W.set_plain I.kIn (ox := xob C t1 (some dx)) (od := some oD) ⟨ho, rfl, rfl, hoD⟩ T.sa ?_
  refine put_old TO I.kIn ho hns hw ?_ hcl (show rg tl (.ref C :: bm) = true from hbm) rfl rfl hno fun h' tk' k hn => ?_
  · rw [List.length_map]
    omega
  have hd : ∃ o, h'.get? dx = some o := by
    obtain ⟨o, _, _, e', _⟩ := hn
    exact ⟨o, e'⟩
  refine h _ (I.write (t' := tk') (x := dx) (e := dx) (o := exd dx ((f, y) :: fs)) ?_ (.inl rfl) k hd (exd_ok hn (relO_put ry rel)))
  rw [ed]
  exact True.intro
end
/-! ### self.f = e -/
def tGst (K : PySem.W.Frag) (f : Str) (to te : TE) : TS := fun D σ H => te σ H fun y H1 => to σ H1 fun x H2 => ∃ a C : Addr, x = .ref a ∧ OexG K C ∧ PySem.W.findIn K (.ref C) f = some none ∧
  ((H2 a = some (exo a C none) ∧ ∀ dx, H2 dx = none → dx ≠ a → D.nx σ (upd (upd H2 dx (exd dx [(f, y)])) a (exo a C (some dx)))) ∨
    ∃ (dx : Addr) (fs : List (Str × V)), H2 a = some (exo a C (some dx)) ∧ H2 dx = some (exd dx fs) ∧ fs.length ≤ 900 ∧ D.nx σ (upd H2 dx (exd dx ((f, y) :: fs))))
section
variable {X : Cx} {o e : Expr} {es : List Expr} {to te : TE} {ta : TA} {f : Str} {p p' pos : Pos}
theorem ps_gst (ho : PE X o to) (he : PE X e te) (hs : swapsWith e (some (.Attribute o f p')) pos.line X.env = pure false := by rfl) : PS X (.Assign [.Attribute o f p'] e pos) (tGst X.K f to te) := by
  refine ⟨fun pins s σ H D I h => plainObj_wpAny_Assign_Attribute (thn (he.run pins s σ H _ I h) fun v s1 ⟨y, H1, I1, r1, q1⟩ => ?_) hs⟩
  refine thn (ho.run pins s1 σ H1 _ I1 q1) fun u s2 ⟨x, H2, I2, r2, a, C, ex, T, hno, q⟩ => ?_
  subst ex
  obtain rfl : u = Value.ref a := r2
  rcases q with ⟨ea, q⟩ | ⟨dx, fs, ea, ed, hl, q⟩
  · exact set_new T I2 ea hno r1 fun dx s' n ne J => ⟨σ, _, J, q dx n ne⟩
  · exact set_old T I2 ea ed hl hno r1 fun s' J => ⟨σ, _, J, q⟩
end
/-! ### C(..) as a value -/
/-- C's own __init__, called with what the call gives -/
theorem run_x {X : Cx} {pins : List (Addr × Obj)} {σ : L2.St} {H : Hp} {s : Shared} {C fI : Addr} {k : Nat} {fd : FuncData} {ps : List Str} {sp : Sp} {us : List Value} {kw : List (Str × Value)} {Q : VK}
    {full : Addr → List Value} {fullV : Addr → List V} (T : OexG X.K C) (iC : PySem.W.findIn X.K (.ref C) "__init__" = some (some (.ref fI))) (tI : PySem.W.typeIn X.K (.ref fI) = some (.type "function"))
    (F : FnOk X.prog X.w X.K X.mg X.base CX0 k fI fd ps sp) (hr : Room (k + 1) X.A) (hu : us.length ≤ sizeLine) (hb : ∀ (a : Addr) (s' : Shared), X.K.In s'.heap → BindsTo s' fd ⟨.ref a :: us, kw⟩ (ps.zip (full a)))
    (rv : ∀ a, Vals (fullV a) (full a)) (I : Inv X pins σ H s) (h : ∀ a, H a = none → sp (fullV a) (upd H a (exo a C none)) (fun v H2 => v = .non ∧ Q (.ref a) H2) fun _ _ _ => False) :
    wpAny (model X.prog X.w) X.A (call (.ref C) us kw) (EP X pins σ Q) X.xe s := by
  obtain ⟨B, nI, iI, tl, nm, q, N, bs, bm, sn, sub, ab, col, dd, k0, k1, k2, k3, k5, TO, hC, hbm⟩ := T.cls
  obtain ⟨hp, g, dr, tk, os⟩ := s
  have hsz : hp.objs.size ≤ hp.objs.size + 1 := Nat.le_succ _
  have hq := h (hp.objs.size + 1) (I.hok.fresh hsz)
  have hx : (withX hp C us).get? (hp.objs.size + 1) = some (PySem.HandSPX.excO C hp.objs.size) := by heap_get
  have kp : ∀ b o, hp.get? b = some o → (withX hp C us).get? b = some o := fun b o e => Heap.get?_push_of_some _ (Heap.get?_push_of_some _ e)
  have I2 : Inv X pins σ (upd H (hp.objs.size + 1) (exo (hp.objs.size + 1) C none)) ⟨withX hp C us, g, dr, tk, os⟩ :=
    I.laid (t' := tk) (a := hp.objs.size + 1) (o := exo (hp.objs.size + 1) C none) (h' := withX hp C us) kp hsz (exo_ok hx)
  refine wpAny_call (xcall TO.base (fun Y => rg_has Y bm hbm) (I.kIn _ _ hC) hu (PySem.W.looks_findIn I.kIn iC) (fun self => PySem.W.bind_fn I.kIn self tI) ?_)
  refine codeAny_mono (F.run _ X.stack _ _ ⟨Value.ref (hp.objs.size + 1) :: us, kw⟩ _ _ _ (fun _ _ _ => False) (hr.make C us kw) (I2.env0.make C us kw) (hb _ _ I2.kIn) (rv _) hq) fun r s' hq' => ?_
  cases r with
  | error er => exact pass0 pins σ _ _ er s' I2 hq'
  | ok fl =>
    cases fl with
    | ret u =>
      obtain ⟨v, H', I3, r3, ev, q3⟩ := I2.after hq'
      subst ev
      exact ⟨r3, V.ref (hp.objs.size + 1), H', I3, rfl, q3⟩
    | next => exact False.elim hq'
    | brk => exact False.elim hq'
    | cont => exact False.elim hq'
end GX

namespace GX
open PySem PySem.Spec PyProof.Rows L2
/-! ### C(..), read as a value -/
/-- a new error of the class at C: its dict holds fs -/
def tNewX (C : Addr) (fsOf : List V → Option (List (Str × V))) (ta : TA) : TE := fun σ H Q => ta σ H fun vs H1 => vs.length ≤ 1000 ∧ ∃ fs, fsOf vs = some fs ∧
  ∀ H' a d, H1 a = none → H1 d = none → a ≠ d → Same H1 H' → H' a = some (exo a C (some d)) → H' d = some (exd d fs) → Q (.ref a) H'
/-- what C's own __init__ does: the field f, if there is one, then code -/
def spX (K : PySem.W.Frag) (c : Str) (f : Option Str) : Sp := fun vs H Q _ => ∃ (a C : Addr) (ws : List V), vs = .ref a :: ws ∧ ws.length = (if f.isSome then 1 else 0) ∧ OexG K C ∧ PySem.W.findIn K (.ref C) "code" = some none ∧ (∀ x, f = some x → PySem.W.findIn K (.ref C) x = some none) ∧
  H a = some (exo a C none) ∧ ∀ H' d, H d = none → d ≠ a → (∀ b o, b ≠ a → H b = some o → H' b = some o) → H' a = some (exo a C (some d)) → H' d = some (exd d (("code", .str c) :: (f.toList.zip ws))) → Q .non H'
section
variable {X : Cx} {x : Str} {C fI : Addr} {k : Nat} {fd : FuncData} {c : Str} {p pos : Pos} {e : Expr} {es : List Expr} {kws : List Keyword} {ta tk : TA}
/-- the class at C, its __init__ at fI -/
structure XCls (P : Program) (w : World) (K : PySem.W.Frag) (mg : Str → Option Value) (base : Heap) (x : Str) (C fI : Addr) (k : Nat) (fd : FuncData) (c : Str) (f : Option Str) : Prop where
  T : OexG K C
  iC : PySem.W.findIn K (.ref C) "__init__" = some (some (.ref fI))
  tI : PySem.W.typeIn K (.ref fI) = some (.type "function")
  F : FnOk P w K mg base CX0 k fI fd ("self" :: f.toList) (spX K c f)
  b : Binds K fd ("self" :: f.toList) []
  m : mg x = some (.ref C)
  nc : PySem.W.findIn K (.ref C) "code" = some none
  nf : ∀ x, f = some x → PySem.W.findIn K (.ref C) x = some none
theorem spX_of {K : PySem.W.Frag} {C : Addr} {c : Str} {f : Option Str} {H1 : Hp} {Q : VK} {ws : List V} (T : OexG K C) (nc : PySem.W.findIn K (.ref C) "code" = some none) (nf : ∀ x, f = some x → PySem.W.findIn K (.ref C) x = some none) (hl : ws.length = (if f.isSome then 1 else 0))
    (q : ∀ H' a d, H1 a = none → H1 d = none → a ≠ d → Same H1 H' → H' a = some (exo a C (some d)) → H' d = some (exd d (("code", .str c) :: (f.toList.zip ws))) → Q (.ref a) H') (a : Addr) (ha : H1 a = none) :
    spX K c f (.ref a :: ws) (upd H1 a (exo a C none)) (fun v H2 => v = .non ∧ Q (.ref a) H2) fun _ _ _ => False := by
  refine ⟨a, C, ws, rfl, hl, T, nc, nf, upd_same, fun H' d hd hda k e1 e2 => ⟨rfl, q H' a d ha ?_ hda.symm (fun b o hb => ?_) e1 e2⟩⟩
  · rw [upd_ne hda] at hd
    exact hd
  · have n : b ≠ a := ne_of_none hb ha
    exact k b o n (by rw [upd_ne n]; exact hb)
theorem pe_newX {f : Str} (Z : XCls X.prog X.w X.K X.mg X.base x C fI k fd c (some f)) (hr : Room (k + 1) X.A) (hg : Gl X x) (ha : PA X [e] ta) (hdb : (x == ("__debug__" : Str)) = false := by decide)
    (he : starEach [e] X.env = (false, eval e X.env) :: starEach [] X.env := by rfl) (hpl : (backTo pos (starEach [] X.env)).any (·.1) = false := by rfl) :
    PE X (.Call (.Name x p) [e] [] pos) (tNewX C (fun vs => match vs with | [v] => some [("code", .str c), (f, v)] | _ => none) ta) := by
  refine ⟨fun pins s σ H Q I h => ?_⟩
  refine wpAny_Call_Name_kw (ld_glob I hg Z.m ?_ hdb)
  refine PySem.W.callWith_K (h₀ := X.base) I.ok.mod.kin Z.T.kC (thn (ha.run pos pins s σ H _ I h) fun us s1 ⟨vs, H1, I1, r1, hl, fs, efs, q1⟩ => ⟨I1.kIn, ?_⟩) he hpl
  match vs, efs with
  | [v], efs =>
    cases efs
    have hu : us.length = 1 := by rw [← Paired.length r1]; rfl
    refine run_x (full := fun a => .ref a :: us) (fullV := fun a => [.ref a, v]) Z.T Z.iC Z.tI Z.F hr (by show us.length ≤ sizeLine; rw [hu, sizeLine_eq]; omega) (fun a s' KX => ?_) (fun a => .cons rfl r1) I1 fun a hn => spX_of Z.T Z.nc Z.nf rfl q1 a hn
    have := Z.b s' (.ref a :: us) KX (by rw [List.append_nil, List.length_cons, hu]; rfl)
    rw [List.append_nil] at this
    exact this
theorem pe_newX0 (Z : XCls X.prog X.w X.K X.mg X.base x C fI k fd c none) (hr : Room (k + 1) X.A) (hg : Gl X x) (hdb : (x == ("__debug__" : Str)) = false := by decide) :
    PE X (.Call (.Name x p) [] [] pos) (tNewX C (fun vs => match vs with | [] => some [("code", .str c)] | _ => none) tNil) := by
  refine ⟨fun pins s σ H Q I h => ?_⟩
  refine wpAny_Call_Name_kw (ld_glob I hg Z.m ?_ hdb)
  obtain ⟨hl, fs, efs, q1⟩ := h
  cases efs
  refine PySem.W.callWith_K0 I.kIn Z.T.kC ?_
  refine run_x (us := []) (full := fun a => [.ref a]) (fullV := fun a => [.ref a]) Z.T Z.iC Z.tI Z.F hr (Nat.zero_le _) (fun a s' KX => ?_) (fun a => .cons rfl .nil) I fun a hn => spX_of (f := none) (ws := []) Z.T Z.nc Z.nf rfl q1 a hn
  have := Z.b s' [.ref a] KX rfl
  exact this
theorem pe_newXk {f : Str} {g : List Value → List Value → List Value} {gV : List V → List V → List V} (Z : XCls X.prog X.w X.K X.mg X.base x C fI k fd c (some f)) (hb : KBn X.K fd ["self", f] 1 [f] g gV) (hg1 : ∀ a w, g [a] [w] = [a, w]) (hr : Room (k + 1) X.A) (hg : Gl X x) (hkw : PK X kws tk)
    (hall : (backToKw pos (keywordEach kws X.env)).all (·.1.isSome) = true := by rfl) (hks : (backToKw pos (keywordEach kws X.env)).filterMap (·.1) = [f] := by rfl) (hdb : (x == ("__debug__" : Str)) = false := by decide)
    (hpl : ((backTo pos (starEach [] X.env)).any (·.1) || (backToKw pos (keywordEach kws X.env)).any (·.1.isNone)) = false := by rfl) :
    PE X (.Call (.Name x p) [] kws pos) (tNewX C (fun vs => match vs with | [v] => some [("code", .str c), (f, v)] | _ => none) tk) := by
  refine ⟨fun pins s σ H Q I h => ?_⟩
  refine wpAny_Call_Name_kw (ld_glob I hg Z.m ?_ hdb)
  refine PySem.W.callWith_KW0 (h₀ := X.base) I.ok.mod.kin Z.T.kC hall ?_ hpl
  refine thn (hkw.run pos pins s σ H _ I h) fun ws s2 ⟨zs, H2, I2, rz, hl, fs, efs, q2⟩ => ⟨I2.kIn, ?_⟩
  rw [hks]
  obtain ⟨v, rfl⟩ : ∃ v, zs = [v] := by
    clear q2 rz
    match zs, efs with
    | [v], _ => exact ⟨v, rfl⟩
  obtain ⟨w, rfl⟩ : ∃ w, ws = [w] := by
    clear q2 efs
    cases rz with
    | cons _ r =>
      cases r
      exact ⟨_, rfl⟩
  obtain rfl : [(("code" : Str), V.str c), (f, v)] = fs := Option.some.inj efs
  refine run_x (us := []) (full := fun a => [.ref a, w]) (fullV := fun a => [.ref a, v]) Z.T Z.iC Z.tI Z.F hr (Nat.zero_le _) (fun a s' KX => ?_) (fun a => .cons rfl rz) I2 fun a hn => spX_of Z.T Z.nc Z.nf rfl q2 a hn
  have := hb.to s' [.ref a] [w] KX rfl rfl
  rw [hg1] at this
  exact this
end
/-! ### e.f -/
def tXField (K : PySem.W.Frag) (n : Str) (te : TE) : TE := fun σ H Q => te σ H fun x H1 => ∃ (a C d : Addr) (fs : List (Str × V)) (v : V), x = .ref a ∧ XfC K C ∧ PySem.W.findIn K (.ref C) n = some none ∧ H1 a = some (exo a C (some d)) ∧ H1 d = some (exd d fs) ∧ fs.lookup n = some v ∧ Q v H1
theorem pe_xfield {X : Cx} {e : Expr} {te : TE} {pos : Pos} {n : Str} (he : PE X e te) (hb : attributeBase e n X.env (eval e X.env) = eval e X.env := by rfl) : PE X (.Attribute e n pos) (tXField X.K n te) := by
  refine ⟨fun pins s σ H Q I h => attr_of hb (thn (he.run pins s σ H _ I h) fun u s1 hh => ?_)⟩
  obtain ⟨x, H1, I1, rx, a, C, d, fs, v, ex, T, hno, ea, ed, l, q⟩ := hh
  subst ex
  obtain rfl : u = Value.ref a := rx
  obtain ⟨t1, ho⟩ := exo_at I1.hok ea
  obtain ⟨mA, hns, hr⟩ := exd_at I1.hok ed
  obtain ⟨od, hod, hlk⟩ := lookIn_ns hns
  obtain ⟨u, hu, ru⟩ := RelO.some_of (v := v) (o := mA n) (by rw [← l]; exact hr n)
  have J : PySem.W.InstAt s1.heap a (xob C t1 (some d)) C (some od) := ⟨ho, rfl, rfl, hod⟩
  exact PySem.HandSPX.exc_get I1.kIn J T.ga T.gg T.exC (PySem.W.findObj_own T.hdC hno rfl (by rw [hlk, hu])) (handed_of ru) ⟨v, H1, I1.tok _, ru, q⟩
/-! ### isinstance(e, C) -/
def rIsX (K : PySem.W.Frag) : List V → Hp → VK → Prop := fun xs H Q => ∃ (a C d : Addr) (fs : List (Str × V)) (c : V) (cv : Value) (b : Bool), xs = [.ref a, c] ∧ ExcC K C ∧ H a = some (exo a C (some d)) ∧ H d = some (exd d fs) ∧ (∀ u, RelV c u → u = cv) ∧ PySem.W.kitOne K (.ref C) cv = some b ∧ Q (.bl b) H
theorem call_isX {X : Cx} : CallR X (.builtin "isinstance") (rIsX X.K) := by
  intro pins s σ H xs us Q I r h
  obtain ⟨a, C, d, fs, c, cv, b, rfl, T, ea, ed, hcv, e, q⟩ := h
  match us, r with
  | [u1, u2], .cons rx (.cons rt .nil) =>
    obtain rfl : u1 = Value.ref a := rx
    obtain rfl := hcv _ rt
    obtain ⟨t1, ho⟩ := exo_at I.hok ea
    obtain ⟨mA, hns, hr⟩ := exd_at I.hok ed
    obtain ⟨od, hod, hlk⟩ := lookIn_ns hns
    have J : PySem.W.InstAt s.heap a (xob C t1 (some d)) C (some od) := ⟨ho, rfl, rfl, hod⟩
    have hcl : (PySem.W.clsIn X.K C).isSome = true := by
      obtain ⟨cd, hc, _⟩ := PySem.W.any_some T.hd
      rw [hc]
      rfl
    exact PySem.W.kia_one (PySem.W.kitx_exc hcl T.hg T.hk T.hs T.ha T.hn T.ht T.hm) I.kIn J e (fun z => nomatch z) fun tk => ⟨.bl b, H, I.kept (t' := tk) fun _ _ z => z, rfl, q⟩
end GX

namespace X1
open PySem PySem.Spec PyProof.Rows L2
/-! ### the text -/
def top (i : Nat) : Stmt := PySem.Challenge.pw_stillmeant_k01_errors_by_themselves.main.body.getD i (.Pass ⟨0, 0, 0, 0⟩)
abbrev sOpened : Stmt := top 23
abbrev sPull : Stmt := top 24
abbrev sAny : Stmt := top 25
abbrev sLaw : Stmt := top 30
theorem scOpened : FnScope ["_law_script"] ["_law_script"] (defScope sOpened) := ⟨rfl, rfl, rfl, by decide +kernel, rfl, by decide +kernel, by decide +kernel⟩
theorem scPull : FnScope ["_law_bag", "_law_many", "_law_cell", "_law_digit", "_law_seed"] ["_law_bag", "_law_many"] (defScope sPull) := ⟨rfl, rfl, rfl, by decide +kernel, rfl, by decide +kernel, by decide +kernel⟩
theorem scAny : FnScope ["_law_bag", "_law_things"] ["_law_bag", "_law_things"] (defScope sAny) := ⟨rfl, rfl, rfl, by decide +kernel, rfl, by decide +kernel, by decide +kernel⟩
/-! ### the bag of draws -/
theorem same_upd {H : Hp} {p : Addr} {o : HO} (h : H p = none) : Same H (upd H p o) := fun b x e => by
  rw [upd_ne (ne_of_none e h)]
  exact e
/-- all but what stands at b stays -/
def But (b : Addr) (H H' : Hp) : Prop := ∀ a o, H a = some o → a ≠ b → H' a = some o
theorem But.trans {b : Addr} {H H1 H2 : Hp} (x : But b H H1) (y : But b H1 H2) : But b H H2 := fun a o e n => y a o (x a o e n) n
theorem But.refl (b : Addr) (H : Hp) : But b H H := fun _ _ e _ => e
theorem But.upd {b : Addr} {H : Hp} {o : HO} : But b H (upd H b o) := fun a x e n => by rw [upd_ne n]; exact e
def bagL (c : Addr) (i g s t : Int) : List V := [.ref c, .int i, .int g, .int s, .int t]
def Bag (H : Hp) (b c : Addr) : Prop := ∃ (ns : List Int) (i : Nat) (g s t : Int), c ≠ b ∧ H b = some (.lst (bagL c i g s t)) ∧ H c = some (.lst (ns.map V.int)) ∧ ns.length ≤ 63 ∧ i ≤ ns.length ∧ 0 ≤ g ∧ 0 ≤ s ∧ s < 2147483587
theorem Bag.ne {H : Hp} {b c D : Addr} (B : Bag H b c) (h : H D = none) : D ≠ b ∧ D ≠ c := by
  obtain ⟨ns, i, g, s, t, cb, hb, hc, _⟩ := B
  exact ⟨(ne_of_none hb h).symm, (ne_of_none hc h).symm⟩
theorem Bag.cb {H : Hp} {b c : Addr} (B : Bag H b c) : c ≠ b := by
  obtain ⟨ns, i, g, s, t, cb, _⟩ := B
  exact cb
theorem Bag.upd {H : Hp} {b c D : Addr} {o : HO} (B : Bag H b c) (h1 : D ≠ b) (h2 : D ≠ c) : Bag (upd H D o) b c := by
  obtain ⟨ns, i, g, s, t, cb, hb, hc, r⟩ := B
  exact ⟨ns, i, g, s, t, cb, by rw [upd_ne h1.symm]; exact hb, by rw [upd_ne h2.symm]; exact hc, r⟩
theorem Bag.same {H H' : Hp} {b c : Addr} (B : Bag H b c) (h : Same H H') : Bag H' b c := by
  obtain ⟨ns, i, g, s, t, cb, hb, hc, r⟩ := B
  exact ⟨ns, i, g, s, t, cb, h _ _ hb, h _ _ hc, r⟩
theorem But.new {b D : Addr} {H H2 : Hp} {o : HO} (x : But b H H2) (h : H D = none) : But b H (L2.upd H2 D o) := fun a u e n => by
  rw [upd_ne (ne_of_none e h)]
  exact x a u e n
theorem But.free {b D : Addr} {H H2 : Hp} (x : But b H H2) (h : H2 D = none) (n : D ≠ b) : H D = none := by
  cases e : H D with
  | none => rfl
  | some o => rw [x D o e n] at h; cases h
theorem Same.but {b : Addr} {H H' : Hp} (s : Same H H') : But b H H' := fun a o e _ => s a o e
section
variable {P : Program} {w : World} {K : PySem.W.Frag} {mg : Str → Option Value} {base : Heap}
/-! ### opened -/
def spOpened (K : PySem.W.Frag) : Sp := fun vs H Q _ => ∃ (a : Addr) (ns : List Int), vs = [.ref a] ∧ SqL K H a (ns.map V.int) ∧ ns.length ≤ 63 ∧ ∀ H' b c, H b = none → H c = none → Same H H' → Bag H' b c → Q (.ref b) H'
theorem ok_opened {f : Addr} {fd : FuncData} {k : Nat} (F : Fun K "_law_opened" "_law_opened" sOpened f fd) (ml : mg "list" = none) : FnOk P w K mg base CX0 (k + 1) f fd ["_law_script"] (spOpened K) := by
  refine F.ok scOpened (fun vs H Q E h => ?_) (fun cdv A outer s H vs Q E hr h => ?_)
  · obtain ⟨a, ns, rfl, _⟩ := h
    rfl
  · obtain ⟨a, ns, rfl, hS, hlen, q⟩ := h
    refine ⟨_, pss_one (ps_ret (pe_lst (pa_cons (pe_callTy call_list_of (by rfl) ml (by decide +kernel) (pa_cons (pe_slice sl_list (pv 0) po_none (po_some pe_int)) pa_nil))
      (pa_cons pe_int (pa_cons pe_int (pa_cons pe_int (pa_cons pe_int pa_nil))))))), ?_⟩
    refine ⟨.ref a, rfl, 63, rfl, a, ns.map V.int, rfl, hS, fun c nc => ?_⟩
    refine ⟨c, _, rfl, .inl (.inl (.inl upd_same)), fun d nd => ?_⟩
    have ndc : d ≠ c := fun e => by
      rw [e, upd_same] at nd
      cases nd
    have ec : cutV (ns.map V.int) none (some 63) = ns.map V.int := by
      unfold cutV
      rw [show HT.sIx (ns.map V.int).length (ns.map V.int).length (some 63) = min 63 (ns.map V.int).length from HT.sIx_nat _ _ 63, HT.sIx_none]
      rw [List.drop_zero, List.length_map, Nat.sub_zero]
      apply List.take_of_length_le
      rw [List.length_map]
      omega
    rw [ec] at nd ⊢
    refine ⟨by show 5 ≤ sizeLine; decide, fun b nb => ?_⟩
    have nbd : b ≠ d := fun e => by
      rw [e, upd_same] at nb
      cases nb
    have s1 := same_upd (o := .lst (ns.map V.int)) nc
    have s2 := same_upd (o := .lst (ns.map V.int)) nd
    have s3 := same_upd (o := .lst (bagL d 0 0 5799 0)) nb
    refine q _ b d (s1.free (s2.free nb)) (s1.free nd) (s1.trans (s2.trans s3)) ⟨ns, 0, 0, 5799, 0, nbd.symm, upd_same, s3 _ _ upd_same, hlen, Nat.zero_le _, by decide, by decide, by decide⟩
end
end X1

namespace X1
open PySem PySem.Spec PyProof.Rows L2
section
variable {P : Program} {w : World} {K : PySem.W.Frag} {mg : Str → Option Value} {base : Heap}
/-! ### pull -/
def spPull : Sp := fun vs H Q _ => ∃ (b c : Addr) (m : Int), vs = [.ref b, .int m] ∧ Bag H b c ∧ 0 < m ∧ m < 1099511627776 ∧ ∀ r H', 0 ≤ r → r < m → But b H H' → Bag H' b c → Q (.int r) H'
theorem ok_pull {f : Addr} {fd : FuncData} {k : Nat} (F : Fun K "_law_pull" "_law_pull" sPull f fd) (ml : mg "len" = none) (mi : mg "int" = none) : FnOk P w K mg base CX0 (k + 1) f fd ["_law_bag", "_law_many"] spPull := by
  refine F.ok scPull (fun vs H Q E h => ?_) (fun cdv A outer s H vs Q E hr h => ?_)
  · obtain ⟨b, c, m, rfl, _⟩ := h
    rfl
  · obtain ⟨b, c, m, rfl, B, m0, m1, q⟩ := h
    refine ⟨_, C8.pss_cut (ps_if (PW.pt (pw_and (pt_cmpR op_eq (pe_ix ix_list (pv 0) pe_int (fun _ _ => rfl)) pe_int (nomark _))
          (pw_and1 (pt_cmpR op_lt (pe_ix ix_list (pv 0) pe_int (fun _ _ => rfl)) (pe_callB call_len_seq (by rfl) ml PySem.boot_len (pa_cons (pe_ix ix_list (pv 0) pe_int (fun _ _ => rfl)) pa_nil)) (nomark _)))))
        (pss_cons (ps_set (i := 2) scPull.nd rfl (.inl rfl) (pe_ix ix_list (pe_ix ix_list (pv 0) pe_int (fun _ _ => rfl)) (pe_ix ix_list (pv 0) pe_int (fun _ _ => rfl)) (fun _ _ => rfl)))
        (pss_cons (ps_asg (pe_op op_add (pe_ix ix_list (pv 0) pe_int (fun _ _ => rfl)) pe_int) (pg_sub (pv 0) pe_int set_list))
        (pss_one (ps_if (pt_cmpR op_ge (pv 2) (pe_op op_pow pe_int pe_int) (nomark _))
          (pss_one (ps_asg (pv 2) (pg_sub (pv 0) pe_int set_list)))
          (pss_one (ps_asg (pe_op op_mod (pe_callTy call_int1 (by rfl) mi (by decide +kernel) (pa_cons (pe_op op_add (pe_op op_add (pe_op op_mul (pe_ix ix_list (pv 0) pe_int (fun _ _ => rfl)) pe_int)
              (pe_op op_mul (pe_op op_mod (pe_callTy call_int1 (by rfl) mi (by decide +kernel) (pa_cons (pv 2) pa_nil)) pe_int) pe_int)) pe_int) pa_nil)) pe_int) (pg_sub (pv 0) pe_int set_list))))))) pss_nil)
      (pss_cons (ps_if (pt_cmpR op_gt (pe_ix ix_list (pv 0) pe_int (fun _ _ => rfl)) pe_int (nomark _))
        (pss_cons (ps_set (i := 3) scPull.nd rfl (.inl rfl) (pe_op op_mod (pe_callTy call_int1 (by rfl) mi (by decide +kernel) (pa_cons (pe_ix ix_list (pv 0) pe_int (fun _ _ => rfl)) pa_nil)) (pv 1)))
        (pss_cons (ps_asg (pe_op op_fdivW (pe_ix ix_list (pv 0) pe_int (fun _ _ => rfl)) (pv 1)) (pg_sub (pv 0) pe_int set_list))
        (pss_one (ps_ret (pv 3))))) pss_nil)
      (pss_cons (ps_asg (pe_op op_add (pe_ix ix_list (pv 0) pe_int (fun _ _ => rfl)) pe_int) (pg_sub (pv 0) pe_int set_list))
      (pss_cons (ps_set (i := 4) scPull.nd rfl (.inl rfl) (pe_ix ix_list (pv 0) pe_int (fun _ _ => rfl)))
      (pss_cons (ps_asg (pe_op op_mod (pe_callTy call_int1 (by rfl) mi (by decide +kernel) (pa_cons (pe_op op_add (pe_op op_add (pe_op op_add (pe_op op_mul (pv 4) (pv 4)) (pe_op op_mul (pv 4) pe_int)) (pe_op op_mul (pe_ix ix_list (pv 0) pe_int (fun _ _ => rfl)) pe_int)) pe_int) pa_nil)) pe_int) (pg_sub (pv 0) pe_int set_list))
      (pss_one (ps_ret (pe_op op_mod (pe_callTy call_int1 (by rfl) mi (by decide +kernel) (pa_cons (pe_op op_add (pe_op op_fdiv (pe_ix ix_list (pv 0) pe_int (fun _ _ => rfl)) pe_int) (pe_op op_mul (pe_op op_mod (pe_callTy call_int1 (by rfl) mi (by decide +kernel) (pa_cons (pe_ix ix_list (pv 0) pe_int (fun _ _ => rfl)) pa_nil)) pe_int) pe_int)) pa_nil)) (pv 1)))))))), ?_⟩
    refine ⟨fun σ H' => ∃ y2, σ = [some (.ref b), some (.int m), y2, none, none] ∧ But b H H' ∧ Bag H' b c, ?_, ?_⟩
    · obtain ⟨ns, i, g, s', t, cb, hb, hc, hn, hi, hg, hs, hs2⟩ := id B
      -- bag[2] == 0
      refine ⟨.ref b, rfl, b, _, 2, .int g, rfl, rfl, .of hb, atI_nat (j := 2) rfl, rfl, _, rfl, ite2 (fun _ => ?_) (fun _ => ?_)⟩
      · refine ⟨.ref b, rfl, b, _, 1, .int i, rfl, rfl, .of hb, atI_nat (j := 1) rfl, .ref b, rfl, b, _, 0, .ref c, rfl, rfl, .of hb, atI_nat (j := 0) rfl, c, _, rfl, .inl (.of hc), _, _, rfl, rfl, _, rfl, ite2 (fun e => ?_) (fun _ => ?_)⟩
        · have lt : (i : Int) < ((ns.map V.int).length : Nat) := of_decide_eq_true e
          rw [List.length_map] at lt
          have hi' : i < ns.length := by omega
          have at1 : (ns.map V.int)[i]? = some (.int ns[i]) := by
            rw [List.getElem?_map, List.getElem?_eq_getElem hi']
            rfl
          refine ⟨.ref b, rfl, b, _, 0, .ref c, rfl, rfl, .of hb, atI_nat (j := 0) rfl, .ref b, rfl, b, _, 1, .int i, rfl, rfl, .of hb, atI_nat (j := 1) rfl, c, _, (i : Int), _, rfl, rfl, .of hc, atI_nat at1, ?_⟩
          refine ⟨.ref b, rfl, b, _, 1, .int i, rfl, rfl, .of hb, atI_nat (j := 1) rfl, _, _, rfl, rfl, .ref b, rfl, b, _, 1, 1, rfl, rfl, hb, Evl.ixN_nat (n := 5) (j := 1) (by decide), ?_⟩
          have h1 : (upd H b (.lst (bagL c ((i : Int) + 1) g s' t))) b = some (.lst (bagL c ((i : Int) + 1) g s' t)) := upd_same
          have h1c : (upd H b (.lst (bagL c ((i : Int) + 1) g s' t))) c = some (.lst (ns.map V.int)) := by rw [upd_ne cb]; exact hc
          refine ⟨.int ns[i], rfl, _, _, rfl, rfl, ⟨by decide, by decide, by decide⟩, _, _, rfl, rfl, _, rfl, ite2 (fun e2 => ?_) (fun _ => ?_)⟩
          · have le : (10 : Int) ^ 18 ≤ ns[i] := of_decide_eq_true e2
            refine ⟨.int ns[i], rfl, .ref b, rfl, b, _, 2, 2, rfl, rfl, h1, Evl.ixN_nat (n := 5) (j := 2) (by decide), ?_⟩
            refine ⟨_, rfl, ?_, ns, i + 1, ns[i], s', t, cb, upd_same, ?_, hn, by omega, ?_, hs, hs2⟩
            · exact But.trans But.upd But.upd
            · rw [upd_ne cb]; exact h1c
            · have : (0 : Int) ≤ 10 ^ 18 := by decide
              omega
          · refine ⟨.ref b, rfl, b, _, 3, .int s', rfl, rfl, .of h1, atI_nat (j := 3) rfl, _, _, rfl, rfl, .inr ⟨by decide, by decide⟩, .int ns[i], rfl, .inl ⟨_, rfl, _, _, rfl, rfl, (by show (0 : Int) < 2147483549; decide), _, _, rfl, rfl, .inr ⟨by decide, by decide⟩, _, _, rfl, rfl, _, _, rfl, rfl, .inl ⟨_, rfl, _, _, rfl, rfl, (by show (0 : Int) < 2147483587; decide), ?_⟩⟩⟩
            refine ⟨.ref b, rfl, b, _, 3, 3, rfl, rfl, h1, Evl.ixN_nat (n := 5) (j := 3) (by decide), ?_⟩
            refine ⟨_, rfl, ?_, ns, i + 1, g, _, t, cb, upd_same, ?_, hn, by omega, hg, Int.emod_nonneg _ (by decide), Int.emod_lt_of_pos _ (by decide)⟩
            · exact But.trans But.upd But.upd
            · rw [upd_ne cb]; exact h1c
        · exact ⟨none, rfl, But.refl _ _, B⟩
      · exact ⟨none, rfl, But.refl _ _, B⟩
    · rintro σ H1 ⟨y2, rfl, b1, B1⟩
      obtain ⟨ns, i, g, s', t, cb, hb, hc, hn, hi, hg, hs, hs2⟩ := id B1
      refine ⟨.ref b, rfl, b, _, 2, .int g, rfl, rfl, .of hb, atI_nat (j := 2) rfl, _, _, rfl, rfl, _, rfl, ite2 (fun e => ?_) (fun _ => ?_)⟩
      · refine ⟨.ref b, rfl, b, _, 2, .int g, rfl, rfl, .of hb, atI_nat (j := 2) rfl, .inl ⟨_, rfl, .int m, rfl, _, _, rfl, rfl, m0, ?_⟩⟩
        refine ⟨.ref b, rfl, b, _, 2, .int g, rfl, rfl, .of hb, atI_nat (j := 2) rfl, .int m, rfl, _, _, rfl, rfl, wide_div (b := 40) m0 (by show m.natAbs < 1099511627776; omega) (by decide) (by decide), .ref b, rfl, b, _, 2, 2, rfl, rfl, hb, Evl.ixN_nat (n := 5) (j := 2) (by decide), .int (g % m), rfl, ?_⟩
        refine q _ _ (Int.emod_nonneg _ (by omega)) (Int.emod_lt_of_pos _ m0) (b1.trans But.upd) ⟨ns, i, g / m, s', t, cb, upd_same, ?_, hn, hi, Int.ediv_nonneg hg (by omega), hs, hs2⟩
        rw [upd_ne cb]; exact hc
      · refine ⟨.ref b, rfl, b, _, 4, .int t, rfl, rfl, .of hb, atI_nat (j := 4) rfl, _, _, rfl, rfl, .ref b, rfl, b, _, 4, 4, rfl, rfl, hb, Evl.ixN_nat (n := 5) (j := 4) (by decide), ?_⟩
        have h1 : (upd H1 b (.lst (bagL c i g s' (t + 1)))) b = some (.lst (bagL c i g s' (t + 1))) := upd_same
        refine ⟨.ref b, rfl, b, _, 3, .int s', rfl, rfl, .of h1, atI_nat (j := 3) rfl, ?_⟩
        refine ⟨.int s', rfl, .int s', rfl, _, _, rfl, rfl, .inl ⟨by omega, by omega⟩, .int s', rfl, _, _, rfl, rfl, .inr ⟨by decide, by decide⟩, _, _, rfl, rfl, .ref b, rfl, b, _, 4, .int (t + 1), rfl, rfl, .of h1, atI_nat (j := 4) rfl, _, _, rfl, rfl, .inr ⟨by decide, by decide⟩, _, _, rfl, rfl, _, _, rfl, rfl, .inl ⟨_, rfl, _, _, rfl, rfl, (by show (0 : Int) < 2147483587; decide), ?_⟩⟩
        refine ⟨.ref b, rfl, b, _, 3, 3, rfl, rfl, h1, Evl.ixN_nat (n := 5) (j := 3) (by decide), ?_⟩
        let s2 : Int := (s' * s' + s' * 35023 + (t + 1) * 1299721 + 93251) % 2147483587
        have h2 : (upd (upd H1 b (.lst (bagL c i g s' (t + 1)))) b (.lst (bagL c i g s2 (t + 1)))) b = some (.lst (bagL c i g s2 (t + 1))) := upd_same
        refine ⟨.ref b, rfl, b, _, 3, .int s2, rfl, rfl, .of h2, atI_nat (j := 3) rfl, _, _, rfl, rfl, ⟨by decide, by decide⟩, .ref b, rfl, b, _, 3, .int s2, rfl, rfl, .of h2, atI_nat (j := 3) rfl, .inl ⟨_, rfl, _, _, rfl, rfl, (by show (0 : Int) < 7927; decide), _, _, rfl, rfl, .inr ⟨by decide, by decide⟩, _, _, rfl, rfl, .inl ⟨_, rfl, .int m, rfl, _, _, rfl, rfl, m0, ?_⟩⟩⟩
        refine q _ _ (Int.emod_nonneg _ (by omega)) (Int.emod_lt_of_pos _ m0) ((b1.trans But.upd).trans But.upd) ⟨ns, i, g, s2, t + 1, cb, upd_same, ?_, hn, hi, hg, Int.emod_nonneg _ (by decide), Int.emod_lt_of_pos _ (by decide)⟩
        rw [upd_ne cb, upd_ne cb]; exact hc
end
end X1

namespace X1
open PySem PySem.Spec PyProof.Rows L2
section
variable {P : Program} {w : World} {K : PySem.W.Frag} {mg : Str → Option Value} {base : Heap}
/-! ### any -/
def spAny : Sp := fun vs H Q _ => ∃ (b c : Addr) (x : V), vs = [.ref b, x] ∧ Bag H b c ∧
  ((∃ (p : Addr) (xs : List V), x = .ref p ∧ H p = some (.lst xs) ∧ p ≠ b ∧ 0 < xs.length ∧ xs.length ≤ 1000 ∧ ∀ (r : Nat) v H', xs[r]? = some v → But b H H' → Bag H' b c → Q v H') ∨
   (∃ z : Str, x = .str z ∧ 0 < z.length ∧ z.length ≤ 1000 ∧ ∀ (r : Nat) d H', z.cps.toList[r]? = some d → But b H H' → Bag H' b c → Q (.str ⟨#[d]⟩) H'))
theorem ok_any {f fP : Addr} {fd fdP : FuncData} {k : Nat} (F : Fun K "_law_any" "_law_any" sAny f fd) (FP : Fun K "_law_pull" "_law_pull" sPull fP fdP) (bP : Binds K fdP ["_law_bag", "_law_many"] []) (gP : mg "_law_pull" = some (.ref fP)) (ml : mg "len" = none) (mi : mg "int" = none) :
    FnOk P w K mg base CX0 (k + 2) f fd ["_law_bag", "_law_things"] spAny := by
  have GP : FnOk P w K mg base CX0 (k + 1) fP fdP ["_law_bag", "_law_many"] spPull := ok_pull FP ml mi
  refine F.ok scAny (fun vs H Q E h => ?_) (fun cdv A outer s H vs Q E hr h => ?_)
  · obtain ⟨b, c, x, rfl, _⟩ := h
    rfl
  · obtain ⟨b, c, x, rfl, B, h⟩ := h
    refine ⟨_, pss_one (ps_ret (pe_ix ix_seq (pv 1) (pe_call GP hr (by rfl) gP FP.kp bP .nil pass0 (pa_cons (pv 0) (pa_cons (pe_callB call_len (by rfl) ml PySem.boot_len (pa_cons (pv 1) pa_nil)) pa_nil))) (fun _ _ => rfl))), ?_⟩
    rcases h with ⟨p, xs, rfl, hp, pb, l0, l1, q⟩ | ⟨z, rfl, l0, l1, q⟩
    · refine ⟨.ref p, rfl, .ref b, rfl, .ref p, rfl, .ref p, xs.length, rfl, .inl ⟨xs, .of hp, rfl⟩, b, c, _, rfl, B, by omega, by omega, fun r H' r0 r1 bt B' => ?_⟩
      obtain ⟨j, rfl⟩ : ∃ j : Nat, r = j := ⟨r.toNat, by omega⟩
      have hj : j < xs.length := by omega
      exact .inl ⟨p, xs, j, xs[j], rfl, rfl, .of (bt _ _ hp pb), atI_nat (List.getElem?_eq_getElem hj), q j _ _ (List.getElem?_eq_getElem hj) bt B'⟩
    · have zl : z.length ≤ sizeLine := Nat.le_of_lt (small1000 l1)
      refine ⟨.str z, rfl, .ref b, rfl, .str z, rfl, .str z, z.length, rfl, ⟨zl, rfl⟩, b, c, _, rfl, B, by omega, by omega, fun r H' r0 r1 bt B' => ?_⟩
      obtain ⟨j, rfl⟩ : ∃ j : Nat, r = j := ⟨r.toNat, by omega⟩
      have hj : j < z.cps.toList.length := by
        have e : z.cps.toList.length = z.length := by simp [Str.length]
        omega
      exact .inr (.inr ⟨z, j, z.cps.toList[j], rfl, rfl, zl, atI_nat (List.getElem?_eq_getElem hj), q j _ _ (List.getElem?_eq_getElem hj) bt B'⟩)
end
end X1

namespace X1
open PySem PySem.Spec PyProof.Rows L2
/-- built-in names that the program does not shadow -/
structure Blt (mg : Str → Option Value) : Prop where
  mint : mg "int" = none
  mbool : mg "bool" = none
  mstr : mg "str" = none
  misi : mg "isinstance" = none
  mlen : mg "len" = none
  mall : mg "all" = none
  mrange : mg "range" = none
  mtuple : mg "tuple" = none
  mlist : mg "list" = none
  mve : mg "ValueError" = none
  mle : mg "LookupError" = none
  mie : mg "IndexError" = none
end X1

namespace X1
open PySem PySem.Spec PyProof.Rows L2
/-! ### like: found and due hold the same data -/
abbrev sLike : Stmt := top 26
theorem scLike : FnScope ["_law_found", "_law_due", "_law_k"] ["_law_found", "_law_due"] (defScope sLike) := ⟨rfl, rfl, rfl, by decide +kernel, rfl, by decide +kernel, by decide +kernel⟩
inductive DLe : Nat → PyData → Prop
  | non {n : Nat} : DLe n .none
  | bl {n : Nat} (b : Bool) : DLe n (.bool b)
  | int {n : Nat} (i : Int) : DLe n (.int i)
  | str {n : Nat} (z : Str) : DLe n (.str z)
  | lst {n : Nat} {ds : List PyData} (hl : ds.length ≤ 1000) (h : ∀ d ∈ ds, DLe n d) : DLe (n + 1) (.list ds)
  | tup {n : Nat} {ds : List PyData} (hl : ds.length ≤ 1000) (h : ∀ d ∈ ds, DLe n d) : DLe (n + 1) (.tuple ds)
section
variable {K : PySem.W.Frag} {H H' : Hp}
theorem same_seqT {a : Addr} {xs : List V} (e : Same H H') (h : SqT K H a xs) : SqT K H' a xs := by
  rcases h with (h | ⟨o, h⟩) | h
  · exact .inl (.inl (e _ _ h))
  · exact .inl (.inr ⟨o, e _ _ h⟩)
  · exact .inr h
mutual
theorem dp_same (e : Same H H') : ∀ {v : V} {d : PyData}, Dp K H v d → Dp K H' v d
  | _, _, .non => .non
  | _, _, .bl b => .bl b
  | _, _, .int i => .int i
  | _, _, .str x => .str x
  | _, _, .lst h1 h2 => .lst (e.seq h1) (dpAll_same e h2)
  | _, _, .tup h1 h2 => .tup (same_seqT e h1) (dpAll_same e h2)
theorem dpAll_same (e : Same H H') : ∀ {vs : List V} {ds : List PyData}, DpAll K H vs ds → DpAll K H' vs ds
  | _, _, .nil => .nil
  | _, _, .cons h1 h2 => .cons (dp_same e h1) (dpAll_same e h2)
end
theorem dpAll_len : ∀ {vs : List V} {ds : List PyData}, DpAll K H vs ds → vs.length = ds.length
  | _, _, .nil => rfl
  | _, _, .cons _ h => by rw [List.length_cons, List.length_cons, dpAll_len h]
theorem dpAll_get : ∀ {vs : List V} {ds : List PyData} {i : Nat} {d : PyData}, DpAll K H vs ds → ds[i]? = some d → ∃ v, vs[i]? = some v ∧ Dp K H v d
  | _, _, _, _, .nil, h => by simp at h
  | _, _, 0, _, .cons h1 _, h => ⟨_, rfl, by have := Option.some.inj h; rw [← this]; exact h1⟩
  | _, _, i + 1, _, .cons _ h2, h => dpAll_get (i := i) h2 h
theorem ty_lst {a : Addr} {xs : List V} (h : SqL K H a xs) : TyX K H (.ref a) (.type "list") := by
  rcases h with (h | ⟨o, h⟩) | ⟨o, its, n, h, hc, _⟩
  · exact .base (.lst h)
  · exact .base (.frz h)
  · exact .kList h hc
theorem ty_tup {a : Addr} {xs : List V} (h : SqT K H a xs) : TyX K H (.ref a) (.type "tuple") := by
  rcases h with (h | ⟨o, h⟩) | ⟨o, its, n, h, hc, _⟩
  · exact .base (.tup h)
  · exact .fTuple h
  · exact .kTuple h hc
theorem kit_any2 {t : String} {b1 b2 : Bool} (h1 : PySem.W.kitOne K (.type t) (.type "list") = some b1) (h2 : PySem.W.kitOne K (.type t) (.type "tuple") = some b2) : PySem.W.kitAny K (.type t) [.type "list", .type "tuple"] = some (b1 || b2) := by
  unfold PySem.W.kitAny
  rw [h1]
  cases b1
  · unfold PySem.W.kitAny
    rw [h2]
    cases b2
    · rfl
    · rfl
  · rfl
end
section
variable {P : Program} {w : World} {K : PySem.W.Frag} {mg : Str → Option Value} {base : Heap}
def spLike (K : PySem.W.Frag) (n : Nat) : Sp := fun vs H Q _ => ∃ (u v : V) (d : PyData), vs = [u, v] ∧ Dp K H u d ∧ Dp K H v d ∧ DLe n d ∧ ∀ H', Same H H' → Q (.bl true) H'
theorem body_like {f : Addr} {fd : FuncData} {n : Nat} (F : Fun K "_law_like" "_law_like" sLike f fd) (T : Blt mg) (ml : mg "list" = none) (bL : Binds K fd ["_law_found", "_law_due"] []) (gL : mg "_law_like" = some (.ref f))
    (sub : FnOk P w K mg base CX0 n f fd ["_law_found", "_law_due"] (fun vs H Q E => ∃ m, n = m + 1 ∧ spLike K m vs H Q E)) : FnOk P w K mg base CX0 (n + 1) f fd ["_law_found", "_law_due"] (spLike K n) := by
  refine F.ok scLike (fun vs H Q E h => ?_) (fun cdv A outer s H vs Q E hr h => ?_)
  · obtain ⟨u, v, d, rfl, _⟩ := h
    rfl
  · obtain ⟨u, v, d, rfl, hu, hv, hd, q⟩ := h
    have isi : ∀ (i : Nat) (T' : String) (hi : i < 2), True := fun _ _ _ => trivial
    refine ⟨_, pss_cons (ps_if (PW.pt (pw_or (pt_cmpR op_isN (pv 0) pe_non (nomark _)) (pw_or1 (pt_cmpR op_isN (pv 1) pe_non (nomark _))))) (pss_one (ps_ret (pe_and (pe_cmpR op_isN (pv 0) pe_non (nomark _)) (pe_one (pe_cmpR op_isN (pv 1) pe_non (nomark _)))))) pss_nil)
      (pss_cons (ps_if (pt_val (pe_callB call_isiT (by rfl) T.misi (by decide +kernel) (pa_cons (pv 1) (pa_cons (pe_tup (pa_cons (pe_bltn (v := .ty "list") (by rfl) ml (by decide +kernel) rfl) (pa_cons (pe_bltn (v := .ty "tuple") (by rfl) T.mtuple (by decide +kernel) rfl) pa_nil))) pa_nil))))
        (pss_cons (ps_if (PW.pt (pw_or (pt_cmpR op_ne (pe_callB call_isi (by rfl) T.misi (by decide +kernel) (pa_cons (pv 0) (pa_cons (pe_bltn (v := .ty "list") (by rfl) ml (by decide +kernel) rfl) pa_nil))) (pe_callB call_isi (by rfl) T.misi (by decide +kernel) (pa_cons (pv 1) (pa_cons (pe_bltn (v := .ty "list") (by rfl) ml (by decide +kernel) rfl) pa_nil))) (nomark _))
            (pw_or1 (pt_cmpR op_ne (pe_callB call_isi (by rfl) T.misi (by decide +kernel) (pa_cons (pv 0) (pa_cons (pe_bltn (v := .ty "tuple") (by rfl) T.mtuple (by decide +kernel) rfl) pa_nil))) (pe_callB call_isi (by rfl) T.misi (by decide +kernel) (pa_cons (pv 1) (pa_cons (pe_bltn (v := .ty "tuple") (by rfl) T.mtuple (by decide +kernel) rfl) pa_nil))) (nomark _))))) (pss_one (ps_ret pe_bl)) pss_nil)
        (pss_one (ps_ret (pe_and (pe_cmpR op_eq (pe_callB call_len_seq (by rfl) T.mlen PySem.boot_len (pa_cons (pv 0) pa_nil)) (pe_callB call_len_seq (by rfl) T.mlen PySem.boot_len (pa_cons (pv 1) pa_nil)) (nomark _))
          (pe_one (pe_callB (cr_all rfl) (by rfl) T.mall (by decide +kernel) (pa_cons (pe_lc (own := [("_law_k", 2)]) (g := gName 2) (tt := tYes) rfl scLike.nd
            (pi_range1 rfl T.mrange (pa_cons (pe_callB call_len_seq (by rfl) T.mlen PySem.boot_len (pa_cons (pv 1) pa_nil)) pa_nil)) (blkOk_by (N := ["_law_found", "_law_due", "_law_k"]) (sc := defScope sLike) (by decide +kernel))
            (fun _ _ _ _ _ => pg_name (i := 2) scLike.nd rfl (Or.inl rfl)) (fun _ _ _ _ _ => pts_nil)
            (fun _ _ _ _ _ => pe_call sub hr (by rfl) gL F.kp bL .nil pass0 (pa_cons (pe_ix (r := rIx K) ix_seq (pv 0) (pv 2) (fun _ _ => rfl)) (pa_cons (pe_ix (r := rIx K) ix_seq (pv 1) (pv 2) (fun _ _ => rfl)) pa_nil)))) pa_nil)))))))
        pss_nil)
      (pss_cons (ps_if (PW.pt (pw_or (pt_cmpR op_ne (pe_callB call_isi (by rfl) T.misi (by decide +kernel) (pa_cons (pv 0) (pa_cons (pe_bltn (v := .ty "bool") (by rfl) T.mbool (by decide +kernel) rfl) pa_nil))) (pe_callB call_isi (by rfl) T.misi (by decide +kernel) (pa_cons (pv 1) (pa_cons (pe_bltn (v := .ty "bool") (by rfl) T.mbool (by decide +kernel) rfl) pa_nil))) (nomark _))
          (pw_or1 (pt_cmpR op_ne (pe_callB call_isi (by rfl) T.misi (by decide +kernel) (pa_cons (pv 0) (pa_cons (pe_bltn (v := .ty "int") (by rfl) T.mint (by decide +kernel) rfl) pa_nil))) (pe_callB call_isi (by rfl) T.misi (by decide +kernel) (pa_cons (pv 1) (pa_cons (pe_bltn (v := .ty "int") (by rfl) T.mint (by decide +kernel) rfl) pa_nil))) (nomark _))))) (pss_one (ps_ret pe_bl)) pss_nil)
      (pss_one (ps_ret (pe_and (pe_cmpR op_eq (pe_callB call_isi (by rfl) T.misi (by decide +kernel) (pa_cons (pv 0) (pa_cons (pe_bltn (v := .ty "str") (by rfl) T.mstr (by decide +kernel) rfl) pa_nil))) (pe_callB call_isi (by rfl) T.misi (by decide +kernel) (pa_cons (pv 1) (pa_cons (pe_bltn (v := .ty "str") (by rfl) T.mstr (by decide +kernel) rfl) pa_nil))) (nomark _))
        (pe_one (pe_cmpR op_eq (pv 0) (pv 1) (nomark _)))))))), ?_⟩
    have nn : ∀ {x : V}, x ≠ .non → V.bl (decide (x = V.non)) = V.bl false := fun h => congrArg V.bl (decide_eq_false h)
    have sm : ∀ b : Bool, V.bl (!decide (V.bl b = V.bl b)) = V.bl false := fun b => by rw [decide_eq_true rfl]; rfl
    have three : (d = .none) ∨ (∃ (x : V) (t : String) (cb ci cs : Bool), u = x ∧ v = x ∧ x ≠ .non ∧ scal x x = true ∧ (∀ H, TyX K H x (.type t)) ∧ PySem.W.kitOne K (.type t) (.type "bool") = some cb ∧ PySem.W.kitOne K (.type t) (.type "int") = some ci ∧
        PySem.W.kitOne K (.type t) (.type "str") = some cs ∧ PySem.W.kitOne K (.type t) (.type "list") = some false ∧ PySem.W.kitOne K (.type t) (.type "tuple") = some false) ∨
        (∃ (a a' : Addr) (xs ys : List V) (ds : List PyData) (t : String) (l1 l2 : Bool) (m : Nat), u = .ref a ∧ v = .ref a' ∧ (SqL K H a xs ∨ SqT K H a xs) ∧ (SqL K H a' ys ∨ SqT K H a' ys) ∧ DpAll K H xs ds ∧ DpAll K H ys ds ∧ n = m + 1 ∧ ds.length ≤ 1000 ∧ (∀ d ∈ ds, DLe m d) ∧
          (∀ H', Same H H' → TyX K H' (.ref a) (.type t) ∧ TyX K H' (.ref a') (.type t)) ∧ PySem.W.kitOne K (.type t) (.type "list") = some l1 ∧ PySem.W.kitOne K (.type t) (.type "tuple") = some l2 ∧ (l1 || l2) = true) := by
      cases hd with
      | non => exact .inl rfl
      | bl b =>
        cases hu; cases hv
        exact .inr (.inl ⟨.bl b, "bool", true, true, false, rfl, rfl, (fun z => nomatch z), rfl, fun H => .base (.bl b), kit_ty (by decide +kernel), kit_ty (by decide +kernel), kit_ty (by decide +kernel), kit_ty (by decide +kernel), kit_ty (by decide +kernel)⟩)
      | int i =>
        cases hu; cases hv
        exact .inr (.inl ⟨.int i, "int", false, true, false, rfl, rfl, (fun z => nomatch z), rfl, fun H => .base (.int i), kit_ty (by decide +kernel), kit_ty (by decide +kernel), kit_ty (by decide +kernel), kit_ty (by decide +kernel), kit_ty (by decide +kernel)⟩)
      | str i =>
        cases hu; cases hv
        exact .inr (.inl ⟨.str i, "str", false, false, true, rfl, rfl, (fun z => nomatch z), rfl, fun H => .base (.str i), kit_ty (by decide +kernel), kit_ty (by decide +kernel), kit_ty (by decide +kernel), kit_ty (by decide +kernel), kit_ty (by decide +kernel)⟩)
      | lst hl hds =>
        cases hu with | lst a1 a2 => cases hv with | lst b1 b2 =>
        exact .inr (.inr ⟨_, _, _, _, _, "list", true, false, _, rfl, rfl, .inl a1, .inl b1, a2, b2, rfl, hl, hds, fun H' s' => ⟨ty_lst (s'.seq a1), ty_lst (s'.seq b1)⟩, kit_ty (by decide +kernel), kit_ty (by decide +kernel), rfl⟩)
      | tup hl hds =>
        cases hu with | tup a1 a2 => cases hv with | tup b1 b2 =>
        exact .inr (.inr ⟨_, _, _, _, _, "tuple", false, true, _, rfl, rfl, .inr a1, .inr b1, a2, b2, rfl, hl, hds, fun H' s' => ⟨ty_tup (same_seqT s' a1), ty_tup (same_seqT s' b1)⟩, kit_ty (by decide +kernel), kit_ty (by decide +kernel), rfl⟩)
    rcases three with rfl | ⟨x, t, cb, ci, cs, rfl, rfl, xn, sx, ty, kb, ki, ks, kl, kt⟩ | ⟨a, a', xs, ys, ds, t, l1, l2, m, rfl, rfl, ha, ha', da, da', rfl, hl, hds, ty, kl, kt, k12⟩
    · cases hu; cases hv
      refine ⟨.non, rfl, rfl, true, congrArg V.bl (decide_eq_true rfl), iteT (iteT ?_)⟩
      refine ⟨.non, rfl, rfl, true, congrArg V.bl (decide_eq_true rfl), iteT ⟨.non, rfl, rfl, ?_⟩⟩
      rw [decide_eq_true rfl]
      exact q H (Same.refl H)
    · refine ⟨_, rfl, rfl, false, nn xn, iteF ⟨_, rfl, rfl, false, nn xn, iteF ?_⟩⟩
      refine ⟨_, rfl, by show 2 ≤ sizeLine; decide, fun tt ntt => ⟨_, tt, _, _, _, false, rfl, upd_same, .cons (.ty _) (.cons (.ty _) .nil), ty _, kit_any2 kl kt, false, rfl, iteF ?_⟩⟩
      have s1 := same_upd (o := .tup [V.ty "list", V.ty "tuple"]) ntt
      refine ⟨_, rfl, _, .ty "bool", _, _, cb, rfl, .ty _, ty _, kb, _, rfl, _, .ty "bool", _, _, cb, rfl, .ty _, ty _, kb, rfl, false, sm cb, iteF ?_⟩
      refine ⟨_, rfl, _, .ty "int", _, _, ci, rfl, .ty _, ty _, ki, _, rfl, _, .ty "int", _, _, ci, rfl, .ty _, ty _, ki, rfl, false, sm ci, iteF ?_⟩
      refine ⟨_, rfl, _, .ty "str", _, _, cs, rfl, .ty _, ty _, ks, _, rfl, _, .ty "str", _, _, cs, rfl, .ty _, ty _, ks, rfl, true, congrArg V.bl (decide_eq_true rfl), iteT ?_⟩
      refine ⟨_, rfl, _, rfl, sx, ?_⟩
      rw [decide_eq_true rfl]
      exact q _ s1
    · have an : ∀ b : Addr, V.ref b ≠ V.non := fun b z => nomatch z
      refine ⟨_, rfl, rfl, false, nn (an _), iteF ⟨_, rfl, rfl, false, nn (an _), iteF ?_⟩⟩
      refine ⟨_, rfl, by show 2 ≤ sizeLine; decide, fun tt ntt => ?_⟩
      have s1 := same_upd (o := .tup [V.ty "list", V.ty "tuple"]) ntt
      obtain ⟨ty1, ty2⟩ := ty _ s1
      have lx := dpAll_len da
      have ly := dpAll_len da'
      refine ⟨_, tt, _, _, _, true, rfl, upd_same, .cons (.ty _) (.cons (.ty _) .nil), ty2, (kit_any2 kl kt).trans (congrArg some k12), true, rfl, iteT ?_⟩
      refine ⟨_, rfl, _, .ty "list", _, _, l1, rfl, .ty _, ty1, kl, _, rfl, _, .ty "list", _, _, l1, rfl, .ty _, ty2, kl, rfl, false, sm l1, iteF ?_⟩
      refine ⟨_, rfl, _, .ty "tuple", _, _, l2, rfl, .ty _, ty1, kt, _, rfl, _, .ty "tuple", _, _, l2, rfl, .ty _, ty2, kt, rfl, false, sm l2, iteF ?_⟩
      have sq : ∀ {b : Addr} {zs : List V} {H' : Hp}, Same H H' → (SqL K H b zs ∨ SqT K H b zs) → (SqL K H' b zs ∨ SqT K H' b zs) := fun s' h => h.elim (fun z => .inl (s'.seq z)) (fun z => .inr (same_seqT s' z))
      refine ⟨_, rfl, a, xs, rfl, sq s1 ha, _, rfl, a', ys, rfl, sq s1 ha', rfl, true, ?_, iteT ?_⟩
      · rw [lx, ly, decide_eq_true rfl]
      refine ⟨_, rfl, a', ys, rfl, sq s1 ha', ys.length, rfl, by omega, by omega, fun D nD => ?_⟩
      refine lc_range (lo := 0) (n := (ys.length : Int).toNat) (fun i H2 => Same H H2 ∧ H2 D = some (.lst ((List.replicate i true).map V.bl))) ⟨s1.trans (same_upd nD), upd_same⟩ ?_ ?_
      · rintro i H2 hi ⟨s2, hD⟩
        have e0 : (V.int (0 + (i : Int))) = V.int (i : Nat) := by
          congr 1
          omega
        rw [e0]
        have hid : i < ds.length := by omega
        have gd : ds[i]? = some ds[i] := List.getElem?_eq_getElem hid
        obtain ⟨x1, gx, dx⟩ := dpAll_get da gd
        obtain ⟨y1, gy, dy⟩ := dpAll_get da' gd
        have ix : ∀ {b : Addr} {zs : List V} {z : V} {Qz : VK}, (SqL K H b zs ∨ SqT K H b zs) → zs[i]? = some z → Qz z H2 → rIx K (.ref b) (.int (i : Nat)) H2 Qz := fun h hz hq =>
          (sq s2 h).elim (fun y => .inl ⟨_, _, _, _, rfl, rfl, y, atI_nat hz, hq⟩) (fun y => .inr (.inl ⟨_, _, _, _, rfl, rfl, y, atI_nat hz, hq⟩))
        refine ⟨rfl, _, rfl, _, rfl, ix ha gx ⟨_, rfl, _, rfl, ix ha' gy ?_⟩⟩
        refine ⟨m, rfl, x1, y1, _, rfl, dp_same s2 dx, dp_same s2 dy, hds _ (List.getElem_mem hid), fun H3 s3 => ?_⟩
        have hnD : H D = none := s1.free nD
        refine ⟨_, s3 _ _ hD, ?_, fun b o e => ?_, ?_⟩
        · rw [List.length_map, List.length_replicate]
          exact small1000 (by omega)
        · rw [upd_ne (ne_of_none e hnD)]
          exact s3 _ _ (s2 _ _ e)
        · rw [upd_same, List.replicate_succ', List.map_append]
          rfl
      · rintro H2 ⟨s2, hD⟩
        refine ⟨D, _, rfl, .of hD, ?_⟩
        have e : (List.replicate (ys.length : Int).toNat true).all id = true := by simp
        rw [e]
        exact q H2 s2
/-- at every depth -/
theorem ok_like {f : Addr} {fd : FuncData} (F : Fun K "_law_like" "_law_like" sLike f fd) (T : Blt mg) (ml : mg "list" = none) (bL : Binds K fd ["_law_found", "_law_due"] []) (gL : mg "_law_like" = some (.ref f)) :
    ∀ n : Nat, FnOk P w K mg base CX0 (n + 1) f fd ["_law_found", "_law_due"] (spLike K n)
  | 0 => body_like F T ml bL gL { len := fun vs H Q E h => (by obtain ⟨m, e, _⟩ := h; exact absurd e (by omega)), run := fun A outer s H args us vs Q E _ _ _ _ h => (by obtain ⟨m, e, _⟩ := h; exact absurd e (by omega)) }
  | n + 1 => body_like F T ml bL gL ((ok_like F T ml bL gL n).imp fun vs H Q E h => by obtain ⟨m, e, h⟩ := h; cases e; exact h)
end
end X1

namespace X1
open PySem PySem.Spec PyProof.Rows L2 GX
/-! ### the constructors -/
def codesL : List Str := ["InvalidName", "DuplicateName", "InvalidNumber", "InvalidTable", "InvalidBases", "InvalidDeed", "InvalidCondition", "InvalidLine", "InvalidText", "InvalidCommand", "Refused", "Impossible", "TooMany", "Untimed", "WrongShape", "UnknownBranch", "UnknownChange", "UnknownMoment", "NothingLeft"]
def fldL : List (Option Str) := [(some "name"), (some "name"), (some "number"), (some "given"), (some "given"), none, (some "given"), (some "at"), (some "at"), (some "at"), (some "word"), (some "at"), (some "most"), none, none, (some "name"), (some "name"), none, none]
section
variable {P : Program} {w : World} {K : PySem.W.Frag} {mg : Str → Option Value} {base : Heap}
abbrev sI0 : Stmt := inClass (top 3) 0
theorem scI0 : FnScope ["self", "name"] ["self", "name"] (defScope sI0) := ⟨rfl, rfl, rfl, by decide +kernel, rfl, by decide +kernel, by decide +kernel⟩
theorem ok_i0 {f : Addr} {fd : FuncData} (F : Fun K "__init__" "InvalidName.__init__" sI0 f fd) : FnOk P w K mg base CX0 1 f fd ["self", "name"] (spX K "InvalidName" (some "name")) := by
  refine F.ok scI0 (fun vs H Q E h => ?_) (fun cdv A outer s H vs Q E hr h => ?_)
  · obtain ⟨a, C, ws, rfl, hl, _⟩ := h
    show ws.length + 1 = 2
    rw [hl]
    rfl
  · obtain ⟨a, C, ws, rfl, hl, T, nc, nf, ha, q⟩ := h
    obtain ⟨v, rfl⟩ : ∃ v, ws = [v] := List.length_eq_one_iff.mp hl
    refine ⟨_, pss_cons (ps_gst (pv 0) (pv 1)) (pss_one (ps_gst (pv 0) pe_str)), ?_⟩
    refine ⟨v, rfl, .ref a, rfl, a, C, rfl, T, nf _ rfl, .inl ⟨ha, fun d nd ne => ?_⟩⟩
    have e1 : (upd (upd H d (exd d [("name", v)])) a (exo a C (some d))) d = some (exd d [("name", v)]) := by rw [upd_ne ne, upd_same]
    refine ⟨.ref a, rfl, a, C, rfl, T, nc, .inr ⟨d, _, upd_same, e1, by show 1 ≤ 900; decide, q _ d nd ne (fun b o hb z => ?_) ?_ upd_same⟩⟩
    · have nb : b ≠ d := ne_of_none z nd
      rw [upd_ne nb, upd_ne hb, upd_ne nb]
      exact z
    · rw [upd_ne ne.symm]
      exact upd_same
abbrev sI1 : Stmt := inClass (top 4) 0
theorem scI1 : FnScope ["self", "name"] ["self", "name"] (defScope sI1) := ⟨rfl, rfl, rfl, by decide +kernel, rfl, by decide +kernel, by decide +kernel⟩
theorem ok_i1 {f : Addr} {fd : FuncData} (F : Fun K "__init__" "DuplicateName.__init__" sI1 f fd) : FnOk P w K mg base CX0 1 f fd ["self", "name"] (spX K "DuplicateName" (some "name")) := by
  refine F.ok scI1 (fun vs H Q E h => ?_) (fun cdv A outer s H vs Q E hr h => ?_)
  · obtain ⟨a, C, ws, rfl, hl, _⟩ := h
    show ws.length + 1 = 2
    rw [hl]
    rfl
  · obtain ⟨a, C, ws, rfl, hl, T, nc, nf, ha, q⟩ := h
    obtain ⟨v, rfl⟩ : ∃ v, ws = [v] := List.length_eq_one_iff.mp hl
    refine ⟨_, pss_cons (ps_gst (pv 0) (pv 1)) (pss_one (ps_gst (pv 0) pe_str)), ?_⟩
    refine ⟨v, rfl, .ref a, rfl, a, C, rfl, T, nf _ rfl, .inl ⟨ha, fun d nd ne => ?_⟩⟩
    have e1 : (upd (upd H d (exd d [("name", v)])) a (exo a C (some d))) d = some (exd d [("name", v)]) := by rw [upd_ne ne, upd_same]
    refine ⟨.ref a, rfl, a, C, rfl, T, nc, .inr ⟨d, _, upd_same, e1, by show 1 ≤ 900; decide, q _ d nd ne (fun b o hb z => ?_) ?_ upd_same⟩⟩
    · have nb : b ≠ d := ne_of_none z nd
      rw [upd_ne nb, upd_ne hb, upd_ne nb]
      exact z
    · rw [upd_ne ne.symm]
      exact upd_same
abbrev sI2 : Stmt := inClass (top 5) 0
theorem scI2 : FnScope ["self", "number"] ["self", "number"] (defScope sI2) := ⟨rfl, rfl, rfl, by decide +kernel, rfl, by decide +kernel, by decide +kernel⟩
theorem ok_i2 {f : Addr} {fd : FuncData} (F : Fun K "__init__" "InvalidNumber.__init__" sI2 f fd) : FnOk P w K mg base CX0 1 f fd ["self", "number"] (spX K "InvalidNumber" (some "number")) := by
  refine F.ok scI2 (fun vs H Q E h => ?_) (fun cdv A outer s H vs Q E hr h => ?_)
  · obtain ⟨a, C, ws, rfl, hl, _⟩ := h
    show ws.length + 1 = 2
    rw [hl]
    rfl
  · obtain ⟨a, C, ws, rfl, hl, T, nc, nf, ha, q⟩ := h
    obtain ⟨v, rfl⟩ : ∃ v, ws = [v] := List.length_eq_one_iff.mp hl
    refine ⟨_, pss_cons (ps_gst (pv 0) (pv 1)) (pss_one (ps_gst (pv 0) pe_str)), ?_⟩
    refine ⟨v, rfl, .ref a, rfl, a, C, rfl, T, nf _ rfl, .inl ⟨ha, fun d nd ne => ?_⟩⟩
    have e1 : (upd (upd H d (exd d [("number", v)])) a (exo a C (some d))) d = some (exd d [("number", v)]) := by rw [upd_ne ne, upd_same]
    refine ⟨.ref a, rfl, a, C, rfl, T, nc, .inr ⟨d, _, upd_same, e1, by show 1 ≤ 900; decide, q _ d nd ne (fun b o hb z => ?_) ?_ upd_same⟩⟩
    · have nb : b ≠ d := ne_of_none z nd
      rw [upd_ne nb, upd_ne hb, upd_ne nb]
      exact z
    · rw [upd_ne ne.symm]
      exact upd_same
abbrev sI3 : Stmt := inClass (top 6) 0
theorem scI3 : FnScope ["self", "given"] ["self", "given"] (defScope sI3) := ⟨rfl, rfl, rfl, by decide +kernel, rfl, by decide +kernel, by decide +kernel⟩
theorem ok_i3 {f : Addr} {fd : FuncData} (F : Fun K "__init__" "InvalidTable.__init__" sI3 f fd) : FnOk P w K mg base CX0 1 f fd ["self", "given"] (spX K "InvalidTable" (some "given")) := by
  refine F.ok scI3 (fun vs H Q E h => ?_) (fun cdv A outer s H vs Q E hr h => ?_)
  · obtain ⟨a, C, ws, rfl, hl, _⟩ := h
    show ws.length + 1 = 2
    rw [hl]
    rfl
  · obtain ⟨a, C, ws, rfl, hl, T, nc, nf, ha, q⟩ := h
    obtain ⟨v, rfl⟩ : ∃ v, ws = [v] := List.length_eq_one_iff.mp hl
    refine ⟨_, pss_cons (ps_gst (pv 0) (pv 1)) (pss_one (ps_gst (pv 0) pe_str)), ?_⟩
    refine ⟨v, rfl, .ref a, rfl, a, C, rfl, T, nf _ rfl, .inl ⟨ha, fun d nd ne => ?_⟩⟩
    have e1 : (upd (upd H d (exd d [("given", v)])) a (exo a C (some d))) d = some (exd d [("given", v)]) := by rw [upd_ne ne, upd_same]
    refine ⟨.ref a, rfl, a, C, rfl, T, nc, .inr ⟨d, _, upd_same, e1, by show 1 ≤ 900; decide, q _ d nd ne (fun b o hb z => ?_) ?_ upd_same⟩⟩
    · have nb : b ≠ d := ne_of_none z nd
      rw [upd_ne nb, upd_ne hb, upd_ne nb]
      exact z
    · rw [upd_ne ne.symm]
      exact upd_same
abbrev sI4 : Stmt := inClass (top 7) 0
theorem scI4 : FnScope ["self", "given"] ["self", "given"] (defScope sI4) := ⟨rfl, rfl, rfl, by decide +kernel, rfl, by decide +kernel, by decide +kernel⟩
theorem ok_i4 {f : Addr} {fd : FuncData} (F : Fun K "__init__" "InvalidBases.__init__" sI4 f fd) : FnOk P w K mg base CX0 1 f fd ["self", "given"] (spX K "InvalidBases" (some "given")) := by
  refine F.ok scI4 (fun vs H Q E h => ?_) (fun cdv A outer s H vs Q E hr h => ?_)
  · obtain ⟨a, C, ws, rfl, hl, _⟩ := h
    show ws.length + 1 = 2
    rw [hl]
    rfl
  · obtain ⟨a, C, ws, rfl, hl, T, nc, nf, ha, q⟩ := h
    obtain ⟨v, rfl⟩ : ∃ v, ws = [v] := List.length_eq_one_iff.mp hl
    refine ⟨_, pss_cons (ps_gst (pv 0) (pv 1)) (pss_one (ps_gst (pv 0) pe_str)), ?_⟩
    refine ⟨v, rfl, .ref a, rfl, a, C, rfl, T, nf _ rfl, .inl ⟨ha, fun d nd ne => ?_⟩⟩
    have e1 : (upd (upd H d (exd d [("given", v)])) a (exo a C (some d))) d = some (exd d [("given", v)]) := by rw [upd_ne ne, upd_same]
    refine ⟨.ref a, rfl, a, C, rfl, T, nc, .inr ⟨d, _, upd_same, e1, by show 1 ≤ 900; decide, q _ d nd ne (fun b o hb z => ?_) ?_ upd_same⟩⟩
    · have nb : b ≠ d := ne_of_none z nd
      rw [upd_ne nb, upd_ne hb, upd_ne nb]
      exact z
    · rw [upd_ne ne.symm]
      exact upd_same
abbrev sI5 : Stmt := inClass (top 8) 0
theorem scI5 : FnScope ["self"] ["self"] (defScope sI5) := ⟨rfl, rfl, rfl, by decide +kernel, rfl, by decide +kernel, by decide +kernel⟩
theorem ok_i5 {f : Addr} {fd : FuncData} (F : Fun K "__init__" "InvalidDeed.__init__" sI5 f fd) : FnOk P w K mg base CX0 1 f fd ["self"] (spX K "InvalidDeed" none) := by
  refine F.ok scI5 (fun vs H Q E h => ?_) (fun cdv A outer s H vs Q E hr h => ?_)
  · obtain ⟨a, C, ws, rfl, hl, _⟩ := h
    show ws.length + 1 = 1
    rw [hl]
    rfl
  · obtain ⟨a, C, ws, rfl, hl, T, nc, nf, ha, q⟩ := h
    obtain rfl : ws = [] := List.length_eq_zero_iff.mp hl
    refine ⟨_, pss_one (ps_gst (pv 0) pe_str), ?_⟩
    refine ⟨.ref a, rfl, a, C, rfl, T, nc, .inl ⟨ha, fun d nd ne => q _ d nd ne (fun b o hb z => ?_) upd_same (by rw [upd_ne ne, upd_same]; rfl)⟩⟩
    rw [upd_ne hb, upd_ne (ne_of_none z nd)]
    exact z
abbrev sI6 : Stmt := inClass (top 9) 0
theorem scI6 : FnScope ["self", "given"] ["self", "given"] (defScope sI6) := ⟨rfl, rfl, rfl, by decide +kernel, rfl, by decide +kernel, by decide +kernel⟩
theorem ok_i6 {f : Addr} {fd : FuncData} (F : Fun K "__init__" "InvalidCondition.__init__" sI6 f fd) : FnOk P w K mg base CX0 1 f fd ["self", "given"] (spX K "InvalidCondition" (some "given")) := by
  refine F.ok scI6 (fun vs H Q E h => ?_) (fun cdv A outer s H vs Q E hr h => ?_)
  · obtain ⟨a, C, ws, rfl, hl, _⟩ := h
    show ws.length + 1 = 2
    rw [hl]
    rfl
  · obtain ⟨a, C, ws, rfl, hl, T, nc, nf, ha, q⟩ := h
    obtain ⟨v, rfl⟩ : ∃ v, ws = [v] := List.length_eq_one_iff.mp hl
    refine ⟨_, pss_cons (ps_gst (pv 0) (pv 1)) (pss_one (ps_gst (pv 0) pe_str)), ?_⟩
    refine ⟨v, rfl, .ref a, rfl, a, C, rfl, T, nf _ rfl, .inl ⟨ha, fun d nd ne => ?_⟩⟩
    have e1 : (upd (upd H d (exd d [("given", v)])) a (exo a C (some d))) d = some (exd d [("given", v)]) := by rw [upd_ne ne, upd_same]
    refine ⟨.ref a, rfl, a, C, rfl, T, nc, .inr ⟨d, _, upd_same, e1, by show 1 ≤ 900; decide, q _ d nd ne (fun b o hb z => ?_) ?_ upd_same⟩⟩
    · have nb : b ≠ d := ne_of_none z nd
      rw [upd_ne nb, upd_ne hb, upd_ne nb]
      exact z
    · rw [upd_ne ne.symm]
      exact upd_same
abbrev sI7 : Stmt := inClass (top 10) 0
theorem scI7 : FnScope ["self", "at"] ["self", "at"] (defScope sI7) := ⟨rfl, rfl, rfl, by decide +kernel, rfl, by decide +kernel, by decide +kernel⟩
theorem ok_i7 {f : Addr} {fd : FuncData} (F : Fun K "__init__" "InvalidLine.__init__" sI7 f fd) : FnOk P w K mg base CX0 1 f fd ["self", "at"] (spX K "InvalidLine" (some "at")) := by
  refine F.ok scI7 (fun vs H Q E h => ?_) (fun cdv A outer s H vs Q E hr h => ?_)
  · obtain ⟨a, C, ws, rfl, hl, _⟩ := h
    show ws.length + 1 = 2
    rw [hl]
    rfl
  · obtain ⟨a, C, ws, rfl, hl, T, nc, nf, ha, q⟩ := h
    obtain ⟨v, rfl⟩ : ∃ v, ws = [v] := List.length_eq_one_iff.mp hl
    refine ⟨_, pss_cons (ps_gst (pv 0) (pv 1)) (pss_one (ps_gst (pv 0) pe_str)), ?_⟩
    refine ⟨v, rfl, .ref a, rfl, a, C, rfl, T, nf _ rfl, .inl ⟨ha, fun d nd ne => ?_⟩⟩
    have e1 : (upd (upd H d (exd d [("at", v)])) a (exo a C (some d))) d = some (exd d [("at", v)]) := by rw [upd_ne ne, upd_same]
    refine ⟨.ref a, rfl, a, C, rfl, T, nc, .inr ⟨d, _, upd_same, e1, by show 1 ≤ 900; decide, q _ d nd ne (fun b o hb z => ?_) ?_ upd_same⟩⟩
    · have nb : b ≠ d := ne_of_none z nd
      rw [upd_ne nb, upd_ne hb, upd_ne nb]
      exact z
    · rw [upd_ne ne.symm]
      exact upd_same
abbrev sI8 : Stmt := inClass (top 11) 0
theorem scI8 : FnScope ["self", "at"] ["self", "at"] (defScope sI8) := ⟨rfl, rfl, rfl, by decide +kernel, rfl, by decide +kernel, by decide +kernel⟩
theorem ok_i8 {f : Addr} {fd : FuncData} (F : Fun K "__init__" "InvalidText.__init__" sI8 f fd) : FnOk P w K mg base CX0 1 f fd ["self", "at"] (spX K "InvalidText" (some "at")) := by
  refine F.ok scI8 (fun vs H Q E h => ?_) (fun cdv A outer s H vs Q E hr h => ?_)
  · obtain ⟨a, C, ws, rfl, hl, _⟩ := h
    show ws.length + 1 = 2
    rw [hl]
    rfl
  · obtain ⟨a, C, ws, rfl, hl, T, nc, nf, ha, q⟩ := h
    obtain ⟨v, rfl⟩ : ∃ v, ws = [v] := List.length_eq_one_iff.mp hl
    refine ⟨_, pss_cons (ps_gst (pv 0) (pv 1)) (pss_one (ps_gst (pv 0) pe_str)), ?_⟩
    refine ⟨v, rfl, .ref a, rfl, a, C, rfl, T, nf _ rfl, .inl ⟨ha, fun d nd ne => ?_⟩⟩
    have e1 : (upd (upd H d (exd d [("at", v)])) a (exo a C (some d))) d = some (exd d [("at", v)]) := by rw [upd_ne ne, upd_same]
    refine ⟨.ref a, rfl, a, C, rfl, T, nc, .inr ⟨d, _, upd_same, e1, by show 1 ≤ 900; decide, q _ d nd ne (fun b o hb z => ?_) ?_ upd_same⟩⟩
    · have nb : b ≠ d := ne_of_none z nd
      rw [upd_ne nb, upd_ne hb, upd_ne nb]
      exact z
    · rw [upd_ne ne.symm]
      exact upd_same
abbrev sI9 : Stmt := inClass (top 12) 0
theorem scI9 : FnScope ["self", "at"] ["self", "at"] (defScope sI9) := ⟨rfl, rfl, rfl, by decide +kernel, rfl, by decide +kernel, by decide +kernel⟩
theorem ok_i9 {f : Addr} {fd : FuncData} (F : Fun K "__init__" "InvalidCommand.__init__" sI9 f fd) : FnOk P w K mg base CX0 1 f fd ["self", "at"] (spX K "InvalidCommand" (some "at")) := by
  refine F.ok scI9 (fun vs H Q E h => ?_) (fun cdv A outer s H vs Q E hr h => ?_)
  · obtain ⟨a, C, ws, rfl, hl, _⟩ := h
    show ws.length + 1 = 2
    rw [hl]
    rfl
  · obtain ⟨a, C, ws, rfl, hl, T, nc, nf, ha, q⟩ := h
    obtain ⟨v, rfl⟩ : ∃ v, ws = [v] := List.length_eq_one_iff.mp hl
    refine ⟨_, pss_cons (ps_gst (pv 0) (pv 1)) (pss_one (ps_gst (pv 0) pe_str)), ?_⟩
    refine ⟨v, rfl, .ref a, rfl, a, C, rfl, T, nf _ rfl, .inl ⟨ha, fun d nd ne => ?_⟩⟩
    have e1 : (upd (upd H d (exd d [("at", v)])) a (exo a C (some d))) d = some (exd d [("at", v)]) := by rw [upd_ne ne, upd_same]
    refine ⟨.ref a, rfl, a, C, rfl, T, nc, .inr ⟨d, _, upd_same, e1, by show 1 ≤ 900; decide, q _ d nd ne (fun b o hb z => ?_) ?_ upd_same⟩⟩
    · have nb : b ≠ d := ne_of_none z nd
      rw [upd_ne nb, upd_ne hb, upd_ne nb]
      exact z
    · rw [upd_ne ne.symm]
      exact upd_same
abbrev sI10 : Stmt := inClass (top 13) 0
theorem scI10 : FnScope ["self", "word"] ["self", "word"] (defScope sI10) := ⟨rfl, rfl, rfl, by decide +kernel, rfl, by decide +kernel, by decide +kernel⟩
theorem ok_i10 {f : Addr} {fd : FuncData} (F : Fun K "__init__" "Refused.__init__" sI10 f fd) : FnOk P w K mg base CX0 1 f fd ["self", "word"] (spX K "Refused" (some "word")) := by
  refine F.ok scI10 (fun vs H Q E h => ?_) (fun cdv A outer s H vs Q E hr h => ?_)
  · obtain ⟨a, C, ws, rfl, hl, _⟩ := h
    show ws.length + 1 = 2
    rw [hl]
    rfl
  · obtain ⟨a, C, ws, rfl, hl, T, nc, nf, ha, q⟩ := h
    obtain ⟨v, rfl⟩ : ∃ v, ws = [v] := List.length_eq_one_iff.mp hl
    refine ⟨_, pss_cons (ps_gst (pv 0) (pv 1)) (pss_one (ps_gst (pv 0) pe_str)), ?_⟩
    refine ⟨v, rfl, .ref a, rfl, a, C, rfl, T, nf _ rfl, .inl ⟨ha, fun d nd ne => ?_⟩⟩
    have e1 : (upd (upd H d (exd d [("word", v)])) a (exo a C (some d))) d = some (exd d [("word", v)]) := by rw [upd_ne ne, upd_same]
    refine ⟨.ref a, rfl, a, C, rfl, T, nc, .inr ⟨d, _, upd_same, e1, by show 1 ≤ 900; decide, q _ d nd ne (fun b o hb z => ?_) ?_ upd_same⟩⟩
    · have nb : b ≠ d := ne_of_none z nd
      rw [upd_ne nb, upd_ne hb, upd_ne nb]
      exact z
    · rw [upd_ne ne.symm]
      exact upd_same
abbrev sI11 : Stmt := inClass (top 14) 0
theorem scI11 : FnScope ["self", "at"] ["self", "at"] (defScope sI11) := ⟨rfl, rfl, rfl, by decide +kernel, rfl, by decide +kernel, by decide +kernel⟩
theorem ok_i11 {f : Addr} {fd : FuncData} (F : Fun K "__init__" "Impossible.__init__" sI11 f fd) : FnOk P w K mg base CX0 1 f fd ["self", "at"] (spX K "Impossible" (some "at")) := by
  refine F.ok scI11 (fun vs H Q E h => ?_) (fun cdv A outer s H vs Q E hr h => ?_)
  · obtain ⟨a, C, ws, rfl, hl, _⟩ := h
    show ws.length + 1 = 2
    rw [hl]
    rfl
  · obtain ⟨a, C, ws, rfl, hl, T, nc, nf, ha, q⟩ := h
    obtain ⟨v, rfl⟩ : ∃ v, ws = [v] := List.length_eq_one_iff.mp hl
    refine ⟨_, pss_cons (ps_gst (pv 0) (pv 1)) (pss_one (ps_gst (pv 0) pe_str)), ?_⟩
    refine ⟨v, rfl, .ref a, rfl, a, C, rfl, T, nf _ rfl, .inl ⟨ha, fun d nd ne => ?_⟩⟩
    have e1 : (upd (upd H d (exd d [("at", v)])) a (exo a C (some d))) d = some (exd d [("at", v)]) := by rw [upd_ne ne, upd_same]
    refine ⟨.ref a, rfl, a, C, rfl, T, nc, .inr ⟨d, _, upd_same, e1, by show 1 ≤ 900; decide, q _ d nd ne (fun b o hb z => ?_) ?_ upd_same⟩⟩
    · have nb : b ≠ d := ne_of_none z nd
      rw [upd_ne nb, upd_ne hb, upd_ne nb]
      exact z
    · rw [upd_ne ne.symm]
      exact upd_same
abbrev sI12 : Stmt := inClass (top 15) 0
theorem scI12 : FnScope ["self", "most"] ["self", "most"] (defScope sI12) := ⟨rfl, rfl, rfl, by decide +kernel, rfl, by decide +kernel, by decide +kernel⟩
theorem ok_i12 {f : Addr} {fd : FuncData} (F : Fun K "__init__" "TooMany.__init__" sI12 f fd) : FnOk P w K mg base CX0 1 f fd ["self", "most"] (spX K "TooMany" (some "most")) := by
  refine F.ok scI12 (fun vs H Q E h => ?_) (fun cdv A outer s H vs Q E hr h => ?_)
  · obtain ⟨a, C, ws, rfl, hl, _⟩ := h
    show ws.length + 1 = 2
    rw [hl]
    rfl
  · obtain ⟨a, C, ws, rfl, hl, T, nc, nf, ha, q⟩ := h
    obtain ⟨v, rfl⟩ : ∃ v, ws = [v] := List.length_eq_one_iff.mp hl
    refine ⟨_, pss_cons (ps_gst (pv 0) (pv 1)) (pss_one (ps_gst (pv 0) pe_str)), ?_⟩
    refine ⟨v, rfl, .ref a, rfl, a, C, rfl, T, nf _ rfl, .inl ⟨ha, fun d nd ne => ?_⟩⟩
    have e1 : (upd (upd H d (exd d [("most", v)])) a (exo a C (some d))) d = some (exd d [("most", v)]) := by rw [upd_ne ne, upd_same]
    refine ⟨.ref a, rfl, a, C, rfl, T, nc, .inr ⟨d, _, upd_same, e1, by show 1 ≤ 900; decide, q _ d nd ne (fun b o hb z => ?_) ?_ upd_same⟩⟩
    · have nb : b ≠ d := ne_of_none z nd
      rw [upd_ne nb, upd_ne hb, upd_ne nb]
      exact z
    · rw [upd_ne ne.symm]
      exact upd_same
abbrev sI13 : Stmt := inClass (top 16) 0
theorem scI13 : FnScope ["self"] ["self"] (defScope sI13) := ⟨rfl, rfl, rfl, by decide +kernel, rfl, by decide +kernel, by decide +kernel⟩
theorem ok_i13 {f : Addr} {fd : FuncData} (F : Fun K "__init__" "Untimed.__init__" sI13 f fd) : FnOk P w K mg base CX0 1 f fd ["self"] (spX K "Untimed" none) := by
  refine F.ok scI13 (fun vs H Q E h => ?_) (fun cdv A outer s H vs Q E hr h => ?_)
  · obtain ⟨a, C, ws, rfl, hl, _⟩ := h
    show ws.length + 1 = 1
    rw [hl]
    rfl
  · obtain ⟨a, C, ws, rfl, hl, T, nc, nf, ha, q⟩ := h
    obtain rfl : ws = [] := List.length_eq_zero_iff.mp hl
    refine ⟨_, pss_one (ps_gst (pv 0) pe_str), ?_⟩
    refine ⟨.ref a, rfl, a, C, rfl, T, nc, .inl ⟨ha, fun d nd ne => q _ d nd ne (fun b o hb z => ?_) upd_same (by rw [upd_ne ne, upd_same]; rfl)⟩⟩
    rw [upd_ne hb, upd_ne (ne_of_none z nd)]
    exact z
abbrev sI14 : Stmt := inClass (top 17) 0
theorem scI14 : FnScope ["self"] ["self"] (defScope sI14) := ⟨rfl, rfl, rfl, by decide +kernel, rfl, by decide +kernel, by decide +kernel⟩
theorem ok_i14 {f : Addr} {fd : FuncData} (F : Fun K "__init__" "WrongShape.__init__" sI14 f fd) : FnOk P w K mg base CX0 1 f fd ["self"] (spX K "WrongShape" none) := by
  refine F.ok scI14 (fun vs H Q E h => ?_) (fun cdv A outer s H vs Q E hr h => ?_)
  · obtain ⟨a, C, ws, rfl, hl, _⟩ := h
    show ws.length + 1 = 1
    rw [hl]
    rfl
  · obtain ⟨a, C, ws, rfl, hl, T, nc, nf, ha, q⟩ := h
    obtain rfl : ws = [] := List.length_eq_zero_iff.mp hl
    refine ⟨_, pss_one (ps_gst (pv 0) pe_str), ?_⟩
    refine ⟨.ref a, rfl, a, C, rfl, T, nc, .inl ⟨ha, fun d nd ne => q _ d nd ne (fun b o hb z => ?_) upd_same (by rw [upd_ne ne, upd_same]; rfl)⟩⟩
    rw [upd_ne hb, upd_ne (ne_of_none z nd)]
    exact z
abbrev sI15 : Stmt := inClass (top 18) 0
theorem scI15 : FnScope ["self", "name"] ["self", "name"] (defScope sI15) := ⟨rfl, rfl, rfl, by decide +kernel, rfl, by decide +kernel, by decide +kernel⟩
theorem ok_i15 {f : Addr} {fd : FuncData} (F : Fun K "__init__" "UnknownBranch.__init__" sI15 f fd) : FnOk P w K mg base CX0 1 f fd ["self", "name"] (spX K "UnknownBranch" (some "name")) := by
  refine F.ok scI15 (fun vs H Q E h => ?_) (fun cdv A outer s H vs Q E hr h => ?_)
  · obtain ⟨a, C, ws, rfl, hl, _⟩ := h
    show ws.length + 1 = 2
    rw [hl]
    rfl
  · obtain ⟨a, C, ws, rfl, hl, T, nc, nf, ha, q⟩ := h
    obtain ⟨v, rfl⟩ : ∃ v, ws = [v] := List.length_eq_one_iff.mp hl
    refine ⟨_, pss_cons (ps_gst (pv 0) (pv 1)) (pss_one (ps_gst (pv 0) pe_str)), ?_⟩
    refine ⟨v, rfl, .ref a, rfl, a, C, rfl, T, nf _ rfl, .inl ⟨ha, fun d nd ne => ?_⟩⟩
    have e1 : (upd (upd H d (exd d [("name", v)])) a (exo a C (some d))) d = some (exd d [("name", v)]) := by rw [upd_ne ne, upd_same]
    refine ⟨.ref a, rfl, a, C, rfl, T, nc, .inr ⟨d, _, upd_same, e1, by show 1 ≤ 900; decide, q _ d nd ne (fun b o hb z => ?_) ?_ upd_same⟩⟩
    · have nb : b ≠ d := ne_of_none z nd
      rw [upd_ne nb, upd_ne hb, upd_ne nb]
      exact z
    · rw [upd_ne ne.symm]
      exact upd_same
abbrev sI16 : Stmt := inClass (top 19) 0
theorem scI16 : FnScope ["self", "name"] ["self", "name"] (defScope sI16) := ⟨rfl, rfl, rfl, by decide +kernel, rfl, by decide +kernel, by decide +kernel⟩
theorem ok_i16 {f : Addr} {fd : FuncData} (F : Fun K "__init__" "UnknownChange.__init__" sI16 f fd) : FnOk P w K mg base CX0 1 f fd ["self", "name"] (spX K "UnknownChange" (some "name")) := by
  refine F.ok scI16 (fun vs H Q E h => ?_) (fun cdv A outer s H vs Q E hr h => ?_)
  · obtain ⟨a, C, ws, rfl, hl, _⟩ := h
    show ws.length + 1 = 2
    rw [hl]
    rfl
  · obtain ⟨a, C, ws, rfl, hl, T, nc, nf, ha, q⟩ := h
    obtain ⟨v, rfl⟩ : ∃ v, ws = [v] := List.length_eq_one_iff.mp hl
    refine ⟨_, pss_cons (ps_gst (pv 0) (pv 1)) (pss_one (ps_gst (pv 0) pe_str)), ?_⟩
    refine ⟨v, rfl, .ref a, rfl, a, C, rfl, T, nf _ rfl, .inl ⟨ha, fun d nd ne => ?_⟩⟩
    have e1 : (upd (upd H d (exd d [("name", v)])) a (exo a C (some d))) d = some (exd d [("name", v)]) := by rw [upd_ne ne, upd_same]
    refine ⟨.ref a, rfl, a, C, rfl, T, nc, .inr ⟨d, _, upd_same, e1, by show 1 ≤ 900; decide, q _ d nd ne (fun b o hb z => ?_) ?_ upd_same⟩⟩
    · have nb : b ≠ d := ne_of_none z nd
      rw [upd_ne nb, upd_ne hb, upd_ne nb]
      exact z
    · rw [upd_ne ne.symm]
      exact upd_same
abbrev sI17 : Stmt := inClass (top 20) 0
theorem scI17 : FnScope ["self"] ["self"] (defScope sI17) := ⟨rfl, rfl, rfl, by decide +kernel, rfl, by decide +kernel, by decide +kernel⟩
theorem ok_i17 {f : Addr} {fd : FuncData} (F : Fun K "__init__" "UnknownMoment.__init__" sI17 f fd) : FnOk P w K mg base CX0 1 f fd ["self"] (spX K "UnknownMoment" none) := by
  refine F.ok scI17 (fun vs H Q E h => ?_) (fun cdv A outer s H vs Q E hr h => ?_)
  · obtain ⟨a, C, ws, rfl, hl, _⟩ := h
    show ws.length + 1 = 1
    rw [hl]
    rfl
  · obtain ⟨a, C, ws, rfl, hl, T, nc, nf, ha, q⟩ := h
    obtain rfl : ws = [] := List.length_eq_zero_iff.mp hl
    refine ⟨_, pss_one (ps_gst (pv 0) pe_str), ?_⟩
    refine ⟨.ref a, rfl, a, C, rfl, T, nc, .inl ⟨ha, fun d nd ne => q _ d nd ne (fun b o hb z => ?_) upd_same (by rw [upd_ne ne, upd_same]; rfl)⟩⟩
    rw [upd_ne hb, upd_ne (ne_of_none z nd)]
    exact z
abbrev sI18 : Stmt := inClass (top 21) 0
theorem scI18 : FnScope ["self"] ["self"] (defScope sI18) := ⟨rfl, rfl, rfl, by decide +kernel, rfl, by decide +kernel, by decide +kernel⟩
theorem ok_i18 {f : Addr} {fd : FuncData} (F : Fun K "__init__" "NothingLeft.__init__" sI18 f fd) : FnOk P w K mg base CX0 1 f fd ["self"] (spX K "NothingLeft" none) := by
  refine F.ok scI18 (fun vs H Q E h => ?_) (fun cdv A outer s H vs Q E hr h => ?_)
  · obtain ⟨a, C, ws, rfl, hl, _⟩ := h
    show ws.length + 1 = 1
    rw [hl]
    rfl
  · obtain ⟨a, C, ws, rfl, hl, T, nc, nf, ha, q⟩ := h
    obtain rfl : ws = [] := List.length_eq_zero_iff.mp hl
    refine ⟨_, pss_one (ps_gst (pv 0) pe_str), ?_⟩
    refine ⟨.ref a, rfl, a, C, rfl, T, nc, .inl ⟨ha, fun d nd ne => q _ d nd ne (fun b o hb z => ?_) upd_same (by rw [upd_ne ne, upd_same]; rfl)⟩⟩
    rw [upd_ne hb, upd_ne (ne_of_none z nd)]
    exact z
end
end X1

namespace X1
open PySem PySem.Spec PyProof.Rows L2 GX
/-! ### an error made, and what it holds -/
def fsOf (k : Nat) (a : V) : List (Str × V) := (("code" : Str), V.str (codesL.getD k "")) :: ((fldL.getD k none).toList.map fun f => (f, a))
/-- at e: an error of the class at C with the fields fs -/
structure ErrAt (K : PySem.W.Frag) (H : Hp) (e C : Addr) (fs : List (Str × V)) : Prop where
  ex : ∃ d, H e = some (exo e C (some d)) ∧ H d = some (exd d fs)
theorem ErrAt.same {K : PySem.W.Frag} {H H' : Hp} {e C : Addr} {fs : List (Str × V)} (h : ErrAt K H e C fs) (s : Same H H') : ErrAt K H' e C fs := by
  obtain ⟨d, h1, h2⟩ := h.ex
  exact ⟨d, s _ _ h1, s _ _ h2⟩
/-- what is read off the class -/
structure ErrC (K : PySem.W.Frag) (C : Addr) (fs : List (Str × V)) : Prop where
  xf : XfC K C
  no : ∀ n v, fs.lookup n = some v → PySem.W.findIn K (.ref C) n = some none
theorem xf_of {K : PySem.W.Frag} {H : Hp} {e C : Addr} {fs : List (Str × V)} {n : Str} {v : V} {Q : VK} (h : ErrAt K H e C fs) (T : ErrC K C fs) (l : fs.lookup n = some v) (q : Q v H) :
    ∃ (a C d : Addr) (fs : List (Str × V)) (v : V), V.ref e = .ref a ∧ XfC K C ∧ PySem.W.findIn K (.ref C) n = some none ∧ H a = some (exo a C (some d)) ∧ H d = some (exd d fs) ∧ fs.lookup n = some v ∧ Q v H := by
  obtain ⟨d, h1, h2⟩ := h.ex
  exact ⟨e, C, d, fs, v, rfl, T.xf, T.no _ _ l, h1, h2, l, q⟩
/-! ### fields -/
abbrev sFields : Stmt := top 27
theorem scFields : FnScope ["_law_e"] ["_law_e"] (defScope sFields) := ⟨rfl, rfl, rfl, by decide +kernel, rfl, by decide +kernel, by decide +kernel⟩
def fN : List V := [.str "InvalidName", .str "DuplicateName", .str "UnknownBranch", .str "UnknownChange"]
def fG : List V := [.str "InvalidTable", .str "InvalidBases", .str "InvalidCondition"]
def fA : List V := [.str "InvalidLine", .str "InvalidText", .str "InvalidCommand", .str "Impossible"]
def outL (c : Str) (fs : List (Str × V)) : Option (List V) :=
  if inV (.str c) fN = true then (fs.lookup ("name" : Str)).map fun v => [v]
  else if inV (.str c) fG = true then (fs.lookup ("given" : Str)).map fun v => [v]
  else if inV (.str c) fA = true then (fs.lookup ("at" : Str)).map fun v => [v]
  else if decide (V.str c = V.str "InvalidNumber") = true then (fs.lookup ("number" : Str)).map fun v => [v]
  else if decide (V.str c = V.str "TooMany") = true then (fs.lookup ("most" : Str)).map fun v => [v]
  else if decide (V.str c = V.str "Refused") = true then (fs.lookup ("word" : Str)).map fun v => [v]
  else some []
theorem out_some {o : Option V} {r : List V} (h : (o.map fun v => [v]) = some r) : ∃ v, o = some v ∧ r = [v] := by
  cases o with
  | none => cases h
  | some v => exact ⟨v, rfl, (Option.some.inj h).symm⟩
section
variable {P : Program} {w : World} {K : PySem.W.Frag} {mg : Str → Option Value} {base : Heap}
def spFields (K : PySem.W.Frag) : Sp := fun vs H Q _ => ∃ (e C : Addr) (fs : List (Str × V)) (c : Str) (r : List V), vs = [.ref e] ∧ ErrAt K H e C fs ∧ ErrC K C fs ∧ fs.lookup ("code" : Str) = some (.str c) ∧ outL c fs = some r ∧
  ∀ H' p, Same H H' → H' p = some (.tup r) → Q (.ref p) H'
theorem ok_fields {f : Addr} {fd : FuncData} {k : Nat} (F : Fun K "_law_fields" "_law_fields" sFields f fd) : FnOk P w K mg base CX0 (k + 1) f fd ["_law_e"] (spFields K) := by
  refine F.ok scFields (fun vs H Q E h => ?_) (fun cdv A outer s H vs Q E hr h => ?_)
  · obtain ⟨e, C, fs, c, r, rfl, _⟩ := h
    rfl
  · obtain ⟨e, C, fs, c, r, rfl, he, T, lc, ho, q⟩ := h
    refine ⟨_, pss_cons (ps_if (pt_cmpR op_in_seq (pe_xfield (pv 0)) (pe_tup (pa_cons pe_str (pa_cons pe_str (pa_cons pe_str (pa_cons pe_str pa_nil))))) (by rfl)) (pss_one (ps_ret (pe_tup (pa_cons (pe_xfield (pv 0)) pa_nil)))) pss_nil)
      (pss_cons (ps_if (pt_cmpR op_in_seq (pe_xfield (pv 0)) (pe_tup (pa_cons pe_str (pa_cons pe_str (pa_cons pe_str pa_nil)))) (by rfl)) (pss_one (ps_ret (pe_tup (pa_cons (pe_xfield (pv 0)) pa_nil)))) pss_nil)
      (pss_cons (ps_if (pt_cmpR op_in_seq (pe_xfield (pv 0)) (pe_tup (pa_cons pe_str (pa_cons pe_str (pa_cons pe_str (pa_cons pe_str pa_nil))))) (by rfl)) (pss_one (ps_ret (pe_tup (pa_cons (pe_xfield (pv 0)) pa_nil)))) pss_nil)
      (pss_cons (ps_if (pt_cmpR op_eq (pe_xfield (pv 0)) pe_str (nomark _)) (pss_one (ps_ret (pe_tup (pa_cons (pe_xfield (pv 0)) pa_nil)))) pss_nil)
      (pss_cons (ps_if (pt_cmpR op_eq (pe_xfield (pv 0)) pe_str (nomark _)) (pss_one (ps_ret (pe_tup (pa_cons (pe_xfield (pv 0)) pa_nil)))) pss_nil)
      (pss_one (ps_ret (pe_ifExp (pt_cmpR op_eq (pe_xfield (pv 0)) pe_str (nomark _)) (pe_tup (pa_cons (pe_xfield (pv 0)) pa_nil)) (pe_tup pa_nil)))))))), ?_⟩
    -- a tuple of one field is given
    have one : ∀ {H1 : Hp} {n : Str} {r : List V}, Same H H1 → (fs.lookup n).map (fun v => [v]) = some r → (∀ H' p, Same H H' → H' p = some (.tup r) → Q (.ref p) H') →
        ∃ x, ([some (V.ref e)] : List (Option V))[0]? = some (some x) ∧ ∃ (a C d : Addr) (fs : List (Str × V)) (v : V), x = .ref a ∧ XfC K C ∧ PySem.W.findIn K (.ref C) n = some none ∧ H1 a = some (exo a C (some d)) ∧ H1 d = some (exd d fs) ∧ fs.lookup n = some v ∧
          ([v].length ≤ sizeLine ∧ ∀ p, H1 p = none → Q (.ref p) (upd H1 p (.tup [v]))) := fun {H1 n r} s1 ho q => by
      obtain ⟨v, l, rfl⟩ := out_some ho
      refine ⟨.ref e, rfl, xf_of (Q := fun v H1 => [v].length ≤ sizeLine ∧ ∀ p, H1 p = none → Q (.ref p) (upd H1 p (.tup [v]))) (he.same s1) T l ⟨by show 1 ≤ sizeLine; decide, fun p np => q _ p (s1.trans (same_upd np)) upd_same⟩⟩
    unfold outL at ho
    -- code in (..)
    refine ⟨.ref e, rfl, xf_of he T lc ⟨by show 4 ≤ sizeLine; decide, fun t1 n1 => ?_⟩⟩
    have s1 : Same H (upd H t1 (.tup fN)) := same_upd n1
    refine ⟨t1, fN, rfl, .inr (.of upd_same), rfl, (by decide), _, rfl, ite2 (fun b1 => ?_) (fun b1 => ?_)⟩
    · rw [if_pos (show inV (.str c) fN = true from b1)] at ho
      exact one s1 ho q
    rw [if_neg (show ¬ inV (.str c) fN = true from b1)] at ho
    refine ⟨.ref e, rfl, xf_of (he.same s1) T lc ⟨by show 3 ≤ sizeLine; decide, fun t2 n2 => ?_⟩⟩
    have s2 := s1.trans (same_upd (o := .tup fG) n2)
    refine ⟨t2, fG, rfl, .inr (.of upd_same), rfl, (by decide), _, rfl, ite2 (fun b2 => ?_) (fun b2 => ?_)⟩
    · rw [if_pos (show inV (.str c) fG = true from b2)] at ho
      exact one s2 ho q
    rw [if_neg (show ¬ inV (.str c) fG = true from b2)] at ho
    refine ⟨.ref e, rfl, xf_of (he.same s2) T lc ⟨by show 4 ≤ sizeLine; decide, fun t3 n3 => ?_⟩⟩
    have s3 := s2.trans (same_upd (o := .tup fA) n3)
    refine ⟨t3, fA, rfl, .inr (.of upd_same), rfl, (by decide), _, rfl, ite2 (fun b3 => ?_) (fun b3 => ?_)⟩
    · rw [if_pos (show inV (.str c) fA = true from b3)] at ho
      exact one s3 ho q
    rw [if_neg (show ¬ inV (.str c) fA = true from b3)] at ho
    obtain ⟨d, g1, g2⟩ := (he.same s3).ex
    refine ⟨.ref e, rfl, e, C, d, fs, _, rfl, T.xf, T.no _ _ lc, g1, g2, lc, rfl, _, rfl, ite2 (fun b4 => ?_) (fun b4 => ?_)⟩
    · rw [if_pos b4] at ho
      exact one s3 ho q
    rw [if_neg b4] at ho
    refine ⟨.ref e, rfl, e, C, d, fs, _, rfl, T.xf, T.no _ _ lc, g1, g2, lc, rfl, _, rfl, ite2 (fun b5 => ?_) (fun b5 => ?_)⟩
    · rw [if_pos b5] at ho
      exact one s3 ho q
    rw [if_neg b5] at ho
    refine ⟨.ref e, rfl, e, C, d, fs, _, rfl, T.xf, T.no _ _ lc, g1, g2, lc, rfl, _, rfl, ite2 (fun b6 => ?_) (fun b6 => ?_)⟩
    · rw [if_pos b6] at ho
      exact one s3 ho q
    rw [if_neg b6] at ho
    obtain rfl : [] = r := Option.some.inj ho
    exact ⟨Nat.zero_le _, fun p np => q _ p (s3.trans (same_upd np)) upd_same⟩
end
end X1

namespace X1
open PySem PySem.Spec PyProof.Rows L2 GX
/-! ### an error of each class -/
abbrev sMade : Stmt := top 28
theorem scMade : FnScope ["_law_a", "_law_found"] ["_law_a"] (defScope sMade) := ⟨rfl, rfl, rfl, by decide +kernel, rfl, by decide +kernel, by decide +kernel⟩
structure Errs (K : PySem.W.Frag) (H : Hp) (cA es : List Addr) (a : V) : Prop where
  len : es.length = 19
  at_ : ∀ k, k < 19 → ∃ e C, es[k]? = some e ∧ cA[k]? = some C ∧ ErrAt K H e C (fsOf k a)
theorem Errs.same {K : PySem.W.Frag} {H H' : Hp} {cA es : List Addr} {a : V} (h : Errs K H cA es a) (s : Same H H') : Errs K H' cA es a :=
  ⟨h.len, fun k hk => by
    obtain ⟨e, C, h1, h2, h3⟩ := h.at_ k hk
    exact ⟨e, C, h1, h2, h3.same s⟩⟩
def spMade (K : PySem.W.Frag) (cA : List Addr) : Sp := fun vs H Q _ => ∃ a, vs = [a] ∧ ∀ H' p es, Same H H' → SqL K H' p (es.map V.ref) → Errs K H' cA es a → Q (.ref p) H'
section
variable {P : Program} {w : World} {K : PySem.W.Frag} {mg : Str → Option Value} {base : Heap}
theorem ok_made {f C0 C1 C2 C3 C4 C5 C6 C7 C8 C9 C10 C11 C12 C13 C14 C15 C16 C17 C18 I0 I1 I2 I3 I4 I5 I6 I7 I8 I9 I10 I11 I12 I13 I14 I15 I16 I17 I18 : Addr} {fd d0 d1 d2 d3 d4 d5 d6 d7 d8 d9 d10 d11 d12 d13 d14 d15 d16 d17 d18 : FuncData} {k : Nat} (F : Fun K "_law_made_errors" "_law_made_errors" sMade f fd)
    (Z0 : XCls P w K mg base "InvalidName" C0 I0 1 d0 "InvalidName" (some "name"))
    (Z1 : XCls P w K mg base "DuplicateName" C1 I1 1 d1 "DuplicateName" (some "name"))
    (Z2 : XCls P w K mg base "InvalidNumber" C2 I2 1 d2 "InvalidNumber" (some "number"))
    (Z3 : XCls P w K mg base "InvalidTable" C3 I3 1 d3 "InvalidTable" (some "given"))
    (Z4 : XCls P w K mg base "InvalidBases" C4 I4 1 d4 "InvalidBases" (some "given"))
    (Z5 : XCls P w K mg base "InvalidDeed" C5 I5 1 d5 "InvalidDeed" none)
    (Z6 : XCls P w K mg base "InvalidCondition" C6 I6 1 d6 "InvalidCondition" (some "given"))
    (Z7 : XCls P w K mg base "InvalidLine" C7 I7 1 d7 "InvalidLine" (some "at"))
    (Z8 : XCls P w K mg base "InvalidText" C8 I8 1 d8 "InvalidText" (some "at"))
    (Z9 : XCls P w K mg base "InvalidCommand" C9 I9 1 d9 "InvalidCommand" (some "at"))
    (Z10 : XCls P w K mg base "Refused" C10 I10 1 d10 "Refused" (some "word"))
    (Z11 : XCls P w K mg base "Impossible" C11 I11 1 d11 "Impossible" (some "at"))
    (Z12 : XCls P w K mg base "TooMany" C12 I12 1 d12 "TooMany" (some "most"))
    (Z13 : XCls P w K mg base "Untimed" C13 I13 1 d13 "Untimed" none)
    (Z14 : XCls P w K mg base "WrongShape" C14 I14 1 d14 "WrongShape" none)
    (Z15 : XCls P w K mg base "UnknownBranch" C15 I15 1 d15 "UnknownBranch" (some "name"))
    (Z16 : XCls P w K mg base "UnknownChange" C16 I16 1 d16 "UnknownChange" (some "name"))
    (Z17 : XCls P w K mg base "UnknownMoment" C17 I17 1 d17 "UnknownMoment" none)
    (Z18 : XCls P w K mg base "NothingLeft" C18 I18 1 d18 "NothingLeft" none) :
    FnOk P w K mg base CX0 (k + 3) f fd ["_law_a"] (spMade K [C0, C1, C2, C3, C4, C5, C6, C7, C8, C9, C10, C11, C12, C13, C14, C15, C16, C17, C18]) := by
  refine F.ok scMade (fun vs H Q E h => ?_) (fun cdv A outer s H vs Q E hr h => ?_)
  · obtain ⟨a, rfl, _⟩ := h
    rfl
  · obtain ⟨a, rfl, q⟩ := h
    refine ⟨_, pss_cons (ps_set (i := 1) scMade.nd rfl (.inl rfl) (pe_lst (pa_cons (pe_newX Z0 (hr.mono (by omega)) (by rfl) (pa_cons (pv 0) pa_nil)) (pa_cons (pe_newX Z1 (hr.mono (by omega)) (by rfl) (pa_cons (pv 0) pa_nil)) (pa_cons (pe_newX Z2 (hr.mono (by omega)) (by rfl) (pa_cons (pv 0) pa_nil)) (pa_cons (pe_newX Z3 (hr.mono (by omega)) (by rfl) (pa_cons (pv 0) pa_nil)) (pa_cons (pe_newX Z4 (hr.mono (by omega)) (by rfl) (pa_cons (pv 0) pa_nil)) (pa_cons (pe_newX0 Z5 (hr.mono (by omega)) (by rfl)) (pa_cons (pe_newX Z6 (hr.mono (by omega)) (by rfl) (pa_cons (pv 0) pa_nil)) pa_nil)))))))))
      (pss_cons (ps_set (i := 1) scMade.nd rfl (.inl rfl) (pe_op op_cat (pv 1) (pe_lst (pa_cons (pe_newX Z7 (hr.mono (by omega)) (by rfl) (pa_cons (pv 0) pa_nil)) (pa_cons (pe_newX Z8 (hr.mono (by omega)) (by rfl) (pa_cons (pv 0) pa_nil)) (pa_cons (pe_newX Z9 (hr.mono (by omega)) (by rfl) (pa_cons (pv 0) pa_nil)) (pa_cons (pe_newX Z10 (hr.mono (by omega)) (by rfl) (pa_cons (pv 0) pa_nil)) (pa_cons (pe_newX Z11 (hr.mono (by omega)) (by rfl) (pa_cons (pv 0) pa_nil)) (pa_cons (pe_newX Z12 (hr.mono (by omega)) (by rfl) (pa_cons (pv 0) pa_nil)) (pa_cons (pe_newX0 Z13 (hr.mono (by omega)) (by rfl)) (pa_cons (pe_newX0 Z14 (hr.mono (by omega)) (by rfl)) pa_nil)))))))))))
      (pss_one (ps_ret (pe_op op_cat (pv 1) (pe_lst (pa_cons (pe_newX Z15 (hr.mono (by omega)) (by rfl) (pa_cons (pv 0) pa_nil)) (pa_cons (pe_newX Z16 (hr.mono (by omega)) (by rfl) (pa_cons (pv 0) pa_nil)) (pa_cons (pe_newX0 Z17 (hr.mono (by omega)) (by rfl)) (pa_cons (pe_newX0 Z18 (hr.mono (by omega)) (by rfl)) pa_nil))))))))), ?_⟩
    refine ⟨a, rfl, (by show 1 ≤ 1000; decide), _, rfl, fun H0 e0 x0 n0 m0 z0 s0 g0 y0 => ?_⟩
    refine ⟨a, rfl, (by show 1 ≤ 1000; decide), _, rfl, fun H1 e1 x1 n1 m1 z1 s1 g1 y1 => ?_⟩
    refine ⟨a, rfl, (by show 1 ≤ 1000; decide), _, rfl, fun H2 e2 x2 n2 m2 z2 s2 g2 y2 => ?_⟩
    refine ⟨a, rfl, (by show 1 ≤ 1000; decide), _, rfl, fun H3 e3 x3 n3 m3 z3 s3 g3 y3 => ?_⟩
    refine ⟨a, rfl, (by show 1 ≤ 1000; decide), _, rfl, fun H4 e4 x4 n4 m4 z4 s4 g4 y4 => ?_⟩
    refine ⟨(by show 0 ≤ 1000; decide), _, rfl, fun H5 e5 x5 n5 m5 z5 s5 g5 y5 => ?_⟩
    refine ⟨a, rfl, (by show 1 ≤ 1000; decide), _, rfl, fun H6 e6 x6 n6 m6 z6 s6 g6 y6 => ?_⟩
    refine ⟨by show 7 ≤ sizeLine; decide, fun p1 u1 => ?_⟩
    refine ⟨.ref p1, rfl, ?_⟩
    refine ⟨a, rfl, (by show 1 ≤ 1000; decide), _, rfl, fun H7 e7 x7 n7 m7 z7 s7 g7 y7 => ?_⟩
    refine ⟨a, rfl, (by show 1 ≤ 1000; decide), _, rfl, fun H8 e8 x8 n8 m8 z8 s8 g8 y8 => ?_⟩
    refine ⟨a, rfl, (by show 1 ≤ 1000; decide), _, rfl, fun H9 e9 x9 n9 m9 z9 s9 g9 y9 => ?_⟩
    refine ⟨a, rfl, (by show 1 ≤ 1000; decide), _, rfl, fun H10 e10 x10 n10 m10 z10 s10 g10 y10 => ?_⟩
    refine ⟨a, rfl, (by show 1 ≤ 1000; decide), _, rfl, fun H11 e11 x11 n11 m11 z11 s11 g11 y11 => ?_⟩
    refine ⟨a, rfl, (by show 1 ≤ 1000; decide), _, rfl, fun H12 e12 x12 n12 m12 z12 s12 g12 y12 => ?_⟩
    refine ⟨(by show 0 ≤ 1000; decide), _, rfl, fun H13 e13 x13 n13 m13 z13 s13 g13 y13 => ?_⟩
    refine ⟨(by show 0 ≤ 1000; decide), _, rfl, fun H14 e14 x14 n14 m14 z14 s14 g14 y14 => ?_⟩
    refine ⟨by show 8 ≤ sizeLine; decide, fun p2 u2 => ?_⟩
    have b1 := same_upd (o := HO.lst [V.ref e0, V.ref e1, V.ref e2, V.ref e3, V.ref e4, V.ref e5, V.ref e6]) u1
    have b2 := same_upd (o := HO.lst [V.ref e7, V.ref e8, V.ref e9, V.ref e10, V.ref e11, V.ref e12, V.ref e13, V.ref e14]) u2
    have c1 := (Same.trans s7 (Same.trans s8 (Same.trans s9 (Same.trans s10 (Same.trans s11 (Same.trans s12 (Same.trans s13 (Same.trans s14 b2))))))))
    refine ⟨p1, p2, [V.ref e0, V.ref e1, V.ref e2, V.ref e3, V.ref e4, V.ref e5, V.ref e6], [V.ref e7, V.ref e8, V.ref e9, V.ref e10, V.ref e11, V.ref e12, V.ref e13, V.ref e14], rfl, rfl, c1 _ _ upd_same, upd_same, (by show 7 + 8 ≤ sizeLine; decide), fun p3 u3 => ?_⟩
    have b3 := same_upd (o := HO.lst ([V.ref e0, V.ref e1, V.ref e2, V.ref e3, V.ref e4, V.ref e5, V.ref e6] ++ [V.ref e7, V.ref e8, V.ref e9, V.ref e10, V.ref e11, V.ref e12, V.ref e13, V.ref e14])) u3
    refine ⟨.ref p3, rfl, ?_⟩
    refine ⟨a, rfl, (by show 1 ≤ 1000; decide), _, rfl, fun H15 e15 x15 n15 m15 z15 s15 g15 y15 => ?_⟩
    refine ⟨a, rfl, (by show 1 ≤ 1000; decide), _, rfl, fun H16 e16 x16 n16 m16 z16 s16 g16 y16 => ?_⟩
    refine ⟨(by show 0 ≤ 1000; decide), _, rfl, fun H17 e17 x17 n17 m17 z17 s17 g17 y17 => ?_⟩
    refine ⟨(by show 0 ≤ 1000; decide), _, rfl, fun H18 e18 x18 n18 m18 z18 s18 g18 y18 => ?_⟩
    refine ⟨by show 4 ≤ sizeLine; decide, fun p4 u4 => ?_⟩
    have b4 := same_upd (o := HO.lst [V.ref e15, V.ref e16, V.ref e17, V.ref e18]) u4
    have c2 := (Same.trans s15 (Same.trans s16 (Same.trans s17 (Same.trans s18 b4))))
    refine ⟨p3, p4, [V.ref e0, V.ref e1, V.ref e2, V.ref e3, V.ref e4, V.ref e5, V.ref e6] ++ [V.ref e7, V.ref e8, V.ref e9, V.ref e10, V.ref e11, V.ref e12, V.ref e13, V.ref e14], [V.ref e15, V.ref e16, V.ref e17, V.ref e18], rfl, rfl, c2 _ _ upd_same, upd_same, (by show 15 + 4 ≤ sizeLine; decide), fun p5 u5 => ?_⟩
    have b5 := same_upd (o := HO.lst ([V.ref e0, V.ref e1, V.ref e2, V.ref e3, V.ref e4, V.ref e5, V.ref e6] ++ [V.ref e7, V.ref e8, V.ref e9, V.ref e10, V.ref e11, V.ref e12, V.ref e13, V.ref e14] ++ [V.ref e15, V.ref e16, V.ref e17, V.ref e18])) u5
    have t18 := Same.trans b4 b5
    have t17 := Same.trans s18 t18
    have t16 := Same.trans s17 t17
    have t15 := Same.trans s16 t16
    have t14 := Same.trans b2 (Same.trans b3 (Same.trans s15 t15))
    have t13 := Same.trans s14 t14
    have t12 := Same.trans s13 t13
    have t11 := Same.trans s12 t12
    have t10 := Same.trans s11 t11
    have t9 := Same.trans s10 t10
    have t8 := Same.trans s9 t9
    have t7 := Same.trans s8 t8
    have t6 := Same.trans b1 (Same.trans s7 t7)
    have t5 := Same.trans s6 t6
    have t4 := Same.trans s5 t5
    have t3 := Same.trans s4 t4
    have t2 := Same.trans s3 t3
    have t1 := Same.trans s2 t2
    have t0 := Same.trans s1 t1
    refine q _ p5 [e0, e1, e2, e3, e4, e5, e6, e7, e8, e9, e10, e11, e12, e13, e14, e15, e16, e17, e18] (Same.trans s0 t0) (.of upd_same) ⟨rfl, fun k hk => ?_⟩
    match k, hk with
    | 0, _ => exact ⟨e0, C0, rfl, rfl, ⟨x0, t0 _ _ g0, t0 _ _ y0⟩⟩
    | 1, _ => exact ⟨e1, C1, rfl, rfl, ⟨x1, t1 _ _ g1, t1 _ _ y1⟩⟩
    | 2, _ => exact ⟨e2, C2, rfl, rfl, ⟨x2, t2 _ _ g2, t2 _ _ y2⟩⟩
    | 3, _ => exact ⟨e3, C3, rfl, rfl, ⟨x3, t3 _ _ g3, t3 _ _ y3⟩⟩
    | 4, _ => exact ⟨e4, C4, rfl, rfl, ⟨x4, t4 _ _ g4, t4 _ _ y4⟩⟩
    | 5, _ => exact ⟨e5, C5, rfl, rfl, ⟨x5, t5 _ _ g5, t5 _ _ y5⟩⟩
    | 6, _ => exact ⟨e6, C6, rfl, rfl, ⟨x6, t6 _ _ g6, t6 _ _ y6⟩⟩
    | 7, _ => exact ⟨e7, C7, rfl, rfl, ⟨x7, t7 _ _ g7, t7 _ _ y7⟩⟩
    | 8, _ => exact ⟨e8, C8, rfl, rfl, ⟨x8, t8 _ _ g8, t8 _ _ y8⟩⟩
    | 9, _ => exact ⟨e9, C9, rfl, rfl, ⟨x9, t9 _ _ g9, t9 _ _ y9⟩⟩
    | 10, _ => exact ⟨e10, C10, rfl, rfl, ⟨x10, t10 _ _ g10, t10 _ _ y10⟩⟩
    | 11, _ => exact ⟨e11, C11, rfl, rfl, ⟨x11, t11 _ _ g11, t11 _ _ y11⟩⟩
    | 12, _ => exact ⟨e12, C12, rfl, rfl, ⟨x12, t12 _ _ g12, t12 _ _ y12⟩⟩
    | 13, _ => exact ⟨e13, C13, rfl, rfl, ⟨x13, t13 _ _ g13, t13 _ _ y13⟩⟩
    | 14, _ => exact ⟨e14, C14, rfl, rfl, ⟨x14, t14 _ _ g14, t14 _ _ y14⟩⟩
    | 15, _ => exact ⟨e15, C15, rfl, rfl, ⟨x15, t15 _ _ g15, t15 _ _ y15⟩⟩
    | 16, _ => exact ⟨e16, C16, rfl, rfl, ⟨x16, t16 _ _ g16, t16 _ _ y16⟩⟩
    | 17, _ => exact ⟨e17, C17, rfl, rfl, ⟨x17, t17 _ _ g17, t17 _ _ y17⟩⟩
    | 18, _ => exact ⟨e18, C18, rfl, rfl, ⟨x18, t18 _ _ g18, t18 _ _ y18⟩⟩
    | k + 19, hk => exact absurd hk (by omega)
end
end X1

namespace X1
open PySem PySem.Spec PyProof.Rows L2 GX
/-! ### of which classes an error is -/
abbrev sFlags : Stmt := top 29
theorem scFlags : FnScope ["_law_e", "_law_found"] ["_law_e"] (defScope sFlags) := ⟨rfl, rfl, rfl, by decide +kernel, rfl, by decide +kernel, by decide +kernel⟩
def flagsL (k : Nat) : List V := (List.range 19).map fun j => V.bl (decide (j = k))
def spFlags (K : PySem.W.Frag) (cA : List Addr) : Sp := fun vs H Q _ => ∃ (e C : Addr) (fs : List (Str × V)) (k : Nat), vs = [.ref e] ∧ ErrAt K H e C fs ∧ ExcC K C ∧ (∀ j C', cA[j]? = some C' → PySem.W.kitOne K (.ref C) (.ref C') = some (decide (j = k))) ∧
  ∀ H' p, Same H H' → H' p = some (.lst (flagsL k)) → Q (.ref p) H'
section
variable {P : Program} {w : World} {K : PySem.W.Frag} {mg : Str → Option Value} {base : Heap}
theorem ok_flags {f C0 C1 C2 C3 C4 C5 C6 C7 C8 C9 C10 C11 C12 C13 C14 C15 C16 C17 C18 : Addr} {fd : FuncData} {k : Nat} (F : Fun K "_law_flags" "_law_flags" sFlags f fd) (T : Blt mg)
    (m0 : mg "InvalidName" = some (.ref C0)) (m1 : mg "DuplicateName" = some (.ref C1)) (m2 : mg "InvalidNumber" = some (.ref C2)) (m3 : mg "InvalidTable" = some (.ref C3)) (m4 : mg "InvalidBases" = some (.ref C4)) (m5 : mg "InvalidDeed" = some (.ref C5)) (m6 : mg "InvalidCondition" = some (.ref C6)) (m7 : mg "InvalidLine" = some (.ref C7)) (m8 : mg "InvalidText" = some (.ref C8)) (m9 : mg "InvalidCommand" = some (.ref C9)) (m10 : mg "Refused" = some (.ref C10)) (m11 : mg "Impossible" = some (.ref C11)) (m12 : mg "TooMany" = some (.ref C12)) (m13 : mg "Untimed" = some (.ref C13)) (m14 : mg "WrongShape" = some (.ref C14)) (m15 : mg "UnknownBranch" = some (.ref C15)) (m16 : mg "UnknownChange" = some (.ref C16)) (m17 : mg "UnknownMoment" = some (.ref C17)) (m18 : mg "NothingLeft" = some (.ref C18)) :
    FnOk P w K mg base CX0 (k + 1) f fd ["_law_e"] (spFlags K [C0, C1, C2, C3, C4, C5, C6, C7, C8, C9, C10, C11, C12, C13, C14, C15, C16, C17, C18]) := by
  refine F.ok scFlags (fun vs H Q E h => ?_) (fun cdv A outer s H vs Q E hr h => ?_)
  · obtain ⟨e, C, fs, k, rfl, _⟩ := h
    rfl
  · obtain ⟨e, C, fs, k, rfl, he, X, kk, q⟩ := h
    obtain ⟨d, g1, g2⟩ := he.ex
    refine ⟨_, pss_cons (ps_set (i := 1) scFlags.nd rfl (.inl rfl) (pe_lst (pa_cons (pe_callB call_isX (by rfl) T.misi (by decide +kernel) (pa_cons (pv 0) (pa_cons (pe_glob (v := .ref C0) (by rfl) m0 rfl) pa_nil))) (pa_cons (pe_callB call_isX (by rfl) T.misi (by decide +kernel) (pa_cons (pv 0) (pa_cons (pe_glob (v := .ref C1) (by rfl) m1 rfl) pa_nil))) (pa_cons (pe_callB call_isX (by rfl) T.misi (by decide +kernel) (pa_cons (pv 0) (pa_cons (pe_glob (v := .ref C2) (by rfl) m2 rfl) pa_nil))) (pa_cons (pe_callB call_isX (by rfl) T.misi (by decide +kernel) (pa_cons (pv 0) (pa_cons (pe_glob (v := .ref C3) (by rfl) m3 rfl) pa_nil))) pa_nil))))))
      (pss_cons (ps_set (i := 1) scFlags.nd rfl (.inl rfl) (pe_op op_cat (pv 1) (pe_lst (pa_cons (pe_callB call_isX (by rfl) T.misi (by decide +kernel) (pa_cons (pv 0) (pa_cons (pe_glob (v := .ref C4) (by rfl) m4 rfl) pa_nil))) (pa_cons (pe_callB call_isX (by rfl) T.misi (by decide +kernel) (pa_cons (pv 0) (pa_cons (pe_glob (v := .ref C5) (by rfl) m5 rfl) pa_nil))) (pa_cons (pe_callB call_isX (by rfl) T.misi (by decide +kernel) (pa_cons (pv 0) (pa_cons (pe_glob (v := .ref C6) (by rfl) m6 rfl) pa_nil))) (pa_cons (pe_callB call_isX (by rfl) T.misi (by decide +kernel) (pa_cons (pv 0) (pa_cons (pe_glob (v := .ref C7) (by rfl) m7 rfl) pa_nil))) pa_nil)))))))
      (pss_cons (ps_set (i := 1) scFlags.nd rfl (.inl rfl) (pe_op op_cat (pv 1) (pe_lst (pa_cons (pe_callB call_isX (by rfl) T.misi (by decide +kernel) (pa_cons (pv 0) (pa_cons (pe_glob (v := .ref C8) (by rfl) m8 rfl) pa_nil))) (pa_cons (pe_callB call_isX (by rfl) T.misi (by decide +kernel) (pa_cons (pv 0) (pa_cons (pe_glob (v := .ref C9) (by rfl) m9 rfl) pa_nil))) (pa_cons (pe_callB call_isX (by rfl) T.misi (by decide +kernel) (pa_cons (pv 0) (pa_cons (pe_glob (v := .ref C10) (by rfl) m10 rfl) pa_nil))) (pa_cons (pe_callB call_isX (by rfl) T.misi (by decide +kernel) (pa_cons (pv 0) (pa_cons (pe_glob (v := .ref C11) (by rfl) m11 rfl) pa_nil))) pa_nil)))))))
      (pss_cons (ps_set (i := 1) scFlags.nd rfl (.inl rfl) (pe_op op_cat (pv 1) (pe_lst (pa_cons (pe_callB call_isX (by rfl) T.misi (by decide +kernel) (pa_cons (pv 0) (pa_cons (pe_glob (v := .ref C12) (by rfl) m12 rfl) pa_nil))) (pa_cons (pe_callB call_isX (by rfl) T.misi (by decide +kernel) (pa_cons (pv 0) (pa_cons (pe_glob (v := .ref C13) (by rfl) m13 rfl) pa_nil))) (pa_cons (pe_callB call_isX (by rfl) T.misi (by decide +kernel) (pa_cons (pv 0) (pa_cons (pe_glob (v := .ref C14) (by rfl) m14 rfl) pa_nil))) (pa_cons (pe_callB call_isX (by rfl) T.misi (by decide +kernel) (pa_cons (pv 0) (pa_cons (pe_glob (v := .ref C15) (by rfl) m15 rfl) pa_nil))) pa_nil)))))))
      
      (pss_one (ps_ret (pe_op op_cat (pv 1) (pe_lst (pa_cons (pe_callB call_isX (by rfl) T.misi (by decide +kernel) (pa_cons (pv 0) (pa_cons (pe_glob (v := .ref C16) (by rfl) m16 rfl) pa_nil))) (pa_cons (pe_callB call_isX (by rfl) T.misi (by decide +kernel) (pa_cons (pv 0) (pa_cons (pe_glob (v := .ref C17) (by rfl) m17 rfl) pa_nil))) (pa_cons (pe_callB call_isX (by rfl) T.misi (by decide +kernel) (pa_cons (pv 0) (pa_cons (pe_glob (v := .ref C18) (by rfl) m18 rfl) pa_nil))) pa_nil)))))))))), ?_⟩
    refine ⟨.ref e, rfl, e, C, d, _, .ref C0, .ref C0, _, rfl, X, id g1, id g2, (fun _ r => r), kk 0 C0 rfl, ?_⟩
    refine ⟨.ref e, rfl, e, C, d, _, .ref C1, .ref C1, _, rfl, X, id g1, id g2, (fun _ r => r), kk 1 C1 rfl, ?_⟩
    refine ⟨.ref e, rfl, e, C, d, _, .ref C2, .ref C2, _, rfl, X, id g1, id g2, (fun _ r => r), kk 2 C2 rfl, ?_⟩
    refine ⟨.ref e, rfl, e, C, d, _, .ref C3, .ref C3, _, rfl, X, id g1, id g2, (fun _ r => r), kk 3 C3 rfl, ?_⟩
    refine ⟨by show 4 ≤ sizeLine; decide, fun p0 u0 => ?_⟩
    have t0 := same_upd (o := HO.lst [V.bl (decide (0 = k)), V.bl (decide (1 = k)), V.bl (decide (2 = k)), V.bl (decide (3 = k))]) u0
    refine ⟨.ref p0, rfl, ?_⟩
    refine ⟨.ref e, rfl, e, C, d, _, .ref C4, .ref C4, _, rfl, X, t0 _ _ g1, t0 _ _ g2, (fun _ r => r), kk 4 C4 rfl, ?_⟩
    refine ⟨.ref e, rfl, e, C, d, _, .ref C5, .ref C5, _, rfl, X, t0 _ _ g1, t0 _ _ g2, (fun _ r => r), kk 5 C5 rfl, ?_⟩
    refine ⟨.ref e, rfl, e, C, d, _, .ref C6, .ref C6, _, rfl, X, t0 _ _ g1, t0 _ _ g2, (fun _ r => r), kk 6 C6 rfl, ?_⟩
    refine ⟨.ref e, rfl, e, C, d, _, .ref C7, .ref C7, _, rfl, X, t0 _ _ g1, t0 _ _ g2, (fun _ r => r), kk 7 C7 rfl, ?_⟩
    refine ⟨by show 4 ≤ sizeLine; decide, fun l1 v1 => ?_⟩
    have a1 := same_upd (o := HO.lst [V.bl (decide (4 = k)), V.bl (decide (5 = k)), V.bl (decide (6 = k)), V.bl (decide (7 = k))]) v1
    refine ⟨p0, l1, [V.bl (decide (0 = k)), V.bl (decide (1 = k)), V.bl (decide (2 = k)), V.bl (decide (3 = k))], [V.bl (decide (4 = k)), V.bl (decide (5 = k)), V.bl (decide (6 = k)), V.bl (decide (7 = k))], rfl, rfl, a1 _ _ upd_same, upd_same, (by show 4 + 4 ≤ sizeLine; decide), fun p1 u1 => ?_⟩
    have t1 := Same.trans t0 (Same.trans a1 (same_upd (o := HO.lst ([V.bl (decide (0 = k)), V.bl (decide (1 = k)), V.bl (decide (2 = k)), V.bl (decide (3 = k))] ++ [V.bl (decide (4 = k)), V.bl (decide (5 = k)), V.bl (decide (6 = k)), V.bl (decide (7 = k))])) u1))
    refine ⟨.ref p1, rfl, ?_⟩
    refine ⟨.ref e, rfl, e, C, d, _, .ref C8, .ref C8, _, rfl, X, t1 _ _ g1, t1 _ _ g2, (fun _ r => r), kk 8 C8 rfl, ?_⟩
    refine ⟨.ref e, rfl, e, C, d, _, .ref C9, .ref C9, _, rfl, X, t1 _ _ g1, t1 _ _ g2, (fun _ r => r), kk 9 C9 rfl, ?_⟩
    refine ⟨.ref e, rfl, e, C, d, _, .ref C10, .ref C10, _, rfl, X, t1 _ _ g1, t1 _ _ g2, (fun _ r => r), kk 10 C10 rfl, ?_⟩
    refine ⟨.ref e, rfl, e, C, d, _, .ref C11, .ref C11, _, rfl, X, t1 _ _ g1, t1 _ _ g2, (fun _ r => r), kk 11 C11 rfl, ?_⟩
    refine ⟨by show 4 ≤ sizeLine; decide, fun l2 v2 => ?_⟩
    have a2 := same_upd (o := HO.lst [V.bl (decide (8 = k)), V.bl (decide (9 = k)), V.bl (decide (10 = k)), V.bl (decide (11 = k))]) v2
    refine ⟨p1, l2, ([V.bl (decide (0 = k)), V.bl (decide (1 = k)), V.bl (decide (2 = k)), V.bl (decide (3 = k))] ++ [V.bl (decide (4 = k)), V.bl (decide (5 = k)), V.bl (decide (6 = k)), V.bl (decide (7 = k))]), [V.bl (decide (8 = k)), V.bl (decide (9 = k)), V.bl (decide (10 = k)), V.bl (decide (11 = k))], rfl, rfl, a2 _ _ upd_same, upd_same, (by show 8 + 4 ≤ sizeLine; decide), fun p2 u2 => ?_⟩
    have t2 := Same.trans t1 (Same.trans a2 (same_upd (o := HO.lst (([V.bl (decide (0 = k)), V.bl (decide (1 = k)), V.bl (decide (2 = k)), V.bl (decide (3 = k))] ++ [V.bl (decide (4 = k)), V.bl (decide (5 = k)), V.bl (decide (6 = k)), V.bl (decide (7 = k))]) ++ [V.bl (decide (8 = k)), V.bl (decide (9 = k)), V.bl (decide (10 = k)), V.bl (decide (11 = k))])) u2))
    refine ⟨.ref p2, rfl, ?_⟩
    refine ⟨.ref e, rfl, e, C, d, _, .ref C12, .ref C12, _, rfl, X, t2 _ _ g1, t2 _ _ g2, (fun _ r => r), kk 12 C12 rfl, ?_⟩
    refine ⟨.ref e, rfl, e, C, d, _, .ref C13, .ref C13, _, rfl, X, t2 _ _ g1, t2 _ _ g2, (fun _ r => r), kk 13 C13 rfl, ?_⟩
    refine ⟨.ref e, rfl, e, C, d, _, .ref C14, .ref C14, _, rfl, X, t2 _ _ g1, t2 _ _ g2, (fun _ r => r), kk 14 C14 rfl, ?_⟩
    refine ⟨.ref e, rfl, e, C, d, _, .ref C15, .ref C15, _, rfl, X, t2 _ _ g1, t2 _ _ g2, (fun _ r => r), kk 15 C15 rfl, ?_⟩
    refine ⟨by show 4 ≤ sizeLine; decide, fun l3 v3 => ?_⟩
    have a3 := same_upd (o := HO.lst [V.bl (decide (12 = k)), V.bl (decide (13 = k)), V.bl (decide (14 = k)), V.bl (decide (15 = k))]) v3
    refine ⟨p2, l3, (([V.bl (decide (0 = k)), V.bl (decide (1 = k)), V.bl (decide (2 = k)), V.bl (decide (3 = k))] ++ [V.bl (decide (4 = k)), V.bl (decide (5 = k)), V.bl (decide (6 = k)), V.bl (decide (7 = k))]) ++ [V.bl (decide (8 = k)), V.bl (decide (9 = k)), V.bl (decide (10 = k)), V.bl (decide (11 = k))]), [V.bl (decide (12 = k)), V.bl (decide (13 = k)), V.bl (decide (14 = k)), V.bl (decide (15 = k))], rfl, rfl, a3 _ _ upd_same, upd_same, (by show 12 + 4 ≤ sizeLine; decide), fun p3 u3 => ?_⟩
    have t3 := Same.trans t2 (Same.trans a3 (same_upd (o := HO.lst ((([V.bl (decide (0 = k)), V.bl (decide (1 = k)), V.bl (decide (2 = k)), V.bl (decide (3 = k))] ++ [V.bl (decide (4 = k)), V.bl (decide (5 = k)), V.bl (decide (6 = k)), V.bl (decide (7 = k))]) ++ [V.bl (decide (8 = k)), V.bl (decide (9 = k)), V.bl (decide (10 = k)), V.bl (decide (11 = k))]) ++ [V.bl (decide (12 = k)), V.bl (decide (13 = k)), V.bl (decide (14 = k)), V.bl (decide (15 = k))])) u3))
    refine ⟨.ref p3, rfl, ?_⟩
    refine ⟨.ref e, rfl, e, C, d, _, .ref C16, .ref C16, _, rfl, X, t3 _ _ g1, t3 _ _ g2, (fun _ r => r), kk 16 C16 rfl, ?_⟩
    refine ⟨.ref e, rfl, e, C, d, _, .ref C17, .ref C17, _, rfl, X, t3 _ _ g1, t3 _ _ g2, (fun _ r => r), kk 17 C17 rfl, ?_⟩
    refine ⟨.ref e, rfl, e, C, d, _, .ref C18, .ref C18, _, rfl, X, t3 _ _ g1, t3 _ _ g2, (fun _ r => r), kk 18 C18 rfl, ?_⟩
    refine ⟨by show 3 ≤ sizeLine; decide, fun l4 v4 => ?_⟩
    have a4 := same_upd (o := HO.lst [V.bl (decide (16 = k)), V.bl (decide (17 = k)), V.bl (decide (18 = k))]) v4
    refine ⟨p3, l4, ((([V.bl (decide (0 = k)), V.bl (decide (1 = k)), V.bl (decide (2 = k)), V.bl (decide (3 = k))] ++ [V.bl (decide (4 = k)), V.bl (decide (5 = k)), V.bl (decide (6 = k)), V.bl (decide (7 = k))]) ++ [V.bl (decide (8 = k)), V.bl (decide (9 = k)), V.bl (decide (10 = k)), V.bl (decide (11 = k))]) ++ [V.bl (decide (12 = k)), V.bl (decide (13 = k)), V.bl (decide (14 = k)), V.bl (decide (15 = k))]), [V.bl (decide (16 = k)), V.bl (decide (17 = k)), V.bl (decide (18 = k))], rfl, rfl, a4 _ _ upd_same, upd_same, (by show 16 + 3 ≤ sizeLine; decide), fun p4 u4 => ?_⟩
    have t4 := Same.trans t3 (Same.trans a4 (same_upd (o := HO.lst (((([V.bl (decide (0 = k)), V.bl (decide (1 = k)), V.bl (decide (2 = k)), V.bl (decide (3 = k))] ++ [V.bl (decide (4 = k)), V.bl (decide (5 = k)), V.bl (decide (6 = k)), V.bl (decide (7 = k))]) ++ [V.bl (decide (8 = k)), V.bl (decide (9 = k)), V.bl (decide (10 = k)), V.bl (decide (11 = k))]) ++ [V.bl (decide (12 = k)), V.bl (decide (13 = k)), V.bl (decide (14 = k)), V.bl (decide (15 = k))]) ++ [V.bl (decide (16 = k)), V.bl (decide (17 = k)), V.bl (decide (18 = k))])) u4))
    exact q _ p4 t4 upd_same
end
end X1

namespace X1
open PySem PySem.Spec PyProof.Rows L2 GX
/-! ### the law -/
abbrev lawN : List Str := ["_law_script", "_law_bag", "_law_a", "_law_codes", "_law_some", "_law_k", "_law_e", "_law_above", "_law_due", "_law_told", "_law_at_z"]
theorem scLaw : FnScope lawN ["_law_script"] (defScope sLaw) := ⟨rfl, rfl, rfl, by decide +kernel, rfl, by decide +kernel, by decide +kernel⟩
/-- the k-th class, at C -/
structure ClsF (K : PySem.W.Frag) (cA : List Addr) (S M : Addr) (k : Nat) (C : Addr) : Prop where
  xf : XfC K C
  no : ∀ n : Str, (n = "code" ∨ fldL.getD k none = some n) → PySem.W.findIn K (.ref C) n = some none
  xc : ExcC K C
  kk : ∀ j C', cA[j]? = some C' → PySem.W.kitOne K (.ref C) (.ref C') = some (decide (j = k))
  kS : PySem.W.kitOne K (.ref C) (.ref S) = some (decide ((k : Int) < 15))
  kV : PySem.W.kitOne K (.ref C) (.type "ValueError") = some (decide ((k : Int) < 15))
  kM : PySem.W.kitOne K (.ref C) (.ref M) = some (decide (14 < (k : Int)) && decide ((k : Int) < 18))
  kL : PySem.W.kitOne K (.ref C) (.type "LookupError") = some (decide (14 < (k : Int)))
  kI : PySem.W.kitOne K (.ref C) (.type "IndexError") = some (decide ((k : Int) = 18))
theorem fs_lookup {k : Nat} {a v : V} {n : Str} (h : (fsOf k a).lookup n = some v) : n = "code" ∨ fldL.getD k none = some n := by
  unfold fsOf at h
  rw [lookup_put] at h
  by_cases e : n = "code"
  · exact .inl e
  · rw [if_neg e] at h
    refine .inr ?_
    cases hf : fldL.getD k none with
    | none =>
      rw [hf] at h
      cases h
    | some f =>
      rw [hf] at h
      have h2 : ((f, a) :: ([] : List (Str × V))).lookup n = some v := h
      rw [lookup_put] at h2
      by_cases e2 : n = f
      · rw [e2]
      · rw [if_neg e2] at h2
        cases h2
theorem ClsF.ec {K : PySem.W.Frag} {cA : List Addr} {S M : Addr} {k : Nat} {C : Addr} (Y : ClsF K cA S M k C) (a : V) : ErrC K C (fsOf k a) := ⟨Y.xf, fun n v h => Y.no n (fs_lookup h)⟩
theorem fs_code (k : Nat) (a : V) : (fsOf k a).lookup ("code" : Str) = some (.str (codesL.getD k "")) := rfl
theorem fs_out (k : Nat) (a : V) (hk : k < 19) : outL (codesL.getD k "") (fsOf k a) = some ((fldL.getD k none).toList.map fun _ => a) := by
  match k, hk with
  | 0, _ => rfl
  | 1, _ => rfl
  | 2, _ => rfl
  | 3, _ => rfl
  | 4, _ => rfl
  | 5, _ => rfl
  | 6, _ => rfl
  | 7, _ => rfl
  | 8, _ => rfl
  | 9, _ => rfl
  | 10, _ => rfl
  | 11, _ => rfl
  | 12, _ => rfl
  | 13, _ => rfl
  | 14, _ => rfl
  | 15, _ => rfl
  | 16, _ => rfl
  | 17, _ => rfl
  | 18, _ => rfl
  | k + 19, hk => exact absurd hk (by omega)
theorem codes_at (k : Nat) (hk : k < 19) : (codesL.map V.str)[k]? = some (V.str (codesL.getD k "")) := by
  match k, hk with
  | 0, _ => rfl
  | 1, _ => rfl
  | 2, _ => rfl
  | 3, _ => rfl
  | 4, _ => rfl
  | 5, _ => rfl
  | 6, _ => rfl
  | 7, _ => rfl
  | 8, _ => rfl
  | 9, _ => rfl
  | 10, _ => rfl
  | 11, _ => rfl
  | 12, _ => rfl
  | 13, _ => rfl
  | 14, _ => rfl
  | 15, _ => rfl
  | 16, _ => rfl
  | 17, _ => rfl
  | 18, _ => rfl
  | k + 19, hk => exact absurd hk (by omega)
def bareL : List V := [.str "InvalidDeed", .str "Untimed", .str "WrongShape", .str "UnknownMoment", .str "NothingLeft"]
theorem bare_is (k : Nat) (hk : k < 19) : inV (.str (codesL.getD k "")) bareL = (fldL.getD k none).isNone := by
  match k, hk with
  | 0, _ => rfl
  | 1, _ => rfl
  | 2, _ => rfl
  | 3, _ => rfl
  | 4, _ => rfl
  | 5, _ => rfl
  | 6, _ => rfl
  | 7, _ => rfl
  | 8, _ => rfl
  | 9, _ => rfl
  | 10, _ => rfl
  | 11, _ => rfl
  | 12, _ => rfl
  | 13, _ => rfl
  | 14, _ => rfl
  | 15, _ => rfl
  | 16, _ => rfl
  | 17, _ => rfl
  | 18, _ => rfl
  | k + 19, hk => exact absurd hk (by omega)
/-- a < i < b, all three whole numbers -/
theorem chain_lt {lo hi i : Int} {σ : L2.St} {H : Hp} {tb : TE} {Q : VK} (hb : ∀ Q' : VK, Q' (.int i) H → tb σ H Q') (q : Q (.bl (decide (lo < i) && decide (i < hi))) H) :
    tChain (rI0 fun i j => .bl (decide (i < j))) (rI0 fun i j => .bl (decide (i < j))) (tC (.int lo)) tb (tC (.int hi)) σ H Q := by
  refine hb _ ⟨lo, i, rfl, rfl, decide (lo < i), rfl, ?_⟩
  by_cases h : lo < i
  · rw [decide_eq_true h] at q ⊢
    exact ⟨i, hi, rfl, rfl, q⟩
  · rw [decide_eq_false h] at q ⊢
    exact q
theorem due_if {c : Prop} [Decidable c] {σ : L2.St} {H : Hp} {Q : VK} {a : V} {r : List V} (h1 : c → r = []) (h2 : ¬ c → r = [a]) (hs : σ[2]? = some (some a)) (q : ∀ p, H p = none → Q (.ref p) (upd H p (.tup r))) :
    if c then tTup tNil σ H Q else tTup (tCons (tVar 2) tNil) σ H Q := by
  refine ite2 (fun h => ?_) (fun h => ?_)
  · rw [h1 h] at q
    exact ⟨Nat.zero_le _, q⟩
  · rw [h2 h] at q
    exact ⟨a, hs, by show 1 ≤ sizeLine; decide, q⟩
theorem dec_int (i j : Int) : decide (V.int i = V.int j) = decide (i = j) := by
  by_cases h : i = j
  · rw [h, decide_eq_true rfl, decide_eq_true rfl]
  · rw [decide_eq_false h, decide_eq_false (fun z => h (V.int.inj z))]
def spLaw (K : PySem.W.Frag) : Sp := fun vs H Q _ => ∃ (a : Addr) (ns : List Int), vs = [.ref a] ∧ SqL K H a (ns.map V.int) ∧ ns.length ≤ 63 ∧ ∀ H', Q (.bl true) H'
/-- what the value may be -/
def ValOk (K : PySem.W.Frag) (a : V) : Prop := ∃ d, (∀ H, Dp K H a d) ∧ DLe 0 d
theorem valOk {K : PySem.W.Frag} {r : Nat} {n : Int} {a : V} (h : ([V.int 0, V.int 1, V.int (0 - 7), V.str "", V.str "a", V.int n] : List V)[r]? = some a) : ValOk K a := by
  match r, h with
  | 0, h => cases h; exact ⟨_, fun _ => .int _, .int _⟩
  | 1, h => cases h; exact ⟨_, fun _ => .int _, .int _⟩
  | 2, h => cases h; exact ⟨_, fun _ => .int _, .int _⟩
  | 3, h => cases h; exact ⟨_, fun _ => .str _, .str _⟩
  | 4, h => cases h; exact ⟨_, fun _ => .str _, .str _⟩
  | 5, h => cases h; exact ⟨_, fun _ => .int _, .int _⟩
  | r + 6, h => simp at h
def initG {α : Type} : List α → List α → List α := fun us ws => us ++ ws
section
variable {P : Program} {w : World} {K : PySem.W.Frag} {mg : Str → Option Value} {base : Heap}
theorem ok_law {f fO fP fA fM fF fD fL S M C0 C1 C2 C3 C4 C5 C6 C7 C8 C9 C10 C11 C12 C13 C14 C15 C16 C17 C18 I0 I1 I2 I3 I4 I6 I7 I8 I9 I10 I11 I12 I15 I16 : Addr} {fd fdO fdP fdA fdM fdF fdD fdL d0 d1 d2 d3 d4 d6 d7 d8 d9 d10 d11 d12 d15 d16 : FuncData} {k : Nat} (F : Fun K "law" "law" sLaw f fd) (T : Blt mg)
    (GO : FnOk P w K mg base CX0 (k + 1) fO fdO ["_law_script"] (spOpened K)) (kO : PySem.W.keepIn K (.ref fO) = true) (bO : Binds K fdO ["_law_script"] []) (gO : mg "_law_opened" = some (.ref fO))
    (GP : FnOk P w K mg base CX0 (k + 1) fP fdP ["_law_bag", "_law_many"] spPull) (kP : PySem.W.keepIn K (.ref fP) = true) (bP : Binds K fdP ["_law_bag", "_law_many"] []) (gP : mg "_law_pull" = some (.ref fP))
    (GA : FnOk P w K mg base CX0 (k + 2) fA fdA ["_law_bag", "_law_things"] spAny) (kA : PySem.W.keepIn K (.ref fA) = true) (bA : Binds K fdA ["_law_bag", "_law_things"] []) (gA : mg "_law_any" = some (.ref fA))
    (GM : FnOk P w K mg base CX0 (k + 3) fM fdM ["_law_a"] (spMade K [C0, C1, C2, C3, C4, C5, C6, C7, C8, C9, C10, C11, C12, C13, C14, C15, C16, C17, C18])) (kM : PySem.W.keepIn K (.ref fM) = true) (bM : Binds K fdM ["_law_a"] []) (gM : mg "_law_made_errors" = some (.ref fM))
    (GF : FnOk P w K mg base CX0 (k + 1) fF fdF ["_law_e"] (spFlags K [C0, C1, C2, C3, C4, C5, C6, C7, C8, C9, C10, C11, C12, C13, C14, C15, C16, C17, C18])) (kF : PySem.W.keepIn K (.ref fF) = true) (bF : Binds K fdF ["_law_e"] []) (gF : mg "_law_flags" = some (.ref fF))
    (GD : FnOk P w K mg base CX0 (k + 1) fD fdD ["_law_e"] (spFields K)) (kD : PySem.W.keepIn K (.ref fD) = true) (bD : Binds K fdD ["_law_e"] []) (gD : mg "_law_fields" = some (.ref fD))
    (GL : FnOk P w K mg base CX0 3 fL fdL ["_law_found", "_law_due"] (spLike K 2)) (kL : PySem.W.keepIn K (.ref fL) = true) (bL : Binds K fdL ["_law_found", "_law_due"] []) (gL : mg "_law_like" = some (.ref fL))
    (mS : mg "StillError" = some (.ref S)) (mM : mg "Missing" = some (.ref M)) (Y : ∀ k C, k < 19 → ([C0, C1, C2, C3, C4, C5, C6, C7, C8, C9, C10, C11, C12, C13, C14, C15, C16, C17, C18] : List Addr)[k]? = some C → ClsF K [C0, C1, C2, C3, C4, C5, C6, C7, C8, C9, C10, C11, C12, C13, C14, C15, C16, C17, C18] S M k C)
    (Z0 : XCls P w K mg base "InvalidName" C0 I0 1 d0 "InvalidName" (some "name")) (q0 : KBn K d0 ["self", "name"] 1 ["name"] initG initG)
    (Z1 : XCls P w K mg base "DuplicateName" C1 I1 1 d1 "DuplicateName" (some "name")) (q1 : KBn K d1 ["self", "name"] 1 ["name"] initG initG)
    (Z2 : XCls P w K mg base "InvalidNumber" C2 I2 1 d2 "InvalidNumber" (some "number")) (q2 : KBn K d2 ["self", "number"] 1 ["number"] initG initG)
    (Z3 : XCls P w K mg base "InvalidTable" C3 I3 1 d3 "InvalidTable" (some "given")) (q3 : KBn K d3 ["self", "given"] 1 ["given"] initG initG)
    (Z4 : XCls P w K mg base "InvalidBases" C4 I4 1 d4 "InvalidBases" (some "given")) (q4 : KBn K d4 ["self", "given"] 1 ["given"] initG initG)
    (Z6 : XCls P w K mg base "InvalidCondition" C6 I6 1 d6 "InvalidCondition" (some "given")) (q6 : KBn K d6 ["self", "given"] 1 ["given"] initG initG)
    (Z7 : XCls P w K mg base "InvalidLine" C7 I7 1 d7 "InvalidLine" (some "at")) (q7 : KBn K d7 ["self", "at"] 1 ["at"] initG initG)
    (Z8 : XCls P w K mg base "InvalidText" C8 I8 1 d8 "InvalidText" (some "at")) (q8 : KBn K d8 ["self", "at"] 1 ["at"] initG initG)
    (Z9 : XCls P w K mg base "InvalidCommand" C9 I9 1 d9 "InvalidCommand" (some "at")) (q9 : KBn K d9 ["self", "at"] 1 ["at"] initG initG)
    (Z10 : XCls P w K mg base "Refused" C10 I10 1 d10 "Refused" (some "word")) (q10 : KBn K d10 ["self", "word"] 1 ["word"] initG initG)
    (Z11 : XCls P w K mg base "Impossible" C11 I11 1 d11 "Impossible" (some "at")) (q11 : KBn K d11 ["self", "at"] 1 ["at"] initG initG)
    (Z12 : XCls P w K mg base "TooMany" C12 I12 1 d12 "TooMany" (some "most")) (q12 : KBn K d12 ["self", "most"] 1 ["most"] initG initG)
    (Z15 : XCls P w K mg base "UnknownBranch" C15 I15 1 d15 "UnknownBranch" (some "name")) (q15 : KBn K d15 ["self", "name"] 1 ["name"] initG initG)
    (Z16 : XCls P w K mg base "UnknownChange" C16 I16 1 d16 "UnknownChange" (some "name")) (q16 : KBn K d16 ["self", "name"] 1 ["name"] initG initG) :
    FnOk P w K mg base CX0 (k + 5) f fd ["_law_script"] (spLaw K) := by
  have nd := scLaw.nd
  refine F.ok scLaw (fun vs H Q E h => ?_) (fun cdv A outer s H vs Q E hr h => ?_)
  · obtain ⟨a, ns, rfl, _⟩ := h
    rfl
  · obtain ⟨s0, ns, rfl, hS, hns, q⟩ := h
    refine ⟨_, (pss_cons (ps_set (i := 1) nd rfl (.inl rfl) (pe_call GO (hr.mono (by omega)) (by rfl) gO kO bO .nil pass0 (pa_cons (pv 0) pa_nil)))
      (pss_cons (ps_set (i := 2) nd rfl (.inl rfl) (pe_call GA (hr.mono (by omega)) (by rfl) gA kA bA .nil pass0 (pa_cons (pv 1) (pa_cons (pe_lst (pa_cons pe_int (pa_cons pe_int (pa_cons (pe_op op_sub pe_int pe_int) (pa_cons pe_str (pa_cons pe_str (pa_cons (pe_call GP (hr.mono (by omega)) (by rfl) gP kP bP .nil pass0 (pa_cons (pv 1) (pa_cons (pe_op op_pow pe_int pe_int) pa_nil))) pa_nil))))))) pa_nil))))
      (pss_cons (ps_set (i := 3) nd rfl (.inl rfl) (pe_lst (pa_cons pe_str (pa_cons pe_str (pa_cons pe_str (pa_cons pe_str (pa_cons pe_str (pa_cons pe_str (pa_cons pe_str pa_nil)))))))))
      (pss_cons (ps_set (i := 3) nd rfl (.inl rfl) (pe_op op_cat (pv 3) (pe_lst (pa_cons pe_str (pa_cons pe_str (pa_cons pe_str (pa_cons pe_str (pa_cons pe_str (pa_cons pe_str (pa_cons pe_str (pa_cons pe_str pa_nil)))))))))))
      (pss_cons (ps_set (i := 3) nd rfl (.inl rfl) (pe_op op_cat (pv 3) (pe_lst (pa_cons pe_str (pa_cons pe_str (pa_cons pe_str (pa_cons pe_str pa_nil)))))))
      (pss_cons (ps_set (i := 4) nd rfl (.inl rfl) (pe_call GM (hr.mono (by omega)) (by rfl) gM kM bM .nil pass0 (pa_cons (pv 2) pa_nil)))
      (pss_cons (ps_for PassesOwn.never rfl (pi_range1 rfl T.mrange (pa_cons pe_int pa_nil)) (pg_name (i := 5) nd rfl (.inr rfl)) (pss_cons (ps_set (i := 6) nd rfl (.inl rfl) (pe_ix ix_list (pv 4) (pv 5) (fun _ _ => rfl)))
      (pss_cons (ps_set (i := 7) nd rfl (.inl rfl) (pe_lst (pa_cons (pe_callB call_isX (by rfl) T.misi (by decide +kernel) (pa_cons (pv 6) (pa_cons (pe_glob (v := .ref S) (by rfl) mS rfl) pa_nil))) (pa_cons (pe_callB call_isX (by rfl) T.misi (by decide +kernel) (pa_cons (pv 6) (pa_cons (pe_bltn (v := .ty "ValueError") (by rfl) T.mve (by decide +kernel) rfl) pa_nil))) (pa_cons (pe_callB call_isX (by rfl) T.misi (by decide +kernel) (pa_cons (pv 6) (pa_cons (pe_glob (v := .ref M) (by rfl) mM rfl) pa_nil))) (pa_cons (pe_callB call_isX (by rfl) T.misi (by decide +kernel) (pa_cons (pv 6) (pa_cons (pe_bltn (v := .ty "LookupError") (by rfl) T.mle (by decide +kernel) rfl) pa_nil))) pa_nil))))))
      (pss_cons (ps_if (PW.pt (pw_or (pt_cmpR (op_neD hr.units) (pv 7) (pe_lst (pa_cons (pe_cmpR op_lt (pv 5) pe_int (nomark _)) (pa_cons (pe_cmpR op_lt (pv 5) pe_int (nomark _)) (pa_cons (pe_chain op_lt op_lt pe_int (pv 5) pe_int) (pa_cons (pe_cmpR op_gt (pv 5) pe_int (nomark _)) pa_nil))))) (nomark _)) (pw_or1 (pt_cmpR op_ne (pe_callB call_isX (by rfl) T.misi (by decide +kernel) (pa_cons (pv 6) (pa_cons (pe_bltn (v := .ty "IndexError") (by rfl) T.mie (by decide +kernel) rfl) pa_nil))) (pe_cmpR op_eq (pv 5) pe_int (nomark _)) (nomark _))))) (pss_one (ps_ret pe_bl)) pss_nil)
      (pss_cons (ps_if (pt_cmpR (op_neD hr.units) (pe_call GF (hr.mono (by omega)) (by rfl) gF kF bF .nil pass0 (pa_cons (pv 6) pa_nil)) (pe_lc (own := [("_law_at_z", 10)]) (g := gName 10) (tt := tYes) rfl nd (pi_range1 rfl T.mrange (pa_cons pe_int pa_nil)) (blkOk_by (N := lawN) (sc := defScope sLaw) (by decide +kernel)) (fun _ _ _ _ _ => pg_name (i := 10) nd rfl (Or.inl rfl)) (fun _ _ _ _ _ => pts_nil) (fun _ _ _ _ _ => pe_cmpR op_eq (pv 10) (pv 5) (nomark _))) (nomark _)) (pss_one (ps_ret pe_bl)) pss_nil)
      (pss_cons (ps_set (i := 8) nd rfl (.inl rfl) (pe_ifExp (pt_cmpR op_in_seq (pe_ix ix_list (pv 3) (pv 5) (fun _ _ => rfl)) (pe_tup (pa_cons pe_str (pa_cons pe_str (pa_cons pe_str (pa_cons pe_str (pa_cons pe_str pa_nil)))))) (by rfl)) (pe_tup pa_nil) (pe_tup (pa_cons (pv 2) pa_nil))))
      (pss_one (ps_if (pt_not (pt_val (pe_call GL (hr.mono (by omega)) (by rfl) gL kL bL .nil pass0 (pa_cons (pe_lst (pa_cons (pe_xfield (pv 6)) (pa_cons (pe_call GD (hr.mono (by omega)) (by rfl) gD kD bD .nil pass0 (pa_cons (pv 6) pa_nil)) pa_nil))) (pa_cons (pe_lst (pa_cons (pe_ix ix_list (pv 3) (pv 5) (fun _ _ => rfl)) (pa_cons (pv 8) pa_nil))) pa_nil))))) (pss_one (ps_ret pe_bl)) pss_nil))))))))
      (pss_cons (ps_set (i := 9) nd rfl (.inl rfl) (pe_lst (pa_cons (pe_xfield (pe_newXk Z0 q0 (fun _ _ => rfl) (hr.mono (by omega)) (by rfl) (pk_cons (pv 2) pk_nil))) (pa_cons (pe_xfield (pe_newXk Z2 q2 (fun _ _ => rfl) (hr.mono (by omega)) (by rfl) (pk_cons (pv 2) pk_nil))) (pa_cons (pe_xfield (pe_newXk Z3 q3 (fun _ _ => rfl) (hr.mono (by omega)) (by rfl) (pk_cons (pv 2) pk_nil))) (pa_cons (pe_xfield (pe_newXk Z12 q12 (fun _ _ => rfl) (hr.mono (by omega)) (by rfl) (pk_cons (pv 2) pk_nil))) (pa_cons (pe_xfield (pe_newXk Z10 q10 (fun _ _ => rfl) (hr.mono (by omega)) (by rfl) (pk_cons (pv 2) pk_nil))) pa_nil)))))))
      (pss_cons (ps_set (i := 9) nd rfl (.inl rfl) (pe_op op_cat (pv 9) (pe_lst (pa_cons (pe_xfield (pe_newXk Z1 q1 (fun _ _ => rfl) (hr.mono (by omega)) (by rfl) (pk_cons (pv 2) pk_nil))) (pa_cons (pe_xfield (pe_newXk Z4 q4 (fun _ _ => rfl) (hr.mono (by omega)) (by rfl) (pk_cons (pv 2) pk_nil))) (pa_cons (pe_xfield (pe_newXk Z6 q6 (fun _ _ => rfl) (hr.mono (by omega)) (by rfl) (pk_cons (pv 2) pk_nil))) (pa_cons (pe_xfield (pe_newXk Z7 q7 (fun _ _ => rfl) (hr.mono (by omega)) (by rfl) (pk_cons (pv 2) pk_nil))) pa_nil)))))))
      (pss_cons (ps_set (i := 9) nd rfl (.inl rfl) (pe_op op_cat (pv 9) (pe_lst (pa_cons (pe_xfield (pe_newXk Z8 q8 (fun _ _ => rfl) (hr.mono (by omega)) (by rfl) (pk_cons (pv 2) pk_nil))) (pa_cons (pe_xfield (pe_newXk Z9 q9 (fun _ _ => rfl) (hr.mono (by omega)) (by rfl) (pk_cons (pv 2) pk_nil))) (pa_cons (pe_xfield (pe_newXk Z15 q15 (fun _ _ => rfl) (hr.mono (by omega)) (by rfl) (pk_cons (pv 2) pk_nil))) pa_nil))))))
      (pss_one (ps_ret (pe_call GL (hr.mono (by omega)) (by rfl) gL kL bL .nil pass0 (pa_cons (pe_op op_cat (pv 9) (pe_lst (pa_cons (pe_xfield (pe_newXk Z11 q11 (fun _ _ => rfl) (hr.mono (by omega)) (by rfl) (pk_cons (pv 2) pk_nil))) (pa_cons (pe_xfield (pe_newXk Z16 q16 (fun _ _ => rfl) (hr.mono (by omega)) (by rfl) (pk_cons (pv 2) pk_nil))) pa_nil)))) (pa_cons (pe_op op_rep (pe_lst (pa_cons (pv 2) pa_nil)) pe_int) pa_nil))))))))))))))), ?_⟩
    refine ⟨.ref s0, rfl, s0, ns, rfl, hS, hns, fun H1 b c nb nc sm1 B => ?_⟩
    -- the value
    refine ⟨.ref b, rfl, _, _, rfl, rfl, .ref b, rfl, _, _, rfl, rfl, ⟨by decide, by decide, by decide⟩, b, c, _, rfl, B, (by show (0 : Int) < 10 ^ 12; decide), (by show (10 : Int) ^ 12 < 1099511627776; decide), fun r H2 r0 r1 bt2 B2 => ?_⟩
    refine ⟨by show 6 ≤ sizeLine; decide, fun p np => ?_⟩
    have pb := B2.ne np
    refine ⟨b, c, .ref p, rfl, B2.upd pb.1 pb.2, .inl ⟨p, _, rfl, upd_same, pb.1, by show 0 < 6; decide, by show 6 ≤ 1000; decide, fun j a H3 hj bt3 B3 => ?_⟩⟩
    obtain ⟨da, Da, la⟩ := valOk (K := K) hj
    -- the codes
    refine ⟨by show 7 ≤ sizeLine; decide, fun c1 n1 => ?_⟩
    refine ⟨.ref c1, rfl, by show 8 ≤ sizeLine; decide, fun c2 n2 => ⟨c1, c2, _, _, rfl, rfl, by rw [upd_ne (ne_of_none upd_same n2)]; exact upd_same, upd_same, (by show 7 + 8 ≤ sizeLine; decide), fun c3 n3 => ?_⟩⟩
    refine ⟨.ref c3, rfl, by show 4 ≤ sizeLine; decide, fun c4 n4 => ⟨c3, c4, _, _, rfl, rfl, by rw [upd_ne (ne_of_none upd_same n4)]; exact upd_same, upd_same, (by show 15 + 4 ≤ sizeLine; decide), fun cd n5 => ?_⟩⟩
    refine ⟨a, rfl, a, rfl, fun H4 sm es s4 h4 E4 => ?_⟩
    have hcd : H4 cd = some (.lst (codesL.map V.str)) := s4 _ _ upd_same
    -- the loop
    refine ⟨19, rfl, by decide, by decide, for_range (lo := 0) (n := 19) (fun i σ H => ∃ y5 y6 y7 y8 : Option V, σ = [some (.ref s0), some (.ref b), some a, some (.ref cd), some (.ref sm), y5, y6, y7, y8, none, none] ∧ Same H4 H) ⟨_, _, _, _, rfl, Same.refl _⟩ ?_ ?_⟩
    · rintro i σ H hi ⟨y5, y6, y7, y8, rfl, sH⟩
      have e0 : (V.int (0 + (i : Int))) = V.int (i : Nat) := by
        congr 1
        omega
      rw [e0]
      obtain ⟨e, C, ge, gC, eA⟩ := E4.at_ i hi
      have Yk := Y i C hi gC
      have eH := eA.same sH
      obtain ⟨d, g1, g2⟩ := eH.ex
      have gm : (es.map V.ref)[i]? = some (V.ref e) := by
        rw [List.getElem?_map, ge]
        rfl
      refine ⟨.ref sm, rfl, .int i, rfl, sm, _, (i : Int), .ref e, rfl, rfl, sH.seq h4, atI_nat gm, ?_⟩
      refine ⟨.ref e, rfl, e, C, d, _, .ref S, .ref S, _, rfl, Yk.xc, g1, g2, (fun _ r => r), Yk.kS, ?_⟩
      refine ⟨.ref e, rfl, e, C, d, _, .ty "ValueError", .type "ValueError", _, rfl, Yk.xc, g1, g2, (fun _ r => r), Yk.kV, ?_⟩
      refine ⟨.ref e, rfl, e, C, d, _, .ref M, .ref M, _, rfl, Yk.xc, g1, g2, (fun _ r => r), Yk.kM, ?_⟩
      refine ⟨.ref e, rfl, e, C, d, _, .ty "LookupError", .type "LookupError", _, rfl, Yk.xc, g1, g2, (fun _ r => r), Yk.kL, ?_⟩
      refine ⟨by show 4 ≤ sizeLine; decide, fun l1 m1 => ?_⟩
      refine ⟨.ref l1, rfl, .int i, rfl, _, _, rfl, rfl, .int i, rfl, _, _, rfl, rfl, chain_lt (fun Q' h => ⟨.int i, rfl, h⟩) ⟨.int i, rfl, _, _, rfl, rfl, ?_⟩⟩
      refine ⟨by show 4 ≤ sizeLine; decide, fun l2 m2 => ?_⟩
      have t1 := same_upd (o := HO.lst [V.bl (decide ((i : Int) < 15)), V.bl (decide ((i : Int) < 15)), V.bl (decide (14 < (i : Int)) && decide ((i : Int) < 18)), V.bl (decide (14 < (i : Int)))]) m1
      have t2 := same_upd (o := HO.lst [V.bl (decide ((i : Int) < 15)), V.bl (decide ((i : Int) < 15)), V.bl (decide (14 < (i : Int)) && decide ((i : Int) < 18)), V.bl (decide (14 < (i : Int)))]) m2
      have t12 := Same.trans t1 t2
      refine ⟨.list [.bool (decide ((i : Int) < 15)), .bool (decide ((i : Int) < 15)), .bool (decide (14 < (i : Int)) && decide ((i : Int) < 18)), .bool (decide (14 < (i : Int)))], _, .lst (.of (t2 _ _ upd_same)) (.cons (.bl _) (.cons (.bl _) (.cons (.bl _) (.cons (.bl _) .nil)))), .lst (.of upd_same) (.cons (.bl _) (.cons (.bl _) (.cons (.bl _) (.cons (.bl _) .nil)))), rfl, rfl, false, congrArg V.bl (by rw [SeqAt.eqv_refl _ rfl]; rfl), iteF ?_⟩
      refine ⟨.ref e, rfl, e, C, d, _, .ty "IndexError", .type "IndexError", _, rfl, Yk.xc, t12 _ _ g1, t12 _ _ g2, (fun _ r => r), Yk.kI, .int i, rfl, rfl, ?_⟩
      refine ⟨rfl, false, congrArg V.bl (by rw [dec_int, decide_eq_true rfl]; rfl), iteF ?_⟩
      -- the flags
      have e12 : ErrAt K _ e C (fsOf i a) := eH.same t12
      refine ⟨.ref e, rfl, e, C, _, i, rfl, e12, Yk.xc, Yk.kk, fun H5 fl s5 h5 => ?_⟩
      refine ⟨19, rfl, by decide, by decide, fun D nD => ?_⟩
      refine lc_range (lo := 0) (n := 19) (fun j H6 => Same H5 H6 ∧ H6 D = some (.lst ((List.range j).map fun j => V.bl (decide (j = i))))) ⟨same_upd nD, upd_same⟩ ?_ ?_
      · rintro j H6 hj ⟨s6, hD⟩
        have ej : (V.int (0 + (j : Int))) = V.int (j : Nat) := by
          congr 1
          omega
        rw [ej]
        refine ⟨rfl, .int j, rfl, .int i, rfl, rfl, _, hD, ?_, fun u o e2 => ?_, ?_⟩
        · rw [List.length_map, List.length_range]
          exact small1000 (by omega)
        · rw [upd_ne (ne_of_none e2 nD)]
          exact s6 _ _ e2
        · rw [upd_same, List.range_succ, List.map_append, dec_int, show decide ((j : Int) = (i : Int)) = decide (j = i) from decide_eq_decide.mpr Int.ofNat_inj]
          rfl
      rintro H6 ⟨s6, hD⟩
      have fd6 : DpAll K H6 (flagsL i) ((List.range 19).map fun j => PyData.bool (decide (j = i))) :=
        .cons (.bl _) (.cons (.bl _) (.cons (.bl _) (.cons (.bl _) (.cons (.bl _) (.cons (.bl _) (.cons (.bl _) (.cons (.bl _) (.cons (.bl _) (.cons (.bl _) (.cons (.bl _) (.cons (.bl _) (.cons (.bl _) (.cons (.bl _) (.cons (.bl _) (.cons (.bl _) (.cons (.bl _) (.cons (.bl _) (.cons (.bl _) .nil))))))))))))))))))
      refine ⟨.list ((List.range 19).map fun j => PyData.bool (decide (j = i))), _, .lst (.of (s6 _ _ h5)) fd6, .lst (.of hD) fd6, rfl, rfl, false, congrArg V.bl (by rw [SeqAt.eqv_refl _ rfl]; rfl), iteF ?_⟩
      -- what is due
      have sA := (Same.trans sH (Same.trans t12 (Same.trans s5 s6)))
      have gc := codes_at i hi
      refine ⟨.ref cd, rfl, .int i, rfl, cd, _, (i : Int), .str (codesL.getD i ""), rfl, rfl, .of (sA _ _ hcd), atI_nat gc, by show 5 ≤ sizeLine; decide, fun tp np2 => ?_⟩
      have sB := Same.trans sA (same_upd (o := HO.tup bareL) np2)
      refine ⟨tp, bareL, rfl, .inr (.of upd_same), rfl, (by decide), _, rfl, due_if (a := a) (r := (fldL.getD i none).toList.map fun _ => a) (fun z => ?_) (fun z => ?_) rfl fun du nu => ?_⟩
      · have z2 : inV (.str (codesL.getD i "")) bareL = true := z
        rw [bare_is i hi] at z2
        cases hf : fldL.getD i none with
        | none => rfl
        | some f => rw [hf] at z2; cases z2
      · have z2 : ¬ inV (.str (codesL.getD i "")) bareL = true := z
        rw [bare_is i hi] at z2
        cases hf : fldL.getD i none with
        | none => rw [hf] at z2; exact absurd rfl z2
        | some f => rfl
      have sC := Same.trans sB (same_upd (o := HO.tup ((fldL.getD i none).toList.map fun _ => a)) nu)
      have eC := eA.same sC
      obtain ⟨d2, g3, g4⟩ := eC.ex
      refine ⟨.ref e, rfl, e, C, d2, _, _, rfl, Yk.xf, Yk.no _ (.inl rfl), g3, g4, fs_code i a, ?_⟩
      refine ⟨.ref e, rfl, e, C, _, _, _, rfl, eC, Yk.ec a, fs_code i a, fs_out i a hi, fun H7 fl2 s7 h7 => ?_⟩
      refine ⟨by show 2 ≤ sizeLine; decide, fun l3 m3 => ?_⟩
      have u3 := same_upd (o := HO.lst [V.str (codesL.getD i ""), V.ref fl2]) m3
      have sD := Same.trans sC (Same.trans s7 u3)
      refine ⟨.ref cd, rfl, .int i, rfl, cd, _, (i : Int), .str (codesL.getD i ""), rfl, rfl, .of (sD _ _ hcd), atI_nat gc, .ref du, rfl, by show 2 ≤ sizeLine; decide, fun l4 m4 => ?_⟩
      have u4 := same_upd (o := HO.lst [V.str (codesL.getD i ""), V.ref du]) m4
      have dd : ∀ H', DpAll K H' ((fldL.getD i none).toList.map fun _ => a) ((fldL.getD i none).toList.map fun _ => da) := fun H' => by
        cases fldL.getD i none with
        | none => exact .nil
        | some f => exact .cons (Da H') .nil
      refine ⟨.ref l3, .ref l4, .list [.str (codesL.getD i ""), .tuple ((fldL.getD i none).toList.map fun _ => da)], rfl,
        .lst (.of (u4 _ _ upd_same)) (.cons (.str _) (.cons (.tup (.of (u4 _ _ (u3 _ _ h7))) (dd _)) .nil)),
        .lst (.of upd_same) (.cons (.str _) (.cons (.tup (.of (u4 _ _ (u3 _ _ (s7 _ _ upd_same)))) (dd _)) .nil)),
        .lst (by show 2 ≤ 1000; decide) (fun x hx => ?_), fun H8 s8 => ⟨true, rfl, iteF ?_⟩⟩
      · rcases List.mem_cons.mp hx with rfl | hx
        · exact .str _
        · rcases List.mem_cons.mp hx with rfl | hx
          · refine .tup (Nat.le_trans (m := 1) ?_ (by decide)) fun y hy => ?_
            · rw [List.length_map]
              cases fldL.getD i none with
              | none => exact Nat.zero_le _
              | some f => exact Nat.le_refl _
            · obtain ⟨_, _, rfl⟩ := List.mem_map.mp hy
              exact la
          · cases hx
      exact ⟨_, _, _, _, rfl, Same.trans sD (Same.trans u4 s8)⟩
    · rintro σ H ⟨y5, y6, y7, y8, rfl, sH⟩
      refine ⟨a, rfl, (by show 1 ≤ 1000; decide), _, rfl, fun K0 e0 x0 n0 m0 z0 s0 g0 y0 => ⟨e0, C0, x0, _, a, rfl, (Y 0 C0 (by decide) rfl).xf, (Y 0 C0 (by decide) rfl).no _ (.inr rfl), g0, y0, rfl, ?_⟩⟩
      refine ⟨a, rfl, (by show 1 ≤ 1000; decide), _, rfl, fun K1 e1 x1 n1 m1 z1 s1 g1 y1 => ⟨e1, C2, x1, _, a, rfl, (Y 2 C2 (by decide) rfl).xf, (Y 2 C2 (by decide) rfl).no _ (.inr rfl), g1, y1, rfl, ?_⟩⟩
      refine ⟨a, rfl, (by show 1 ≤ 1000; decide), _, rfl, fun K2 e2 x2 n2 m2 z2 s2 g2 y2 => ⟨e2, C3, x2, _, a, rfl, (Y 3 C3 (by decide) rfl).xf, (Y 3 C3 (by decide) rfl).no _ (.inr rfl), g2, y2, rfl, ?_⟩⟩
      refine ⟨a, rfl, (by show 1 ≤ 1000; decide), _, rfl, fun K3 e3 x3 n3 m3 z3 s3 g3 y3 => ⟨e3, C12, x3, _, a, rfl, (Y 12 C12 (by decide) rfl).xf, (Y 12 C12 (by decide) rfl).no _ (.inr rfl), g3, y3, rfl, ?_⟩⟩
      refine ⟨a, rfl, (by show 1 ≤ 1000; decide), _, rfl, fun K4 e4 x4 n4 m4 z4 s4 g4 y4 => ⟨e4, C10, x4, _, a, rfl, (Y 10 C10 (by decide) rfl).xf, (Y 10 C10 (by decide) rfl).no _ (.inr rfl), g4, y4, rfl, ?_⟩⟩
      refine ⟨by show 5 ≤ sizeLine; decide, fun p0 o0 => ?_⟩
      refine ⟨.ref p0, rfl, ?_⟩
      refine ⟨a, rfl, (by show 1 ≤ 1000; decide), _, rfl, fun K5 e5 x5 n5 m5 z5 s5 g5 y5 => ⟨e5, C1, x5, _, a, rfl, (Y 1 C1 (by decide) rfl).xf, (Y 1 C1 (by decide) rfl).no _ (.inr rfl), g5, y5, rfl, ?_⟩⟩
      refine ⟨a, rfl, (by show 1 ≤ 1000; decide), _, rfl, fun K6 e6 x6 n6 m6 z6 s6 g6 y6 => ⟨e6, C4, x6, _, a, rfl, (Y 4 C4 (by decide) rfl).xf, (Y 4 C4 (by decide) rfl).no _ (.inr rfl), g6, y6, rfl, ?_⟩⟩
      refine ⟨a, rfl, (by show 1 ≤ 1000; decide), _, rfl, fun K7 e7 x7 n7 m7 z7 s7 g7 y7 => ⟨e7, C6, x7, _, a, rfl, (Y 6 C6 (by decide) rfl).xf, (Y 6 C6 (by decide) rfl).no _ (.inr rfl), g7, y7, rfl, ?_⟩⟩
      refine ⟨a, rfl, (by show 1 ≤ 1000; decide), _, rfl, fun K8 e8 x8 n8 m8 z8 s8 g8 y8 => ⟨e8, C7, x8, _, a, rfl, (Y 7 C7 (by decide) rfl).xf, (Y 7 C7 (by decide) rfl).no _ (.inr rfl), g8, y8, rfl, ?_⟩⟩
      refine ⟨by show 4 ≤ sizeLine; decide, fun l1 v1 => ?_⟩
      have a1 := (Same.trans s5 (Same.trans s6 (Same.trans s7 (Same.trans s8 (same_upd (o := HO.lst [a, a, a, a]) v1)))))
      refine ⟨p0, l1, [a, a, a, a, a], [a, a, a, a], rfl, rfl, a1 _ _ upd_same, upd_same, (by show 5 + 4 ≤ sizeLine; decide), fun p1 o1 => ?_⟩
      refine ⟨.ref p1, rfl, ?_⟩
      refine ⟨a, rfl, (by show 1 ≤ 1000; decide), _, rfl, fun K9 e9 x9 n9 m9 z9 s9 g9 y9 => ⟨e9, C8, x9, _, a, rfl, (Y 8 C8 (by decide) rfl).xf, (Y 8 C8 (by decide) rfl).no _ (.inr rfl), g9, y9, rfl, ?_⟩⟩
      refine ⟨a, rfl, (by show 1 ≤ 1000; decide), _, rfl, fun K10 e10 x10 n10 m10 z10 s10 g10 y10 => ⟨e10, C9, x10, _, a, rfl, (Y 9 C9 (by decide) rfl).xf, (Y 9 C9 (by decide) rfl).no _ (.inr rfl), g10, y10, rfl, ?_⟩⟩
      refine ⟨a, rfl, (by show 1 ≤ 1000; decide), _, rfl, fun K11 e11 x11 n11 m11 z11 s11 g11 y11 => ⟨e11, C15, x11, _, a, rfl, (Y 15 C15 (by decide) rfl).xf, (Y 15 C15 (by decide) rfl).no _ (.inr rfl), g11, y11, rfl, ?_⟩⟩
      refine ⟨by show 3 ≤ sizeLine; decide, fun l2 v2 => ?_⟩
      have a2 := (Same.trans s9 (Same.trans s10 (Same.trans s11 (same_upd (o := HO.lst [a, a, a]) v2))))
      refine ⟨p1, l2, ([a, a, a, a, a] ++ [a, a, a, a]), [a, a, a], rfl, rfl, a2 _ _ upd_same, upd_same, (by show 9 + 3 ≤ sizeLine; decide), fun p2 o2 => ?_⟩
      refine ⟨.ref p2, rfl, ?_⟩
      refine ⟨a, rfl, (by show 1 ≤ 1000; decide), _, rfl, fun K12 e12 x12 n12 m12 z12 s12 g12 y12 => ⟨e12, C11, x12, _, a, rfl, (Y 11 C11 (by decide) rfl).xf, (Y 11 C11 (by decide) rfl).no _ (.inr rfl), g12, y12, rfl, ?_⟩⟩
      refine ⟨a, rfl, (by show 1 ≤ 1000; decide), _, rfl, fun K13 e13 x13 n13 m13 z13 s13 g13 y13 => ⟨e13, C16, x13, _, a, rfl, (Y 16 C16 (by decide) rfl).xf, (Y 16 C16 (by decide) rfl).no _ (.inr rfl), g13, y13, rfl, ?_⟩⟩
      refine ⟨by show 2 ≤ sizeLine; decide, fun l3 v3 => ?_⟩
      have a3 := (Same.trans s12 (Same.trans s13 (same_upd (o := HO.lst [a, a]) v3)))
      refine ⟨p2, l3, (([a, a, a, a, a] ++ [a, a, a, a]) ++ [a, a, a]), [a, a], rfl, rfl, a3 _ _ upd_same, upd_same, (by show 12 + 2 ≤ sizeLine; decide), fun p3 o3 => ?_⟩
      refine ⟨a, rfl, by show 1 ≤ sizeLine; decide, fun l9 v9 => ⟨l9, 14, [a], rfl, rfl, upd_same, by decide, by decide, by show 1 * 14 ≤ sizeLine; decide, fun p9 o9 => ?_⟩⟩
      have w1 := same_upd (o := HO.lst [a]) v9
      have w2 := same_upd (o := HO.lst (List.replicate (14 : Int).toNat [a]).flatten) o9
      have d14 : ∀ H', DpAll K H' (List.replicate 14 a) (List.replicate 14 da) := fun H' => (.cons (Da H') (.cons (Da H') (.cons (Da H') (.cons (Da H') (.cons (Da H') (.cons (Da H') (.cons (Da H') (.cons (Da H') (.cons (Da H') (.cons (Da H') (.cons (Da H') (.cons (Da H') (.cons (Da H') (.cons (Da H') .nil))))))))))))))
      refine ⟨.ref p3, .ref p9, .list (List.replicate 14 da), rfl, .lst (.of (w2 _ _ (w1 _ _ upd_same))) (d14 _), .lst (.of upd_same) (d14 _), .lst (by show 14 ≤ 1000; decide) (fun x hx => ?_), fun H9 s9 => q H9⟩
      rw [List.eq_of_mem_replicate hx]
      cases la with
      | non => exact .non
      | bl b => exact .bl b
      | int i => exact .int i
      | str z => exact .str z

end
end X1

namespace X1
open PySem PySem.Spec PyProof.Rows L2 GX
/-! ### the classes as the top leaves them -/
def veT : List Value := [.type "ValueError", .type "Exception", .type "BaseException", .type "object"]
def leT : List Value := [.type "LookupError", .type "Exception", .type "BaseException", .type "object"]
def ieT : List Value := [.type "IndexError", .type "LookupError", .type "Exception", .type "BaseException", .type "object"]
theorem tail_ve : TailOk "ValueError" "ValueError.__new__" "ValueError.__init__" veT := ⟨F.excBase_ValueError, F.store_ValueError.passes, by decide⟩
theorem tail_le : TailOk "LookupError" "LookupError.__new__" "LookupError.__init__" leT := ⟨F.excBase_LookupError, F.store_LookupError.passes, by decide⟩
theorem tail_ie : TailOk "IndexError" "IndexError.__new__" "IndexError.__init__" ieT := ⟨F.excBase_IndexError, F.store_IndexError.passes, by decide⟩
/-- the class nm stands at C; above it bm -/
structure Low (K : PySem.W.Frag) (nm : Str) (C : Addr) (bm : List Value) (nI : String) : Prop where
  ex : ∃ q N bs sn sub ab col dd k0 k1 k2 k3 k5, K.lookup C = some (excClassObj nm q C N bs bm true sn sub ab col dd k0 k1 k2 k3 k5 nI)
section
variable {K : PySem.W.Frag} {nm nm' : Str} {C D : Addr} {bm bm' : List Value} {nI nI' : String}
theorem Low.cls (h : Low K nm C bm nI) : ∃ cd, PySem.W.clsIn K C = some cd ∧ cd.mro = .ref C :: bm ∧ cd.name = nm ∧ cd.hasDict = true := by
  obtain ⟨q, N, bs, sn, sub, ab, col, dd, k0, k1, k2, k3, k5, e⟩ := h.ex
  refine ⟨_, by unfold PySem.W.clsIn; rw [e] <;> rfl, rfl, rfl, rfl⟩
theorem Low.ty (h : Low K nm C bm nI) : PySem.W.typeIn K (.ref C) = some (.type "type") := by
  obtain ⟨q, N, bs, sn, sub, ab, col, dd, k0, k1, k2, k3, k5, e⟩ := h.ex
  show (K.lookup C).map (·.cls) = _
  rw [e]
  rfl
theorem Low.sub (h : Low K nm C bm nI) (v : Value) : PySem.W.mroIn K C v = some ((Value.ref C :: bm).contains v) := by
  obtain ⟨cd, hc, hm, _⟩ := h.cls
  unfold PySem.W.mroIn
  rw [hc, Option.bind_some, hm]
  rfl
theorem Low.ne (h : Low K nm C bm nI) (h' : Low K nm' D bm' nI') (n : nm ≠ nm') : C ≠ D := fun z => by
  subst z
  obtain ⟨cd, hc, _, e, _⟩ := h.cls
  obtain ⟨cd', hc', _, e', _⟩ := h'.cls
  rw [hc] at hc'
  cases hc'
  exact n (e.symm.trans e')
theorem kit_ref (h : Low K nm C bm nI) (h' : Low K nm' D bm' nI') : PySem.W.kitOne K (.ref C) (.ref D) = some ((Value.ref C :: bm).contains (.ref D)) := by
  unfold PySem.W.kitOne
  by_cases e : C = D
  · subst e
    rw [if_pos (by simp)]
    simp
  · rw [if_neg (fun z => e (Value.ref.inj (beq_iff_eq.mp z)))]
    obtain ⟨cd, hc, _⟩ := h'.cls
    have t : ((PySem.W.clsIn K D).isSome && PySem.W.typeIn K (.ref D) == some (.type "type")) = true := by
      rw [hc, h'.ty]
      rfl
    show (if ((PySem.W.clsIn K D).isSome && PySem.W.typeIn K (.ref D) == some (.type "type")) = true then PySem.W.mroIn K C (.ref D) else none) = _
    rw [if_pos t]
    exact h.sub _
theorem kit_bi {T : String} (h : Low K nm C bm nI) (hm : PySem.W.kitMeta T = true) : PySem.W.kitOne K (.ref C) (.type T) = some ((Value.ref C :: bm).contains (.type T)) := by
  unfold PySem.W.kitOne
  rw [if_neg (fun z => by have := beq_iff_eq.mp z; cases this)]
  show (if PySem.W.kitMeta T = true then PySem.W.mroIn K C (.type T) else none) = _
  rw [if_pos hm]
  exact h.sub _
theorem has_ref {l : List Value} : (Value.ref C :: l).contains (.ref D) = (decide (D = C) || l.contains (.ref D)) := by
  rw [List.contains_cons]
  congr 1
  by_cases e : D = C
  · rw [e, decide_eq_true rfl]
    exact beq_self_eq_true _
  · rw [decide_eq_false e]
    exact beq_eq_false_iff_ne.mpr fun z => e (Value.ref.inj z)
theorem has_ty {T : String} {l : List Value} : (Value.ref C :: l).contains (.type T) = l.contains (.type T) := by
  rw [List.contains_cons]
  have : (Value.type T == Value.ref C) = false := beq_eq_false_iff_ne.mpr fun z => nomatch z
  rw [this, Bool.false_or]
theorem no_ref {l : List Value} (h : ∀ v ∈ l, ∃ T, v = .type T) : l.contains (.ref D) = false := by
  rw [Bool.eq_false_iff]
  intro z
  obtain ⟨T, e⟩ := h _ (List.contains_iff_mem.mp z)
  cases e
end
def bmOf (S M : Addr) (k : Nat) : List Value := if k < 15 then .ref S :: veT else if k < 18 then .ref M :: leT else ieT
def nIOf (k : Nat) : String := if k < 15 then "ValueError.__new__" else if k < 18 then "LookupError.__new__" else "IndexError.__new__"
theorem veT_ty : ∀ v ∈ veT, ∃ T, v = .type T := by simp [veT]
theorem leT_ty : ∀ v ∈ leT, ∃ T, v = .type T := by simp [leT]
theorem ieT_ty : ∀ v ∈ ieT, ∃ T, v = .type T := by simp [ieT]
theorem bm_ref {S M D : Addr} {k : Nat} (hk : k < 19) : (bmOf S M k).contains (.ref D) = (decide (k < 15) && decide (D = S) || (decide (14 < k) && decide (k < 18)) && decide (D = M)) := by
  unfold bmOf
  by_cases h1 : k < 15
  · rw [if_pos h1, has_ref, no_ref veT_ty, decide_eq_true h1, decide_eq_false (show ¬ 14 < k by omega)]
    simp
  · rw [if_neg h1]
    by_cases h2 : k < 18
    · rw [if_pos h2, has_ref, no_ref leT_ty, decide_eq_false h1, decide_eq_true h2, decide_eq_true (show 14 < k by omega)]
      simp
    · rw [if_neg h2, no_ref ieT_ty, decide_eq_false h1, decide_eq_false h2]
      simp
theorem bm_ty {S M : Addr} {k : Nat} {T : String} : (bmOf S M k).contains (.type T) = (if k < 15 then veT else if k < 18 then leT else ieT).contains (.type T) := by
  unfold bmOf
  by_cases h1 : k < 15
  · rw [if_pos h1, if_pos h1, has_ty]
  · rw [if_neg h1, if_neg h1]
    by_cases h2 : k < 18
    · rw [if_pos h2, if_pos h2, has_ty]
    · rw [if_neg h2, if_neg h2]
theorem codes_inj (j k : Nat) (hj : j < 19) (hk : k < 19) (h : codesL.getD j "" = codesL.getD k "") : j = k := by
  have key : ∀ a : Fin 19, ∀ b : Fin 19, codesL.getD a.val "" = codesL.getD b.val "" → a = b := by decide
  have := key ⟨j, hj⟩ ⟨k, hk⟩ h
  exact congrArg Fin.val this
theorem codes_not (k : Nat) (hk : k < 19) : codesL.getD k "" ≠ ("StillError" : Str) ∧ codesL.getD k "" ≠ ("Missing" : Str) := by
  have key : ∀ a : Fin 19, codesL.getD a.val "" ≠ ("StillError" : Str) ∧ codesL.getD a.val "" ≠ ("Missing" : Str) := by decide
  exact key ⟨k, hk⟩
theorem rg_bm {S M : Addr} {k : Nat} : ∃ B iI tl, TailOk B (nIOf k) iI tl ∧ rg tl (bmOf S M k) = true := by
  unfold bmOf nIOf
  by_cases h1 : k < 15
  · rw [if_pos h1, if_pos h1]
    exact ⟨_, _, _, tail_ve, (decide_eq_true rfl : decide (veT = veT) = true)⟩
  · rw [if_neg h1, if_neg h1]
    by_cases h2 : k < 18
    · rw [if_pos h2, if_pos h2]
      exact ⟨_, _, _, tail_le, (decide_eq_true rfl : decide (leT = leT) = true)⟩
    · rw [if_neg h2, if_neg h2]
      exact ⟨_, _, _, tail_ie, decide_eq_true rfl⟩
/-- the facts of a class, told once -/
structure CIn (K : PySem.W.Frag) (S M : Addr) (k : Nat) (C : Addr) : Prop where
  low : Low K (codesL.getD k "") C (bmOf S M k) (nIOf k)
  sa : PySem.W.findIn K (.ref C) "__setattr__" = some (some (.builtin "object.__setattr__"))
  kC : PySem.W.keepIn K (.ref C) = true
  ga : PySem.W.findIn K (.ref C) "__getattribute__" = some (some (.builtin "BaseException.__getattribute__"))
  gg : PySem.W.findIn K (.ref C) "__getattr__" = some none
  ha : PySem.W.findIn K (.ref C) "__class__" = some (some (.builtin "object.__class__"))
  nc : PySem.W.findIn K (.ref C) "code" = some none
  nf : ∀ x, fldL.getD k none = some x → PySem.W.findIn K (.ref C) x = some none
theorem CIn.oex {K : PySem.W.Frag} {S M C : Addr} {k : Nat} (I : CIn K S M k C) : OexG K C := by
  obtain ⟨B, iI, tl, T, hr⟩ := rg_bm (S := S) (M := M) (k := k)
  obtain ⟨q, N, bs, sn, sub, ab, col, dd, k0, k1, k2, k3, k5, e⟩ := I.low.ex
  exact ⟨⟨B, nIOf k, iI, tl, _, q, N, bs, bmOf S M k, sn, sub, ab, col, dd, k0, k1, k2, k3, k5, T, e, hr⟩, I.sa, I.kC⟩
theorem cls_mk {K : PySem.W.Frag} {cA : List Addr} {S M C : Addr} {k : Nat} {bS bM : List Value} {iS iM : String} (hk : k < 19) (hC : cA[k]? = some C) (I : CIn K S M k C) (all : ∀ j D, cA[j]? = some D → j < 19 ∧ CIn K S M j D) (lS : Low K "StillError" S bS iS) (lM : Low K "Missing" M bM iM)
    (hn : PySem.W.specialIn K (.builtin "object.__class__") "__get__" = some (some (.builtin "getset_descriptor.__get__"))) (ht : PySem.W.takesIn K (.builtin "object.__class__") = some true) : ClsF K cA S M k C := by
  have hd : PySem.W.hasDictIn K C = true := by
    obtain ⟨cd, hc, _, _, h⟩ := I.low.cls
    unfold PySem.W.hasDictIn
    rw [hc]
    exact h
  have bt : ∀ T : String, (veT.contains (.type T) = true ∧ leT.contains (.type T) = true ∧ ieT.contains (.type T) = true) → PySem.W.mroIn K C (.type T) = some true := fun T h => by
    rw [I.low.sub, has_ty, bm_ty]
    by_cases h1 : k < 15
    · rw [if_pos h1, h.1]
    · rw [if_neg h1]
      by_cases h2 : k < 18
      · rw [if_pos h2, h.2.1]
      · rw [if_neg h2, h.2.2]
  have bex : PySem.W.subIn K (.ref C) (.type "BaseException") = some true := bt _ ⟨by decide, by decide, by decide⟩
  have nS : ∀ j D, j < 19 → CIn K S M j D → D ≠ S ∧ D ≠ M := fun j D hj J => ⟨J.low.ne lS (codes_not j hj).1, J.low.ne lM (codes_not j hj).2⟩
  have nSM : S ≠ M := lS.ne lM (by decide)
  refine ⟨⟨I.ga, I.gg, bex, hd⟩, fun n h => ?_, ⟨I.ga, I.gg, bex, hd, I.ha, hn, ht, bt _ ⟨by decide, by decide, by decide⟩⟩, fun j D hD => ?_, ?_, ?_, ?_, ?_, ?_⟩
  · rcases h with rfl | h
    · exact I.nc
    · exact I.nf n h
  · obtain ⟨hj, J⟩ := all j D hD
    obtain ⟨n1, n2⟩ := nS j D hj J
    rw [kit_ref I.low J.low, has_ref, bm_ref hk, decide_eq_false n1, decide_eq_false n2]
    congr 1
    by_cases e : j = k
    · subst e
      have : D = C := Option.some.inj (hD.symm.trans hC)
      rw [decide_eq_true this, decide_eq_true rfl]
      simp
    · rw [decide_eq_false e, decide_eq_false (J.low.ne I.low (fun z => e (codes_inj j k hj hk z)))]
      simp
  · rw [kit_ref I.low lS, has_ref, bm_ref hk, decide_eq_false (nS k C hk I).1.symm, decide_eq_true rfl, decide_eq_false nSM]
    simp
    omega
  · rw [kit_bi I.low (by decide +kernel), has_ty, bm_ty]
    by_cases h1 : k < 15
    · rw [if_pos h1, decide_eq_true (show (k : Int) < 15 by omega)]
      decide
    · rw [if_neg h1, decide_eq_false (show ¬ (k : Int) < 15 by omega)]
      by_cases h2 : k < 18
      · rw [if_pos h2]
        decide
      · rw [if_neg h2]
        decide
  · rw [kit_ref I.low lM, has_ref, bm_ref hk, decide_eq_false (nS k C hk I).2.symm, decide_eq_true rfl, decide_eq_false nSM.symm]
    simp
    rw [show decide (14 < k) = decide (14 < (k : Int)) from decide_eq_decide.mpr (by omega), show decide (k < 18) = decide ((k : Int) < 18) from decide_eq_decide.mpr (by omega)]
  · rw [kit_bi I.low (by decide +kernel), has_ty, bm_ty]
    by_cases h1 : k < 15
    · rw [if_pos h1, decide_eq_false (show ¬ 14 < (k : Int) by omega)]
      decide
    · rw [if_neg h1, decide_eq_true (show 14 < (k : Int) by omega)]
      by_cases h2 : k < 18
      · rw [if_pos h2]
        decide
      · rw [if_neg h2]
        decide
  · rw [kit_bi I.low (by decide +kernel), has_ty, bm_ty]
    by_cases h1 : k < 15
    · rw [if_pos h1, decide_eq_false (show ¬ (k : Int) = 18 by omega)]
      decide
    · rw [if_neg h1]
      by_cases h2 : k < 18
      · rw [if_pos h2, decide_eq_false (show ¬ (k : Int) = 18 by omega)]
        decide
      · rw [if_neg h2, decide_eq_true (show (k : Int) = 18 by omega)]
        decide
end X1

namespace X1
open PySem PySem.Spec PyProof.Rows L2 GX
theorem kb_0 {K : PySem.W.Frag} {f : Addr} {fd : FuncData} (F : Fun K "__init__" "InvalidName.__init__" sI0 f fd) : KBn K fd ["self", "name"] 1 (["name"] : List Str) initG initG := by
  obtain ⟨oc, od, kV, doc, pm, an, cdv, ct, osl, rfl, lk, hcd⟩ := F.ex
  refine ⟨fun s us ws X l1 l2 => ?_, fun r1 r2 => r1.append r2⟩
  match us, ws, l1, l2 with
  | [u], [a], _, _ => exact .of_eq rfl
theorem kb_1 {K : PySem.W.Frag} {f : Addr} {fd : FuncData} (F : Fun K "__init__" "DuplicateName.__init__" sI1 f fd) : KBn K fd ["self", "name"] 1 (["name"] : List Str) initG initG := by
  obtain ⟨oc, od, kV, doc, pm, an, cdv, ct, osl, rfl, lk, hcd⟩ := F.ex
  refine ⟨fun s us ws X l1 l2 => ?_, fun r1 r2 => r1.append r2⟩
  match us, ws, l1, l2 with
  | [u], [a], _, _ => exact .of_eq rfl
theorem kb_2 {K : PySem.W.Frag} {f : Addr} {fd : FuncData} (F : Fun K "__init__" "InvalidNumber.__init__" sI2 f fd) : KBn K fd ["self", "number"] 1 (["number"] : List Str) initG initG := by
  obtain ⟨oc, od, kV, doc, pm, an, cdv, ct, osl, rfl, lk, hcd⟩ := F.ex
  refine ⟨fun s us ws X l1 l2 => ?_, fun r1 r2 => r1.append r2⟩
  match us, ws, l1, l2 with
  | [u], [a], _, _ => exact .of_eq rfl
theorem kb_3 {K : PySem.W.Frag} {f : Addr} {fd : FuncData} (F : Fun K "__init__" "InvalidTable.__init__" sI3 f fd) : KBn K fd ["self", "given"] 1 (["given"] : List Str) initG initG := by
  obtain ⟨oc, od, kV, doc, pm, an, cdv, ct, osl, rfl, lk, hcd⟩ := F.ex
  refine ⟨fun s us ws X l1 l2 => ?_, fun r1 r2 => r1.append r2⟩
  match us, ws, l1, l2 with
  | [u], [a], _, _ => exact .of_eq rfl
theorem kb_4 {K : PySem.W.Frag} {f : Addr} {fd : FuncData} (F : Fun K "__init__" "InvalidBases.__init__" sI4 f fd) : KBn K fd ["self", "given"] 1 (["given"] : List Str) initG initG := by
  obtain ⟨oc, od, kV, doc, pm, an, cdv, ct, osl, rfl, lk, hcd⟩ := F.ex
  refine ⟨fun s us ws X l1 l2 => ?_, fun r1 r2 => r1.append r2⟩
  match us, ws, l1, l2 with
  | [u], [a], _, _ => exact .of_eq rfl
theorem kb_6 {K : PySem.W.Frag} {f : Addr} {fd : FuncData} (F : Fun K "__init__" "InvalidCondition.__init__" sI6 f fd) : KBn K fd ["self", "given"] 1 (["given"] : List Str) initG initG := by
  obtain ⟨oc, od, kV, doc, pm, an, cdv, ct, osl, rfl, lk, hcd⟩ := F.ex
  refine ⟨fun s us ws X l1 l2 => ?_, fun r1 r2 => r1.append r2⟩
  match us, ws, l1, l2 with
  | [u], [a], _, _ => exact .of_eq rfl
theorem kb_7 {K : PySem.W.Frag} {f : Addr} {fd : FuncData} (F : Fun K "__init__" "InvalidLine.__init__" sI7 f fd) : KBn K fd ["self", "at"] 1 (["at"] : List Str) initG initG := by
  obtain ⟨oc, od, kV, doc, pm, an, cdv, ct, osl, rfl, lk, hcd⟩ := F.ex
  refine ⟨fun s us ws X l1 l2 => ?_, fun r1 r2 => r1.append r2⟩
  match us, ws, l1, l2 with
  | [u], [a], _, _ => exact .of_eq rfl
theorem kb_8 {K : PySem.W.Frag} {f : Addr} {fd : FuncData} (F : Fun K "__init__" "InvalidText.__init__" sI8 f fd) : KBn K fd ["self", "at"] 1 (["at"] : List Str) initG initG := by
  obtain ⟨oc, od, kV, doc, pm, an, cdv, ct, osl, rfl, lk, hcd⟩ := F.ex
  refine ⟨fun s us ws X l1 l2 => ?_, fun r1 r2 => r1.append r2⟩
  match us, ws, l1, l2 with
  | [u], [a], _, _ => exact .of_eq rfl
theorem kb_9 {K : PySem.W.Frag} {f : Addr} {fd : FuncData} (F : Fun K "__init__" "InvalidCommand.__init__" sI9 f fd) : KBn K fd ["self", "at"] 1 (["at"] : List Str) initG initG := by
  obtain ⟨oc, od, kV, doc, pm, an, cdv, ct, osl, rfl, lk, hcd⟩ := F.ex
  refine ⟨fun s us ws X l1 l2 => ?_, fun r1 r2 => r1.append r2⟩
  match us, ws, l1, l2 with
  | [u], [a], _, _ => exact .of_eq rfl
theorem kb_10 {K : PySem.W.Frag} {f : Addr} {fd : FuncData} (F : Fun K "__init__" "Refused.__init__" sI10 f fd) : KBn K fd ["self", "word"] 1 (["word"] : List Str) initG initG := by
  obtain ⟨oc, od, kV, doc, pm, an, cdv, ct, osl, rfl, lk, hcd⟩ := F.ex
  refine ⟨fun s us ws X l1 l2 => ?_, fun r1 r2 => r1.append r2⟩
  match us, ws, l1, l2 with
  | [u], [a], _, _ => exact .of_eq rfl
theorem kb_11 {K : PySem.W.Frag} {f : Addr} {fd : FuncData} (F : Fun K "__init__" "Impossible.__init__" sI11 f fd) : KBn K fd ["self", "at"] 1 (["at"] : List Str) initG initG := by
  obtain ⟨oc, od, kV, doc, pm, an, cdv, ct, osl, rfl, lk, hcd⟩ := F.ex
  refine ⟨fun s us ws X l1 l2 => ?_, fun r1 r2 => r1.append r2⟩
  match us, ws, l1, l2 with
  | [u], [a], _, _ => exact .of_eq rfl
theorem kb_12 {K : PySem.W.Frag} {f : Addr} {fd : FuncData} (F : Fun K "__init__" "TooMany.__init__" sI12 f fd) : KBn K fd ["self", "most"] 1 (["most"] : List Str) initG initG := by
  obtain ⟨oc, od, kV, doc, pm, an, cdv, ct, osl, rfl, lk, hcd⟩ := F.ex
  refine ⟨fun s us ws X l1 l2 => ?_, fun r1 r2 => r1.append r2⟩
  match us, ws, l1, l2 with
  | [u], [a], _, _ => exact .of_eq rfl
theorem kb_15 {K : PySem.W.Frag} {f : Addr} {fd : FuncData} (F : Fun K "__init__" "UnknownBranch.__init__" sI15 f fd) : KBn K fd ["self", "name"] 1 (["name"] : List Str) initG initG := by
  obtain ⟨oc, od, kV, doc, pm, an, cdv, ct, osl, rfl, lk, hcd⟩ := F.ex
  refine ⟨fun s us ws X l1 l2 => ?_, fun r1 r2 => r1.append r2⟩
  match us, ws, l1, l2 with
  | [u], [a], _, _ => exact .of_eq rfl
theorem kb_16 {K : PySem.W.Frag} {f : Addr} {fd : FuncData} (F : Fun K "__init__" "UnknownChange.__init__" sI16 f fd) : KBn K fd ["self", "name"] 1 (["name"] : List Str) initG initG := by
  obtain ⟨oc, od, kV, doc, pm, an, cdv, ct, osl, rfl, lk, hcd⟩ := F.ex
  refine ⟨fun s us ws X l1 l2 => ?_, fun r1 r2 => r1.append r2⟩
  match us, ws, l1, l2 with
  | [u], [a], _, _ => exact .of_eq rfl
theorem all_mk {l : PySem.W.OpenLaw} {w : World} {K : PySem.W.Frag} {h : Heap} {mg : Str → Option Value} {fa C_S NN_S C_M NN_M C_0 NN_0 f_i0 C_1 NN_1 f_i1 C_2 NN_2 f_i2 C_3 NN_3 f_i3 C_4 NN_4 f_i4 C_5 NN_5 f_i5 C_6 NN_6 f_i6 C_7 NN_7 f_i7 C_8 NN_8 f_i8 C_9 NN_9 f_i9 C_10 NN_10 f_i10 C_11 NN_11 f_i11 C_12 NN_12 f_i12 C_13 NN_13 f_i13 C_14 NN_14 f_i14 C_15 NN_15 f_i15 C_16 NN_16 f_i16 C_17 NN_17 f_i17 C_18 NN_18 f_i18 f_opened f_pull f_any f_like f_fields f_made f_flags f_law : Addr} (X : K.In h) (G : h.Ns mainGlobals mg) (hfa : mg "law" = some (.ref fa))
    {dd_S dd_M dd_0 od_i0 an_i0 dd_1 od_i1 an_i1 dd_2 od_i2 an_i2 dd_3 od_i3 an_i3 dd_4 od_i4 an_i4 dd_5 od_i5 an_i5 dd_6 od_i6 an_i6 dd_7 od_i7 an_i7 dd_8 od_i8 an_i8 dd_9 od_i9 an_i9 dd_10 od_i10 an_i10 dd_11 od_i11 an_i11 dd_12 od_i12 an_i12 dd_13 od_i13 an_i13 dd_14 od_i14 an_i14 dd_15 od_i15 an_i15 dd_16 od_i16 an_i16 dd_17 od_i17 an_i17 dd_18 od_i18 an_i18 od_opened an_opened od_pull an_pull od_any an_any od_like an_like od_fields an_fields od_made an_made od_flags an_flags od_law an_law : Option Addr} {sl_i0 sl_i1 sl_i2 sl_i3 sl_i4 sl_i5 sl_i6 sl_i7 sl_i8 sl_i9 sl_i10 sl_i11 sl_i12 sl_i13 sl_i14 sl_i15 sl_i16 sl_i17 sl_i18 sl_opened sl_pull sl_any sl_like sl_fields sl_made sl_flags sl_law : Array (Option Value)} {oc_i0 kV_i0 dc_i0 pm_i0 cd_i0 ct_i0 oc_i1 kV_i1 dc_i1 pm_i1 cd_i1 ct_i1 oc_i2 kV_i2 dc_i2 pm_i2 cd_i2 ct_i2 oc_i3 kV_i3 dc_i3 pm_i3 cd_i3 ct_i3 oc_i4 kV_i4 dc_i4 pm_i4 cd_i4 ct_i4 oc_i5 kV_i5 dc_i5 pm_i5 cd_i5 ct_i5 oc_i6 kV_i6 dc_i6 pm_i6 cd_i6 ct_i6 oc_i7 kV_i7 dc_i7 pm_i7 cd_i7 ct_i7 oc_i8 kV_i8 dc_i8 pm_i8 cd_i8 ct_i8 oc_i9 kV_i9 dc_i9 pm_i9 cd_i9 ct_i9 oc_i10 kV_i10 dc_i10 pm_i10 cd_i10 ct_i10 oc_i11 kV_i11 dc_i11 pm_i11 cd_i11 ct_i11 oc_i12 kV_i12 dc_i12 pm_i12 cd_i12 ct_i12 oc_i13 kV_i13 dc_i13 pm_i13 cd_i13 ct_i13 oc_i14 kV_i14 dc_i14 pm_i14 cd_i14 ct_i14 oc_i15 kV_i15 dc_i15 pm_i15 cd_i15 ct_i15 oc_i16 kV_i16 dc_i16 pm_i16 cd_i16 ct_i16 oc_i17 kV_i17 dc_i17 pm_i17 cd_i17 ct_i17 oc_i18 kV_i18 dc_i18 pm_i18 cd_i18 ct_i18 oc_opened kV_opened dc_opened pm_opened cd_opened ct_opened oc_pull kV_pull dc_pull pm_pull cd_pull ct_pull oc_any kV_any dc_any pm_any cd_any ct_any oc_like kV_like dc_like pm_like cd_like ct_like oc_fields kV_fields dc_fields pm_fields cd_fields ct_fields oc_made kV_made dc_made pm_made cd_made ct_made oc_flags kV_flags dc_flags pm_flags cd_flags ct_flags oc_law kV_law dc_law pm_law cd_law ct_law : Value} {qq_S qq_M qq_0 qq_1 qq_2 qq_3 qq_4 qq_5 qq_6 qq_7 qq_8 qq_9 qq_10 qq_11 qq_12 qq_13 qq_14 qq_15 qq_16 qq_17 qq_18 : Str} {bs_S su_S bs_M su_M bs_0 su_0 bs_1 su_1 bs_2 su_2 bs_3 su_3 bs_4 su_4 bs_5 su_5 bs_6 su_6 bs_7 su_7 bs_8 su_8 bs_9 su_9 bs_10 su_10 bs_11 su_11 bs_12 su_12 bs_13 su_13 bs_14 su_14 bs_15 su_15 bs_16 su_16 bs_17 su_17 bs_18 su_18 : List Value} {sn_S sn_M sn_0 sn_1 sn_2 sn_3 sn_4 sn_5 sn_6 sn_7 sn_8 sn_9 sn_10 sn_11 sn_12 sn_13 sn_14 sn_15 sn_16 sn_17 sn_18 : List Str} {ab_S ab_M ab_0 ab_1 ab_2 ab_3 ab_4 ab_5 ab_6 ab_7 ab_8 ab_9 ab_10 ab_11 ab_12 ab_13 ab_14 ab_15 ab_16 ab_17 ab_18 : Bool} {co_S co_M co_0 co_1 co_2 co_3 co_4 co_5 co_6 co_7 co_8 co_9 co_10 co_11 co_12 co_13 co_14 co_15 co_16 co_17 co_18 : Option Bool} {v0_S v1_S v2_S v3_S v5_S v0_M v1_M v2_M v3_M v5_M v0_0 v1_0 v2_0 v3_0 v5_0 v0_1 v1_1 v2_1 v3_1 v5_1 v0_2 v1_2 v2_2 v3_2 v5_2 v0_3 v1_3 v2_3 v3_3 v5_3 v0_4 v1_4 v2_4 v3_4 v5_4 v0_5 v1_5 v2_5 v3_5 v5_5 v0_6 v1_6 v2_6 v3_6 v5_6 v0_7 v1_7 v2_7 v3_7 v5_7 v0_8 v1_8 v2_8 v3_8 v5_8 v0_9 v1_9 v2_9 v3_9 v5_9 v0_10 v1_10 v2_10 v3_10 v5_10 v0_11 v1_11 v2_11 v3_11 v5_11 v0_12 v1_12 v2_12 v3_12 v5_12 v0_13 v1_13 v2_13 v3_13 v5_13 v0_14 v1_14 v2_14 v3_14 v5_14 v0_15 v1_15 v2_15 v3_15 v5_15 v0_16 v1_16 v2_16 v3_16 v5_16 v0_17 v1_17 v2_17 v3_17 v5_17 v0_18 v1_18 v2_18 v3_18 v5_18 : Option Value}
    (a_S : PySem.W.nsIn K mainGlobals "StillError" = some (some (.ref C_S))) (x_S : K.lookup C_S = some (excClassObj "StillError" qq_S C_S NN_S bs_S [.type "ValueError", .type "Exception", .type "BaseException", .type "object"] true sn_S su_S ab_S co_S dd_S v0_S v1_S v2_S v3_S v5_S "ValueError.__new__"))
    (a_M : PySem.W.nsIn K mainGlobals "Missing" = some (some (.ref C_M))) (x_M : K.lookup C_M = some (excClassObj "Missing" qq_M C_M NN_M bs_M [.type "LookupError", .type "Exception", .type "BaseException", .type "object"] true sn_M su_M ab_M co_M dd_M v0_M v1_M v2_M v3_M v5_M "LookupError.__new__"))
    (a_0 : PySem.W.nsIn K mainGlobals "InvalidName" = some (some (.ref C_0))) (x_0 : K.lookup C_0 = some (excClassObj "InvalidName" qq_0 C_0 NN_0 bs_0 [.ref C_S, .type "ValueError", .type "Exception", .type "BaseException", .type "object"] true sn_0 su_0 ab_0 co_0 dd_0 v0_0 v1_0 v2_0 v3_0 v5_0 "ValueError.__new__")) (sa_0 : PySem.W.findIn K (.ref C_0) "__setattr__" = some (some (.builtin "object.__setattr__"))) (kc_0 : PySem.W.keepIn K (.ref C_0) = true) (ga_0 : PySem.W.findIn K (.ref C_0) "__getattribute__" = some (some (.builtin "BaseException.__getattribute__"))) (gg_0 : PySem.W.findIn K (.ref C_0) "__getattr__" = some none) (ha_0 : PySem.W.findIn K (.ref C_0) "__class__" = some (some (.builtin "object.__class__"))) (nc_0 : PySem.W.findIn K (.ref C_0) "code" = some none) (nf_0 : PySem.W.findIn K (.ref C_0) "name" = some none) (j_0 : PySem.W.findIn K (.ref C_0) "__init__" = some (some (.ref f_i0))) (t_0 : PySem.W.typeIn K (.ref f_i0) = some (.type "function")) (l_i0 : K.lookup f_i0 = some ⟨oc_i0, od_i0, .func (PySem.W.fnOf "__init__" "InvalidName.__init__" (defArgs sI0) (defBody sI0) (defScope sI0) .none kV_i0 dc_i0 pm_i0 an_i0 cd_i0 ct_i0), sl_i0⟩) (c_i0 : PySem.W.codeIn K cd_i0 "InvalidName.__init__" = true) (k_i0 : PySem.W.keepIn K (.ref f_i0) = true)
    (a_1 : PySem.W.nsIn K mainGlobals "DuplicateName" = some (some (.ref C_1))) (x_1 : K.lookup C_1 = some (excClassObj "DuplicateName" qq_1 C_1 NN_1 bs_1 [.ref C_S, .type "ValueError", .type "Exception", .type "BaseException", .type "object"] true sn_1 su_1 ab_1 co_1 dd_1 v0_1 v1_1 v2_1 v3_1 v5_1 "ValueError.__new__")) (sa_1 : PySem.W.findIn K (.ref C_1) "__setattr__" = some (some (.builtin "object.__setattr__"))) (kc_1 : PySem.W.keepIn K (.ref C_1) = true) (ga_1 : PySem.W.findIn K (.ref C_1) "__getattribute__" = some (some (.builtin "BaseException.__getattribute__"))) (gg_1 : PySem.W.findIn K (.ref C_1) "__getattr__" = some none) (ha_1 : PySem.W.findIn K (.ref C_1) "__class__" = some (some (.builtin "object.__class__"))) (nc_1 : PySem.W.findIn K (.ref C_1) "code" = some none) (nf_1 : PySem.W.findIn K (.ref C_1) "name" = some none) (j_1 : PySem.W.findIn K (.ref C_1) "__init__" = some (some (.ref f_i1))) (t_1 : PySem.W.typeIn K (.ref f_i1) = some (.type "function")) (l_i1 : K.lookup f_i1 = some ⟨oc_i1, od_i1, .func (PySem.W.fnOf "__init__" "DuplicateName.__init__" (defArgs sI1) (defBody sI1) (defScope sI1) .none kV_i1 dc_i1 pm_i1 an_i1 cd_i1 ct_i1), sl_i1⟩) (c_i1 : PySem.W.codeIn K cd_i1 "DuplicateName.__init__" = true) (k_i1 : PySem.W.keepIn K (.ref f_i1) = true)
    (a_2 : PySem.W.nsIn K mainGlobals "InvalidNumber" = some (some (.ref C_2))) (x_2 : K.lookup C_2 = some (excClassObj "InvalidNumber" qq_2 C_2 NN_2 bs_2 [.ref C_S, .type "ValueError", .type "Exception", .type "BaseException", .type "object"] true sn_2 su_2 ab_2 co_2 dd_2 v0_2 v1_2 v2_2 v3_2 v5_2 "ValueError.__new__")) (sa_2 : PySem.W.findIn K (.ref C_2) "__setattr__" = some (some (.builtin "object.__setattr__"))) (kc_2 : PySem.W.keepIn K (.ref C_2) = true) (ga_2 : PySem.W.findIn K (.ref C_2) "__getattribute__" = some (some (.builtin "BaseException.__getattribute__"))) (gg_2 : PySem.W.findIn K (.ref C_2) "__getattr__" = some none) (ha_2 : PySem.W.findIn K (.ref C_2) "__class__" = some (some (.builtin "object.__class__"))) (nc_2 : PySem.W.findIn K (.ref C_2) "code" = some none) (nf_2 : PySem.W.findIn K (.ref C_2) "number" = some none) (j_2 : PySem.W.findIn K (.ref C_2) "__init__" = some (some (.ref f_i2))) (t_2 : PySem.W.typeIn K (.ref f_i2) = some (.type "function")) (l_i2 : K.lookup f_i2 = some ⟨oc_i2, od_i2, .func (PySem.W.fnOf "__init__" "InvalidNumber.__init__" (defArgs sI2) (defBody sI2) (defScope sI2) .none kV_i2 dc_i2 pm_i2 an_i2 cd_i2 ct_i2), sl_i2⟩) (c_i2 : PySem.W.codeIn K cd_i2 "InvalidNumber.__init__" = true) (k_i2 : PySem.W.keepIn K (.ref f_i2) = true)
    (a_3 : PySem.W.nsIn K mainGlobals "InvalidTable" = some (some (.ref C_3))) (x_3 : K.lookup C_3 = some (excClassObj "InvalidTable" qq_3 C_3 NN_3 bs_3 [.ref C_S, .type "ValueError", .type "Exception", .type "BaseException", .type "object"] true sn_3 su_3 ab_3 co_3 dd_3 v0_3 v1_3 v2_3 v3_3 v5_3 "ValueError.__new__")) (sa_3 : PySem.W.findIn K (.ref C_3) "__setattr__" = some (some (.builtin "object.__setattr__"))) (kc_3 : PySem.W.keepIn K (.ref C_3) = true) (ga_3 : PySem.W.findIn K (.ref C_3) "__getattribute__" = some (some (.builtin "BaseException.__getattribute__"))) (gg_3 : PySem.W.findIn K (.ref C_3) "__getattr__" = some none) (ha_3 : PySem.W.findIn K (.ref C_3) "__class__" = some (some (.builtin "object.__class__"))) (nc_3 : PySem.W.findIn K (.ref C_3) "code" = some none) (nf_3 : PySem.W.findIn K (.ref C_3) "given" = some none) (j_3 : PySem.W.findIn K (.ref C_3) "__init__" = some (some (.ref f_i3))) (t_3 : PySem.W.typeIn K (.ref f_i3) = some (.type "function")) (l_i3 : K.lookup f_i3 = some ⟨oc_i3, od_i3, .func (PySem.W.fnOf "__init__" "InvalidTable.__init__" (defArgs sI3) (defBody sI3) (defScope sI3) .none kV_i3 dc_i3 pm_i3 an_i3 cd_i3 ct_i3), sl_i3⟩) (c_i3 : PySem.W.codeIn K cd_i3 "InvalidTable.__init__" = true) (k_i3 : PySem.W.keepIn K (.ref f_i3) = true)
    (a_4 : PySem.W.nsIn K mainGlobals "InvalidBases" = some (some (.ref C_4))) (x_4 : K.lookup C_4 = some (excClassObj "InvalidBases" qq_4 C_4 NN_4 bs_4 [.ref C_S, .type "ValueError", .type "Exception", .type "BaseException", .type "object"] true sn_4 su_4 ab_4 co_4 dd_4 v0_4 v1_4 v2_4 v3_4 v5_4 "ValueError.__new__")) (sa_4 : PySem.W.findIn K (.ref C_4) "__setattr__" = some (some (.builtin "object.__setattr__"))) (kc_4 : PySem.W.keepIn K (.ref C_4) = true) (ga_4 : PySem.W.findIn K (.ref C_4) "__getattribute__" = some (some (.builtin "BaseException.__getattribute__"))) (gg_4 : PySem.W.findIn K (.ref C_4) "__getattr__" = some none) (ha_4 : PySem.W.findIn K (.ref C_4) "__class__" = some (some (.builtin "object.__class__"))) (nc_4 : PySem.W.findIn K (.ref C_4) "code" = some none) (nf_4 : PySem.W.findIn K (.ref C_4) "given" = some none) (j_4 : PySem.W.findIn K (.ref C_4) "__init__" = some (some (.ref f_i4))) (t_4 : PySem.W.typeIn K (.ref f_i4) = some (.type "function")) (l_i4 : K.lookup f_i4 = some ⟨oc_i4, od_i4, .func (PySem.W.fnOf "__init__" "InvalidBases.__init__" (defArgs sI4) (defBody sI4) (defScope sI4) .none kV_i4 dc_i4 pm_i4 an_i4 cd_i4 ct_i4), sl_i4⟩) (c_i4 : PySem.W.codeIn K cd_i4 "InvalidBases.__init__" = true) (k_i4 : PySem.W.keepIn K (.ref f_i4) = true)
    (a_5 : PySem.W.nsIn K mainGlobals "InvalidDeed" = some (some (.ref C_5))) (x_5 : K.lookup C_5 = some (excClassObj "InvalidDeed" qq_5 C_5 NN_5 bs_5 [.ref C_S, .type "ValueError", .type "Exception", .type "BaseException", .type "object"] true sn_5 su_5 ab_5 co_5 dd_5 v0_5 v1_5 v2_5 v3_5 v5_5 "ValueError.__new__")) (sa_5 : PySem.W.findIn K (.ref C_5) "__setattr__" = some (some (.builtin "object.__setattr__"))) (kc_5 : PySem.W.keepIn K (.ref C_5) = true) (ga_5 : PySem.W.findIn K (.ref C_5) "__getattribute__" = some (some (.builtin "BaseException.__getattribute__"))) (gg_5 : PySem.W.findIn K (.ref C_5) "__getattr__" = some none) (ha_5 : PySem.W.findIn K (.ref C_5) "__class__" = some (some (.builtin "object.__class__"))) (nc_5 : PySem.W.findIn K (.ref C_5) "code" = some none) (j_5 : PySem.W.findIn K (.ref C_5) "__init__" = some (some (.ref f_i5))) (t_5 : PySem.W.typeIn K (.ref f_i5) = some (.type "function")) (l_i5 : K.lookup f_i5 = some ⟨oc_i5, od_i5, .func (PySem.W.fnOf "__init__" "InvalidDeed.__init__" (defArgs sI5) (defBody sI5) (defScope sI5) .none kV_i5 dc_i5 pm_i5 an_i5 cd_i5 ct_i5), sl_i5⟩) (c_i5 : PySem.W.codeIn K cd_i5 "InvalidDeed.__init__" = true) (k_i5 : PySem.W.keepIn K (.ref f_i5) = true)
    (a_6 : PySem.W.nsIn K mainGlobals "InvalidCondition" = some (some (.ref C_6))) (x_6 : K.lookup C_6 = some (excClassObj "InvalidCondition" qq_6 C_6 NN_6 bs_6 [.ref C_S, .type "ValueError", .type "Exception", .type "BaseException", .type "object"] true sn_6 su_6 ab_6 co_6 dd_6 v0_6 v1_6 v2_6 v3_6 v5_6 "ValueError.__new__")) (sa_6 : PySem.W.findIn K (.ref C_6) "__setattr__" = some (some (.builtin "object.__setattr__"))) (kc_6 : PySem.W.keepIn K (.ref C_6) = true) (ga_6 : PySem.W.findIn K (.ref C_6) "__getattribute__" = some (some (.builtin "BaseException.__getattribute__"))) (gg_6 : PySem.W.findIn K (.ref C_6) "__getattr__" = some none) (ha_6 : PySem.W.findIn K (.ref C_6) "__class__" = some (some (.builtin "object.__class__"))) (nc_6 : PySem.W.findIn K (.ref C_6) "code" = some none) (nf_6 : PySem.W.findIn K (.ref C_6) "given" = some none) (j_6 : PySem.W.findIn K (.ref C_6) "__init__" = some (some (.ref f_i6))) (t_6 : PySem.W.typeIn K (.ref f_i6) = some (.type "function")) (l_i6 : K.lookup f_i6 = some ⟨oc_i6, od_i6, .func (PySem.W.fnOf "__init__" "InvalidCondition.__init__" (defArgs sI6) (defBody sI6) (defScope sI6) .none kV_i6 dc_i6 pm_i6 an_i6 cd_i6 ct_i6), sl_i6⟩) (c_i6 : PySem.W.codeIn K cd_i6 "InvalidCondition.__init__" = true) (k_i6 : PySem.W.keepIn K (.ref f_i6) = true)
    (a_7 : PySem.W.nsIn K mainGlobals "InvalidLine" = some (some (.ref C_7))) (x_7 : K.lookup C_7 = some (excClassObj "InvalidLine" qq_7 C_7 NN_7 bs_7 [.ref C_S, .type "ValueError", .type "Exception", .type "BaseException", .type "object"] true sn_7 su_7 ab_7 co_7 dd_7 v0_7 v1_7 v2_7 v3_7 v5_7 "ValueError.__new__")) (sa_7 : PySem.W.findIn K (.ref C_7) "__setattr__" = some (some (.builtin "object.__setattr__"))) (kc_7 : PySem.W.keepIn K (.ref C_7) = true) (ga_7 : PySem.W.findIn K (.ref C_7) "__getattribute__" = some (some (.builtin "BaseException.__getattribute__"))) (gg_7 : PySem.W.findIn K (.ref C_7) "__getattr__" = some none) (ha_7 : PySem.W.findIn K (.ref C_7) "__class__" = some (some (.builtin "object.__class__"))) (nc_7 : PySem.W.findIn K (.ref C_7) "code" = some none) (nf_7 : PySem.W.findIn K (.ref C_7) "at" = some none) (j_7 : PySem.W.findIn K (.ref C_7) "__init__" = some (some (.ref f_i7))) (t_7 : PySem.W.typeIn K (.ref f_i7) = some (.type "function")) (l_i7 : K.lookup f_i7 = some ⟨oc_i7, od_i7, .func (PySem.W.fnOf "__init__" "InvalidLine.__init__" (defArgs sI7) (defBody sI7) (defScope sI7) .none kV_i7 dc_i7 pm_i7 an_i7 cd_i7 ct_i7), sl_i7⟩) (c_i7 : PySem.W.codeIn K cd_i7 "InvalidLine.__init__" = true) (k_i7 : PySem.W.keepIn K (.ref f_i7) = true)
    (a_8 : PySem.W.nsIn K mainGlobals "InvalidText" = some (some (.ref C_8))) (x_8 : K.lookup C_8 = some (excClassObj "InvalidText" qq_8 C_8 NN_8 bs_8 [.ref C_S, .type "ValueError", .type "Exception", .type "BaseException", .type "object"] true sn_8 su_8 ab_8 co_8 dd_8 v0_8 v1_8 v2_8 v3_8 v5_8 "ValueError.__new__")) (sa_8 : PySem.W.findIn K (.ref C_8) "__setattr__" = some (some (.builtin "object.__setattr__"))) (kc_8 : PySem.W.keepIn K (.ref C_8) = true) (ga_8 : PySem.W.findIn K (.ref C_8) "__getattribute__" = some (some (.builtin "BaseException.__getattribute__"))) (gg_8 : PySem.W.findIn K (.ref C_8) "__getattr__" = some none) (ha_8 : PySem.W.findIn K (.ref C_8) "__class__" = some (some (.builtin "object.__class__"))) (nc_8 : PySem.W.findIn K (.ref C_8) "code" = some none) (nf_8 : PySem.W.findIn K (.ref C_8) "at" = some none) (j_8 : PySem.W.findIn K (.ref C_8) "__init__" = some (some (.ref f_i8))) (t_8 : PySem.W.typeIn K (.ref f_i8) = some (.type "function")) (l_i8 : K.lookup f_i8 = some ⟨oc_i8, od_i8, .func (PySem.W.fnOf "__init__" "InvalidText.__init__" (defArgs sI8) (defBody sI8) (defScope sI8) .none kV_i8 dc_i8 pm_i8 an_i8 cd_i8 ct_i8), sl_i8⟩) (c_i8 : PySem.W.codeIn K cd_i8 "InvalidText.__init__" = true) (k_i8 : PySem.W.keepIn K (.ref f_i8) = true)
    (a_9 : PySem.W.nsIn K mainGlobals "InvalidCommand" = some (some (.ref C_9))) (x_9 : K.lookup C_9 = some (excClassObj "InvalidCommand" qq_9 C_9 NN_9 bs_9 [.ref C_S, .type "ValueError", .type "Exception", .type "BaseException", .type "object"] true sn_9 su_9 ab_9 co_9 dd_9 v0_9 v1_9 v2_9 v3_9 v5_9 "ValueError.__new__")) (sa_9 : PySem.W.findIn K (.ref C_9) "__setattr__" = some (some (.builtin "object.__setattr__"))) (kc_9 : PySem.W.keepIn K (.ref C_9) = true) (ga_9 : PySem.W.findIn K (.ref C_9) "__getattribute__" = some (some (.builtin "BaseException.__getattribute__"))) (gg_9 : PySem.W.findIn K (.ref C_9) "__getattr__" = some none) (ha_9 : PySem.W.findIn K (.ref C_9) "__class__" = some (some (.builtin "object.__class__"))) (nc_9 : PySem.W.findIn K (.ref C_9) "code" = some none) (nf_9 : PySem.W.findIn K (.ref C_9) "at" = some none) (j_9 : PySem.W.findIn K (.ref C_9) "__init__" = some (some (.ref f_i9))) (t_9 : PySem.W.typeIn K (.ref f_i9) = some (.type "function")) (l_i9 : K.lookup f_i9 = some ⟨oc_i9, od_i9, .func (PySem.W.fnOf "__init__" "InvalidCommand.__init__" (defArgs sI9) (defBody sI9) (defScope sI9) .none kV_i9 dc_i9 pm_i9 an_i9 cd_i9 ct_i9), sl_i9⟩) (c_i9 : PySem.W.codeIn K cd_i9 "InvalidCommand.__init__" = true) (k_i9 : PySem.W.keepIn K (.ref f_i9) = true)
    (a_10 : PySem.W.nsIn K mainGlobals "Refused" = some (some (.ref C_10))) (x_10 : K.lookup C_10 = some (excClassObj "Refused" qq_10 C_10 NN_10 bs_10 [.ref C_S, .type "ValueError", .type "Exception", .type "BaseException", .type "object"] true sn_10 su_10 ab_10 co_10 dd_10 v0_10 v1_10 v2_10 v3_10 v5_10 "ValueError.__new__")) (sa_10 : PySem.W.findIn K (.ref C_10) "__setattr__" = some (some (.builtin "object.__setattr__"))) (kc_10 : PySem.W.keepIn K (.ref C_10) = true) (ga_10 : PySem.W.findIn K (.ref C_10) "__getattribute__" = some (some (.builtin "BaseException.__getattribute__"))) (gg_10 : PySem.W.findIn K (.ref C_10) "__getattr__" = some none) (ha_10 : PySem.W.findIn K (.ref C_10) "__class__" = some (some (.builtin "object.__class__"))) (nc_10 : PySem.W.findIn K (.ref C_10) "code" = some none) (nf_10 : PySem.W.findIn K (.ref C_10) "word" = some none) (j_10 : PySem.W.findIn K (.ref C_10) "__init__" = some (some (.ref f_i10))) (t_10 : PySem.W.typeIn K (.ref f_i10) = some (.type "function")) (l_i10 : K.lookup f_i10 = some ⟨oc_i10, od_i10, .func (PySem.W.fnOf "__init__" "Refused.__init__" (defArgs sI10) (defBody sI10) (defScope sI10) .none kV_i10 dc_i10 pm_i10 an_i10 cd_i10 ct_i10), sl_i10⟩) (c_i10 : PySem.W.codeIn K cd_i10 "Refused.__init__" = true) (k_i10 : PySem.W.keepIn K (.ref f_i10) = true)
    (a_11 : PySem.W.nsIn K mainGlobals "Impossible" = some (some (.ref C_11))) (x_11 : K.lookup C_11 = some (excClassObj "Impossible" qq_11 C_11 NN_11 bs_11 [.ref C_S, .type "ValueError", .type "Exception", .type "BaseException", .type "object"] true sn_11 su_11 ab_11 co_11 dd_11 v0_11 v1_11 v2_11 v3_11 v5_11 "ValueError.__new__")) (sa_11 : PySem.W.findIn K (.ref C_11) "__setattr__" = some (some (.builtin "object.__setattr__"))) (kc_11 : PySem.W.keepIn K (.ref C_11) = true) (ga_11 : PySem.W.findIn K (.ref C_11) "__getattribute__" = some (some (.builtin "BaseException.__getattribute__"))) (gg_11 : PySem.W.findIn K (.ref C_11) "__getattr__" = some none) (ha_11 : PySem.W.findIn K (.ref C_11) "__class__" = some (some (.builtin "object.__class__"))) (nc_11 : PySem.W.findIn K (.ref C_11) "code" = some none) (nf_11 : PySem.W.findIn K (.ref C_11) "at" = some none) (j_11 : PySem.W.findIn K (.ref C_11) "__init__" = some (some (.ref f_i11))) (t_11 : PySem.W.typeIn K (.ref f_i11) = some (.type "function")) (l_i11 : K.lookup f_i11 = some ⟨oc_i11, od_i11, .func (PySem.W.fnOf "__init__" "Impossible.__init__" (defArgs sI11) (defBody sI11) (defScope sI11) .none kV_i11 dc_i11 pm_i11 an_i11 cd_i11 ct_i11), sl_i11⟩) (c_i11 : PySem.W.codeIn K cd_i11 "Impossible.__init__" = true) (k_i11 : PySem.W.keepIn K (.ref f_i11) = true)
    (a_12 : PySem.W.nsIn K mainGlobals "TooMany" = some (some (.ref C_12))) (x_12 : K.lookup C_12 = some (excClassObj "TooMany" qq_12 C_12 NN_12 bs_12 [.ref C_S, .type "ValueError", .type "Exception", .type "BaseException", .type "object"] true sn_12 su_12 ab_12 co_12 dd_12 v0_12 v1_12 v2_12 v3_12 v5_12 "ValueError.__new__")) (sa_12 : PySem.W.findIn K (.ref C_12) "__setattr__" = some (some (.builtin "object.__setattr__"))) (kc_12 : PySem.W.keepIn K (.ref C_12) = true) (ga_12 : PySem.W.findIn K (.ref C_12) "__getattribute__" = some (some (.builtin "BaseException.__getattribute__"))) (gg_12 : PySem.W.findIn K (.ref C_12) "__getattr__" = some none) (ha_12 : PySem.W.findIn K (.ref C_12) "__class__" = some (some (.builtin "object.__class__"))) (nc_12 : PySem.W.findIn K (.ref C_12) "code" = some none) (nf_12 : PySem.W.findIn K (.ref C_12) "most" = some none) (j_12 : PySem.W.findIn K (.ref C_12) "__init__" = some (some (.ref f_i12))) (t_12 : PySem.W.typeIn K (.ref f_i12) = some (.type "function")) (l_i12 : K.lookup f_i12 = some ⟨oc_i12, od_i12, .func (PySem.W.fnOf "__init__" "TooMany.__init__" (defArgs sI12) (defBody sI12) (defScope sI12) .none kV_i12 dc_i12 pm_i12 an_i12 cd_i12 ct_i12), sl_i12⟩) (c_i12 : PySem.W.codeIn K cd_i12 "TooMany.__init__" = true) (k_i12 : PySem.W.keepIn K (.ref f_i12) = true)
    (a_13 : PySem.W.nsIn K mainGlobals "Untimed" = some (some (.ref C_13))) (x_13 : K.lookup C_13 = some (excClassObj "Untimed" qq_13 C_13 NN_13 bs_13 [.ref C_S, .type "ValueError", .type "Exception", .type "BaseException", .type "object"] true sn_13 su_13 ab_13 co_13 dd_13 v0_13 v1_13 v2_13 v3_13 v5_13 "ValueError.__new__")) (sa_13 : PySem.W.findIn K (.ref C_13) "__setattr__" = some (some (.builtin "object.__setattr__"))) (kc_13 : PySem.W.keepIn K (.ref C_13) = true) (ga_13 : PySem.W.findIn K (.ref C_13) "__getattribute__" = some (some (.builtin "BaseException.__getattribute__"))) (gg_13 : PySem.W.findIn K (.ref C_13) "__getattr__" = some none) (ha_13 : PySem.W.findIn K (.ref C_13) "__class__" = some (some (.builtin "object.__class__"))) (nc_13 : PySem.W.findIn K (.ref C_13) "code" = some none) (j_13 : PySem.W.findIn K (.ref C_13) "__init__" = some (some (.ref f_i13))) (t_13 : PySem.W.typeIn K (.ref f_i13) = some (.type "function")) (l_i13 : K.lookup f_i13 = some ⟨oc_i13, od_i13, .func (PySem.W.fnOf "__init__" "Untimed.__init__" (defArgs sI13) (defBody sI13) (defScope sI13) .none kV_i13 dc_i13 pm_i13 an_i13 cd_i13 ct_i13), sl_i13⟩) (c_i13 : PySem.W.codeIn K cd_i13 "Untimed.__init__" = true) (k_i13 : PySem.W.keepIn K (.ref f_i13) = true)
    (a_14 : PySem.W.nsIn K mainGlobals "WrongShape" = some (some (.ref C_14))) (x_14 : K.lookup C_14 = some (excClassObj "WrongShape" qq_14 C_14 NN_14 bs_14 [.ref C_S, .type "ValueError", .type "Exception", .type "BaseException", .type "object"] true sn_14 su_14 ab_14 co_14 dd_14 v0_14 v1_14 v2_14 v3_14 v5_14 "ValueError.__new__")) (sa_14 : PySem.W.findIn K (.ref C_14) "__setattr__" = some (some (.builtin "object.__setattr__"))) (kc_14 : PySem.W.keepIn K (.ref C_14) = true) (ga_14 : PySem.W.findIn K (.ref C_14) "__getattribute__" = some (some (.builtin "BaseException.__getattribute__"))) (gg_14 : PySem.W.findIn K (.ref C_14) "__getattr__" = some none) (ha_14 : PySem.W.findIn K (.ref C_14) "__class__" = some (some (.builtin "object.__class__"))) (nc_14 : PySem.W.findIn K (.ref C_14) "code" = some none) (j_14 : PySem.W.findIn K (.ref C_14) "__init__" = some (some (.ref f_i14))) (t_14 : PySem.W.typeIn K (.ref f_i14) = some (.type "function")) (l_i14 : K.lookup f_i14 = some ⟨oc_i14, od_i14, .func (PySem.W.fnOf "__init__" "WrongShape.__init__" (defArgs sI14) (defBody sI14) (defScope sI14) .none kV_i14 dc_i14 pm_i14 an_i14 cd_i14 ct_i14), sl_i14⟩) (c_i14 : PySem.W.codeIn K cd_i14 "WrongShape.__init__" = true) (k_i14 : PySem.W.keepIn K (.ref f_i14) = true)
    (a_15 : PySem.W.nsIn K mainGlobals "UnknownBranch" = some (some (.ref C_15))) (x_15 : K.lookup C_15 = some (excClassObj "UnknownBranch" qq_15 C_15 NN_15 bs_15 [.ref C_M, .type "LookupError", .type "Exception", .type "BaseException", .type "object"] true sn_15 su_15 ab_15 co_15 dd_15 v0_15 v1_15 v2_15 v3_15 v5_15 "LookupError.__new__")) (sa_15 : PySem.W.findIn K (.ref C_15) "__setattr__" = some (some (.builtin "object.__setattr__"))) (kc_15 : PySem.W.keepIn K (.ref C_15) = true) (ga_15 : PySem.W.findIn K (.ref C_15) "__getattribute__" = some (some (.builtin "BaseException.__getattribute__"))) (gg_15 : PySem.W.findIn K (.ref C_15) "__getattr__" = some none) (ha_15 : PySem.W.findIn K (.ref C_15) "__class__" = some (some (.builtin "object.__class__"))) (nc_15 : PySem.W.findIn K (.ref C_15) "code" = some none) (nf_15 : PySem.W.findIn K (.ref C_15) "name" = some none) (j_15 : PySem.W.findIn K (.ref C_15) "__init__" = some (some (.ref f_i15))) (t_15 : PySem.W.typeIn K (.ref f_i15) = some (.type "function")) (l_i15 : K.lookup f_i15 = some ⟨oc_i15, od_i15, .func (PySem.W.fnOf "__init__" "UnknownBranch.__init__" (defArgs sI15) (defBody sI15) (defScope sI15) .none kV_i15 dc_i15 pm_i15 an_i15 cd_i15 ct_i15), sl_i15⟩) (c_i15 : PySem.W.codeIn K cd_i15 "UnknownBranch.__init__" = true) (k_i15 : PySem.W.keepIn K (.ref f_i15) = true)
    (a_16 : PySem.W.nsIn K mainGlobals "UnknownChange" = some (some (.ref C_16))) (x_16 : K.lookup C_16 = some (excClassObj "UnknownChange" qq_16 C_16 NN_16 bs_16 [.ref C_M, .type "LookupError", .type "Exception", .type "BaseException", .type "object"] true sn_16 su_16 ab_16 co_16 dd_16 v0_16 v1_16 v2_16 v3_16 v5_16 "LookupError.__new__")) (sa_16 : PySem.W.findIn K (.ref C_16) "__setattr__" = some (some (.builtin "object.__setattr__"))) (kc_16 : PySem.W.keepIn K (.ref C_16) = true) (ga_16 : PySem.W.findIn K (.ref C_16) "__getattribute__" = some (some (.builtin "BaseException.__getattribute__"))) (gg_16 : PySem.W.findIn K (.ref C_16) "__getattr__" = some none) (ha_16 : PySem.W.findIn K (.ref C_16) "__class__" = some (some (.builtin "object.__class__"))) (nc_16 : PySem.W.findIn K (.ref C_16) "code" = some none) (nf_16 : PySem.W.findIn K (.ref C_16) "name" = some none) (j_16 : PySem.W.findIn K (.ref C_16) "__init__" = some (some (.ref f_i16))) (t_16 : PySem.W.typeIn K (.ref f_i16) = some (.type "function")) (l_i16 : K.lookup f_i16 = some ⟨oc_i16, od_i16, .func (PySem.W.fnOf "__init__" "UnknownChange.__init__" (defArgs sI16) (defBody sI16) (defScope sI16) .none kV_i16 dc_i16 pm_i16 an_i16 cd_i16 ct_i16), sl_i16⟩) (c_i16 : PySem.W.codeIn K cd_i16 "UnknownChange.__init__" = true) (k_i16 : PySem.W.keepIn K (.ref f_i16) = true)
    (a_17 : PySem.W.nsIn K mainGlobals "UnknownMoment" = some (some (.ref C_17))) (x_17 : K.lookup C_17 = some (excClassObj "UnknownMoment" qq_17 C_17 NN_17 bs_17 [.ref C_M, .type "LookupError", .type "Exception", .type "BaseException", .type "object"] true sn_17 su_17 ab_17 co_17 dd_17 v0_17 v1_17 v2_17 v3_17 v5_17 "LookupError.__new__")) (sa_17 : PySem.W.findIn K (.ref C_17) "__setattr__" = some (some (.builtin "object.__setattr__"))) (kc_17 : PySem.W.keepIn K (.ref C_17) = true) (ga_17 : PySem.W.findIn K (.ref C_17) "__getattribute__" = some (some (.builtin "BaseException.__getattribute__"))) (gg_17 : PySem.W.findIn K (.ref C_17) "__getattr__" = some none) (ha_17 : PySem.W.findIn K (.ref C_17) "__class__" = some (some (.builtin "object.__class__"))) (nc_17 : PySem.W.findIn K (.ref C_17) "code" = some none) (j_17 : PySem.W.findIn K (.ref C_17) "__init__" = some (some (.ref f_i17))) (t_17 : PySem.W.typeIn K (.ref f_i17) = some (.type "function")) (l_i17 : K.lookup f_i17 = some ⟨oc_i17, od_i17, .func (PySem.W.fnOf "__init__" "UnknownMoment.__init__" (defArgs sI17) (defBody sI17) (defScope sI17) .none kV_i17 dc_i17 pm_i17 an_i17 cd_i17 ct_i17), sl_i17⟩) (c_i17 : PySem.W.codeIn K cd_i17 "UnknownMoment.__init__" = true) (k_i17 : PySem.W.keepIn K (.ref f_i17) = true)
    (a_18 : PySem.W.nsIn K mainGlobals "NothingLeft" = some (some (.ref C_18))) (x_18 : K.lookup C_18 = some (excClassObj "NothingLeft" qq_18 C_18 NN_18 bs_18 [.type "IndexError", .type "LookupError", .type "Exception", .type "BaseException", .type "object"] true sn_18 su_18 ab_18 co_18 dd_18 v0_18 v1_18 v2_18 v3_18 v5_18 "IndexError.__new__")) (sa_18 : PySem.W.findIn K (.ref C_18) "__setattr__" = some (some (.builtin "object.__setattr__"))) (kc_18 : PySem.W.keepIn K (.ref C_18) = true) (ga_18 : PySem.W.findIn K (.ref C_18) "__getattribute__" = some (some (.builtin "BaseException.__getattribute__"))) (gg_18 : PySem.W.findIn K (.ref C_18) "__getattr__" = some none) (ha_18 : PySem.W.findIn K (.ref C_18) "__class__" = some (some (.builtin "object.__class__"))) (nc_18 : PySem.W.findIn K (.ref C_18) "code" = some none) (j_18 : PySem.W.findIn K (.ref C_18) "__init__" = some (some (.ref f_i18))) (t_18 : PySem.W.typeIn K (.ref f_i18) = some (.type "function")) (l_i18 : K.lookup f_i18 = some ⟨oc_i18, od_i18, .func (PySem.W.fnOf "__init__" "NothingLeft.__init__" (defArgs sI18) (defBody sI18) (defScope sI18) .none kV_i18 dc_i18 pm_i18 an_i18 cd_i18 ct_i18), sl_i18⟩) (c_i18 : PySem.W.codeIn K cd_i18 "NothingLeft.__init__" = true) (k_i18 : PySem.W.keepIn K (.ref f_i18) = true)
    (a_opened : PySem.W.nsIn K mainGlobals "_law_opened" = some (some (.ref f_opened))) (l_opened : K.lookup f_opened = some ⟨oc_opened, od_opened, .func (PySem.W.fnOf "_law_opened" "_law_opened" (defArgs sOpened) (defBody sOpened) (defScope sOpened) .none kV_opened dc_opened pm_opened an_opened cd_opened ct_opened), sl_opened⟩) (c_opened : PySem.W.codeIn K cd_opened "_law_opened" = true) (k_opened : PySem.W.keepIn K (.ref f_opened) = true)
    (a_pull : PySem.W.nsIn K mainGlobals "_law_pull" = some (some (.ref f_pull))) (l_pull : K.lookup f_pull = some ⟨oc_pull, od_pull, .func (PySem.W.fnOf "_law_pull" "_law_pull" (defArgs sPull) (defBody sPull) (defScope sPull) .none kV_pull dc_pull pm_pull an_pull cd_pull ct_pull), sl_pull⟩) (c_pull : PySem.W.codeIn K cd_pull "_law_pull" = true) (k_pull : PySem.W.keepIn K (.ref f_pull) = true)
    (a_any : PySem.W.nsIn K mainGlobals "_law_any" = some (some (.ref f_any))) (l_any : K.lookup f_any = some ⟨oc_any, od_any, .func (PySem.W.fnOf "_law_any" "_law_any" (defArgs sAny) (defBody sAny) (defScope sAny) .none kV_any dc_any pm_any an_any cd_any ct_any), sl_any⟩) (c_any : PySem.W.codeIn K cd_any "_law_any" = true) (k_any : PySem.W.keepIn K (.ref f_any) = true)
    (a_like : PySem.W.nsIn K mainGlobals "_law_like" = some (some (.ref f_like))) (l_like : K.lookup f_like = some ⟨oc_like, od_like, .func (PySem.W.fnOf "_law_like" "_law_like" (defArgs sLike) (defBody sLike) (defScope sLike) .none kV_like dc_like pm_like an_like cd_like ct_like), sl_like⟩) (c_like : PySem.W.codeIn K cd_like "_law_like" = true) (k_like : PySem.W.keepIn K (.ref f_like) = true)
    (a_fields : PySem.W.nsIn K mainGlobals "_law_fields" = some (some (.ref f_fields))) (l_fields : K.lookup f_fields = some ⟨oc_fields, od_fields, .func (PySem.W.fnOf "_law_fields" "_law_fields" (defArgs sFields) (defBody sFields) (defScope sFields) .none kV_fields dc_fields pm_fields an_fields cd_fields ct_fields), sl_fields⟩) (c_fields : PySem.W.codeIn K cd_fields "_law_fields" = true) (k_fields : PySem.W.keepIn K (.ref f_fields) = true)
    (a_made : PySem.W.nsIn K mainGlobals "_law_made_errors" = some (some (.ref f_made))) (l_made : K.lookup f_made = some ⟨oc_made, od_made, .func (PySem.W.fnOf "_law_made_errors" "_law_made_errors" (defArgs sMade) (defBody sMade) (defScope sMade) .none kV_made dc_made pm_made an_made cd_made ct_made), sl_made⟩) (c_made : PySem.W.codeIn K cd_made "_law_made_errors" = true) (k_made : PySem.W.keepIn K (.ref f_made) = true)
    (a_flags : PySem.W.nsIn K mainGlobals "_law_flags" = some (some (.ref f_flags))) (l_flags : K.lookup f_flags = some ⟨oc_flags, od_flags, .func (PySem.W.fnOf "_law_flags" "_law_flags" (defArgs sFlags) (defBody sFlags) (defScope sFlags) .none kV_flags dc_flags pm_flags an_flags cd_flags ct_flags), sl_flags⟩) (c_flags : PySem.W.codeIn K cd_flags "_law_flags" = true) (k_flags : PySem.W.keepIn K (.ref f_flags) = true)
    (a_law : PySem.W.nsIn K mainGlobals "law" = some (some (.ref f_law))) (l_law : K.lookup f_law = some ⟨oc_law, od_law, .func (PySem.W.fnOf "law" "law" (defArgs sLaw) (defBody sLaw) (defScope sLaw) .none kV_law dc_law pm_law an_law cd_law ct_law), sl_law⟩) (c_law : PySem.W.codeIn K cd_law "law" = true) (k_law : PySem.W.keepIn K (.ref f_law) = true)
    (h_n : PySem.W.specialIn K (.builtin "object.__class__") "__get__" = some (some (.builtin "getset_descriptor.__get__"))) (h_t : PySem.W.takesIn K (.builtin "object.__class__") = some true)
    (z_int : PySem.W.nsIn K mainGlobals "int" = some none)
    (z_bool : PySem.W.nsIn K mainGlobals "bool" = some none)
    (z_str : PySem.W.nsIn K mainGlobals "str" = some none)
    (z_isinstance : PySem.W.nsIn K mainGlobals "isinstance" = some none)
    (z_len : PySem.W.nsIn K mainGlobals "len" = some none)
    (z_all : PySem.W.nsIn K mainGlobals "all" = some none)
    (z_range : PySem.W.nsIn K mainGlobals "range" = some none)
    (z_tuple : PySem.W.nsIn K mainGlobals "tuple" = some none)
    (z_list : PySem.W.nsIn K mainGlobals "list" = some none)
    (z_ValueError : PySem.W.nsIn K mainGlobals "ValueError" = some none)
    (z_LookupError : PySem.W.nsIn K mainGlobals "LookupError" = some none)
    (z_IndexError : PySem.W.nsIn K mainGlobals "IndexError" = some none) :
    ∃ fd : FuncData, (∀ (s : Shared) (v : Value), BindsTo s fd ⟨[v], []⟩ [("_law_script", v)]) ∧ ∀ base : Heap, K.In base → base.Ns mainGlobals mg → FnOk l.prog w K mg base CX0 5 fa fd ["_law_script"] (spLaw K) := by
  have e := hfa.symm.trans (PySem.W.mg_of X G a_law)
  cases e
  have F_opened := fun_mk (st := sOpened) l_opened c_opened k_opened
  have F_pull := fun_mk (st := sPull) l_pull c_pull k_pull
  have F_any := fun_mk (st := sAny) l_any c_any k_any
  have F_like := fun_mk (st := sLike) l_like c_like k_like
  have F_fields := fun_mk (st := sFields) l_fields c_fields k_fields
  have F_made := fun_mk (st := sMade) l_made c_made k_made
  have F_flags := fun_mk (st := sFlags) l_flags c_flags k_flags
  have F_law := fun_mk (st := sLaw) l_law c_law k_law
  have b_opened := F_opened.binds (ps := ["_law_script"]) fun _ _ _ _ _ _ us hl => match us, hl with | [_], _ => rfl
  have b_pull := F_pull.binds (ps := ["_law_bag", "_law_many"]) fun _ _ _ _ _ _ us hl => match us, hl with | [_, _], _ => rfl
  have b_any := F_any.binds (ps := ["_law_bag", "_law_things"]) fun _ _ _ _ _ _ us hl => match us, hl with | [_, _], _ => rfl
  have b_like := F_like.binds (ps := ["_law_found", "_law_due"]) fun _ _ _ _ _ _ us hl => match us, hl with | [_, _], _ => rfl
  have b_fields := F_fields.binds (ps := ["_law_e"]) fun _ _ _ _ _ _ us hl => match us, hl with | [_], _ => rfl
  have b_made := F_made.binds (ps := ["_law_a"]) fun _ _ _ _ _ _ us hl => match us, hl with | [_], _ => rfl
  have b_flags := F_flags.binds (ps := ["_law_e"]) fun _ _ _ _ _ _ us hl => match us, hl with | [_], _ => rfl
  have b_law := F_law.binds (ps := ["_law_script"]) fun _ _ _ _ _ _ us hl => match us, hl with | [_], _ => rfl
  have F_i0 := fun_mk (st := sI0) l_i0 c_i0 k_i0
  have b_i0 := F_i0.binds (ps := ["self", "name"]) fun _ _ _ _ _ _ us hl => match us, hl with | [_, _], _ => rfl
  have q_i0 : KBn K _ ["self", "name"] 1 (["name"] : List Str) initG initG := kb_0 F_i0
  have F_i1 := fun_mk (st := sI1) l_i1 c_i1 k_i1
  have b_i1 := F_i1.binds (ps := ["self", "name"]) fun _ _ _ _ _ _ us hl => match us, hl with | [_, _], _ => rfl
  have q_i1 : KBn K _ ["self", "name"] 1 (["name"] : List Str) initG initG := kb_1 F_i1
  have F_i2 := fun_mk (st := sI2) l_i2 c_i2 k_i2
  have b_i2 := F_i2.binds (ps := ["self", "number"]) fun _ _ _ _ _ _ us hl => match us, hl with | [_, _], _ => rfl
  have q_i2 : KBn K _ ["self", "number"] 1 (["number"] : List Str) initG initG := kb_2 F_i2
  have F_i3 := fun_mk (st := sI3) l_i3 c_i3 k_i3
  have b_i3 := F_i3.binds (ps := ["self", "given"]) fun _ _ _ _ _ _ us hl => match us, hl with | [_, _], _ => rfl
  have q_i3 : KBn K _ ["self", "given"] 1 (["given"] : List Str) initG initG := kb_3 F_i3
  have F_i4 := fun_mk (st := sI4) l_i4 c_i4 k_i4
  have b_i4 := F_i4.binds (ps := ["self", "given"]) fun _ _ _ _ _ _ us hl => match us, hl with | [_, _], _ => rfl
  have q_i4 : KBn K _ ["self", "given"] 1 (["given"] : List Str) initG initG := kb_4 F_i4
  have F_i5 := fun_mk (st := sI5) l_i5 c_i5 k_i5
  have b_i5 := F_i5.binds (ps := ["self"]) fun _ _ _ _ _ _ us hl => match us, hl with | [_], _ => rfl
  have F_i6 := fun_mk (st := sI6) l_i6 c_i6 k_i6
  have b_i6 := F_i6.binds (ps := ["self", "given"]) fun _ _ _ _ _ _ us hl => match us, hl with | [_, _], _ => rfl
  have q_i6 : KBn K _ ["self", "given"] 1 (["given"] : List Str) initG initG := kb_6 F_i6
  have F_i7 := fun_mk (st := sI7) l_i7 c_i7 k_i7
  have b_i7 := F_i7.binds (ps := ["self", "at"]) fun _ _ _ _ _ _ us hl => match us, hl with | [_, _], _ => rfl
  have q_i7 : KBn K _ ["self", "at"] 1 (["at"] : List Str) initG initG := kb_7 F_i7
  have F_i8 := fun_mk (st := sI8) l_i8 c_i8 k_i8
  have b_i8 := F_i8.binds (ps := ["self", "at"]) fun _ _ _ _ _ _ us hl => match us, hl with | [_, _], _ => rfl
  have q_i8 : KBn K _ ["self", "at"] 1 (["at"] : List Str) initG initG := kb_8 F_i8
  have F_i9 := fun_mk (st := sI9) l_i9 c_i9 k_i9
  have b_i9 := F_i9.binds (ps := ["self", "at"]) fun _ _ _ _ _ _ us hl => match us, hl with | [_, _], _ => rfl
  have q_i9 : KBn K _ ["self", "at"] 1 (["at"] : List Str) initG initG := kb_9 F_i9
  have F_i10 := fun_mk (st := sI10) l_i10 c_i10 k_i10
  have b_i10 := F_i10.binds (ps := ["self", "word"]) fun _ _ _ _ _ _ us hl => match us, hl with | [_, _], _ => rfl
  have q_i10 : KBn K _ ["self", "word"] 1 (["word"] : List Str) initG initG := kb_10 F_i10
  have F_i11 := fun_mk (st := sI11) l_i11 c_i11 k_i11
  have b_i11 := F_i11.binds (ps := ["self", "at"]) fun _ _ _ _ _ _ us hl => match us, hl with | [_, _], _ => rfl
  have q_i11 : KBn K _ ["self", "at"] 1 (["at"] : List Str) initG initG := kb_11 F_i11
  have F_i12 := fun_mk (st := sI12) l_i12 c_i12 k_i12
  have b_i12 := F_i12.binds (ps := ["self", "most"]) fun _ _ _ _ _ _ us hl => match us, hl with | [_, _], _ => rfl
  have q_i12 : KBn K _ ["self", "most"] 1 (["most"] : List Str) initG initG := kb_12 F_i12
  have F_i13 := fun_mk (st := sI13) l_i13 c_i13 k_i13
  have b_i13 := F_i13.binds (ps := ["self"]) fun _ _ _ _ _ _ us hl => match us, hl with | [_], _ => rfl
  have F_i14 := fun_mk (st := sI14) l_i14 c_i14 k_i14
  have b_i14 := F_i14.binds (ps := ["self"]) fun _ _ _ _ _ _ us hl => match us, hl with | [_], _ => rfl
  have F_i15 := fun_mk (st := sI15) l_i15 c_i15 k_i15
  have b_i15 := F_i15.binds (ps := ["self", "name"]) fun _ _ _ _ _ _ us hl => match us, hl with | [_, _], _ => rfl
  have q_i15 : KBn K _ ["self", "name"] 1 (["name"] : List Str) initG initG := kb_15 F_i15
  have F_i16 := fun_mk (st := sI16) l_i16 c_i16 k_i16
  have b_i16 := F_i16.binds (ps := ["self", "name"]) fun _ _ _ _ _ _ us hl => match us, hl with | [_, _], _ => rfl
  have q_i16 : KBn K _ ["self", "name"] 1 (["name"] : List Str) initG initG := kb_16 F_i16
  have F_i17 := fun_mk (st := sI17) l_i17 c_i17 k_i17
  have b_i17 := F_i17.binds (ps := ["self"]) fun _ _ _ _ _ _ us hl => match us, hl with | [_], _ => rfl
  have F_i18 := fun_mk (st := sI18) l_i18 c_i18 k_i18
  have b_i18 := F_i18.binds (ps := ["self"]) fun _ _ _ _ _ _ us hl => match us, hl with | [_], _ => rfl
  have mb : ∀ {x : Str}, PySem.W.nsIn K mainGlobals x = some none → mg x = none := fun z => PySem.W.mg_none_of X G z
  have mf : ∀ {x : Str} {v : Value}, PySem.W.nsIn K mainGlobals x = some (some v) → mg x = some v := fun z => PySem.W.mg_of X G z
  have T : Blt mg := ⟨mb z_int, mb z_bool, mb z_str, mb z_isinstance, mb z_len, mb z_all, mb z_range, mb z_tuple, mb z_list, mb z_ValueError, mb z_LookupError, mb z_IndexError⟩
  have lo_S : Low K "StillError" C_S _ _ := ⟨⟨_, _, _, _, _, _, _, _, _, _, _, _, _, x_S⟩⟩
  have lo_M : Low K "Missing" C_M _ _ := ⟨⟨_, _, _, _, _, _, _, _, _, _, _, _, _, x_M⟩⟩
  have I_0 : CIn K C_S C_M 0 C_0 := ⟨⟨⟨_, _, _, _, _, _, _, _, _, _, _, _, _, x_0⟩⟩, sa_0, kc_0, ga_0, gg_0, ha_0, nc_0, (fun x h => by cases h; exact nf_0)⟩
  have I_1 : CIn K C_S C_M 1 C_1 := ⟨⟨⟨_, _, _, _, _, _, _, _, _, _, _, _, _, x_1⟩⟩, sa_1, kc_1, ga_1, gg_1, ha_1, nc_1, (fun x h => by cases h; exact nf_1)⟩
  have I_2 : CIn K C_S C_M 2 C_2 := ⟨⟨⟨_, _, _, _, _, _, _, _, _, _, _, _, _, x_2⟩⟩, sa_2, kc_2, ga_2, gg_2, ha_2, nc_2, (fun x h => by cases h; exact nf_2)⟩
  have I_3 : CIn K C_S C_M 3 C_3 := ⟨⟨⟨_, _, _, _, _, _, _, _, _, _, _, _, _, x_3⟩⟩, sa_3, kc_3, ga_3, gg_3, ha_3, nc_3, (fun x h => by cases h; exact nf_3)⟩
  have I_4 : CIn K C_S C_M 4 C_4 := ⟨⟨⟨_, _, _, _, _, _, _, _, _, _, _, _, _, x_4⟩⟩, sa_4, kc_4, ga_4, gg_4, ha_4, nc_4, (fun x h => by cases h; exact nf_4)⟩
  have I_5 : CIn K C_S C_M 5 C_5 := ⟨⟨⟨_, _, _, _, _, _, _, _, _, _, _, _, _, x_5⟩⟩, sa_5, kc_5, ga_5, gg_5, ha_5, nc_5, (fun x h => by cases h)⟩
  have I_6 : CIn K C_S C_M 6 C_6 := ⟨⟨⟨_, _, _, _, _, _, _, _, _, _, _, _, _, x_6⟩⟩, sa_6, kc_6, ga_6, gg_6, ha_6, nc_6, (fun x h => by cases h; exact nf_6)⟩
  have I_7 : CIn K C_S C_M 7 C_7 := ⟨⟨⟨_, _, _, _, _, _, _, _, _, _, _, _, _, x_7⟩⟩, sa_7, kc_7, ga_7, gg_7, ha_7, nc_7, (fun x h => by cases h; exact nf_7)⟩
  have I_8 : CIn K C_S C_M 8 C_8 := ⟨⟨⟨_, _, _, _, _, _, _, _, _, _, _, _, _, x_8⟩⟩, sa_8, kc_8, ga_8, gg_8, ha_8, nc_8, (fun x h => by cases h; exact nf_8)⟩
  have I_9 : CIn K C_S C_M 9 C_9 := ⟨⟨⟨_, _, _, _, _, _, _, _, _, _, _, _, _, x_9⟩⟩, sa_9, kc_9, ga_9, gg_9, ha_9, nc_9, (fun x h => by cases h; exact nf_9)⟩
  have I_10 : CIn K C_S C_M 10 C_10 := ⟨⟨⟨_, _, _, _, _, _, _, _, _, _, _, _, _, x_10⟩⟩, sa_10, kc_10, ga_10, gg_10, ha_10, nc_10, (fun x h => by cases h; exact nf_10)⟩
  have I_11 : CIn K C_S C_M 11 C_11 := ⟨⟨⟨_, _, _, _, _, _, _, _, _, _, _, _, _, x_11⟩⟩, sa_11, kc_11, ga_11, gg_11, ha_11, nc_11, (fun x h => by cases h; exact nf_11)⟩
  have I_12 : CIn K C_S C_M 12 C_12 := ⟨⟨⟨_, _, _, _, _, _, _, _, _, _, _, _, _, x_12⟩⟩, sa_12, kc_12, ga_12, gg_12, ha_12, nc_12, (fun x h => by cases h; exact nf_12)⟩
  have I_13 : CIn K C_S C_M 13 C_13 := ⟨⟨⟨_, _, _, _, _, _, _, _, _, _, _, _, _, x_13⟩⟩, sa_13, kc_13, ga_13, gg_13, ha_13, nc_13, (fun x h => by cases h)⟩
  have I_14 : CIn K C_S C_M 14 C_14 := ⟨⟨⟨_, _, _, _, _, _, _, _, _, _, _, _, _, x_14⟩⟩, sa_14, kc_14, ga_14, gg_14, ha_14, nc_14, (fun x h => by cases h)⟩
  have I_15 : CIn K C_S C_M 15 C_15 := ⟨⟨⟨_, _, _, _, _, _, _, _, _, _, _, _, _, x_15⟩⟩, sa_15, kc_15, ga_15, gg_15, ha_15, nc_15, (fun x h => by cases h; exact nf_15)⟩
  have I_16 : CIn K C_S C_M 16 C_16 := ⟨⟨⟨_, _, _, _, _, _, _, _, _, _, _, _, _, x_16⟩⟩, sa_16, kc_16, ga_16, gg_16, ha_16, nc_16, (fun x h => by cases h; exact nf_16)⟩
  have I_17 : CIn K C_S C_M 17 C_17 := ⟨⟨⟨_, _, _, _, _, _, _, _, _, _, _, _, _, x_17⟩⟩, sa_17, kc_17, ga_17, gg_17, ha_17, nc_17, (fun x h => by cases h)⟩
  have I_18 : CIn K C_S C_M 18 C_18 := ⟨⟨⟨_, _, _, _, _, _, _, _, _, _, _, _, _, x_18⟩⟩, sa_18, kc_18, ga_18, gg_18, ha_18, nc_18, (fun x h => by cases h)⟩
  have all : ∀ j D, ([C_0, C_1, C_2, C_3, C_4, C_5, C_6, C_7, C_8, C_9, C_10, C_11, C_12, C_13, C_14, C_15, C_16, C_17, C_18] : List Addr)[j]? = some D → j < 19 ∧ CIn K C_S C_M j D := fun j D hD => by
    match j, hD with
    | 0, hD => cases hD; exact ⟨by decide, I_0⟩
    | 1, hD => cases hD; exact ⟨by decide, I_1⟩
    | 2, hD => cases hD; exact ⟨by decide, I_2⟩
    | 3, hD => cases hD; exact ⟨by decide, I_3⟩
    | 4, hD => cases hD; exact ⟨by decide, I_4⟩
    | 5, hD => cases hD; exact ⟨by decide, I_5⟩
    | 6, hD => cases hD; exact ⟨by decide, I_6⟩
    | 7, hD => cases hD; exact ⟨by decide, I_7⟩
    | 8, hD => cases hD; exact ⟨by decide, I_8⟩
    | 9, hD => cases hD; exact ⟨by decide, I_9⟩
    | 10, hD => cases hD; exact ⟨by decide, I_10⟩
    | 11, hD => cases hD; exact ⟨by decide, I_11⟩
    | 12, hD => cases hD; exact ⟨by decide, I_12⟩
    | 13, hD => cases hD; exact ⟨by decide, I_13⟩
    | 14, hD => cases hD; exact ⟨by decide, I_14⟩
    | 15, hD => cases hD; exact ⟨by decide, I_15⟩
    | 16, hD => cases hD; exact ⟨by decide, I_16⟩
    | 17, hD => cases hD; exact ⟨by decide, I_17⟩
    | 18, hD => cases hD; exact ⟨by decide, I_18⟩
    | j + 19, hD => simp at hD
  have Y : ∀ k C, k < 19 → ([C_0, C_1, C_2, C_3, C_4, C_5, C_6, C_7, C_8, C_9, C_10, C_11, C_12, C_13, C_14, C_15, C_16, C_17, C_18] : List Addr)[k]? = some C → ClsF K [C_0, C_1, C_2, C_3, C_4, C_5, C_6, C_7, C_8, C_9, C_10, C_11, C_12, C_13, C_14, C_15, C_16, C_17, C_18] C_S C_M k C := fun k C hk hC => cls_mk hk hC (all k C hC).2 all lo_S lo_M h_n h_t
  refine ⟨PySem.W.fnOf "law" "law" (defArgs sLaw) (defBody sLaw) (defScope sLaw) .none kV_law dc_law pm_law an_law cd_law ct_law, fun s v => .of_eq rfl, fun base _ _ => ?_⟩
  have Z_0 : XCls l.prog w K mg base "InvalidName" C_0 f_i0 1 _ "InvalidName" (some "name") := ⟨I_0.oex, j_0, t_0, ok_i0 F_i0, b_i0, mf a_0, nc_0, (fun x h => by cases h; exact nf_0)⟩
  have Z_1 : XCls l.prog w K mg base "DuplicateName" C_1 f_i1 1 _ "DuplicateName" (some "name") := ⟨I_1.oex, j_1, t_1, ok_i1 F_i1, b_i1, mf a_1, nc_1, (fun x h => by cases h; exact nf_1)⟩
  have Z_2 : XCls l.prog w K mg base "InvalidNumber" C_2 f_i2 1 _ "InvalidNumber" (some "number") := ⟨I_2.oex, j_2, t_2, ok_i2 F_i2, b_i2, mf a_2, nc_2, (fun x h => by cases h; exact nf_2)⟩
  have Z_3 : XCls l.prog w K mg base "InvalidTable" C_3 f_i3 1 _ "InvalidTable" (some "given") := ⟨I_3.oex, j_3, t_3, ok_i3 F_i3, b_i3, mf a_3, nc_3, (fun x h => by cases h; exact nf_3)⟩
  have Z_4 : XCls l.prog w K mg base "InvalidBases" C_4 f_i4 1 _ "InvalidBases" (some "given") := ⟨I_4.oex, j_4, t_4, ok_i4 F_i4, b_i4, mf a_4, nc_4, (fun x h => by cases h; exact nf_4)⟩
  have Z_5 : XCls l.prog w K mg base "InvalidDeed" C_5 f_i5 1 _ "InvalidDeed" none := ⟨I_5.oex, j_5, t_5, ok_i5 F_i5, b_i5, mf a_5, nc_5, (fun x h => by cases h)⟩
  have Z_6 : XCls l.prog w K mg base "InvalidCondition" C_6 f_i6 1 _ "InvalidCondition" (some "given") := ⟨I_6.oex, j_6, t_6, ok_i6 F_i6, b_i6, mf a_6, nc_6, (fun x h => by cases h; exact nf_6)⟩
  have Z_7 : XCls l.prog w K mg base "InvalidLine" C_7 f_i7 1 _ "InvalidLine" (some "at") := ⟨I_7.oex, j_7, t_7, ok_i7 F_i7, b_i7, mf a_7, nc_7, (fun x h => by cases h; exact nf_7)⟩
  have Z_8 : XCls l.prog w K mg base "InvalidText" C_8 f_i8 1 _ "InvalidText" (some "at") := ⟨I_8.oex, j_8, t_8, ok_i8 F_i8, b_i8, mf a_8, nc_8, (fun x h => by cases h; exact nf_8)⟩
  have Z_9 : XCls l.prog w K mg base "InvalidCommand" C_9 f_i9 1 _ "InvalidCommand" (some "at") := ⟨I_9.oex, j_9, t_9, ok_i9 F_i9, b_i9, mf a_9, nc_9, (fun x h => by cases h; exact nf_9)⟩
  have Z_10 : XCls l.prog w K mg base "Refused" C_10 f_i10 1 _ "Refused" (some "word") := ⟨I_10.oex, j_10, t_10, ok_i10 F_i10, b_i10, mf a_10, nc_10, (fun x h => by cases h; exact nf_10)⟩
  have Z_11 : XCls l.prog w K mg base "Impossible" C_11 f_i11 1 _ "Impossible" (some "at") := ⟨I_11.oex, j_11, t_11, ok_i11 F_i11, b_i11, mf a_11, nc_11, (fun x h => by cases h; exact nf_11)⟩
  have Z_12 : XCls l.prog w K mg base "TooMany" C_12 f_i12 1 _ "TooMany" (some "most") := ⟨I_12.oex, j_12, t_12, ok_i12 F_i12, b_i12, mf a_12, nc_12, (fun x h => by cases h; exact nf_12)⟩
  have Z_13 : XCls l.prog w K mg base "Untimed" C_13 f_i13 1 _ "Untimed" none := ⟨I_13.oex, j_13, t_13, ok_i13 F_i13, b_i13, mf a_13, nc_13, (fun x h => by cases h)⟩
  have Z_14 : XCls l.prog w K mg base "WrongShape" C_14 f_i14 1 _ "WrongShape" none := ⟨I_14.oex, j_14, t_14, ok_i14 F_i14, b_i14, mf a_14, nc_14, (fun x h => by cases h)⟩
  have Z_15 : XCls l.prog w K mg base "UnknownBranch" C_15 f_i15 1 _ "UnknownBranch" (some "name") := ⟨I_15.oex, j_15, t_15, ok_i15 F_i15, b_i15, mf a_15, nc_15, (fun x h => by cases h; exact nf_15)⟩
  have Z_16 : XCls l.prog w K mg base "UnknownChange" C_16 f_i16 1 _ "UnknownChange" (some "name") := ⟨I_16.oex, j_16, t_16, ok_i16 F_i16, b_i16, mf a_16, nc_16, (fun x h => by cases h; exact nf_16)⟩
  have Z_17 : XCls l.prog w K mg base "UnknownMoment" C_17 f_i17 1 _ "UnknownMoment" none := ⟨I_17.oex, j_17, t_17, ok_i17 F_i17, b_i17, mf a_17, nc_17, (fun x h => by cases h)⟩
  have Z_18 : XCls l.prog w K mg base "NothingLeft" C_18 f_i18 1 _ "NothingLeft" none := ⟨I_18.oex, j_18, t_18, ok_i18 F_i18, b_i18, mf a_18, nc_18, (fun x h => by cases h)⟩
  have GM := ok_made (k := 0) F_made Z_0 Z_1 Z_2 Z_3 Z_4 Z_5 Z_6 Z_7 Z_8 Z_9 Z_10 Z_11 Z_12 Z_13 Z_14 Z_15 Z_16 Z_17 Z_18
  have GF := ok_flags (P := l.prog) (w := w) (base := base) (k := 0) F_flags T (mf a_0) (mf a_1) (mf a_2) (mf a_3) (mf a_4) (mf a_5) (mf a_6) (mf a_7) (mf a_8) (mf a_9) (mf a_10) (mf a_11) (mf a_12) (mf a_13) (mf a_14) (mf a_15) (mf a_16) (mf a_17) (mf a_18)
  exact ok_law (k := 0) F_law T (ok_opened (k := 0) F_opened (mb z_list)) k_opened b_opened (mf a_opened) (ok_pull (k := 0) F_pull (mb z_len) (mb z_int)) k_pull b_pull (mf a_pull) (ok_any (k := 0) F_any F_pull b_pull (mf a_pull) (mb z_len) (mb z_int)) k_any b_any (mf a_any) GM k_made b_made (mf a_made) GF k_flags b_flags (mf a_flags) (ok_fields (k := 0) F_fields) k_fields b_fields (mf a_fields)
    (ok_like F_like T (mb z_list) b_like (mf a_like) 2) k_like b_like (mf a_like) (mf a_S) (mf a_M) Y Z_0 q_i0 Z_1 q_i1 Z_2 q_i2 Z_3 q_i3 Z_4 q_i4 Z_6 q_i6 Z_7 q_i7 Z_8 q_i8 Z_9 q_i9 Z_10 q_i10 Z_11 q_i11 Z_12 q_i12 Z_15 q_i15 Z_16 q_i16
end X1

open PySem PySem.W PyProof.Rows
set_option maxRecDepth 100000 in
set_option maxHeartbeats 0 in
theorem PySem.Challenge.cw_stillmeant_k01_errors_by_themselves_holds : PySem.Challenge.rw_stillmeant_k01_errors_by_themselves.Holds := by
  w_on; o_law; k_head; (case hw => w_witness2)
  k_fill
  refine L2.walk_of (l := PySem.Challenge.rw_stillmeant_k01_errors_by_themselves) (n := 63) (k := 5) (x := "_law_script") (CX := fun _ => L2.CX0) (sp := fun w => X1.spLaw _) rfl (by decide) rfl ⟨rfl, by decide, by decide⟩ (fun w h Y => PySem.W.kIn_of Y) ?F (fun _ _ a ns hl _ hS => ⟨a, ns, rfl, hS, hl, fun _ => rfl⟩) (fun _ _ _ _ _ h => h)
  case F =>
    intro w mg fa h KX G hmg
    refine' X1.all_mk KX G hmg ?a_S ?x_S ?a_M ?x_M ?a_0 ?x_0 ?sa_0 ?kc_0 ?ga_0 ?gg_0 ?ha_0 ?nc_0 ?nf_0 ?j_0 ?t_0 ?l_i0 ?c_i0 ?k_i0 ?a_1 ?x_1 ?sa_1 ?kc_1 ?ga_1 ?gg_1 ?ha_1 ?nc_1 ?nf_1 ?j_1 ?t_1 ?l_i1 ?c_i1 ?k_i1 ?a_2 ?x_2 ?sa_2 ?kc_2 ?ga_2 ?gg_2 ?ha_2 ?nc_2 ?nf_2 ?j_2 ?t_2 ?l_i2 ?c_i2 ?k_i2 ?a_3 ?x_3 ?sa_3 ?kc_3 ?ga_3 ?gg_3 ?ha_3 ?nc_3 ?nf_3 ?j_3 ?t_3 ?l_i3 ?c_i3 ?k_i3 ?a_4 ?x_4 ?sa_4 ?kc_4 ?ga_4 ?gg_4 ?ha_4 ?nc_4 ?nf_4 ?j_4 ?t_4 ?l_i4 ?c_i4 ?k_i4 ?a_5 ?x_5 ?sa_5 ?kc_5 ?ga_5 ?gg_5 ?ha_5 ?nc_5 ?j_5 ?t_5 ?l_i5 ?c_i5 ?k_i5 ?a_6 ?x_6 ?sa_6 ?kc_6 ?ga_6 ?gg_6 ?ha_6 ?nc_6 ?nf_6 ?j_6 ?t_6 ?l_i6 ?c_i6 ?k_i6 ?a_7 ?x_7 ?sa_7 ?kc_7 ?ga_7 ?gg_7 ?ha_7 ?nc_7 ?nf_7 ?j_7 ?t_7 ?l_i7 ?c_i7 ?k_i7 ?a_8 ?x_8 ?sa_8 ?kc_8 ?ga_8 ?gg_8 ?ha_8 ?nc_8 ?nf_8 ?j_8 ?t_8 ?l_i8 ?c_i8 ?k_i8 ?a_9 ?x_9 ?sa_9 ?kc_9 ?ga_9 ?gg_9 ?ha_9 ?nc_9 ?nf_9 ?j_9 ?t_9 ?l_i9 ?c_i9 ?k_i9 ?a_10 ?x_10 ?sa_10 ?kc_10 ?ga_10 ?gg_10 ?ha_10 ?nc_10 ?nf_10 ?j_10 ?t_10 ?l_i10 ?c_i10 ?k_i10 ?a_11 ?x_11 ?sa_11 ?kc_11 ?ga_11 ?gg_11 ?ha_11 ?nc_11 ?nf_11 ?j_11 ?t_11 ?l_i11 ?c_i11 ?k_i11 ?a_12 ?x_12 ?sa_12 ?kc_12 ?ga_12 ?gg_12 ?ha_12 ?nc_12 ?nf_12 ?j_12 ?t_12 ?l_i12 ?c_i12 ?k_i12 ?a_13 ?x_13 ?sa_13 ?kc_13 ?ga_13 ?gg_13 ?ha_13 ?nc_13 ?j_13 ?t_13 ?l_i13 ?c_i13 ?k_i13 ?a_14 ?x_14 ?sa_14 ?kc_14 ?ga_14 ?gg_14 ?ha_14 ?nc_14 ?j_14 ?t_14 ?l_i14 ?c_i14 ?k_i14 ?a_15 ?x_15 ?sa_15 ?kc_15 ?ga_15 ?gg_15 ?ha_15 ?nc_15 ?nf_15 ?j_15 ?t_15 ?l_i15 ?c_i15 ?k_i15 ?a_16 ?x_16 ?sa_16 ?kc_16 ?ga_16 ?gg_16 ?ha_16 ?nc_16 ?nf_16 ?j_16 ?t_16 ?l_i16 ?c_i16 ?k_i16 ?a_17 ?x_17 ?sa_17 ?kc_17 ?ga_17 ?gg_17 ?ha_17 ?nc_17 ?j_17 ?t_17 ?l_i17 ?c_i17 ?k_i17 ?a_18 ?x_18 ?sa_18 ?kc_18 ?ga_18 ?gg_18 ?ha_18 ?nc_18 ?j_18 ?t_18 ?l_i18 ?c_i18 ?k_i18 ?a_opened ?l_opened ?c_opened ?k_opened ?a_pull ?l_pull ?c_pull ?k_pull ?a_any ?l_any ?c_any ?k_any ?a_like ?l_like ?c_like ?k_like ?a_fields ?l_fields ?c_fields ?k_fields ?a_made ?l_made ?c_made ?k_made ?a_flags ?l_flags ?c_flags ?k_flags ?a_law ?l_law ?c_law ?k_law ?h_n ?h_t ?z_int ?z_bool ?z_str ?z_isinstance ?z_len ?z_all ?z_range ?z_tuple ?z_list ?z_ValueError ?z_LookupError ?z_IndexError
    (case a_S => k_is)
    (case x_S => k_is)
    (case a_M => k_is)
    (case x_M => k_is)
    (case a_0 => k_is)
    (case x_0 => k_is)
    (case sa_0 => k_is)
    (case kc_0 => k_is)
    (case ga_0 => k_is)
    (case gg_0 => k_is)
    (case ha_0 => k_is)
    (case nc_0 => k_is)
    (case nf_0 => k_is)
    (case j_0 => k_is)
    (case t_0 => k_is)
    (case l_i0 => k_is)
    (case c_i0 => k_is)
    (case k_i0 => k_is)
    (case a_1 => k_is)
    (case x_1 => k_is)
    (case sa_1 => k_is)
    (case kc_1 => k_is)
    (case ga_1 => k_is)
    (case gg_1 => k_is)
    (case ha_1 => k_is)
    (case nc_1 => k_is)
    (case nf_1 => k_is)
    (case j_1 => k_is)
    (case t_1 => k_is)
    (case l_i1 => k_is)
    (case c_i1 => k_is)
    (case k_i1 => k_is)
    (case a_2 => k_is)
    (case x_2 => k_is)
    (case sa_2 => k_is)
    (case kc_2 => k_is)
    (case ga_2 => k_is)
    (case gg_2 => k_is)
    (case ha_2 => k_is)
    (case nc_2 => k_is)
    (case nf_2 => k_is)
    (case j_2 => k_is)
    (case t_2 => k_is)
    (case l_i2 => k_is)
    (case c_i2 => k_is)
    (case k_i2 => k_is)
    (case a_3 => k_is)
    (case x_3 => k_is)
    (case sa_3 => k_is)
    (case kc_3 => k_is)
    (case ga_3 => k_is)
    (case gg_3 => k_is)
    (case ha_3 => k_is)
    (case nc_3 => k_is)
    (case nf_3 => k_is)
    (case j_3 => k_is)
    (case t_3 => k_is)
    (case l_i3 => k_is)
    (case c_i3 => k_is)
    (case k_i3 => k_is)
    (case a_4 => k_is)
    (case x_4 => k_is)
    (case sa_4 => k_is)
    (case kc_4 => k_is)
    (case ga_4 => k_is)
    (case gg_4 => k_is)
    (case ha_4 => k_is)
    (case nc_4 => k_is)
    (case nf_4 => k_is)
    (case j_4 => k_is)
    (case t_4 => k_is)
    (case l_i4 => k_is)
    (case c_i4 => k_is)
    (case k_i4 => k_is)
    (case a_5 => k_is)
    (case x_5 => k_is)
    (case sa_5 => k_is)
    (case kc_5 => k_is)
    (case ga_5 => k_is)
    (case gg_5 => k_is)
    (case ha_5 => k_is)
    (case nc_5 => k_is)
    (case j_5 => k_is)
    (case t_5 => k_is)
    (case l_i5 => k_is)
    (case c_i5 => k_is)
    (case k_i5 => k_is)
    (case a_6 => k_is)
    (case x_6 => k_is)
    (case sa_6 => k_is)
    (case kc_6 => k_is)
    (case ga_6 => k_is)
    (case gg_6 => k_is)
    (case ha_6 => k_is)
    (case nc_6 => k_is)
    (case nf_6 => k_is)
    (case j_6 => k_is)
    (case t_6 => k_is)
    (case l_i6 => k_is)
    (case c_i6 => k_is)
    (case k_i6 => k_is)
    (case a_7 => k_is)
    (case x_7 => k_is)
    (case sa_7 => k_is)
    (case kc_7 => k_is)
    (case ga_7 => k_is)
    (case gg_7 => k_is)
    (case ha_7 => k_is)
    (case nc_7 => k_is)
    (case nf_7 => k_is)
    (case j_7 => k_is)
    (case t_7 => k_is)
    (case l_i7 => k_is)
    (case c_i7 => k_is)
    (case k_i7 => k_is)
    (case a_8 => k_is)
    (case x_8 => k_is)
    (case sa_8 => k_is)
    (case kc_8 => k_is)
    (case ga_8 => k_is)
    (case gg_8 => k_is)
    (case ha_8 => k_is)
    (case nc_8 => k_is)
    (case nf_8 => k_is)
    (case j_8 => k_is)
    (case t_8 => k_is)
    (case l_i8 => k_is)
    (case c_i8 => k_is)
    (case k_i8 => k_is)
    (case a_9 => k_is)
    (case x_9 => k_is)
    (case sa_9 => k_is)
    (case kc_9 => k_is)
    (case ga_9 => k_is)
    (case gg_9 => k_is)
    (case ha_9 => k_is)
    (case nc_9 => k_is)
    (case nf_9 => k_is)
    (case j_9 => k_is)
    (case t_9 => k_is)
    (case l_i9 => k_is)
    (case c_i9 => k_is)
    (case k_i9 => k_is)
    (case a_10 => k_is)
    (case x_10 => k_is)
    (case sa_10 => k_is)
    (case kc_10 => k_is)
    (case ga_10 => k_is)
    (case gg_10 => k_is)
    (case ha_10 => k_is)
    (case nc_10 => k_is)
    (case nf_10 => k_is)
    (case j_10 => k_is)
    (case t_10 => k_is)
    (case l_i10 => k_is)
    (case c_i10 => k_is)
    (case k_i10 => k_is)
    (case a_11 => k_is)
    (case x_11 => k_is)
    (case sa_11 => k_is)
    (case kc_11 => k_is)
    (case ga_11 => k_is)
    (case gg_11 => k_is)
    (case ha_11 => k_is)
    (case nc_11 => k_is)
    (case nf_11 => k_is)
    (case j_11 => k_is)
    (case t_11 => k_is)
    (case l_i11 => k_is)
    (case c_i11 => k_is)
    (case k_i11 => k_is)
    (case a_12 => k_is)
    (case x_12 => k_is)
    (case sa_12 => k_is)
    (case kc_12 => k_is)
    (case ga_12 => k_is)
    (case gg_12 => k_is)
    (case ha_12 => k_is)
    (case nc_12 => k_is)
    (case nf_12 => k_is)
    (case j_12 => k_is)
    (case t_12 => k_is)
    (case l_i12 => k_is)
    (case c_i12 => k_is)
    (case k_i12 => k_is)
    (case a_13 => k_is)
    (case x_13 => k_is)
    (case sa_13 => k_is)
    (case kc_13 => k_is)
    (case ga_13 => k_is)
    (case gg_13 => k_is)
    (case ha_13 => k_is)
    (case nc_13 => k_is)
    (case j_13 => k_is)
    (case t_13 => k_is)
    (case l_i13 => k_is)
    (case c_i13 => k_is)
    (case k_i13 => k_is)
    (case a_14 => k_is)
    (case x_14 => k_is)
    (case sa_14 => k_is)
    (case kc_14 => k_is)
    (case ga_14 => k_is)
    (case gg_14 => k_is)
    (case ha_14 => k_is)
    (case nc_14 => k_is)
    (case j_14 => k_is)
    (case t_14 => k_is)
    (case l_i14 => k_is)
    (case c_i14 => k_is)
    (case k_i14 => k_is)
    (case a_15 => k_is)
    (case x_15 => k_is)
    (case sa_15 => k_is)
    (case kc_15 => k_is)
    (case ga_15 => k_is)
    (case gg_15 => k_is)
    (case ha_15 => k_is)
    (case nc_15 => k_is)
    (case nf_15 => k_is)
    (case j_15 => k_is)
    (case t_15 => k_is)
    (case l_i15 => k_is)
    (case c_i15 => k_is)
    (case k_i15 => k_is)
    (case a_16 => k_is)
    (case x_16 => k_is)
    (case sa_16 => k_is)
    (case kc_16 => k_is)
    (case ga_16 => k_is)
    (case gg_16 => k_is)
    (case ha_16 => k_is)
    (case nc_16 => k_is)
    (case nf_16 => k_is)
    (case j_16 => k_is)
    (case t_16 => k_is)
    (case l_i16 => k_is)
    (case c_i16 => k_is)
    (case k_i16 => k_is)
    (case a_17 => k_is)
    (case x_17 => k_is)
    (case sa_17 => k_is)
    (case kc_17 => k_is)
    (case ga_17 => k_is)
    (case gg_17 => k_is)
    (case ha_17 => k_is)
    (case nc_17 => k_is)
    (case j_17 => k_is)
    (case t_17 => k_is)
    (case l_i17 => k_is)
    (case c_i17 => k_is)
    (case k_i17 => k_is)
    (case a_18 => k_is)
    (case x_18 => k_is)
    (case sa_18 => k_is)
    (case kc_18 => k_is)
    (case ga_18 => k_is)
    (case gg_18 => k_is)
    (case ha_18 => k_is)
    (case nc_18 => k_is)
    (case j_18 => k_is)
    (case t_18 => k_is)
    (case l_i18 => k_is)
    (case c_i18 => k_is)
    (case k_i18 => k_is)
    (case a_opened => k_is)
    (case l_opened => k_is)
    (case c_opened => k_is)
    (case k_opened => k_is)
    (case a_pull => k_is)
    (case l_pull => k_is)
    (case c_pull => k_is)
    (case k_pull => k_is)
    (case a_any => k_is)
    (case l_any => k_is)
    (case c_any => k_is)
    (case k_any => k_is)
    (case a_like => k_is)
    (case l_like => k_is)
    (case c_like => k_is)
    (case k_like => k_is)
    (case a_fields => k_is)
    (case l_fields => k_is)
    (case c_fields => k_is)
    (case k_fields => k_is)
    (case a_made => k_is)
    (case l_made => k_is)
    (case c_made => k_is)
    (case k_made => k_is)
    (case a_flags => k_is)
    (case l_flags => k_is)
    (case c_flags => k_is)
    (case k_flags => k_is)
    (case a_law => k_is)
    (case l_law => k_is)
    (case c_law => k_is)
    (case k_law => k_is)
    (case h_n => k_is)
    (case h_t => k_is)
    (case z_int => k_is)
    (case z_bool => k_is)
    (case z_str => k_is)
    (case z_isinstance => k_is)
    (case z_len => k_is)
    (case z_all => k_is)
    (case z_range => k_is)
    (case z_tuple => k_is)
    (case z_list => k_is)
    (case z_ValueError => k_is)
    (case z_LookupError => k_is)
    (case z_IndexError => k_is)
