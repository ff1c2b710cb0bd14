import PyProof.Rows.All
import Wide.All
import OpenK.AllK
import Wide.FinOn
import HandS.ForMost
import HandS.ExcInit
import HandS.ExcField
import HandS.ExcIs
import HandS.IsInst
import HandS.FStr
import HandS.Wide
import HandS.ExcValue
import HandS.MakeKw
import PyProof.ReprRoads
import KE.KExcIs
import PyProof.FString4
import HandS.Walk
import PySem.Challenge.RW_ruleshadows_k00_errors_of_all_parts
set_option Elab.async false
set_option linter.all false
set_option maxRecDepth 100000
set_option maxHeartbeats 4000000
namespace PySem
namespace EXK
open PySem.Calls PySem.W PySem.HandSPX PyProof.Rows
/-! The library makes an own exception by arguments in order alone; here the same making with keywords beside them (its roads followed, step by step; the arguments are one `Args` all along). -/
section
variable {md : Model} {ar : Around} {Er : Value → Shared → Prop} {hp : Heap} {gn : Array GenState} {dr : Drawn} {tk : Nat} {sy : OsState} {low qn : Str} {C N : Addr} {bases up upB : List Value} {dicty : Bool} {sns : List Str} {subs : List Value}
  {abs0 : Bool} {coll : Option Bool} {dct : Option Addr} {s0 s1 s2 s3 s5 : Option Value} {Bs nid iid : String}
theorem check_newK (Fb : ExcBaseFacts Bs nid iid upB) (alike : ∀ z : String, up.contains (.type z) = upB.contains (.type z)) {ag : List Value} {kws : List (Str × Value)} {go : Unit → Shared → Prop} (there : hp.get? C = some (excClassObj low qn C N bases up dicty sns subs abs0 coll dct s0 s1 s2 s3 s5 nid))
    (fin : go () ⟨hp, gn, dr, tk, sy⟩) : wpAny md ar (checkBuiltinCall nid ⟨.ref C :: ag, kws⟩) go Er ⟨hp, gn, dr, tk, sy⟩ := by
  have below : (Value.ref C :: up).contains (.type Bs) = true := by
    simp only [List.contains_cons, alike, Fb.hasB, Bool.or_true]
  have star := Fb.noStar
  simp only [checkBuiltinCall, Fb.newSplit, Fb.newRow, Fb.newKind]
  repeat (first | (refine wpAny_isSubtype_exc there ?_; rw [below]) | refine wpAny_madeBy_exc there ?_ | refine wpAny_staticBase_exc there ?_ | refine wpAny_loadPart_at there ?_ | simp only [if_false, Bool.false_eq_true, bne_self_eq_false] | wp_step)
  exact fin
variable {pg : Program} {wd : World} {ret : Result → Shared → Prop}
theorem newK (Fb : ExcBaseFacts Bs nid iid upB) (alike : ∀ z : String, up.contains (.type z) = upB.contains (.type z)) {ag : List Value} {kws : List (Str × Value)} (there : hp.get? C = some (excClassObj low qn C N bases up dicty sns subs abs0 coll dct s0 s1 s2 s3 s5 nid)) (few : ag.length ≤ sizeLine)
    (fin : ret (.ok (.ret (.ref (hp.objs.size + 1)))) ⟨(hp.push (W.kdv_tup ag)).push (excO C hp.objs.size), gn, dr, tk, sy⟩) : codeAny (model pg wd) ar (.builtin nid ⟨.ref C :: ag, kws⟩) ret ⟨hp, gn, dr, tk, sy⟩ := by
  have ends := Fb.ends
  have inB : (Value.ref C :: up).contains (.type Bs) = true := by simp only [List.contains_cons, alike, Fb.hasB, Bool.or_true]
  have inA : (Value.ref C :: up).contains (.type "AttributeError") = false := by simp only [List.contains_cons, alike, Fb.noAttr]; rfl
  have inN : (Value.ref C :: up).contains (.type "NameError") = false := by simp only [List.contains_cons, alike, Fb.noName]; rfl
  apply codeAny_builtinAt Fb.entry
  delta Builtin.«BaseException.__new__»
  apply wpAt_bind
  (show wpAt _ _ _ (stack >>= _) _ _ _); apply wpAt_bind (wpAt_stack fun _ _ => wpAt_of_wpAny ?_)
  wp_walk
  apply wpAt_of_wpAny
  rw [Fb.owner]
  repeat (first | with_reducible refine wpAny_madeHere_exc Fb.canon there ?_ | (with_reducible refine wpAny_isSubtype_exc there ?_; first | rw [inB] | rw [inN] | rw [inA]) | with_reducible refine wpAny_loadPart_at there ?_ | wp_step)
  (show ret _ _); rw [Heap.size_push]; exact fin
theorem type_callK (Fb : ExcBaseFacts Bs nid iid upB) (alike : ∀ z : String, up.contains (.type z) = upB.contains (.type z)) {ag : List Value} {kws : List (Str × Value)} {ini : Addr} {go : Fin → Shared → Prop} (there : hp.get? C = some (excClassObj low qn C N bases up dicty sns subs abs0 coll dct s0 s1 s2 s3 s5 nid))
    (look : W.Looks (model pg wd) hp (typeLookup (.ref C) "__init__") (some (.ref ini))) (bound : ∀ me, W.Looks (model pg wd) hp (bindSpecial (.ref ini) me) (.ref ini, [me])) (few : ag.length ≤ sizeLine)
    (fin : codeAny (model pg wd) ar (.call (.ref ini) ⟨.ref (hp.objs.size + 1) :: ag, kws⟩) (fun y z => match y with | .ok (.ret u) => u = .none ∧ go (.done (.ret (.ref (hp.objs.size + 1)))) z | .ok _ => False | .error x => Er x z) ⟨(hp.push (W.kdv_tup ag)).push (excO C hp.objs.size), gn, dr, tk, sy⟩) :
    wpAny (model pg wd) ar (Builtin.«type.__call__» ⟨.ref C :: ag, kws⟩) go Er ⟨hp, gn, dr, tk, sy⟩ := by
  repeat (first | with_reducible refine wpAny_madeBy_exc there ?_ | with_reducible refine wpAny_loadPart_at there ?_ | wp_step)
  refine codeAny_call_builtin_code (Code.quiet_builtin _ Fb.quiet) (check_newK Fb alike there (newK Fb alike there few ?_))
  (show wpAny _ _ _ _ _ _); have keep : ∀ b o, hp.get? b = some o → ((hp.push (W.kdv_tup ag)).push (excO C hp.objs.size)).get? b = some o := fun _ _ z => Heap.get?_push_of_some _ (Heap.get?_push_of_some _ z)
  have still := keep _ _ there
  have fresh : ((hp.push (W.kdv_tup ag)).push (excO C hp.objs.size)).get? (hp.objs.size + 1) = some (excO C hp.objs.size) := by heap_get
  have selfIn : (Value.ref C :: up).contains (.ref C) = true := by simp
  have look1 := look.keeps keep
  have bound1 := (bound (.ref (hp.objs.size + 1))).keeps keep
  delta isInstance
  repeat (first | (with_reducible refine wpAny_isSubtype_exc still ?_; rw [selfIn]) | with_reducible refine wpAny_loadPart_at fresh ?_ | wp_step)
  (show wpAny _ _ (typeLookup (.ref C) _) _ _ _); refine look1.at (wpAny_holding (wpAny_bind (bound1.at (wpAny_bind (wpAny_call (codeAny_mono fin fun y z told => ?_))))))
  match y, told with
  | .error _, told => exact told
  | .ok (.ret _), ⟨rfl, told⟩ => first | exact wpAny_pure (wpAny_pure told) | (wp_walk; exact told)
theorem callK (Fb : ExcBaseFacts Bs nid iid upB) (alike : ∀ z : String, up.contains (.type z) = upB.contains (.type z)) {ag : List Value} {kws : List (Str × Value)} {ini : Addr} (there : hp.get? C = some (excClassObj low qn C N bases up dicty sns subs abs0 coll dct s0 s1 s2 s3 s5 nid))
    (look : W.Looks (model pg wd) hp (typeLookup (.ref C) "__init__") (some (.ref ini))) (bound : ∀ me, W.Looks (model pg wd) hp (bindSpecial (.ref ini) me) (.ref ini, [me])) (few : ag.length ≤ sizeLine)
    (fin : codeAny (model pg wd) (ar.under (.builtin "type.__call__" ⟨.ref C :: ag, kws⟩)) (.call (.ref ini) ⟨.ref (hp.objs.size + 1) :: ag, kws⟩) (W.InitBack (hp.objs.size + 1) ret) ⟨(hp.push (W.kdv_tup ag)).push (excO C hp.objs.size), gn, dr, tk, sy⟩) :
    codeAny (model pg wd) ar (.call (.ref C) ⟨ag, kws⟩) ret ⟨hp, gn, dr, tk, sy⟩ := by
  have t1 := tc_lookup
  have t2 := tc_bind (.ref C)
  have t3 : (⟨hp, gn, dr, tk, sy⟩ : Shared).TypeIs (.ref C) "type" := ⟨_, there, rfl⟩
  apply codeAny_of_tree
  (show wpAny _ _ (callAny (.ref C) _) _ _ _); repeat (any_goals (first | assumption | with_reducible refine wpAny_loadPart_at there ?_ | wp_step))
  refine ⟨rfl, codeAny_call_builtin_at (Code.quiet_builtin _ (by decide +kernel)) entry_typeCall (wpAny_check_type_call_sub there (type_callK Fb alike there look bound few (codeAny_mono fin fun y z told => ?_)))⟩
  match y, told with
  | .error _, told => exact told
  | .ok (.ret _), told => exact told
end
end EXK
end PySem

namespace Ky
open PySem PySem.Spec PyProof.Rows L2
section
variable {X : Cx} {pins : List (Addr × Obj)} {σ : L2.St}
/-- the class that a name holds: RuleError.__init__ read off it -/
structure InitOf (K : PySem.W.Frag) (C : Addr) : Prop where
  rd : PySem.W.readsIn K C (.type "type") = true
  ga : PySem.W.specialIn K (.ref C) "__getattribute__" = some (some (.builtin "type.__getattribute__"))
  at_ : PySem.W.findCls K (.ref C) (.type "type") "__init__" = some (.val (.builtin "ValueError.__init__"))
theorem pe_baseinit {x : Str} {B : Addr} {e : Expr} {es : List Expr} {ta : TA} {p1 p2 pos : Pos} {pl : Sem Bool} (hg : Gl X x) (hm : X.mg x = some (.ref B)) (F : InitOf X.K B) (ha : PA X (e :: es) ta)
    (hc : eval (.Call (.Attribute (.Name x p1) "__init__" p2) (e :: es) [] pos) X.env = (do
      let ov ← eval (.Name x p1) X.env; standAt p2.atName; let (f, first) ← holding [ov] (getMethod ov "__init__" pl); callWith pos f first (backTo pos (starEach (e :: es) X.env)) (backToKw pos (keywordEach [] X.env))):= by rfl)
    (he : starEach (e :: es) X.env = (false, eval e X.env) :: starEach es X.env := by rfl) (hpl : (backTo pos (starEach es X.env)).any (·.1) = false := by rfl) (hdb : (x == ("__debug__" : Str)) = false := by decide) :
    PE X (.Call (.Attribute (.Name x p1) "__init__" p2) (e :: es) [] pos) (tVeI X.K ta) := by
  (refine ⟨fun pins s σ H Q I h => ?_⟩)
  refine PySem.W.methodCall_KW (ld_glob I hg hm ?_ hdb) hc
  refine PySem.W.method_cls I.kIn F.ga (PySem.W.cls_value I.kIn F.rd F.at_ (by decide +kernel) ?_)
  (show wpAny _ _ (callWith pos (Value.builtin "ValueError.__init__") [] (backTo pos (starEach (e :: es) X.env)) []) _ _ _)
  refine PyProof.Rows.callWith_method1 (thn (ha.run pos pins _ σ H _ (I.tok _) h) fun us s1 hh => ?_) he hpl
  obtain ⟨vs, H1, I1, r1, a, C, ws, ev, hl, T, ea, q⟩ := hh
  subst ev
  cases r1 with
  | @cons _ u0 _ ur ra rw' =>
    (obtain rfl : u0 = Value.ref a := ra)
    have hlen : ur.length ≤ sizeLine
        := by
      (rw [← Paired.length rw', sizeLine_eq])
      omega
    (exact oinit_ok T I1 ea hlen fun s' J => ⟨.non, H1, J, rfl, q⟩)
end
end Ky

namespace Gk
open PySem PySem.Spec PyProof.Rows L2
/-- no container's repr runs around -/
def Quiet (A : Around) : Prop := A.guards = some []
theorem Quiet.deeper {A : Around} {env : Env} (h : Quiet A) : Quiet (A.deeper env) := h
theorem quiet_caller : Quiet callerA := rfl
theorem make_guards {C : Addr} {us : List Value} {kw : List (Str × Value)} : (Code.builtin "type.__call__" ⟨.ref C :: us, kw⟩).guards = [] :=
  if_neg (by show ¬ (guardIds.contains "type.__call__" = true); decide)
theorem Quiet.make {A : Around} {C : Addr} {us : List Value} {kw : List (Str × Value)} (h : Quiet A) : Quiet (A.under (.builtin "type.__call__" ⟨.ref C :: us, kw⟩)) := by
  show pushGuards (Code.builtin "type.__call__" ⟨.ref C :: us, kw⟩).guards A.guards = some []
  rw [make_guards]
  exact h
/-- a def's promise where no container's repr runs around -/
structure FnG (P : Program) (w : World) (K : PySem.W.Frag) (mg : Str → Option Value) (base : Heap) (CX : CXT) (k : Nat) (f : Addr) (fd : FuncData) (ps : List Str) (sp : Sp) : Prop where
  len : ∀ vs H Q E, sp vs H Q E → vs.length = ps.length
  run : ∀ (A : Around) (outer : List Env) (s : Shared) (H : Hp) (args : Args) (us : List Value) (vs : List V) (Q : VK) (E : XK), Quiet A → Room k A → Env0 P w K mg base A outer s H → BindsTo s fd args (ps.zip us) → Vals vs us → sp vs H Q E → codeAny (model P w) A (.call (.ref f) args) (CR CX outer P w H s Q E) s
section
variable {P : Program} {w : World} {K : PySem.W.Frag} {mg : Str → Option Value} {base : Heap} {CX : CXT}
theorem FnG.of {k : Nat} {f : Addr} {fd : FuncData} {ps : List Str} {sp : Sp} (F : FnOk P w K mg base CX k f fd ps sp) : FnG P w K mg base CX k f fd ps sp :=
  ⟨F.len, fun A outer s H args us vs Q E _ hr => F.run A outer s H args us vs Q E hr⟩
theorem FnG.mono {j k : Nat} {f : Addr} {fd : FuncData} {ps : List Str} {sp : Sp} (F : FnG P w K mg base CX j f fd ps sp) (h : j ≤ k) : FnG P w K mg base CX k f fd ps sp :=
  ⟨F.len, fun A outer s H args us vs Q E hq hr => F.run A outer s H args us vs Q E hq (hr.mono h)⟩
/-- a def by its body -/
theorem fnG_of {k : Nat} {f : Addr} {name qual : Str} {params : Arguments} {body : List Stmt} {scope : Scope} {dV kV doc pm cdv ct oc : Value} {an od : Option Addr} {osl : Array (Option Value)} {N ps : List Str} {sp : Sp}
    (lk : K.lookup f = some ⟨oc, od, .func (PySem.W.fnOf name qual params body scope dV kV doc pm an cdv ct), osl⟩) (hcd : PySem.W.codeIn K cdv qual = true) (S : FnScope N ps scope) (len : ∀ vs H Q E, sp vs H Q E → vs.length = ps.length)
    (hbody : ∀ (A : Around) (outer : List Env) (s : Shared) (H : Hp) (vs : List V) (Q : VK) (E : XK), Quiet A → Room k (A.deeper (envOfC qual scope s.heap.objs.size f cdv)) → sp vs H Q E → ∃ t, PSs (cxOf CX P w K mg base N qual scope f cdv A outer s H E) body t ∧ t { nx := fun _ H' => Q .non H', rt := Q } (start N vs) H) :
    FnG P w K mg base CX (k + 1) f (PySem.W.fnOf name qual params body scope dV kV doc pm an cdv ct) ps sp := by
  refine ⟨len, fun A outer s H args us vs Q E hA hr e0 hb r hsp => ?_⟩
  have names : ∀ y ∈ ps.zip us, scope.names.lookup y.1 = some .local ∨ (scope.names.lookup y.1 = some .cell ∧ ((cellsFrom (s.heap.objs.size + 1) scope.names []).lookup y.1).isSome = true) := by
    rintro ⟨n, v⟩ hy
    exact (S.par n (List.of_mem_zip hy).1).imp id fun q => ⟨q, PySem.W.cellsFrom_some _ _ _ (.inl q)⟩
  have old : ∀ b o, base.get? b = some o → s.heap.get? b = some o := fun b o e => (e0.bs b o e).1
  have KX := e0.mod.kin.keeps old
  refine codeAny_call_function hr.depth (KX _ _ lk) rfl S.co S.gen rfl (PySem.W.codeRec_of KX hcd) (hb _ _ _ _ (wpAny_newFunctionEnv_cells S.kind names fun env he s1 x => ?_))
  cases he
  refine ⟨(e0.mod.nolimit.keeps old).keeps x.toInCall.keep, codeAny_func ?_⟩
  obtain ⟨t, ht, hq⟩ := hbody A outer s H vs Q E hA (hr.deeper _) hsp
  refine wpAny_mono (ht.run [] s1 (start N vs) H _ (inv_start S hr.hd e0 (len _ _ _ _ hsp) r x) hq) (fun fl s' hs => ?_) fun e s' hs => hs
  match fl, hs with
  | .ret u, ⟨v, σ', H', J, rv, q⟩ => exact ⟨v, H', J.os, J.bare, J.base, J.hok, rv, q⟩
  | .next, ⟨σ', H', J, q⟩ => exact ⟨V.non, H', J.os, J.bare, J.base, J.hok, rfl, q⟩
  | .brk, ⟨_, _, _, q⟩ => exact q.elim
  | .cont, ⟨_, _, _, q⟩ => exact q.elim
theorem okG {x qual : Str} {st : Stmt} {f : Addr} {fd : FuncData} {N ps : List Str} {k : Nat} {sp : Sp} (F : Fun K x qual st f fd) (S : FnScope N ps (defScope st)) (len : ∀ vs H Q E, sp vs H Q E → vs.length = ps.length)
    (hbody : ∀ (cdv : Value) (A : Around) (outer : List Env) (s : Shared) (H : Hp) (vs : List V) (Q : VK) (E : XK), Quiet A → Room k (A.deeper (envOfC qual (defScope st) s.heap.objs.size f cdv)) → sp vs H Q E →
      ∃ t, PSs (cxOf CX0 P w K mg base N qual (defScope st) f cdv A outer s H E).nox (defBody st) t ∧ t { nx := fun _ H' => Q .non H', rt := Q } (start N vs) H) : FnG P w K mg base CX0 (k + 1) f fd ps sp := by
  (obtain ⟨oc, od, kV, doc, pm, an, cdv, ct, osl, rfl, lk, hcd⟩ := F.ex)
  exact fnG_of lk hcd S len fun A outer s H vs Q E hA hr hsp => (hbody cdv A outer s H vs Q E hA hr hsp).imp fun t ⟨h, q⟩ => ⟨h.nox, q⟩
end
section
variable {X : Cx} {CX : CXT} {k : Nat} {f : Addr} {fd : FuncData} {ps : List Str} {sp : Sp} {dvs : List V} {ds : List Value} {E : XK} {x : Str} {p pos : Pos} {e : Expr} {es : List Expr} {t : TA}
/-- f(e, ..) -/
theorem pe_callG (F : FnG X.prog X.w X.K X.mg X.base CX k f fd ps sp) (hA : Quiet X.A) (hr : Room k X.A) (hg : Gl X x) (hm : X.mg x = some (.ref f)) (hk : PySem.W.keepIn X.K (.ref f) = true) (hb : Binds X.K fd ps ds) (hd : Vals dvs ds) (hx : Passes CX X E) (ha : PA X (e :: es) t) (hdb : (x == ("__debug__" : Str)) = false := by decide) (he : starEach (e :: es) X.env = (false, eval e X.env) :: starEach es X.env := by rfl) (hpl : (backTo pos (starEach es X.env)).any (·.1) = false := by rfl) : PE X (.Call (.Name x p) (e :: es) [] pos) (tCall sp dvs E t) := by
  refine ⟨fun pins s σ H Q I h => wpAny_Call_Name_kw (ld_glob I hg hm (PySem.W.callWith_K (h₀ := X.base) I.ok.mod.kin hk (thn (ha.run pos pins s σ H _ I h) fun us s1 hh => ?_) he hpl) hdb)⟩
  obtain ⟨vs, H1, I1, r, q⟩ := hh
  refine ⟨I1.kIn, ?_⟩
  have r2 : Vals (vs ++ dvs) (us ++ ds) := r.append hd
  have hl : (us ++ ds).length = ps.length := r2.length ▸ F.len _ _ _ _ q
  refine wpAny_call (codeAny_mono (F.run X.A X.stack s1 H1 ⟨us, []⟩ (us ++ ds) (vs ++ dvs) Q E hA hr I1.env0 (hb s1 us I1.kIn hl) r2 q) fun r s' hq => ?_)
  match r, hq with
  | .error e, hq => exact hx pins σ H1 s1 e s' I1 hq
  | .ok (.ret u), hq => exact I1.after hq
end
end Gk

namespace Ky
open PySem PySem.Spec PyProof.Rows L2 Gk
section
variable {X : Cx} {pins : List (Addr × Obj)} {σ : L2.St}
/-- an own exception with its own __init__, as a value: what is bound is vs, however it was handed in -/
theorem run_exc {CX : CXT} {C fI : Addr} {k : Nat} {fd : FuncData} {ps : List Str} {sp : Sp} {H1 : Hp} {s1 : Shared} {pos us : List Value} {kw : List (Str × Value)} {vs : List V} {Q : VK} (T : OexC X.K C)
    (iC : PySem.W.findIn X.K (.ref C) "__init__" = some (some (.ref fI))) (tI : PySem.W.typeIn X.K (.ref fI) = some (.type "function"))
    (F1 : FnG X.prog X.w X.K X.mg X.base CX k fI fd ps sp) (hA : Quiet X.A) (hr : Room (k + 1) X.A) (I1 : Inv X pins σ H1 s1)
    (hb : ∀ (self : Value) (s : Shared), X.K.In s.heap → BindsTo s fd ⟨self :: pos, kw⟩ (ps.zip (self :: us))) (rv : Vals vs us) (hp : pos.length ≤ sizeLine) (hx : Passes CX X (fun _ _ _ => False))
    (q1 : ∀ a, H1 a = none → sp (.ref a :: vs) (upd H1 a (exo a C none)) (fun v H2 => v = .non ∧ Q (.ref a) H2) (fun _ _ _ => False)) :
    wpAny (model X.prog X.w) X.A (call (.ref C) pos kw) (EP X pins σ Q) X.xe s1 := by
  (obtain ⟨nm, q, N, bs, bm, sn, sub, ab, col, dd, k0, k1, k2, k3, k5, hC, hbm⟩ := T.cls)
  obtain ⟨hp0, g, dr, tk, os⟩ := s1
  have hsz : hp0.objs.size ≤ hp0.objs.size + 1 := Nat.le_succ _
  have hq := q1 (hp0.objs.size + 1) (I1.hok.fresh hsz)
  have kk : ∀ b o, hp0.get? b = some o → ((hp0.push (PySem.W.kdv_tup pos)).push (PySem.HandSPX.excO C hp0.objs.size)).get? b = some o :=
    fun b o e => Heap.get?_push_of_some _ (Heap.get?_push_of_some _ e)
  have hget : ((hp0.push (PySem.W.kdv_tup pos)).push (PySem.HandSPX.excO C hp0.objs.size)).get? (hp0.objs.size + 1) = some (PySem.HandSPX.excO C hp0.objs.size) := by heap_get
  have I2 : Inv X pins σ (upd H1 (hp0.objs.size + 1) (exo (hp0.objs.size + 1) C none)) ⟨(hp0.push (PySem.W.kdv_tup pos)).push (PySem.HandSPX.excO C hp0.objs.size), g, dr, tk, os⟩ :=
    I1.laid (t' := tk) (a := hp0.objs.size + 1) (o := exo (hp0.objs.size + 1) C none) (h' := (hp0.push (PySem.W.kdv_tup pos)).push (PySem.HandSPX.excO C hp0.objs.size)) kk hsz (exo_ok hget)
  have r2 : Vals (V.ref (hp0.objs.size + 1) :: vs) (Value.ref (hp0.objs.size + 1) :: us) := .cons rfl rv
  refine wpAny_call (PySem.EXK.callK PySem.F.excBase_ValueError (fun Y => PySem.HandSPX.refsVE_contains Y bm hbm) (I1.kIn _ _ hC) (PySem.W.looks_findIn I1.kIn iC) (fun self => PySem.W.bind_fn I1.kIn self tI) hp
    (codeAny_mono (F1.run _ X.stack _ _ ⟨Value.ref (hp0.objs.size + 1) :: pos, kw⟩ (Value.ref (hp0.objs.size + 1) :: us) _ _ (fun _ _ _ => False) hA.make (hr.make C pos kw) (I2.env0.make C pos kw) (hb _ _ I2.kIn) r2 hq) fun r s' hq' => ?_))
  cases r with
  | error er => exact hx pins σ _ _ er s' I2 hq'
  | ok fl =>
    cases fl with
    | ret u =>
      obtain ⟨v, H', I3, rv', ev, q3⟩ := I2.after hq'
      subst ev
      exact ⟨rv', ⟨V.ref (hp0.objs.size + 1), H', I3, rfl, q3⟩⟩
    | next => exact False.elim hq'
    | brk => exact False.elim hq'
    | cont => exact False.elim hq'
/-- C(e) -/
def tExcV (C : Addr) (sp : Sp) (ta : TA) : TE := fun σ H Q => ta σ H fun vs H1 => vs.length ≤ 1000 ∧ ∀ a, H1 a = none → sp (.ref a :: vs) (upd H1 a (exo a C none)) (fun v H2 => v = .non ∧ Q (.ref a) H2) (fun _ _ _ => False)
theorem pe_excV {CX : CXT} {x : Str} {C fI : Addr} {k : Nat} {fd : FuncData} {ps : List Str} {sp : Sp} {e : Expr} {es : List Expr} {ta : TA} {p pos : Pos} (T : OexC X.K C)
    (iC : PySem.W.findIn X.K (.ref C) "__init__" = some (some (.ref fI))) (tI : PySem.W.typeIn X.K (.ref fI) = some (.type "function"))
    (F1 : FnG X.prog X.w X.K X.mg X.base CX k fI fd ps sp) (hA : Quiet X.A) (hr : Room (k + 1) X.A) (hb : Binds X.K fd ps []) (hx : Passes CX X (fun _ _ _ => False)) (hg : Gl X x) (hm : X.mg x = some (.ref C)) (ha : PA X (e :: es) ta) (hdb : (x == ("__debug__" : Str)) = false := by decide) (he : starEach (e :: es) X.env = (false, eval e X.env) :: starEach es X.env := by rfl) (hpl : (backTo pos (starEach es X.env)).any (·.1) = false := by rfl) :
    PE X (.Call (.Name x p) (e :: es) [] pos) (tExcV C sp ta) := by
  (refine ⟨fun pins s σ H Q I h => ?_⟩)
  (refine wpAny_Call_Name_kw (ld_glob I hg hm ?_ hdb))
  refine PySem.W.callWith_K (h₀ := X.base) I.ok.mod.kin T.kC (thn (ha.run pos pins s σ H _ I h) fun us s1 ⟨vs, H1, I1, r, hz, q1⟩ => ⟨I1.kIn, ?_⟩) he hpl
  have hus : us.length ≤ sizeLine
      := by
    rw [← Paired.length r, sizeLine_eq]
    omega
  refine run_exc T iC tI F1 hA hr I1 (fun self s X1 => ?_) r hus hx q1
  have hq := q1 (s1.heap.objs.size) (I1.hok.fresh (Nat.le_refl _))
  have e1 : (V.ref s1.heap.objs.size :: vs).length = ps.length := F1.len _ _ _ _ hq
  have e2 := Paired.length r
  have h3 := hb s (self :: us) X1 (by rw [List.append_nil, List.length_cons, ← e2, ← e1, List.length_cons])
  rw [List.append_nil] at h3
  exact h3
/-- C(f=e) -/
def tExcK (C : Addr) (sp : Sp) (te : TE) : TE := fun σ H Q => te σ H fun x H1 => ∃ y, [x] = [y] ∧ ∀ a, H1 a = none → sp [.ref a, y] (upd H1 a (exo a C none)) (fun v H2 => v = .non ∧ Q (.ref a) H2) (fun _ _ _ => False)
theorem pe_excK {CX : CXT} {x n : Str} {C fI : Addr} {k : Nat} {fd : FuncData} {ps : List Str} {sp : Sp} {e : Expr} {te : TE} {p pos kpos : Pos} (T : OexC X.K C)
    (iC : PySem.W.findIn X.K (.ref C) "__init__" = some (some (.ref fI))) (tI : PySem.W.typeIn X.K (.ref fI) = some (.type "function"))
    (F1 : FnG X.prog X.w X.K X.mg X.base CX k fI fd ps sp) (hA : Quiet X.A) (hr : Room (k + 1) X.A) (hb : ∀ (self v : Value) (s : Shared), X.K.In s.heap → BindsTo s fd ⟨[self], [(n, v)]⟩ (ps.zip [self, v])) (hx : Passes CX X (fun _ _ _ => False)) (hg : Gl X x) (hm : X.mg x = some (.ref C)) (he : PE X e te)
    (hdb : (x == ("__debug__" : Str)) = false := by decide) (hall : (backToKw pos (keywordEach [⟨some n, e, kpos⟩] X.env)).all (·.1.isSome) = true := by rfl) (hks : (backToKw pos (keywordEach [⟨some n, e, kpos⟩] X.env)).filterMap (·.1) = [n] := by rfl)
    (hpl : ((backTo pos (starEach [] X.env)).any (·.1) || (backToKw pos (keywordEach [⟨some n, e, kpos⟩] X.env)).any (·.1.isNone)) = false := by rfl) :
    PE X (.Call (.Name x p) [] [⟨some n, e, kpos⟩] pos) (tExcK C sp te) := by
  (refine ⟨fun pins s σ H Q I h => ?_⟩)
  (refine wpAny_Call_Name_kw (ld_glob I hg hm ?_ hdb))
  have hk : PK X [⟨some n, e, kpos⟩] (tCons te tNil) := pk_cons he pk_nil
  refine PySem.W.callWith_KW0 (h₀ := X.base) I.ok.mod.kin T.kC hall (thn (hk.run pos pins s σ H (fun vs H1 => ∃ y, vs = [y] ∧ ∀ a, H1 a = none → sp [.ref a, y] (upd H1 a (exo a C none)) (fun v H2 => v = .non ∧ Q (.ref a) H2) (fun _ _ _ => False)) I h)
    fun us s1 ⟨vs, H1, I1, r, y, ev, q1⟩ => ⟨I1.kIn, ?_⟩) hpl
  rw [hks]
  subst ev
  cases r with
  | @cons _ u0 _ _ r0 rn =>
    cases rn
    exact run_exc T iC tI F1 hA hr I1 (fun self s X1 => hb self u0 s X1) (.cons r0 .nil) (by show 0 ≤ sizeLine; exact Nat.zero_le _) hx q1
end
end Ky

namespace Gk
open PySem PySem.Spec PyProof.Rows L2
/-- the script alone at a, known as it stands -/
def onlyAt (a : Addr) (vs : List Value) (ns : List Int) : Hp := fun b => if b = a then some (.frz { cls := .type "list", data := .seq vs.toArray } (.lst (ns.map V.int))) else none
theorem onlyAt_self {a : Addr} {vs : List Value} {ns : List Int} : onlyAt a vs ns a = some (.frz { cls := .type "list", data := .seq vs.toArray } (.lst (ns.map V.int))) := if_pos rfl
theorem onlyAt_some {a b : Addr} {vs : List Value} {ns : List Int} {o : HO} (h : onlyAt a vs ns b = some o) : b = a ∧ o = .frz { cls := .type "list", data := .seq vs.toArray } (.lst (ns.map V.int)) := by
  unfold onlyAt at h
  split at h
  · rename_i e
    exact ⟨e, (Option.some.inj h).symm⟩
  · cases h
section
variable {P : Program} {w : World} {K : PySem.W.Frag} {mg mb : Str → Option Value} {CX : CXT} {k : Nat} {fa a : Addr} {fd : FuncData} {x : Str} {sp : Sp} {s₁ : Shared} {vs : List Value} {ns : List Int}
/-- the law's call from an abstract heap that tracks the script at most -/
theorem call_from {H : Hp} (KX : K.In s₁.heap) (hns : s₁.heap.Ns mainGlobals mg) (hb : s₁.heap.Ns builtinsNs mb) (hbb : ∀ x : Str, x ≠ "__name__" → mb x = bootBuiltins x) (hlim : s₁.heap.NoLimit) (hg : s₁.gens = #[])
    (ha : s₁.heap.get? a = some { cls := .type "list", data := .seq vs.toArray }) (hr : Room k callerA)
    (F : ∀ base : Heap, K.In base → base.Ns mainGlobals mg → FnG P w K mg base CX k fa fd [x] sp) (hbind : ∀ (s : Shared) (u : Value), BindsTo s fd ⟨[u], []⟩ [(x, u)])
    (hsp : sp [.ref a] H (fun v _ => v = .bl true) fun _ _ _ => False) (hCX : ∀ e s', CX [] H s₁ (fun _ _ _ => False) e s' → False)
    (hO : Only H) (hok : HOk P w H s₁.heap) (hA : ∀ b, H b ≠ none → b = a ∧ K.lookup a = none) : codeAny (model P w) callerA (.call (.ref fa) ⟨[.ref a], []⟩) (fun r s' => r = .ok (.ret (.bool true)) ∧ OldK s₁.heap s'.heap ∧ s'.os = s₁.os ∧ AllBare s'.gens) s₁ := by
  have off : ∀ b o, s₁.heap.get? b = some o → (b = a → False) → H b = none := fun b o _ n => by
    cases q : H b with
    | none => rfl
    | some u => exact (n (hA b (by rw [q]; simp)).1).elim
  have dicts : ∀ {b : Addr} {o : Obj} {es : Array DictEntry} {ep : Nat}, s₁.heap.get? b = some o → o.data = .dict es ep → H b = none := fun {b o es ep} e d => off b o e fun z => by
    rw [z, ha] at e
    cases e
    have d' : Data.seq vs.toArray _ = Data.dict es ep := d
    cases d'
  have names : ∀ {b : Addr} {m : Str → Option Value}, s₁.heap.Ns b m → (hidT s₁.heap H).Ns b m := fun ⟨o, es, ep, e, d, r⟩ => ⟨o, es, ep, hidT_get e (dicts e d), d, r⟩
  have inK : K.In (hidT s₁.heap H) := fun b o e => hidT_get (KX b o e) (by
    cases q : H b with
    | none => rfl
    | some u =>
      obtain ⟨z, hk⟩ := hA b (by rw [q]; simp)
      rw [z, hk] at e
      cases e)
  obtain ⟨mc, l1, l2⟩ := hlim
  have e0 : Env0 P w K mg (hidT s₁.heap H) callerA [] s₁ H :=
    { frames := rfl, mod := ⟨inK, names hns, ⟨mb, names hb, hbb⟩, ⟨mc, names l1, l2⟩⟩, bs := fun b o e => of_hidT e, bsz := Nat.le_of_eq (hidT_size _ _), funs := trivial, frf := fun b hb => (List.not_mem_nil hb).elim, hok := hok, bare := .of_eq hg }
  refine codeAny_mono ((F _ inK (names hns)).run callerA [] s₁ H ⟨[.ref a], []⟩ [.ref a] [.ref a] _ _ quiet_caller hr e0 (hbind s₁ (.ref a)) (.cons rfl .nil) hsp) fun r s' h => ?_
  match r, h with
  | .error e, h => exact (hCX e s' h).elim
  | .ok (.ret u), ⟨v, H', os, bare, un, hok', r', q⟩ =>
    have q' : v = .bl true := q
    subst q'
    (obtain rfl : u = Value.bool true := r')
    (refine ⟨rfl, OldK.of_keep fun b o e => ?_, os, bare⟩)
    cases q : H b with
    | none => exact un.keep b o e q (fun z => (List.not_mem_nil z).elim) (List.not_mem_nil)
    | some u =>
      (rcases hO b with z | ⟨ob, xs, z⟩)
      · rw [q] at z
        cases z
      · have e1 := (hok b _ z).1
        have e2 := (hok' b _ (un.frzs b ob _ z)).1
        rw [e] at e1
        cases e1
        exact e2
theorem law_callG (KX : K.In s₁.heap) (hns : s₁.heap.Ns mainGlobals mg) (hb : s₁.heap.Ns builtinsNs mb) (hbb : ∀ x : Str, x ≠ "__name__" → mb x = bootBuiltins x) (hlim : s₁.heap.NoLimit) (hg : s₁.gens = #[]) (ha : s₁.heap.get? a = some { cls := .type "list", data := .seq vs.toArray }) (hi : IntsAre vs ns) (hl : ns.length ≤ sizeLine) (hr : Room k callerA)
    (F : ∀ base : Heap, K.In base → base.Ns mainGlobals mg → FnG P w K mg base CX k fa fd [x] sp) (hbind : ∀ (s : Shared) (u : Value), BindsTo s fd ⟨[u], []⟩ [(x, u)])
    (hsp : ∀ H : Hp, Only H → SqL K H a (ns.map V.int) → sp [.ref a] H (fun v _ => v = .bl true) fun _ _ _ => False) (hCX : ∀ H e s', CX [] H s₁ (fun _ _ _ => False) e s' → False) : codeAny (model P w) callerA (.call (.ref fa) ⟨[.ref a], []⟩) (fun r s' => r = .ok (.ret (.bool true)) ∧ OldK s₁.heap s'.heap ∧ s'.os = s₁.os ∧ AllBare s'.gens) s₁ := by
  have rv := vals_ints hi
  cases hk : K.lookup a with
  | some o =>
    have e := KX a o hk
    rw [ha] at e
    cases e
    have hO : Only (fun _ => none : Hp) := fun _ => .inl rfl
    have hS : SqL K (fun _ => none) a (ns.map V.int) := .inr ⟨_, vs.toArray, _, hk, rfl, rfl, rfl, by rw [List.size_toArray, hi.length]; exact hl, by simpa using rv⟩
    exact call_from KX hns hb hbb hlim hg ha hr F hbind (hsp _ hO hS) (hCX _) hO (fun b u (z : (none : Option HO) = some u) => nomatch z) fun b z => (z rfl).elim
  | none =>
    have hO : Only (onlyAt a vs ns) := fun b => by
      by_cases e : b = a
      · exact .inr ⟨_, _, by rw [e]; exact onlyAt_self⟩
      · exact .inl (if_neg e)
    refine call_from KX hns hb hbb hlim hg ha hr F hbind (hsp _ hO (.inl (.inr ⟨_, onlyAt_self⟩))) (hCX _) hO (fun b u z => ?_) fun b z => ?_
    · obtain ⟨rfl, rfl⟩ := onlyAt_some z
      (exact ⟨ha, by rw [List.length_map]; exact hl, vs, _, rv, ha⟩)
    · cases q : onlyAt a vs ns b with
      | none => exact (z q).elim
      | some u => exact ⟨(onlyAt_some q).1, hk⟩
end
theorem walkG {l : PySem.W.OpenLaw} {n k : Nat} {q : Program} {loose : List Str} {XP : (Str → Option Value) → Heap → Prop} {YP : World → Heap → Prop} {d : DefRec} {K : Params → PySem.W.Frag} {CX : World → CXT} {sp : World → Sp} {x : Str} (hn : l.most = some n) (hn2 : n ≤ sizeLine) (hdf : d.params.defaults = []) (hr : Room k callerA) (hY : ∀ (w : World) (h : Heap), YP w h → (K w.params).In h) (F : ∀ (w : World) (mg : Str → Option Value) (fa : Addr) (h : Heap), (K w.params).In h → h.Ns mainGlobals mg → mg d.name = some (.ref fa) →
      ∃ fd : FuncData, (∀ (s : Shared) (u : Value), BindsTo s fd ⟨[u], []⟩ [(x, u)]) ∧ ∀ base : Heap, (K w.params).In base → base.Ns mainGlobals mg → FnG l.prog w (K w.params) mg base (CX w) k fa fd [x] (sp w)) (hsp : ∀ (w : World) (H : Hp) (a : Addr) (ns : List Int), ns.length ≤ n → Only H → SqL (K w.params) H a (ns.map V.int) → sp w [.ref a] H (fun v _ => v = .bl true) fun _ _ _ => False) (hCX : ∀ (w : World) (H : Hp) (s : Shared) (e : Value) (s' : Shared), CX w [] H s (fun _ _ _ => False) e s' → False) :
    PySem.W.WalkO q loose XP YP l.row.toRowW d [] (fun f vs => PySem.call f vs) := by
  (refine Att.attach_call hn hdf fun w s₀ s₁ mg mb fa o pm cd doc a vs ns G Y ho hd hcd hmg hobj hints hlen hg => ?_)
  obtain ⟨fd, hb, hF⟩ := F w mg fa _ (hY w _ Y) G.T.g hmg
  exact law_callG (hY w _ Y) G.T.g G.T.b G.T.builtins G.T.nolimit hg hobj hints (Nat.le_trans hlen hn2) hr hF hb (fun H hO hS => hsp w H a ns hlen hO hS) fun H e s' => hCX w H s₁ e s'
end Gk

namespace Ky
open PySem PySem.Spec PyProof.Rows L2 Gk
/-- what isinstance and a field's reading ask of the class of an error -/
structure ErrC (K : PySem.W.Frag) (C : Addr) : Prop where
  cl : (PySem.W.clsIn K C).isSome = true
  ga : PySem.W.findIn K (.ref C) "__getattribute__" = some (some (.builtin "BaseException.__getattribute__"))
  gt : PySem.W.findIn K (.ref C) "__getattr__" = some none
  sb : PySem.W.subIn K (.ref C) (.type "BaseException") = some true
  cc : PySem.W.findIn K (.ref C) "__class__" = some (some (.builtin "object.__class__"))
  ob : PySem.W.mroIn K C (.type "object") = some true
  hd : PySem.W.hasDictIn K C = true
structure ErrK (K : PySem.W.Frag) : Prop where
  gg : PySem.W.specialIn K (.builtin "object.__class__") "__get__" = some (some (.builtin "getset_descriptor.__get__"))
  tk : PySem.W.takesIn K (.builtin "object.__class__") = some true
/-- an error of the class at C stands at a -/
def ErrAt (H : Hp) (a C : Addr) : Prop := H a = some (ExO (.ref C) a) ∨ ∃ d fs, H a = some (exo a C (some d)) ∧ H d = some (exd d fs)
theorem ErrAt.same {H H' : Hp} {a C : Addr} (h : ErrAt H a C) (s : Same H H') : ErrAt H' a C := by
  rcases h with h | ⟨d, fs, h1, h2⟩
  · exact .inl (s _ _ h)
  · exact .inr ⟨d, fs, s _ _ h1, s _ _ h2⟩
section
variable {X : Cx}
theorem errAt_inst {pins : List (Addr × Obj)} {σ : L2.St} {H : Hp} {s : Shared} {a C : Addr} (I : Inv X pins σ H s) (h : ErrAt H a C) : ∃ ox od, PySem.W.InstAt s.heap a ox C od := by
  rcases h with h | ⟨d, fs, h1, h2⟩
  · obtain ⟨⟨oe, vs, ho, ⟨hc, hd⟩, hf, _⟩, _⟩ := (show ObjOk X.prog X.w H s.heap a (ExO (.ref C) a) from I.hok a _ h)
    refine ⟨oe, none, ho, hc, ?_, ?_⟩
    · unfold PySem.W.notCls
      rw [hf] <;> rfl
    · rw [hd]
      trivial
  · obtain ⟨t1, ho⟩ := exo_at I.hok h1
    obtain ⟨mA, ⟨od, es, ep, e1, e2⟩, _⟩ := exd_at I.hok h2
    exact ⟨_, some od, ho, rfl, rfl, e1⟩
/-- isinstance(error, class) -/
def rIsX (K : PySem.W.Frag) : List V → Hp → VK → Prop := fun xs H Q => ∃ (a C : Addr) (c : V) (u : Value) (b : Bool), xs = [.ref a, c] ∧ ErrAt H a C ∧ ErrC K C ∧ ErrK K ∧ ClsV c u ∧ PySem.W.kitOne K (.ref C) u = some b ∧ Q (.bl b) H
theorem call_isX : CallR X (.builtin "isinstance") (rIsX X.K) := by
  (intro pins s σ H xs us Q I r h)
  obtain ⟨a, C, c, u, b, rfl, ha, hC, hK, k, e, q⟩ := h
  (obtain ⟨u1, u2, rfl, r1, r2⟩ := vals2 r)
  cases (show u1 = Value.ref a from r1)
  have e2 := k.eq r2
  subst e2
  obtain ⟨ox, od, J⟩ := errAt_inst I ha
  exact PySem.W.kia_one (PySem.W.kitx_exc hC.cl hC.ga hC.gt hC.sb hC.cc hK.gg hK.tk hC.ob) I.kIn J e (fun z => nomatch z) fun tk => ⟨.bl b, H, I.tok tk, rfl, q⟩
/-- error.field -/
def tErrF (K : PySem.W.Frag) (f : Str) (te : TE) : TE := fun σ H Q => te σ H fun x H1 => ∃ (a C d : Addr) (fs : List (Str × V)) (v : V), x = .ref a ∧ ErrC K C ∧ PySem.W.findIn K (.ref C) f = some none ∧ H1 a = some (exo a C (some d)) ∧ H1 d = some (exd d fs) ∧ fs.lookup f = some v ∧ Q v H1
theorem pe_errF {e : Expr} {te : TE} {f : Str} {pos : Pos} (he : PE X e te) (hb : attributeBase e f X.env (eval e X.env) = eval e X.env := by rfl) : PE X (.Attribute e f pos) (tErrF X.K f te) := by
  refine ⟨fun pins s σ H Q I h => attr_of hb (thn (he.run pins s σ H _ I h) fun u s1 hh => ?_)⟩
  obtain ⟨x, H1, I1, rx, a, C, d, fs, v, ex, hC, hno, h1, h2, l, q⟩ := hh
  subst ex
  (obtain rfl : u = Value.ref a := rx)
  obtain ⟨t1, ho⟩ := exo_at I1.hok h1
  obtain ⟨mA, hns, hr⟩ := exd_at I1.hok h2
  obtain ⟨od, ho2, hl⟩ := lookIn_ns hns
  obtain ⟨u, hu, ru⟩ := RelO.some_of (v := v) (o := mA f) (by rw [← l]; exact hr f)
  have J : PySem.W.InstAt s1.heap a _ C (some od) := ⟨ho, rfl, rfl, ho2⟩
  exact HandSPX.exc_get I1.kIn J hC.ga hC.gt hC.sb (PySem.W.findObj_own hC.hd hno rfl (by rw [hl, hu])) (handed_of ru) ⟨v, H1, I1.tok _, ru, q⟩
end
end Ky

namespace Ky
open PySem PySem.Spec PyProof.Rows L2 Gk
mutual
theorem dp_noDict {K : PySem.W.Frag} {H : Hp} : ∀ (d : PyData) (v : V), Dp K H v d → d.hasDict = false
  | .none, _, _ => by simp [PyData.hasDict]
  | .bool _, _, _ => by simp [PyData.hasDict]
  | .int _, _, _ => by simp [PyData.hasDict]
  | .str _, _, _ => by simp [PyData.hasDict]
  | .list ds, _, h => by
    cases h with
    | lst _ ha =>
      simp only [PyData.hasDict]
      exact dpAll_noDict ds _ ha
  | .tuple ds, _, h => by
    cases h with
    | tup _ ha =>
      simp only [PyData.hasDict]
      exact dpAll_noDict ds _ ha
  | .dict _, _, h => by cases h
theorem dpAll_noDict {K : PySem.W.Frag} {H : Hp} : ∀ (ds : List PyData) (vs : List V), DpAll K H vs ds → PyData.hasDictAll ds = false
  | [], _, _ => by simp [PyData.hasDictAll]
  | d :: ds, _, h => by
    cases h with
    | cons h1 h2 =>
      simp only [PyData.hasDictAll, dp_noDict d _ h1, dpAll_noDict ds _ h2, Bool.or_false]
end
/-- a dict of no entry, or of one: a text, and a tuple of one int -/
inductive DicAt (K : PySem.W.Frag) (H : Hp) : V → PyData → Prop where
  | e0 {a : Addr} (h : H a = some (.dK [])) : DicAt K H (.ref a) (.dict [])
  | e1 {a t : Addr} {k : Str} {n : Int} (h : H a = some (.dK [(.inr k, .ref t)])) (ht : SqT K H t [.int n]) : DicAt K H (.ref a) (.dict [(.str k, .tuple [.int n])])
section
variable {X : Cx} {pins : List (Addr × Obj)} {σ : L2.St} {H : Hp} {s : Shared}
theorem DicAt.reads (I : Inv X pins σ H s) {v : V} {d : PyData} {u : Value} (h : DicAt X.K H v d) (r : RelV v u) : ∃ as, Reads s.heap u d as ∧ sysModules ∉ as := by
  cases h with
  | @e0 a h =>
    cases r
    obtain ⟨_, hn, vs, rel, o, es, ep, ho, ex, hd, _, hp, _⟩ := dk_of I.hok h
    cases rel
    have he : es.toList = [] := by
      cases e : es.toList with
      | nil => rfl
      | cons x y =>
        rw [e] at hp
        cases hp
    refine ⟨_, Reads.dict (kvs := []) ho ex.1 hd (by rw [he]; exact .nil) (by rw [he]; exact .nil), ?_⟩
    simp only [List.append_nil, List.mem_singleton]
    intro z
    rw [z] at hn
    simp at hn
  | @e1 a t k n h ht =>
    cases r
    obtain ⟨_, hn, vs, rel, o, es, ep, ho, ex, hd, _, hp, _⟩ := dk_of I.hok h
    obtain ⟨its, rv, ⟨ot, t1, t2, nt, t3⟩, _⟩ := I.tuple ht
    cases rel with
    | @cons _ q _ _ r0 r1 =>
      cases r1
      obtain ⟨qk, qv⟩ := q
      obtain ⟨e1, e2⟩ := r0
      have e1' : (Sum.inr k : Key) = qk := e1
      subst e1'
      have e2' : qv = Value.ref t := e2
      subst e2'
      cases he : es.toList with
      | nil =>
        rw [he] at hp
        cases hp
      | cons en rest =>
        rw [he] at hp
        cases hp with
        | cons hk hv hr =>
          cases hr
          obtain ⟨tk, ek⟩ := Value.isStrOf_shape (x := k) (v := en.key) hk
          have hv' : en.val = Value.ref t := hv
          cases rv with
          | @cons _ u0 _ _ s0 s1 =>
            cases s1
            obtain ⟨tn, rfl⟩ := s0
            refine ⟨_, Reads.dict (kvs := [(.str k, .tuple [.int n])]) ho ex.1 hd (as := [] ++ []) (bs := [] ++ [] ++ []) ?_ ?_, ?_⟩
            · rw [he]
              simp only [List.map_cons, List.map_nil]
              rw [ek]
              exact .cons (Reads.str k tk) .nil
            · rw [he]
              simp only [List.map_cons, List.map_nil]
              rw [hv']
              exact .cons (Reads.tuple t1 t2 t3 (.cons (Reads.int n tn) .nil)) .nil
            · simp only [List.append_nil, List.mem_singleton]
              intro z
              rw [z] at hn
              simp at hn
/-- what can be shown: data; such a dict; a list of such dicts, laid by this text -/
def ShowD (K : PySem.W.Frag) (H : Hp) (x : V) (d : PyData) : Prop :=
  Dp K H x d ∨ DicAt K H x d ∨ ∃ p v w dv dw, x = .ref p ∧ p ≠ sysModules ∧ SqL K H p [v, w] ∧ DicAt K H v dv ∧ DicAt K H w dw ∧ d = .list [dv, dw]
theorem ShowD.reads (I : Inv X pins σ H s) {x : V} {d : PyData} {u : Value} (h : ShowD X.K H x d) (r : RelV x u) : ∃ as, Reads s.heap u d as ∧ (d.hasDict = true → sysModules ∉ as) := by
  rcases h with h | h | ⟨p, v, w, dv, dw, rfl, hp, hS, h1, h2, rfl⟩
  · obtain ⟨as, q⟩ := Dp.reads I d x u h r
    exact ⟨as, q, PyData.noDict_hsm (dp_noDict d x h)⟩
  · obtain ⟨as, q, n⟩ := h.reads I r
    exact ⟨as, q, fun _ => n⟩
  · cases r
    obtain ⟨its, rv, hl, _⟩ := I.list hS
    obtain ⟨o, n, ho, hc, _, hd⟩ := hl
    cases rv with
    | @cons _ u0 _ _ s0 s1 =>
      cases s1 with
      | @cons _ u1 _ _ s2 s3 =>
        cases s3
        obtain ⟨a1, q1, n1⟩ := h1.reads I s0
        obtain ⟨a2, q2, n2⟩ := h2.reads I s2
        refine ⟨_, Reads.list ho hc hd (.cons q1 (.cons q2 .nil)), fun _ => ?_⟩
        simp only [List.append_nil, List.mem_cons, List.mem_append, not_or]
        exact ⟨fun z => hp z.symm, n1, n2⟩
/-- its text, if it fits -/
def Fits (d : PyData) : Prop := d.showable = true ∧ d.depth ≤ 60 ∧ d.shown.length ≤ sizeLine
theorem ep_str {Q : VK} {z : Str} {t : Tok} (I : Inv X pins σ H s) (q : Q (.str z) H) : EP X pins σ Q (.str z t) s := ⟨.str z, H, I, ⟨t, rfl⟩, q⟩
/-- repr(x) -/
def rShow (K : PySem.W.Frag) : List V → Hp → VK → Prop := fun xs H Q => ∃ x d, xs = [x] ∧ ShowD K H x d ∧ Fits d ∧ Q (.str d.shown) H
theorem call_show (hA : Quiet X.A) (hu : X.A.units + 64 < cLine) : CallR X (.builtin "repr") (rShow X.K) := by
  (intro pins s σ H xs us Q I r h)
  obtain ⟨x, d, rfl, hd, ⟨f1, f2, f3⟩, q⟩ := h
  (obtain ⟨u, rfl, ru⟩ := vals1 r)
  obtain ⟨as, hr, hm⟩ := hd.reads I ru
  cases hr with
  | none => exact PySem.P.repr_of_none (ep_str (I.tok _) (by simpa only [PyData.shown] using q))
  | bool b => exact PySem.P.repr_of_bool (ep_str (I.tok _) (by simpa only [PyData.shown] using q))
  | int i t => exact PySem.P.repr_of_int (by simpa [PyData.showable] using f1) (ep_str (I.tok _) (by simpa only [PyData.shown] using q))
  | str z t => exact PySem.P.repr_of_str (ep_str (I.tok _) (by simpa only [PyData.shown] using q)) (by simpa only [PyData.shown] using f3)
  | list h1 h2 h3 h4 => exact repr_of_reads' (Reads.list h1 h2 h3 h4) f1 hm hA (by omega) (fun _ _ e => e) (fun h' u tk k => ep_str (I.kept k) q) f3
  | tuple h1 h2 h3 h4 => exact repr_of_reads' (Reads.tuple h1 h2 h3 h4) f1 hm hA (by omega) (fun _ _ e => e) (fun h' u tk k => ep_str (I.kept k) q) f3
  | dict h1 h2 h3 h4 h5 => exact repr_of_reads' (Reads.dict h1 h2 h3 h4 h5) f1 hm hA (by omega) (fun _ _ e => e) (fun h' u tk k => ep_str (I.kept k) q) f3
/-- {x!r} -/
def tShow (K : PySem.W.Frag) (te : TE) : TE := fun σ H Q => te σ H fun x H1 => ∃ d, ShowD K H1 x d ∧ Fits d ∧ Q (.str d.shown) H1
theorem pe_show {e : Expr} {te : TE} {pos : Pos} (hA : Quiet X.A) (hu : X.A.units + 64 < cLine) (he : PE X e te) : PE X (.FormattedValue e 114 none pos) (tShow X.K te) := by
  refine ⟨fun pins s σ H Q I h => wpAny_FormattedValue_repr (thn (he.run pins s σ H _ I h) fun v s1 hv => ?_)⟩
  obtain ⟨x, H1, I1, r1, d, hd, ⟨f1, f2, f3⟩, q⟩ := hv
  obtain ⟨as, hr, hm⟩ := hd.reads I1 r1
  have fin : ∀ (s2 : Shared) (u : Tok), Inv X pins σ H1 s2 → wpAny (model X.prog X.w) X.A (formatField (.str d.shown u) Str.empty) (EP X pins σ Q) X.xe s2 := fun s2 u J =>
    wpAny_formatField_str (ep_str J q) (ep_str (J.tok _) q) f3
  cases hr with
  | none => exact pyReprObj_none (by simpa only [PyData.shown] using fin _ _ (I1.tok _))
  | bool b => exact pyReprObj_bool (by simpa only [PyData.shown] using fin _ _ (I1.tok _))
  | int i t => exact pyReprObj_int (by simpa [PyData.showable] using f1) (by simpa only [PyData.shown] using fin _ _ (I1.tok _))
  | str z t => exact pyReprObj_str (by simpa only [PyData.shown] using fin _ _ (I1.tok _)) (by simpa only [PyData.shown] using f3)
  | list h1 h2 h3 h4 => exact pyReprObj_of_reads (Reads.list h1 h2 h3 h4) f1 hm hA (by omega) (fun _ _ e => e) (fun h' u tk k => fin _ _ (I1.kept k)) f3
  | tuple h1 h2 h3 h4 => exact pyReprObj_of_reads (Reads.tuple h1 h2 h3 h4) f1 hm hA (by omega) (fun _ _ e => e) (fun h' u tk k => fin _ _ (I1.kept k)) f3
  | dict h1 h2 h3 h4 h5 => exact pyReprObj_of_reads (Reads.dict h1 h2 h3 h4 h5) f1 hm hA (by omega) (fun _ _ e => e) (fun h' u tk k => fin _ _ (I1.kept k)) f3
/-- [..], not at the place of sys.modules -/
def tLstN (t : TA) : TE := fun σ H Q => t σ H fun xs H1 => xs.length ≤ sizeLine ∧ ∀ p, H1 p = none → p ≠ sysModules → Q (.ref p) (upd H1 p (.lst xs))
theorem pe_lstN {es : List Expr} {t : TA} {pos : Pos} (h : PA X es t) : PE X (.List es pos) (tLstN t) := by
  refine ⟨fun pins s σ H Q I hq => wpAny_List_spliced (thn (h.run pos pins s σ H _ I hq) fun us s1 hh => ?_)⟩
  obtain ⟨xs, H1, I1, r, z, q⟩ := hh
  refine ⟨r.length ▸ z, .ref s1.heap.objs.size, _, I1.laid (t' := s1.toks) (fun b u e => Heap.get?_push_of_some _ e) (Nat.le_refl _) ?_, rfl, q _ (I1.hok.fresh (Nat.le_refl _)) (Nat.ne_of_gt I1.big)⟩
  (exact ⟨z, us, 0, r, Heap.get?_push_size _ rfl⟩)
end
end Ky

namespace Kz
open PySem PySem.Spec PyProof.Rows L2
def topS (i : Nat) : Stmt := PySem.Challenge.pw_ruleshadows_k00_errors_of_all_parts.main.body.getD i (.Pass ⟨0, 0, 0, 0⟩)
abbrev sBegun : Stmt := topS 26
abbrev sMixed : Stmt := topS 27
abbrev sTake : Stmt := topS 28
abbrev sPick : Stmt := topS 29
theorem scBegun : FnScope ["script", "large", "grain"] ["script"] (defScope sBegun) := ⟨rfl, rfl, rfl, by decide +kernel, rfl, by decide +kernel, by decide +kernel⟩
theorem scMixed : FnScope ["draw", "turn", "found", "great", "blend", "grain"] ["draw"] (defScope sMixed) := ⟨rfl, rfl, rfl, by decide +kernel, rfl, by decide +kernel, by decide +kernel⟩
theorem scTake : FnScope ["draw", "amount", "found"] ["draw", "amount"] (defScope sTake) := ⟨rfl, rfl, rfl, by decide +kernel, rfl, by decide +kernel, by decide +kernel⟩
theorem scPick : FnScope ["draw", "some"] ["draw", "some"] (defScope sPick) := ⟨rfl, rfl, rfl, by decide +kernel, rfl, by decide +kernel, by decide +kernel⟩
end Kz

namespace Kz
open PySem PySem.Spec PyProof.Rows L2
/-- the draws' dict at p: its list of large numbers at b, of cells at c -/
def drawKV (b c : Addr) (rest turn : Int) : List (Key × V) := [(.inr "large", .ref b), (.inr "rest", .int rest), (.inr "cells", .ref c), (.inr "turn", .int turn)]
structure DrawAt (H : Hp) (p b c : Addr) : Prop where
  dk : ∃ rest turn, H p = some (.dK (drawKV b c rest turn))
  lg : ∃ lg : List Int, H b = some (.lst (lg.map V.int))
  cs : ∃ cs : List Int, H c = some (.lst (cs.map V.int))
  bc : b ≠ c
theorem DrawAt.pb {H : Hp} {p b c : Addr} (D : DrawAt H p b c) : p ≠ b := by
  obtain ⟨⟨_, _, h1⟩, ⟨_, h2⟩, _, _⟩ := D
  exact ne_of h1 h2 (by intro z; cases z)
theorem DrawAt.pc {H : Hp} {p b c : Addr} (D : DrawAt H p b c) : p ≠ c := by
  obtain ⟨⟨_, _, h1⟩, _, ⟨_, h2⟩, _⟩ := D
  exact ne_of h1 h2 (by intro z; cases z)
/-- all but what stands at p and b is as it was -/
def But2 (H H' : Hp) (p b : Addr) : Prop := ∀ a o, H a = some o → a ≠ p → a ≠ b → H' a = some o
theorem But2.refl {H : Hp} {p b : Addr} : But2 H H p b := fun _ _ h _ _ => h
theorem But2.of_same {H H' : Hp} {p b : Addr} (s : Same H H') : But2 H H' p b := fun a o h _ _ => s a o h
theorem But2.trans {H H1 H2 : Hp} {p b : Addr} (x : But2 H H1 p b) (y : But2 H1 H2 p b) : But2 H H2 p b := fun a o h h1 h2 => y a o (x a o h h1 h2) h1 h2
theorem DrawAt.same {H H' : Hp} {p b c : Addr} (D : DrawAt H p b c) (s : Same H H') : DrawAt H' p b c := by
  obtain ⟨⟨r, t, h1⟩, ⟨l, h2⟩, ⟨cs, h3⟩, h4⟩ := D
  exact ⟨⟨r, t, s _ _ h1⟩, ⟨l, s _ _ h2⟩, ⟨cs, s _ _ h3⟩, h4⟩
theorem same_upd {H : Hp} {p : Addr} {o : HO} (h : H p = none) : Same H (upd H p o) := fun b x e => by
  rw [upd_ne (ne_of_none e h)]
  exact e
theorem k12 : ¬ (Sum.inr ("large" : Str) : Key) = Sum.inr ("rest" : Str) := by decide +kernel
theorem k13 : ¬ (Sum.inr ("large" : Str) : Key) = Sum.inr ("cells" : Str) := by decide +kernel
theorem k14 : ¬ (Sum.inr ("large" : Str) : Key) = Sum.inr ("turn" : Str) := by decide +kernel
theorem k23 : ¬ (Sum.inr ("rest" : Str) : Key) = Sum.inr ("cells" : Str) := by decide +kernel
theorem k24 : ¬ (Sum.inr ("rest" : Str) : Key) = Sum.inr ("turn" : Str) := by decide +kernel
theorem k34 : ¬ (Sum.inr ("cells" : Str) : Key) = Sum.inr ("turn" : Str) := by decide +kernel
theorem upd_none {H : Hp} {p l : Addr} {o : HO} (h : upd H p o l = none) : l ≠ p ∧ H l = none := by
  by_cases e : l = p
  · rw [e, upd_same] at h
    cases h
  · rw [upd_ne e] at h
    exact ⟨e, h⟩
theorem val_large (b c : Addr) (r t : Int) : valV (drawKV b c r t) (.inr "large") = some (.ref b) := by
  unfold drawKV; rw [valV_pos rfl]
theorem val_rest (b c : Addr) (r t : Int) : valV (drawKV b c r t) (.inr "rest") = some (.int r) := by
  unfold drawKV; rw [valV_neg k12, valV_pos rfl]
theorem val_cells (b c : Addr) (r t : Int) : valV (drawKV b c r t) (.inr "cells") = some (.ref c) := by
  unfold drawKV; rw [valV_neg k13, valV_neg k23, valV_pos rfl]
theorem val_turn (b c : Addr) (r t : Int) : valV (drawKV b c r t) (.inr "turn") = some (.int t) := by
  unfold drawKV; rw [valV_neg k14, valV_neg k24, valV_neg k34, valV_pos rfl]
theorem s12 : ¬ ("large" : Str) = ("rest" : Str) := by decide +kernel
theorem s32 : ¬ ("cells" : Str) = ("rest" : Str) := by decide +kernel
theorem s42 : ¬ ("turn" : Str) = ("rest" : Str) := by decide +kernel
theorem s14 : ¬ ("large" : Str) = ("turn" : Str) := by decide +kernel
theorem s24 : ¬ ("rest" : Str) = ("turn" : Str) := by decide +kernel
theorem s34 : ¬ ("cells" : Str) = ("turn" : Str) := by decide +kernel
theorem put_rest (b c : Addr) (r t r' : Int) : putK (drawKV b c r t) (.inr "rest") (.int r') = drawKV b c r' t := by
  unfold drawKV putK
  simp [s12, s32, s42]
theorem put_turn (b c : Addr) (r t t' : Int) : putK (drawKV b c r t) (.inr "turn") (.int t') = drawKV b c r t' := by
  unfold drawKV putK
  simp [s14, s24, s34]
section
variable {H : Hp} {p b c : Addr} {r t x : Int} (h : H p = some (.dK (drawKV b c r t)))
include h
theorem get_large : DGet H p (.str "large") (some (.ref b)) := by rw [← val_large b c r t]; exact DGet.k (k := Sum.inr "large") h
theorem get_rest : DGet H p (.str "rest") (some (.int r)) := by rw [← val_rest b c r t]; exact DGet.k (k := Sum.inr "rest") h
theorem get_cells : DGet H p (.str "cells") (some (.ref c)) := by rw [← val_cells b c r t]; exact DGet.k (k := Sum.inr "cells") h
theorem get_turn : DGet H p (.str "turn") (some (.int t)) := by rw [← val_turn b c r t]; exact DGet.k (k := Sum.inr "turn") h
theorem set_rest : DPut H p (.str "rest") (.int x) (upd H p (.dK (drawKV b c x t))) := by rw [← put_rest b c r t x]; exact DPut.k (k := Sum.inr "rest") h (small1000 (by show 4 ≤ 1000; decide))
theorem set_turn : DPut H p (.str "turn") (.int x) (upd H p (.dK (drawKV b c r x))) := by rw [← put_turn b c r t x]; exact DPut.k (k := Sum.inr "turn") h (small1000 (by show 4 ≤ 1000; decide))
end
section
variable {P : Program} {w : World} {K : PySem.W.Frag} {mg : Str → Option Value} {base : Heap}
def spMixed (K : PySem.W.Frag) : Sp := fun vs H Q _ => ∃ p b c, vs = [.ref p] ∧ DrawAt H p b c ∧ ∀ r H', DrawAt H' p b c → But2 H H' p b → Q (.int r) H'
theorem ok_mixed {f : Addr} {fd : FuncData} {k : Nat} (F : Fun K "_law_mixed" "_law_mixed" sMixed f fd) (mi : mg "int" = none) : FnOk P w K mg base CX0 (k + 1) f fd ["draw"] (spMixed K) := by
  refine F.ok scMixed (fun vs H Q E h => ?_) (fun cdv A outer s H vs Q E hr h => ?_)
  · obtain ⟨p, b, c, rfl, _⟩ := h
    rfl
  · obtain ⟨p, b, c, rfl, D, q⟩ := h
    have hu := hu_of hr
    refine ⟨_, pss_cons (ps_dput hu (pv 0) pe_str (pe_op op_add (pe_dget hu (pv 0) pe_str (fun _ _ => rfl)) pe_int) rfl)
      (pss_cons (ps_par (i := 1) (j := 2) (by rfl) scMixed.nd rfl rfl (by decide) rfl rfl (pa_cons (pe_callTy call_int1 (by rfl) mi (by decide +kernel) (pa_cons (pe_dget hu (pv 0) pe_str (fun _ _ => rfl)) pa_nil)) (pa_cons pe_int pa_nil)) (by rfl))
      (pss_cons (ps_for PassesOwn.never rfl (pi_list (pe_lst (pa_cons pe_int (pa_cons pe_int (pa_cons pe_int pa_nil))))) (pg_name (i := 3) scMixed.nd rfl (Or.inl rfl))
        (pss_cons (ps_set (i := 4) scMixed.nd rfl (Or.inl rfl) (pe_op op_mod (pe_op op_add (pe_op op_mul (pv 1) pe_int) (pe_op op_fdiv (pv 3) pe_int)) (pv 3)))
        (pss_cons (ps_for PassesOwn.never rfl (pi_list (pe_dget hu (pv 0) pe_str (fun _ _ => rfl))) (pg_name (i := 5) scMixed.nd rfl (Or.inl rfl))
          (pss_one (ps_set (i := 4) scMixed.nd rfl (Or.inl rfl) (pe_op op_mod (pe_op op_add (pe_op op_mul (pv 4) pe_int) (pe_callTy call_int1 (by rfl) mi (by decide +kernel) (pa_cons (pv 5) pa_nil))) (pv 3)))))
        (pss_one (ps_set (i := 2) scMixed.nd rfl (Or.inl rfl) (pe_op op_add (pe_op op_mul (pv 2) pe_int) (pe_op op_mod (pe_op op_pow (pv 4) pe_int) (pv 3))))))))
      (pss_one (ps_ret (pv 2))))), ?_⟩
    obtain ⟨⟨rest, turn, hd⟩, ⟨lg, hb⟩, ⟨cs, hc⟩, nbc⟩ := D
    have npb : p ≠ b := ne_of hd hb (by intro z; cases z)
    have npc : p ≠ c := ne_of hd hc (by intro z; cases z)
    refine ⟨_, rfl, p, _, rfl, get_turn hd, _, _, rfl, rfl, _, rfl, p, _, rfl, set_turn hd, ?_⟩
    refine ⟨_, rfl, p, _, rfl, get_turn upd_same, .inl ⟨_, rfl, _, _, rfl, ?_⟩⟩
    refine ⟨by show 3 ≤ sizeLine; decide, fun l hl => ⟨_, rfl, ⟨_, .inl (.inl upd_same)⟩, ?_⟩⟩
    obtain ⟨nlp, hl0⟩ := upd_none hl
    refine for_list (K := K) (a := l) (xs := [.int 2147483629, .int 2147483587, .int 2147483579]) (fun i σ H2 => ∃ (f : Int) (x3 x4 x5 : Option V), σ = [some (.ref p), some (.int (turn + 1)), some (.int f), x3, x4, x5] ∧
        (∀ a o, H a = some o → a ≠ p → H2 a = some o) ∧ H2 p = some (.dK (drawKV b c rest (turn + 1))) ∧ H2 l = some (.lst [.int 2147483629, .int 2147483587, .int 2147483579]))
      ⟨0, none, none, none, rfl, fun a o e h => by rw [upd_ne (ne_of_none e hl0), upd_ne h]; exact e, by rw [upd_ne nlp.symm]; exact upd_same, upd_same⟩
      (fun i σ H2 _ ⟨_, _, _, _, _, _, _, h⟩ => .inl (.inl h)) ?_ ?_
    · rintro i x σ H2 hi ⟨f0, x3, x4, x5, rfl, kp, hd2, hl2⟩
      obtain ⟨g, rfl, hg, hg2⟩ : ∃ g : Int, x = .int g ∧ 0 < g ∧ g < 4294967296 := by
        match i, hi with
        | 0, h => cases h; exact ⟨_, rfl, by decide, by decide⟩
        | 1, h => cases h; exact ⟨_, rfl, by decide, by decide⟩
        | 2, h => cases h; exact ⟨_, rfl, by decide, by decide⟩
      refine ⟨_, rfl, _, _, rfl, rfl, .inr ⟨by decide, by decide⟩, _, rfl, _, _, rfl, rfl, ⟨by decide, by decide⟩, _, _, rfl, rfl, _, rfl, _, _, rfl, rfl, hg, ?_⟩
      have hc2 : H2 c = some (.lst (cs.map V.int)) := kp _ _ hc npc.symm
      refine ⟨_, rfl, p, _, rfl, get_cells hd2, c, rfl, ⟨_, .inl (.inl hc2)⟩, ?_⟩
      refine for_list (K := K) (a := c) (xs := cs.map V.int) (fun i σ H3 => ∃ (e : Int) (y5 : Option V), σ = [some (.ref p), some (.int (turn + 1)), some (.int f0), some (.int g), some (.int e), y5] ∧ (0 ≤ e ∧ e < g) ∧ H3 = H2)
        ⟨_, x5, rfl, ⟨Int.emod_nonneg _ (by omega), Int.emod_lt_of_pos _ hg⟩, rfl⟩ (fun i σ H3 _ ⟨_, _, _, _, h⟩ => by rw [h]; exact .inl (.inl hc2)) ?_ ?_
      · rintro j y σ H3 hj ⟨e, y5, rfl, ⟨he0, he1⟩, rfl⟩
        obtain ⟨z, rfl⟩ : ∃ z, y = V.int z := by
          rw [List.getElem?_map] at hj
          cases e : cs[j]? with
          | none => rw [e] at hj; cases hj
          | some z => rw [e] at hj; exact ⟨z, (Option.some.inj hj).symm⟩
        refine ⟨_, rfl, _, _, rfl, rfl, .inr ⟨by decide, by decide⟩, _, rfl, .inl ⟨_, rfl, _, _, rfl, rfl, _, rfl, _, _, rfl, rfl, hg, ?_⟩⟩
        exact ⟨_, _, rfl, ⟨Int.emod_nonneg _ (by omega), Int.emod_lt_of_pos _ hg⟩, rfl⟩
      · rintro σ H3 ⟨e, y5, rfl, ⟨he0, he1⟩, rfl⟩
        refine ⟨_, rfl, _, _, rfl, rfl, .inr ⟨by decide, by decide⟩, _, rfl, _, _, rfl, rfl, ⟨by decide, by decide, by omega⟩, _, rfl, _, _, rfl, rfl, hg, _, _, rfl, rfl, ?_⟩
        exact ⟨_, _, _, _, rfl, kp, hd2, hl2⟩
    · rintro σ H2 ⟨f0, x3, x4, x5, rfl, kp, hd2, hl2⟩
      exact ⟨_, rfl, q _ _ ⟨⟨_, _, hd2⟩, ⟨_, kp _ _ hb npb.symm⟩, ⟨_, kp _ _ hc npc.symm⟩, nbc⟩ fun a o e h _ => kp a o e h⟩
end
end Kz

namespace Kz
open PySem PySem.Spec PyProof.Rows L2
theorem canAll_ints : ∀ ns : List Int, PyData.canLayAll0 (ns.map .int) = true
  | [] => by simp [PyData.canLayAll0]
  | n :: r => by
    have h := canAll_ints r
    simp [PyData.canLayAll0, PyData.canLay0, h]
theorem depAll_ints : ∀ ns : List Int, PyData.depthAll (ns.map .int) = 0
  | [] => by simp [PyData.depthAll]
  | n :: r => by
    have h := depAll_ints r
    simp [PyData.depthAll, PyData.depth, h]
theorem shp_ints (ns : List Int) : SeqAt.shaped (.list (ns.map .int)) = true := by
  unfold SeqAt.shaped
  simp only [PyData.canLay0, PyData.depth, canAll_ints, depAll_ints]
  decide
theorem dpAll_ints {K : PySem.W.Frag} {H : Hp} : ∀ ns : List Int, DpAll K H (ns.map V.int) (ns.map PyData.int)
  | [] => .nil
  | n :: r => .cons (.int n) (dpAll_ints r)
theorem ex_ints {ns : List Int} {i : Nat} {x : V} (h : (ns.map V.int)[i]? = some x) : ∃ n, ns[i]? = some n ∧ x = .int n := by
  rw [List.getElem?_map] at h
  cases e : ns[i]? with
  | none => rw [e] at h; cases h
  | some n => rw [e] at h; exact ⟨n, rfl, (Option.some.inj h).symm⟩
section
variable {P : Program} {w : World} {K : PySem.W.Frag} {mg : Str → Option Value} {base : Heap}
def spTake (K : PySem.W.Frag) : Sp := fun vs H Q _ => ∃ p b c n, vs = [.ref p, .int n] ∧ DrawAt H p b c ∧ 0 < n ∧ n < 2 ^ 64 ∧ ∀ r H', 0 ≤ r → r < n → DrawAt H' p b c → But2 H H' p b → Q (.int r) H'
theorem ok_take {f fM : Addr} {fd fdM : FuncData} {k : Nat} (F : Fun K "_law_take" "_law_take" sTake f fd) (mi : mg "int" = none) (FM : Fun K "_law_mixed" "_law_mixed" sMixed fM fdM) (bM : Binds K fdM ["draw"] []) (gM : mg "_law_mixed" = some (.ref fM)) : FnOk P w K mg base CX0 (k + 2) f fd ["draw", "amount"] (spTake K) := by
  have GM : FnOk P w K mg base CX0 (k + 1) fM fdM ["draw"] (spMixed K) := ok_mixed FM mi
  refine F.ok scTake (fun vs H Q E h => ?_) (fun cdv A outer s H vs Q E hr h => ?_)
  · obtain ⟨p, b, c, n, rfl, _⟩ := h
    rfl
  · obtain ⟨p, b, c, n, rfl, D, hn, hn2, q⟩ := h
    have hu := hu_of hr
    refine ⟨_, pss_cons (ps_if (pt_cmpR op_eq (pe_dget hu (pv 0) pe_str (fun _ _ => rfl)) pe_int (nomark _))
        (pss_one (ps_dput hu (pv 0) pe_str (pe_ifExp (pt_cmpR (op_neD hr.units) (pe_dget hu (pv 0) pe_str (fun _ _ => rfl)) (pe_lst pa_nil) (nomark _))
            (pe_bm PySem.F.plainAttrs_list PySem.F.slot_list_pop PySem.F.type_list_pop mt_popAt (pe_dget hu (pv 0) pe_str (fun _ _ => rfl)) (pa_cons pe_int pa_nil))
            (pe_call GM hr (by rfl) gM FM.kp bM .nil pass0 (pa_cons (pv 0) pa_nil))) rfl)) pss_nil)
      (pss_cons (ps_set (i := 2) scTake.nd rfl (Or.inl rfl) (pe_op op_mod (pe_callTy call_int1 (by rfl) mi (by decide +kernel) (pa_cons (pe_dget hu (pv 0) pe_str (fun _ _ => rfl)) pa_nil)) (pv 1)))
      (pss_cons (ps_dput hu (pv 0) pe_str (pe_op op_fdivW (pe_callTy call_int1 (by rfl) mi (by decide +kernel) (pa_cons (pe_dget hu (pv 0) pe_str (fun _ _ => rfl)) pa_nil)) (pv 1)) rfl)
      (pss_one (ps_ret (pv 2))))), ?_⟩
    have w2 : ∀ x : Int, CDivW x n := fun _ => wide_div hn (b := 64) (by omega) (by decide) (by decide)
    have tail : ∀ H1, DrawAt H1 p b c → But2 H H1 p b → ∀ rest turn, H1 p = some (.dK (drawKV b c rest turn)) →
        Q (.int (rest % n)) (upd H1 p (.dK (drawKV b c (rest / n) turn))) := by
      intro H1 D1 B1 rest turn h1
      obtain ⟨_, ⟨lg, hb⟩, ⟨cs, hc⟩, nbc⟩ := id D1
      have npb := D1.pb
      have npc := D1.pc
      exact q _ _ (Int.emod_nonneg _ (by omega)) (Int.emod_lt_of_pos _ hn) ⟨⟨_, _, upd_same⟩, ⟨lg, by rw [upd_ne npb.symm]; exact hb⟩, ⟨cs, by rw [upd_ne npc.symm]; exact hc⟩, nbc⟩
        fun a o h h1 h2 => by rw [upd_ne h1]; exact B1 a o h h1 h2
    obtain ⟨⟨rest, turn, hd⟩, ⟨lg, hb⟩, ⟨cs, hc⟩, nbc⟩ := id D
    have npb := D.pb
    have npc := D.pc
    refine ⟨_, rfl, p, _, rfl, get_rest hd, rfl, _, rfl, ite2 (fun e => ?_) (fun e => ?_)⟩
    · refine ⟨_, rfl, p, _, rfl, get_large hd, by show 0 ≤ sizeLine; exact Nat.zero_le _, fun l hl => ?_⟩
      have s1 : Same H (upd H l (.lst [])) := same_upd hl
      refine ⟨.list (lg.map .int), .list [], .lst (.inl (.inl (s1 _ _ hb))) (dpAll_ints lg), .lst (.inl (.inl upd_same)) .nil, shp_ints lg, shp_ints [], _, rfl, ?_⟩
      cases lg with
      | nil =>
        rw [show (!PyData.eqv (.list (([] : List Int).map .int)) (.list [])) = false by simp [PyData.eqv, PyData.eqvAll]]
        refine iteF ⟨_, rfl, p, b, c, rfl, D.same s1, fun r H2 D2 B2 => ?_⟩
        obtain ⟨⟨r2, t2, hd2⟩, ⟨lg2, hb2⟩, ⟨cs2, hc2⟩, _⟩ := id D2
        have D3 : DrawAt (upd H2 p (.dK (drawKV b c r t2))) p b c := ⟨⟨_, _, upd_same⟩, ⟨lg2, by rw [upd_ne npb.symm]; exact hb2⟩, ⟨cs2, by rw [upd_ne npc.symm]; exact hc2⟩, nbc⟩
        refine ⟨_, rfl, p, _, rfl, set_rest hd2, ?_⟩
        refine ⟨_, rfl, p, _, rfl, get_rest upd_same, .inl ⟨_, rfl, _, rfl, _, _, rfl, rfl, hn, _, rfl, p, _, rfl, get_rest upd_same, .inl ⟨_, rfl, _, rfl, _, _, rfl, rfl, w2 _, _, rfl, p, _, rfl, set_rest upd_same, _, rfl, ?_⟩⟩⟩
        exact tail _ D3 (fun a o h h1 h2 => by rw [upd_ne h1]; exact B2 a o (s1 _ _ h) h1 h2) _ _ upd_same
      | cons y ys =>
        rw [show (!PyData.eqv (.list ((y :: ys).map .int)) (.list [])) = true by simp [PyData.eqv, PyData.eqvAll]]
        refine iteT ⟨_, rfl, p, _, rfl, get_large (s1 _ _ hd), .inl ⟨rfl, _, .inl (.inl (s1 _ _ hb))⟩, b, _, _, 0, _, rfl, rfl, s1 _ _ hb, by decide, by decide, by simp [seqIndex?], rfl, ?_⟩
        have hd2 : (upd (upd H l (.lst [])) b (.lst (((y :: ys).map V.int).eraseIdx 0))) p = some (.dK (drawKV b c rest turn)) := by rw [upd_ne npb]; exact s1 _ _ hd
        refine ⟨_, rfl, p, _, rfl, set_rest hd2, ?_⟩
        refine ⟨_, rfl, p, _, rfl, get_rest upd_same, .inl ⟨_, rfl, _, rfl, _, _, rfl, rfl, hn, _, rfl, p, _, rfl, get_rest upd_same, .inl ⟨_, rfl, _, rfl, _, _, rfl, rfl, w2 _, _, rfl, p, _, rfl, set_rest upd_same, _, rfl, ?_⟩⟩⟩
        refine tail _ ⟨⟨_, _, upd_same⟩, ⟨ys, ?_⟩, ⟨cs, ?_⟩, nbc⟩ (fun a o h h1 h2 => ?_) _ _ upd_same
        · rw [upd_ne npb.symm, upd_same]; rfl
        · rw [upd_ne npc.symm, upd_ne nbc.symm]; exact s1 _ _ hc
        · rw [upd_ne h1, upd_ne h2]; exact s1 _ _ h
    · refine ⟨_, rfl, p, _, rfl, get_rest hd, .inl ⟨_, rfl, _, rfl, _, _, rfl, rfl, hn, _, rfl, p, _, rfl, get_rest hd, .inl ⟨_, rfl, _, rfl, _, _, rfl, rfl, w2 _, _, rfl, p, _, rfl, set_rest hd, _, rfl, ?_⟩⟩⟩
      exact tail _ D But2.refl _ _ hd
def spPick (K : PySem.W.Frag) : Sp := fun vs H Q _ => ∃ p b c s xs, vs = [.ref p, .ref s] ∧ DrawAt H p b c ∧ SqL K H s xs ∧ s ≠ p ∧ s ≠ b ∧ 0 < xs.length ∧ xs.length < 2 ^ 20 ∧
  ∀ x H', x ∈ xs → DrawAt H' p b c → But2 H H' p b → Q x H'
end
end Kz

namespace Kz
open PySem PySem.Spec PyProof.Rows L2
theorem But2.seq {K : PySem.W.Frag} {H H' : Hp} {p b a : Addr} {xs : List V} (B : But2 H H' p b) (h : SqL K H a xs) (h1 : a ≠ p) (h2 : a ≠ b) : SqL K H' a xs := by
  (rcases h with (h | ⟨o, h⟩) | h)
  · exact .inl (.inl (B _ _ h h1 h2))
  · exact .inl (.inr ⟨o, B _ _ h h1 h2⟩)
  · exact .inr h
theorem yesT {σ : L2.St} {H : Hp} {A B : Hp → Prop} (h : A H) : tYes σ H (fun b H3 => if b = true then A H3 else B H3) := by
  show (if true = true then A H else B H)
  rw [if_pos rfl]
  exact h
theorem s13 : ¬ ("large" : Str) = ("cells" : Str) := by decide +kernel
theorem s23 : ¬ ("rest" : Str) = ("cells" : Str) := by decide +kernel
theorem app_ints {H : Hp} {D : Addr} {l : List Int} {i : Nat} {z : Int} (h : l.length ≤ i) : ∃ l' : List Int, l'.length ≤ i + 1 ∧ upd (upd H D (.lst (l.map V.int))) D (.lst (l.map V.int ++ [.int z])) = upd H D (.lst (l'.map V.int)) := by
  refine ⟨l ++ [z], by rw [List.length_append]; simp; omega, ?_⟩
  rw [upd_upd, List.map_append]
  rfl
section
variable {P : Program} {w : World} {K : PySem.W.Frag} {mg : Str → Option Value} {base : Heap}
theorem ok_pick {f fT : Addr} {fd fdT : FuncData} {k : Nat} (F : Fun K "_law_pick" "_law_pick" sPick f fd) (ml : mg "len" = none) (GT : FnOk P w K mg base CX0 k fT fdT ["draw", "amount"] (spTake K)) (kT : PySem.W.keepIn K (.ref fT) = true) (bT : Binds K fdT ["draw", "amount"] []) (gT : mg "_law_take" = some (.ref fT)) :
    FnOk P w K mg base CX0 (k + 1) f fd ["draw", "some"] (spPick K) := by
  refine F.ok scPick (fun vs H Q E h => ?_) (fun cdv A outer s H vs Q E hr h => ?_)
  · obtain ⟨p, b, c, s, xs, rfl, _⟩ := h
    rfl
  · obtain ⟨p, b, c, s, xs, rfl, D, hS, n1, n2, h0, hx, q⟩ := h
    refine ⟨_, pss_one (ps_ret (pe_ix ix_list (pv 1) (pe_call GT hr (by rfl) gT kT bT .nil pass0 (pa_cons (pv 0) (pa_cons (pe_callB call_len_seq (by rfl) ml PySem.boot_len (pa_cons (pv 1) pa_nil)) pa_nil))) (fun _ _ => rfl))), ?_⟩
    refine ⟨_, rfl, _, rfl, _, rfl, s, xs, rfl, .inl hS, p, b, c, _, rfl, D, by omega, by omega, fun r H' r0 r1 D' B' => ?_⟩
    have hl : r.toNat < xs.length := by omega
    exact ⟨s, xs, r, xs[r.toNat], rfl, rfl, B'.seq hS n1 n2, at_of (j := r.toNat) (by omega) (List.getElem?_eq_getElem hl), q _ _ (List.getElem_mem hl) D' B'⟩
def spBegun (K : PySem.W.Frag) : Sp := fun vs H Q _ => ∃ (a : Addr) (ns : List Int), vs = [.ref a] ∧ SqL K H a (ns.map V.int) ∧ ns.length ≤ 1000 ∧ ∀ H' p b c, Same H H' → H p = none → H b = none → H c = none → DrawAt H' p b c → Q (.ref p) H'
theorem ok_begun {f : Addr} {fd : FuncData} {k : Nat} (F : Fun K "_law_begun" "_law_begun" sBegun f fd) (ma : mg "abs" = none) : FnOk P w K mg base CX0 (k + 1) f fd ["script"] (spBegun K) := by
  refine F.ok scBegun (fun vs H Q E h => ?_) (fun cdv A outer s H vs Q E hr h => ?_)
  · obtain ⟨a, ns, rfl, _⟩ := h
    rfl
  · obtain ⟨a, ns, rfl, hS, hlen, q⟩ := h
    have hu := hu_of hr
    refine ⟨_, pss_cons (ps_setLc (i := 1) (own := [("grain", 2)]) (g := gName 2) (by rfl) scBegun.nd rfl rfl (sw_true rfl rfl rfl (by decide +kernel)) (pi_list (pv 0)) (blkOk_by (own := [("grain", 2)]) (N := ["script", "large", "grain"]) (sc := defScope sBegun) (by decide +kernel)) (fun _ _ _ _ _ => pg_name (i := 2) scBegun.nd rfl (Or.inl rfl))
        (fun _ _ _ _ _ => pts_one (pt_cmpR op_ge (pe_callB call_abs (by rfl) ma (by decide +kernel) (pa_cons (pv 2) pa_nil)) (pe_op op_pow pe_int pe_int) (nomark _)))
        (fun _ _ _ _ _ => pe_op op_sub (pe_callB call_abs (by rfl) ma (by decide +kernel) (pa_cons (pv 2) pa_nil)) (pe_op op_pow pe_int pe_int)))
      (pss_one (ps_ret (pe_disp (pps_cons pe_str (pv 1) (pps_cons pe_str pe_int (pps_cons pe_str
        (pe_lc (own := [("grain", 2)]) (g := gName 2) (tt := tYes) (by rfl) scBegun.nd (pi_list (pv 0)) (blkOk_by (own := [("grain", 2)]) (N := ["script", "large", "grain"]) (sc := defScope sBegun) (by decide +kernel)) (fun _ _ _ _ _ => pg_name (i := 2) scBegun.nd rfl (Or.inl rfl)) (fun _ _ _ _ _ => pts_nil)
          (fun _ _ _ _ _ => pe_callB call_abs (by rfl) ma (by decide +kernel) (pa_cons (pv 2) pa_nil)))
        (pps_cons pe_str pe_int pps_nil)))) (by rfl) (by rfl) (fun z => by cases z) (by decide)))), ?_⟩
    refine ⟨_, rfl, a, rfl, ⟨_, hS⟩, fun D nD => ?_⟩
    have sD : ∀ o, Same H (upd H D o) := fun o => same_upd nD
    refine lc_list (K := K) (a := a) (xs := ns.map V.int) (fun i H2 => ∃ l : List Int, l.length ≤ i ∧ H2 = upd H D (.lst (l.map V.int))) ⟨[], Nat.le_refl _, rfl⟩ (fun i H2 _ ⟨l, _, e⟩ => by rw [e]; exact (sD _).seq hS) ?_ ?_
    · rintro i x H2 hx ⟨l, hl, rfl⟩
      have hi : i < 1000 := by
        have h := (List.getElem?_eq_some_iff.mp hx).1
        rw [List.length_map] at h
        omega
      obtain ⟨n, hn, rfl⟩ := ex_ints hx
      refine ⟨rfl, _, rfl, _, rfl, _, _, rfl, rfl, ⟨by decide, by decide, by decide⟩, _, _, rfl, rfl, _, rfl, ite2 (fun _ => ?_) (fun _ => ?_)⟩
      · refine ⟨_, rfl, _, rfl, _, _, rfl, rfl, ⟨by decide, by decide, by decide⟩, _, _, rfl, rfl, _, upd_same, ?_, ?_⟩
        · rw [List.length_map]
          exact small1000 (by omega)
        · exact app_ints hl
      · exact ⟨l, by omega, rfl⟩
    · rintro H2 ⟨l, hl, rfl⟩
      refine fun p np => ⟨_, rfl, _, rfl, a, rfl, ⟨_, ((sD _).trans (same_upd np)).seq hS⟩, fun D2 nD2 => ?_⟩
      obtain ⟨npD, np0⟩ := upd_none np
      obtain ⟨n1, nD2'⟩ := upd_none nD2
      obtain ⟨n2, nD20⟩ := upd_none nD2'
      have s3 : ∀ o2, Same H (upd (upd (upd H D (.lst (l.map V.int))) p (.dK [])) D2 o2) := fun o2 => ((sD _).trans (same_upd np)).trans (same_upd nD2)
      refine lc_list (K := K) (a := a) (xs := ns.map V.int) (fun i H2 => ∃ l2 : List Int, l2.length ≤ i ∧ H2 = upd (upd (upd H D (.lst (l.map V.int))) p (.dK [])) D2 (.lst (l2.map V.int))) ⟨[], Nat.le_refl _, rfl⟩ (fun i H2 _ ⟨l2, _, e⟩ => by rw [e]; exact (s3 _).seq hS) ?_ ?_
      · rintro i x H2 hx ⟨l2, hl2, rfl⟩
        have hi : i < 1000 := by
          have h := (List.getElem?_eq_some_iff.mp hx).1
          rw [List.length_map] at h
          omega
        obtain ⟨n, hn, rfl⟩ := ex_ints hx
        refine ⟨rfl, yesT ⟨_, rfl, _, rfl, _, upd_same, ?_, ?_⟩⟩
        · rw [List.length_map]
          exact small1000 (by omega)
        · exact app_ints hl2
      · rintro H2 ⟨l2, hl2, rfl⟩
        refine ⟨by rw [upd_ne n1.symm]; exact upd_same, [(.inr "large", .ref D), (.inr "rest", .int 0), (.inr "cells", .ref D2), (.inr "turn", .int 0)], rfl, by show 4 ≤ 15; decide, ?_⟩
        have em : mergeK [] [(.inr "large", .ref D), (.inr "rest", .int 0), (.inr "cells", .ref D2), (.inr "turn", .int 0)] = drawKV D D2 0 0 := by
          unfold drawKV mergeK
          simp [putK, s12, s32, s42, s14, s24, s34, s13, s23]
        rw [em]
        refine q _ p D D2 (fun b o e => ?_) np0 nD nD20 ⟨⟨0, 0, upd_same⟩, ⟨l, ?_⟩, ⟨l2, ?_⟩, n2.symm⟩
        · rw [upd_ne (ne_of_none e np0)]; exact s3 _ _ _ e
        · rw [upd_ne npD.symm, upd_ne n2.symm, upd_ne npD.symm]; exact upd_same
        · rw [upd_ne n1]; exact upd_same
end
end Kz

namespace Kz
open PySem PySem.Spec PyProof.Rows L2 Gk Ky
abbrev sBook : Stmt := inClass (topS 2) 0
abbrev sNumber : Stmt := inClass (topS 9) 0
abbrev sText : Stmt := inClass (topS 15) 0
abbrev sMark : Stmt := inClass (topS 18) 0
abbrev sWatch : Stmt := inClass (topS 19) 0
abbrev sMany : Stmt := inClass (topS 24) 0
theorem scBook : FnScope ["self", "part"] ["self", "part"] (defScope sBook) := ⟨rfl, rfl, rfl, by decide +kernel, rfl, by decide +kernel, by decide +kernel⟩
theorem scNumber : FnScope ["self", "part"] ["self", "part"] (defScope sNumber) := ⟨rfl, rfl, rfl, by decide +kernel, rfl, by decide +kernel, by decide +kernel⟩
theorem scText : FnScope ["self", "at"] ["self", "at"] (defScope sText) := ⟨rfl, rfl, rfl, by decide +kernel, rfl, by decide +kernel, by decide +kernel⟩
theorem scMark : FnScope ["self", "name"] ["self", "name"] (defScope sMark) := ⟨rfl, rfl, rfl, by decide +kernel, rfl, by decide +kernel, by decide +kernel⟩
theorem scWatch : FnScope ["self", "name"] ["self", "name"] (defScope sWatch) := ⟨rfl, rfl, rfl, by decide +kernel, rfl, by decide +kernel, by decide +kernel⟩
theorem scMany : FnScope ["self", "most"] ["self", "most"] (defScope sMany) := ⟨rfl, rfl, rfl, by decide +kernel, rfl, by decide +kernel, by decide +kernel⟩
/-- it can be shown, in few signs -/
def Short (d : PyData) : Prop := d.showable = true ∧ d.depth ≤ 50 ∧ d.shown.length ≤ 10000
theorem Short.fits {d : PyData} (h : Short d) : Fits d := ⟨h.1, Nat.le_trans h.2.1 (by decide), Nat.le_trans h.2.2 (by decide)⟩
theorem joined_short {z : Str} {d : PyData} (h : Short d) (hz : z.length ≤ 1000) : (Str.empty ++ z ++ d.shown).length ≤ sizeLine := by
  have h2 := h.2.2
  have e : (Str.empty ++ z ++ d.shown).length = z.length + d.shown.length := by
    have e0 : Str.empty.length = 0 := rfl
    rw [Str.length_append, Str.length_append, e0, Nat.zero_add]
  rw [e]
  exact Nat.le_trans (by omega : _ ≤ 11000) (by decide)
/-- what an __init__ leaves -/
def spInit (K : PySem.W.Frag) (C : Addr) (f : Str) : Sp := fun vs H Q _ => ∃ a x d, vs = [.ref a, x] ∧ OexC K C ∧ PySem.W.findIn K (.ref C) f = some none ∧ H a = some (exo a C none) ∧ ShowD K H x d ∧ Short d ∧
  ∀ dd, H dd = none → dd ≠ a → Q .non (upd (upd H dd (exd dd [(f, x)])) a (exo a C (some dd)))
section
variable {P : Program} {w : World} {K : PySem.W.Frag} {mg : Str → Option Value} {base : Heap}
theorem ok_book {f C B : Addr} {fd : FuncData} {k : Nat} (F : Fun K "__init__" "BadBook.__init__" sBook f fd) (gB : mg "RuleError" = some (.ref B)) (iB : InitOf K B) : FnG P w K mg base CX0 (k + 1) f fd ["self", "part"] (spInit K C "part") := by
  refine okG F scBook (fun vs H Q E h => ?_) (fun cdv A outer s H vs Q E hA hr h => ?_)
  · obtain ⟨a, x, d, rfl, _⟩ := h
    rfl
  · obtain ⟨a, x, d, rfl, T, hno, ha, hx, hs, q⟩ := h
    refine ⟨_, pss_cons (ps_expr (pe_baseinit (by rfl) gB iB (pa_cons (pv 0) (pa_cons (pe_joined (.cons pe_str (.cons (pe_show hA.deeper hr.units (pv 1)) .nil))) pa_nil))))
      (pss_one (ps_ost (pv 0) (pv 1))), ?_⟩
    refine ⟨_, rfl, _, rfl, (by decide), _, rfl, d, hx, hs.fits, _, rfl, joined_short hs (by decide), a, C, _, rfl, (by show 1 ≤ 1000; decide), T, ha, ?_⟩
    exact ⟨_, rfl, _, rfl, a, C, rfl, T, hno, .inl ⟨ha, q⟩⟩
theorem ok_number {f C B : Addr} {fd : FuncData} {k : Nat} (F : Fun K "__init__" "BadNumber.__init__" sNumber f fd) (gB : mg "RuleError" = some (.ref B)) (iB : InitOf K B) : FnG P w K mg base CX0 (k + 1) f fd ["self", "part"] (spInit K C "part") := by
  refine okG F scNumber (fun vs H Q E h => ?_) (fun cdv A outer s H vs Q E hA hr h => ?_)
  · obtain ⟨a, x, d, rfl, _⟩ := h
    rfl
  · obtain ⟨a, x, d, rfl, T, hno, ha, hx, hs, q⟩ := h
    refine ⟨_, pss_cons (ps_expr (pe_baseinit (by rfl) gB iB (pa_cons (pv 0) (pa_cons (pe_joined (.cons pe_str (.cons (pe_show hA.deeper hr.units (pv 1)) .nil))) pa_nil))))
      (pss_one (ps_ost (pv 0) (pv 1))), ?_⟩
    refine ⟨_, rfl, _, rfl, (by decide), _, rfl, d, hx, hs.fits, _, rfl, joined_short hs (by decide), a, C, _, rfl, (by show 1 ≤ 1000; decide), T, ha, ?_⟩
    exact ⟨_, rfl, _, rfl, a, C, rfl, T, hno, .inl ⟨ha, q⟩⟩
theorem ok_text {f C B : Addr} {fd : FuncData} {k : Nat} (F : Fun K "__init__" "BadText.__init__" sText f fd) (gB : mg "RuleError" = some (.ref B)) (iB : InitOf K B) : FnG P w K mg base CX0 (k + 1) f fd ["self", "at"] (spInit K C "at") := by
  refine okG F scText (fun vs H Q E h => ?_) (fun cdv A outer s H vs Q E hA hr h => ?_)
  · obtain ⟨a, x, d, rfl, _⟩ := h
    rfl
  · obtain ⟨a, x, d, rfl, T, hno, ha, hx, hs, q⟩ := h
    refine ⟨_, pss_cons (ps_expr (pe_baseinit (by rfl) gB iB (pa_cons (pv 0) (pa_cons (pe_joined (.cons pe_str (.cons (pe_show hA.deeper hr.units (pv 1)) .nil))) pa_nil))))
      (pss_one (ps_ost (pv 0) (pv 1))), ?_⟩
    refine ⟨_, rfl, _, rfl, (by decide), _, rfl, d, hx, hs.fits, _, rfl, joined_short hs (by decide), a, C, _, rfl, (by show 1 ≤ 1000; decide), T, ha, ?_⟩
    exact ⟨_, rfl, _, rfl, a, C, rfl, T, hno, .inl ⟨ha, q⟩⟩
theorem ok_mark {f C B : Addr} {fd : FuncData} {k : Nat} (F : Fun K "__init__" "NoMark.__init__" sMark f fd) (gB : mg "RuleError" = some (.ref B)) (iB : InitOf K B) : FnG P w K mg base CX0 (k + 1) f fd ["self", "name"] (spInit K C "name") := by
  refine okG F scMark (fun vs H Q E h => ?_) (fun cdv A outer s H vs Q E hA hr h => ?_)
  · obtain ⟨a, x, d, rfl, _⟩ := h
    rfl
  · obtain ⟨a, x, d, rfl, T, hno, ha, hx, hs, q⟩ := h
    refine ⟨_, pss_cons (ps_expr (pe_baseinit (by rfl) gB iB (pa_cons (pv 0) (pa_cons (pe_joined (.cons pe_str (.cons (pe_show hA.deeper hr.units (pv 1)) .nil))) pa_nil))))
      (pss_one (ps_ost (pv 0) (pv 1))), ?_⟩
    refine ⟨_, rfl, _, rfl, (by decide), _, rfl, d, hx, hs.fits, _, rfl, joined_short hs (by decide), a, C, _, rfl, (by show 1 ≤ 1000; decide), T, ha, ?_⟩
    exact ⟨_, rfl, _, rfl, a, C, rfl, T, hno, .inl ⟨ha, q⟩⟩
theorem ok_watch {f C B : Addr} {fd : FuncData} {k : Nat} (F : Fun K "__init__" "NoWatch.__init__" sWatch f fd) (gB : mg "RuleError" = some (.ref B)) (iB : InitOf K B) : FnG P w K mg base CX0 (k + 1) f fd ["self", "name"] (spInit K C "name") := by
  refine okG F scWatch (fun vs H Q E h => ?_) (fun cdv A outer s H vs Q E hA hr h => ?_)
  · obtain ⟨a, x, d, rfl, _⟩ := h
    rfl
  · obtain ⟨a, x, d, rfl, T, hno, ha, hx, hs, q⟩ := h
    refine ⟨_, pss_cons (ps_expr (pe_baseinit (by rfl) gB iB (pa_cons (pv 0) (pa_cons (pe_joined (.cons pe_str (.cons (pe_show hA.deeper hr.units (pv 1)) .nil))) pa_nil))))
      (pss_one (ps_ost (pv 0) (pv 1))), ?_⟩
    refine ⟨_, rfl, _, rfl, (by decide), _, rfl, d, hx, hs.fits, _, rfl, joined_short hs (by decide), a, C, _, rfl, (by show 1 ≤ 1000; decide), T, ha, ?_⟩
    exact ⟨_, rfl, _, rfl, a, C, rfl, T, hno, .inl ⟨ha, q⟩⟩
theorem ok_many {f C B : Addr} {fd : FuncData} {k : Nat} (F : Fun K "__init__" "TooMany.__init__" sMany f fd) (gB : mg "RuleError" = some (.ref B)) (iB : InitOf K B) : FnG P w K mg base CX0 (k + 1) f fd ["self", "most"] (spInit K C "most") := by
  refine okG F scMany (fun vs H Q E h => ?_) (fun cdv A outer s H vs Q E hA hr h => ?_)
  · obtain ⟨a, x, d, rfl, _⟩ := h
    rfl
  · obtain ⟨a, x, d, rfl, T, hno, ha, hx, hs, q⟩ := h
    refine ⟨_, pss_cons (ps_expr (pe_baseinit (by rfl) gB iB (pa_cons (pv 0) (pa_cons (pe_joined (.cons pe_str (.cons (pe_show hA.deeper hr.units (pv 1)) .nil))) pa_nil))))
      (pss_one (ps_ost (pv 0) (pv 1))), ?_⟩
    refine ⟨_, rfl, _, rfl, (by decide), _, rfl, d, hx, hs.fits, _, rfl, joined_short hs (by decide), a, C, _, rfl, (by show 1 ≤ 1000; decide), T, ha, ?_⟩
    exact ⟨_, rfl, _, rfl, a, C, rfl, T, hno, .inl ⟨ha, q⟩⟩
end
end Kz

namespace Kz
open PySem PySem.Spec PyProof.Rows L2 Gk Ky
abbrev sErrs : Stmt := topS 33
theorem scErrs : FnScope ["each", "found"] ["each"] (defScope sErrs) := ⟨rfl, rfl, rfl, by decide +kernel, rfl, by decide +kernel, by decide +kernel⟩
/-- an error class with its own __init__, as the text has it -/
structure OwnE (P : Program) (w : World) (K : PySem.W.Frag) (mg : Str → Option Value) (base : Heap) (x f : Str) (C fI : Addr) (fd : FuncData) : Prop where
  gC : mg x = some (.ref C)
  T : OexC K C
  E : ErrC K C
  iC : PySem.W.findIn K (.ref C) "__init__" = some (some (.ref fI))
  tI : PySem.W.typeIn K (.ref fI) = some (.type "function")
  nf : PySem.W.findIn K (.ref C) f = some none
  G : FnG P w K mg base CX0 1 fI fd [("self" : Str), f] (spInit K C f)
  b : Binds K fd [("self" : Str), f] []
  bk : ∀ (self v : Value) (s : Shared), K.In s.heap → BindsTo s fd ⟨[self], [(f, v)]⟩ ([("self" : Str), f].zip [self, v])
abbrev tE1 (K : PySem.W.Frag) (C : Addr) (f : Str) : TE := tExcV C (spInit K C f) (tCons (tVar 0) tNil)
abbrev tE3 (K : PySem.W.Frag) (C : Addr) (f : Str) : TE := tExcK C (spInit K C f) (tVar 0)
theorem seqT_same {K : PySem.W.Frag} {H H' : Hp} {a : Addr} {xs : List V} (e : Same H H') (h : SqT K H a xs) : SqT K H' a xs := by
  (rcases h with (h | ⟨o, h⟩) | h)
  · exact .inl (.inl (e _ _ h))
  · exact .inl (.inr ⟨o, e _ _ h⟩)
  · exact .inr h
mutual
theorem dp_same {K : PySem.W.Frag} {H H' : Hp} (e : Same H H') : ∀ (d : PyData) (v : V), Dp K H v d → Dp K H' v d
  | .none, _, h => by cases h; exact .non
  | .bool b, _, h => by cases h; exact .bl b
  | .int i, _, h => by cases h; exact .int i
  | .str x, _, h => by cases h; exact .str x
  | .list ds, _, h => by
    cases h with
    | lst h1 h2 => exact .lst (e.seq h1) (dpAll_same e ds _ h2)
  | .tuple ds, _, h => by
    cases h with
    | tup h1 h2 => exact .tup (seqT_same e h1) (dpAll_same e ds _ h2)
  | .dict _, _, h => by cases h
theorem dpAll_same {K : PySem.W.Frag} {H H' : Hp} (e : Same H H') : ∀ (ds : List PyData) (vs : List V), DpAll K H vs ds → DpAll K H' vs ds
  | [], _, h => by cases h; exact .nil
  | d :: ds, _, h => by
    cases h with
    | cons h1 h2 => exact .cons (dp_same e d _ h1) (dpAll_same e ds _ h2)
end
theorem dic_same {K : PySem.W.Frag} {H H' : Hp} (e : Same H H') {v : V} {d : PyData} (h : DicAt K H v d) : DicAt K H' v d := by
  cases h with
  | e0 h => exact .e0 (e _ _ h)
  | e1 h ht => exact .e1 (e _ _ h) (seqT_same e ht)
theorem showD_same {K : PySem.W.Frag} {H H' : Hp} {x : V} {d : PyData} (h : ShowD K H x d) (s : Same H H') : ShowD K H' x d := by
  rcases h with h | h | ⟨p, v, w, dv, dw, h1, h2, h3, h4, h5, h6⟩
  · exact .inl (dp_same s d x h)
  · exact .inr (.inl (dic_same s h))
  · exact .inr (.inr ⟨p, v, w, dv, dw, h1, h2, s.seq h3, dic_same s h4, dic_same s h5, h6⟩)
section
variable {P : Program} {w : World} {K : PySem.W.Frag} {mg : Str → Option Value} {base : Heap} {x f : Str} {C fI : Addr} {fd : FuncData}
/-- an error made at a, its dict at dd -/
def made (H : Hp) (a dd C : Addr) (f : Str) (y : V) : Hp := upd (upd (upd H a (exo a C none)) dd (exd dd [(f, y)])) a (exo a C (some dd))
theorem made_same {H : Hp} {a dd C : Addr} {f : Str} {y : V} (ha : H a = none) (hd : H dd = none) : Same H (made H a dd C f y) := fun b o e => by
  have n1 := ne_of_none e ha
  have n2 := ne_of_none e hd
  unfold made
  rw [upd_ne n1, upd_ne n2, upd_ne n1]
  exact e
theorem made_at {H : Hp} {a dd C : Addr} {f : Str} {y : V} : made H a dd C f y a = some (exo a C (some dd)) := upd_same
theorem made_dict {H : Hp} {a dd C : Addr} {f : Str} {y : V} (n : dd ≠ a) : made H a dd C f y dd = some (exd dd [(f, y)]) := by
  unfold made
  rw [upd_ne n, upd_same]
theorem e1_read (O : OwnE P w K mg base x f C fI fd) {σ : L2.St} {H : Hp} {Q : VK} {y : V} {d : PyData} (hy : σ[0]? = some (some y)) (hs : ShowD K H y d) (sh : Short d)
    (q : ∀ a dd, H a = none → H dd = none → dd ≠ a → Q (.ref a) (made H a dd C f y)) : tE1 K C f σ H Q := by
  refine ⟨y, hy, by show 1 ≤ 1000; decide, fun a ha => ⟨a, y, d, rfl, O.T, O.nf, upd_same, showD_same hs (same_upd ha), sh, fun dd hd nd => ⟨rfl, ?_⟩⟩⟩
  obtain ⟨n1, hd0⟩ := upd_none hd
  exact q a dd ha hd0 nd
theorem e3_read (O : OwnE P w K mg base x f C fI fd) {σ : L2.St} {H : Hp} {Q : VK} {y : V} {d : PyData} (hy : σ[0]? = some (some y)) (hs : ShowD K H y d) (sh : Short d)
    (q : ∀ a dd, H a = none → H dd = none → dd ≠ a → Q (.ref a) (made H a dd C f y)) : tE3 K C f σ H Q := by
  refine ⟨y, hy, y, rfl, fun a ha => ⟨a, y, d, rfl, O.T, O.nf, upd_same, showD_same hs (same_upd ha), sh, fun dd hd nd => ⟨rfl, ?_⟩⟩⟩
  obtain ⟨n1, hd0⟩ := upd_none hd
  exact q a dd ha hd0 nd
theorem fld_read (O : OwnE P w K mg base x f C fI fd) {te : TE} {σ : L2.St} {H : Hp} {Q : VK} {y : V} (mk : ∀ Q' : VK, (∀ a dd, H a = none → H dd = none → dd ≠ a → Q' (.ref a) (made H a dd C f y)) → te σ H Q')
    (q : ∀ H', Same H H' → Q y H') : tErrF K f te σ H Q := by
  refine mk _ fun a dd ha hd nd => ⟨a, C, dd, [(f, y)], y, rfl, O.E, O.nf, made_at, made_dict nd, ?_, q _ (made_same ha hd)⟩
  simp [List.lookup]
/-- found.append((C(each), C(each).f, C(f=each).f)) -/
abbrev tRow (K : PySem.W.Frag) (C : Addr) (f : Str) : TS := tDrop (tBM K "list" rAppend (tVar 1) (tCons (tTup (tCons (tE1 K C f) (tCons (tErrF K f (tE1 K C f)) (tCons (tErrF K f (tE3 K C f)) tNil)))) tNil))
theorem row_read (O : OwnE P w K mg base x f C fI fd) {σ : L2.St} {H : Hp} {D : Ends} {y : V} {d : PyData} {p : Addr} {acc : List V} (hy : σ[0]? = some (some y)) (hp : σ[1]? = some (some (.ref p))) (hl : H p = some (.lst acc)) (hn : acc.length ≤ 100)
    (hs : ShowD K H y d) (sh : Short d)
    (q : ∀ H' e t, (∀ b o, H b = some o → b ≠ p → H' b = some o) → H' p = some (.lst (acc ++ [.ref t])) → H' t = some (.tup [.ref e, y, y]) → ErrAt H' e C → H t = none → H e = none → D.nx σ H') : tRow K C f D σ H := by
  refine ⟨.ref p, hp, .inl ⟨rfl, _, .inl (.inl hl)⟩, ?_⟩
  show tE1 K C f σ H fun u H1 => tErrF K f (tE1 K C f) σ H1 fun v H2 => tErrF K f (tE3 K C f) σ H2 fun z H3 => [u, v, z].length ≤ sizeLine ∧ ∀ t, H3 t = none → rAppend (.ref p) [.ref t] (upd H3 t (.tup [u, v, z])) fun _ H4 => D.nx σ H4
  refine e1_read O hy hs sh fun e de he hde nde => ?_
  have s1 : Same H (made H e de C f y) := made_same he hde
  refine fld_read O (fun Q' k => e1_read O hy (showD_same hs s1) sh k) fun H2 s2 => ?_
  refine fld_read O (fun Q' k => e3_read O hy (showD_same hs (s1.trans s2)) sh k) fun H3 s3 => ?_
  have s23 := s2.trans s3
  have s13 := s1.trans s23
  refine ⟨by show 3 ≤ sizeLine; decide, fun t ht => ⟨p, acc, .ref t, rfl, rfl, (s13.trans (same_upd ht)) _ _ hl, Nat.lt_of_le_of_lt hn (by decide), ?_⟩⟩
  have s4 : Same H3 (upd H3 t (.tup [.ref e, y, y])) := same_upd ht
  have ntp : t ≠ p := fun z => by
    have := s13 _ _ hl
    rw [← z, ht] at this
    cases this
  have nep : e ≠ p := fun z => by rw [z, hl] at he; cases he
  have ndp : de ≠ p := fun z => by rw [z, hl] at hde; cases hde
  refine q _ e t (fun b o hb nb => ?_) upd_same ?_ (.inr ⟨de, [(f, y)], ?_, ?_⟩) (s13.free ht) he
  · rw [upd_ne nb]
    exact s4 _ _ (s13 _ _ hb)
  · rw [upd_ne ntp, upd_same]
  · rw [upd_ne nep]
    exact s4 _ _ (s23 _ _ made_at)
  · rw [upd_ne ndp]
    exact s4 _ _ (s23 _ _ (made_dict nde))
end
end Kz

namespace Kz
open PySem PySem.Spec PyProof.Rows L2 Gk Ky
/-- the rows (error, y, y) of these classes -/
abbrev RowsAt (H : Hp) (y : V) : List V → List Addr → Prop := Paired fun v C => ∃ t e, v = .ref t ∧ H t = some (.tup [.ref e, y, y]) ∧ ErrAt H e C
theorem errAt_but {H H' : Hp} {e C p : Addr} {xs : List V} (h : ErrAt H e C) (hp : H p = some (.lst xs)) (k : ∀ b o, H b = some o → b ≠ p → H' b = some o) : ErrAt H' e C := by
  rcases h with h | ⟨d, fs, h1, h2⟩
  · exact .inl (k _ _ h (ne_of h hp (by intro z; cases z)))
  · exact .inr ⟨d, fs, k _ _ h1 (ne_of h1 hp (by intro z; cases z)), k _ _ h2 (ne_of h2 hp (by intro z; cases z))⟩
theorem RowsAt.but {H H' : Hp} {y : V} {p : Addr} {xs : List V} (hp : H p = some (.lst xs)) (k : ∀ b o, H b = some o → b ≠ p → H' b = some o) : ∀ {vs : List V} {Cs : List Addr}, RowsAt H y vs Cs → RowsAt H' y vs Cs
  | _, _, .nil => .nil
  | _, _, .cons ⟨t, e, h1, h2, h3⟩ r => .cons ⟨t, e, h1, k _ _ h2 (ne_of h2 hp (by intro z; cases z)), errAt_but h3 hp k⟩ (RowsAt.but hp k r)
theorem RowsAt.snoc {H : Hp} {y v : V} {C : Addr} : ∀ {vs : List V} {Cs : List Addr}, RowsAt H y vs Cs → (∃ t e, v = .ref t ∧ H t = some (.tup [.ref e, y, y]) ∧ ErrAt H e C) → RowsAt H y (vs ++ [v]) (Cs ++ [C])
  | _, _, .nil, h => .cons h .nil
  | _, _, .cons a r, h => .cons a (RowsAt.snoc r h)
section
variable {P : Program} {w : World} {K : PySem.W.Frag} {mg : Str → Option Value} {base : Heap} {x f : Str} {C fI : Addr} {fd : FuncData}
/-- between two rows: what is in the list, what was there ahead -/
structure Mid (K : PySem.W.Frag) (H0 H : Hp) (p : Addr) (y : V) (d : PyData) (vs : List V) (Cs : List Addr) : Prop where
  old : Same H0 H
  new : H0 p = none
  lst : H p = some (.lst vs)
  rows : RowsAt H y vs Cs
  few : vs.length ≤ 100
theorem Mid.row (O : OwnE P w K mg base x f C fI fd) {H0 H : Hp} {p : Addr} {y : V} {d : PyData} {vs : List V} {Cs : List Addr} (M : Mid K H0 H p y d vs Cs) (hf : vs.length ≤ 50) (hs : ShowD K H0 y d) (sh : Short d) {D : Ends}
    (q : ∀ H' t, Mid K H0 H' p y d (vs ++ [.ref t]) (Cs ++ [C]) → D.nx [some y, some (.ref p)] H') : tRow K C f D [some y, some (.ref p)] H := by
  refine row_read O rfl rfl M.lst M.few (showD_same hs M.old) sh fun H' e t k h1 h2 h3 h4 h5 => q H' t ⟨fun b o hb => k b o (M.old b o hb) (ne_of_none hb M.new), M.new, h1, (M.rows.but M.lst k).snoc ⟨t, e, rfl, h2, h3⟩, ?_⟩
  rw [List.length_append]
  show vs.length + 1 ≤ 100
  omega
def spErrs (K : PySem.W.Frag) (Cs : List Addr) : Sp := fun vs H Q _ => ∃ y d, vs = [y] ∧ ShowD K H y d ∧ Short d ∧ ∀ H' p rs, Same H H' → H p = none → H' p = some (.lst rs) → RowsAt H' y rs Cs → Q (.ref p) H'
theorem ok_errs {f1 C1 C2 C3 C4 C5 C6 i1 i2 i3 i4 i5 i6 : Addr} {fd d1 d2 d3 d4 d5 d6 : FuncData} {k : Nat} (F : Fun K "_law_errors_of" "_law_errors_of" sErrs f1 fd)
    (O1 : OwnE P w K mg base "BadNumber" "part" C1 i1 d1) (O2 : OwnE P w K mg base "BadBook" "part" C2 i2 d2) (O3 : OwnE P w K mg base "TooMany" "most" C3 i3 d3) (O4 : OwnE P w K mg base "NoWatch" "name" C4 i4 d4)
    (O5 : OwnE P w K mg base "NoMark" "name" C5 i5 d5) (O6 : OwnE P w K mg base "BadText" "at" C6 i6 d6) : FnG P w K mg base CX0 3 f1 fd ["each"] (spErrs K [C1, C2, C3, C4, C5, C6]) := by
  refine okG F scErrs (fun vs H Q E h => ?_) (fun cdv A outer s H vs Q E hA hr h => ?_)
  · obtain ⟨y, d, rfl, _⟩ := h
    rfl
  · obtain ⟨y, d, rfl, hs, sh, q⟩ := h
    have hD := hA.deeper (env := envOfC "_law_errors_of" (defScope sErrs) s.heap.objs.size f1 cdv)
    refine ⟨_, pss_cons (ps_set (i := 1) scErrs.nd rfl (.inl rfl) (pe_lst pa_nil))
      (pss_cons (ps_expr (pe_bm PySem.F.plainAttrs_list PySem.F.slot_list_append PySem.F.type_list_append mt_append (pv 1) (pa_cons (pe_tup (pa_cons (pe_excV O1.T O1.iC O1.tI O1.G hD hr O1.b pass0 (by rfl) O1.gC (pa_cons (pv 0) pa_nil)) (pa_cons (pe_errF (pe_excV O1.T O1.iC O1.tI O1.G hD hr O1.b pass0 (by rfl) O1.gC (pa_cons (pv 0) pa_nil))) (pa_cons (pe_errF (pe_excK O1.T O1.iC O1.tI O1.G hD hr O1.bk pass0 (by rfl) O1.gC (pv 0))) pa_nil)))) pa_nil)))
      (pss_cons (ps_expr (pe_bm PySem.F.plainAttrs_list PySem.F.slot_list_append PySem.F.type_list_append mt_append (pv 1) (pa_cons (pe_tup (pa_cons (pe_excV O2.T O2.iC O2.tI O2.G hD hr O2.b pass0 (by rfl) O2.gC (pa_cons (pv 0) pa_nil)) (pa_cons (pe_errF (pe_excV O2.T O2.iC O2.tI O2.G hD hr O2.b pass0 (by rfl) O2.gC (pa_cons (pv 0) pa_nil))) (pa_cons (pe_errF (pe_excK O2.T O2.iC O2.tI O2.G hD hr O2.bk pass0 (by rfl) O2.gC (pv 0))) pa_nil)))) pa_nil)))
      (pss_cons (ps_expr (pe_bm PySem.F.plainAttrs_list PySem.F.slot_list_append PySem.F.type_list_append mt_append (pv 1) (pa_cons (pe_tup (pa_cons (pe_excV O3.T O3.iC O3.tI O3.G hD hr O3.b pass0 (by rfl) O3.gC (pa_cons (pv 0) pa_nil)) (pa_cons (pe_errF (pe_excV O3.T O3.iC O3.tI O3.G hD hr O3.b pass0 (by rfl) O3.gC (pa_cons (pv 0) pa_nil))) (pa_cons (pe_errF (pe_excK O3.T O3.iC O3.tI O3.G hD hr O3.bk pass0 (by rfl) O3.gC (pv 0))) pa_nil)))) pa_nil)))
      (pss_cons (ps_expr (pe_bm PySem.F.plainAttrs_list PySem.F.slot_list_append PySem.F.type_list_append mt_append (pv 1) (pa_cons (pe_tup (pa_cons (pe_excV O4.T O4.iC O4.tI O4.G hD hr O4.b pass0 (by rfl) O4.gC (pa_cons (pv 0) pa_nil)) (pa_cons (pe_errF (pe_excV O4.T O4.iC O4.tI O4.G hD hr O4.b pass0 (by rfl) O4.gC (pa_cons (pv 0) pa_nil))) (pa_cons (pe_errF (pe_excK O4.T O4.iC O4.tI O4.G hD hr O4.bk pass0 (by rfl) O4.gC (pv 0))) pa_nil)))) pa_nil)))
      (pss_cons (ps_expr (pe_bm PySem.F.plainAttrs_list PySem.F.slot_list_append PySem.F.type_list_append mt_append (pv 1) (pa_cons (pe_tup (pa_cons (pe_excV O5.T O5.iC O5.tI O5.G hD hr O5.b pass0 (by rfl) O5.gC (pa_cons (pv 0) pa_nil)) (pa_cons (pe_errF (pe_excV O5.T O5.iC O5.tI O5.G hD hr O5.b pass0 (by rfl) O5.gC (pa_cons (pv 0) pa_nil))) (pa_cons (pe_errF (pe_excK O5.T O5.iC O5.tI O5.G hD hr O5.bk pass0 (by rfl) O5.gC (pv 0))) pa_nil)))) pa_nil)))
      (pss_cons (ps_expr (pe_bm PySem.F.plainAttrs_list PySem.F.slot_list_append PySem.F.type_list_append mt_append (pv 1) (pa_cons (pe_tup (pa_cons (pe_excV O6.T O6.iC O6.tI O6.G hD hr O6.b pass0 (by rfl) O6.gC (pa_cons (pv 0) pa_nil)) (pa_cons (pe_errF (pe_excV O6.T O6.iC O6.tI O6.G hD hr O6.b pass0 (by rfl) O6.gC (pa_cons (pv 0) pa_nil))) (pa_cons (pe_errF (pe_excK O6.T O6.iC O6.tI O6.G hD hr O6.bk pass0 (by rfl) O6.gC (pv 0))) pa_nil)))) pa_nil)))
      (pss_one (ps_ret (pv 1))))))))), ?_⟩
    refine ⟨Nat.zero_le _, fun p hp => ?_⟩
    have M0 : Mid K H (upd H p (.lst [])) p y d [] [] := ⟨same_upd hp, hp, upd_same, .nil, by decide⟩
    refine M0.row O1 (by decide) hs sh fun H1 t1 M1 => ?_
    refine M1.row O2 (by simp) hs sh fun H2 t2 M2 => ?_
    refine M2.row O3 (by simp) hs sh fun H3 t3 M3 => ?_
    refine M3.row O4 (by simp) hs sh fun H4 t4 M4 => ?_
    refine M4.row O5 (by simp) hs sh fun H5 t5 M5 => ?_
    refine M5.row O6 (by simp) hs sh fun H6 t6 M6 => ?_
    exact ⟨_, rfl, q H6 p _ M6.old M6.new M6.lst M6.rows⟩
end
end Kz

namespace Kz
open PySem PySem.Spec PyProof.Rows L2 Gk Ky
abbrev sPlain : Stmt := topS 32
theorem scPlain : FnScope ["words_here", "found"] ["words_here"] (defScope sPlain) := ⟨rfl, rfl, rfl, by decide +kernel, rfl, by decide +kernel, by decide +kernel⟩
abbrev veBases : List Value := [.type "ValueError", .type "Exception", .type "BaseException", .type "object"]
/-- an error class without __init__ of its own -/
structure PlainE (K : PySem.W.Frag) (mg : Str → Option Value) (x : Str) (C : Addr) : Prop where
  gC : mg x = some (.ref C)
  q : PySem.W.excIn K C veBases "ValueError.__new__" = true
  kC : PySem.W.keepIn K (.ref C) = true
  E : ErrC K C
/-- errors of these classes -/
abbrev ErrsAt (H : Hp) : List V → List Addr → Prop := Paired fun v C => ∃ e, v = .ref e ∧ ErrAt H e C
theorem errsAt_same {H H' : Hp} (s : Same H H') : ∀ {vs : List V} {Cs : List Addr}, ErrsAt H vs Cs → ErrsAt H' vs Cs
  | _, _, .nil => .nil
  | _, _, .cons ⟨e, h1, h2⟩ r => .cons ⟨e, h1, h2.same s⟩ (errsAt_same s r)
theorem errsAt_app {H : Hp} : ∀ {vs ws : List V} {Cs Ds : List Addr}, ErrsAt H vs Cs → ErrsAt H ws Ds → ErrsAt H (vs ++ ws) (Cs ++ Ds)
  | _, _, _, _, .nil, h => h
  | _, _, _, _, .cons a r, h => .cons a (errsAt_app r h)
abbrev tX (C : Addr) : TE := fun σ H Q => tVar 0 σ H fun _ H1 => ∀ a, H1 a = none → Q (.ref a) (upd H1 a (ExO (.ref C) a))
def tXs : List Addr → TA
  | [] => tNil
  | C :: Cs => tCons (tX C) (tXs Cs)
theorem xs_read {σ : L2.St} {y : V} (hy : σ[0]? = some (some y)) : ∀ (Cs : List Addr) (H : Hp) (Q : List V → Hp → Prop), (∀ H' vs, Same H H' → ErrsAt H' vs Cs → Q vs H') → tXs Cs σ H Q
  | [], H, Q, q => q H [] (Same.refl H) .nil
  | C :: Cs, H, Q, q => by
    refine ⟨y, hy, fun a ha => ?_⟩
    refine xs_read hy Cs _ _ fun H' vs s h => ?_
    exact q H' (.ref a :: vs) ((same_upd ha).trans s) (.cons ⟨a, rfl, .inl (s _ _ upd_same)⟩ h)
/-- found = found + [..] -/
abbrev tMore (Cs : List Addr) : TS := tAsg (tOp rCat (tVar 1) (tLst (tXs Cs))) (gName 1)
theorem more_read {Cs Ds : List Addr} {H0 H : Hp} {p : Addr} {y : V} {vs : List V} {D : Ends} (s0 : Same H0 H) (hl : H p = some (.lst vs)) (he : ErrsAt H vs Ds) (hn : (Cs ++ Ds).length ≤ 100)
    (q : ∀ H' p' ws, Same H0 H' → H0 p' = none → H' p' = some (.lst ws) → ErrsAt H' ws (Ds ++ Cs) → D.nx [some y, some (.ref p')] H') : tMore Cs D [some y, some (.ref p)] H := by
  refine ⟨.ref p, rfl, ?_⟩
  refine xs_read rfl Cs H _ fun H1 ws s1 h1 => ?_
  have e1 := Paired.length h1
  have e2 := Paired.length he
  rw [List.length_append] at hn
  refine ⟨Nat.le_trans (by omega : ws.length ≤ 100) (by decide), fun l hl1 => ?_⟩
  have s2 : Same H1 (upd H1 l (.lst ws)) := same_upd hl1
  refine ⟨p, l, vs, ws, rfl, rfl, s2 _ _ (s1 _ _ hl), upd_same, Nat.le_trans (by omega : _ ≤ 100) (by decide), fun p' hp' => ?_⟩
  have s3 : Same (upd H1 l (.lst ws)) (upd (upd H1 l (.lst ws)) p' (.lst (vs ++ ws))) := same_upd hp'
  have s4 := s1.trans (s2.trans s3)
  exact q _ p' _ (s0.trans s4) (s0.free ((s1.trans s2).free hp')) upd_same (errsAt_app (errsAt_same s4 he) (errsAt_same (s2.trans s3) h1))
section
variable {P : Program} {w : World} {K : PySem.W.Frag} {mg : Str → Option Value} {base : Heap}
def spPlain (K : PySem.W.Frag) (Cs : List Addr) : Sp := fun vs H Q _ => ∃ y, vs = [y] ∧ ∀ H' p ws, Same H H' → H p = none → H' p = some (.lst ws) → ErrsAt H' ws Cs → Q (.ref p) H'
theorem ok_plain {f C1 C2 C3 C4 C5 C6 C7 C8 C9 C10 C11 C12 C13 C14 C15 C16 C17 : Addr} {fd : FuncData} {k : Nat} (F : Fun K "_law_plain_errors" "_law_plain_errors" sPlain f fd)
    (O1 : PlainE K mg "BadPrime" C1) (O2 : PlainE K mg "BadWord" C2) (O3 : PlainE K mg "BadRow" C3) (O4 : PlainE K mg "BadTable" C4) (O5 : PlainE K mg "NotAlike" C5) (O6 : PlainE K mg "BadMap" C6) (O7 : PlainE K mg "NotFull" C7) (O8 : PlainE K mg "BadLower" C8)
    (O9 : PlainE K mg "BadOrder" C9) (O10 : PlainE K mg "NotTidy" C10) (O11 : PlainE K mg "BadWeb" C11) (O12 : PlainE K mg "BadCells" C12) (O13 : PlainE K mg "BadStart" C13) (O14 : PlainE K mg "BadDeed" C14) (O15 : PlainE K mg "BadName" C15) (O16 : PlainE K mg "BadLive" C16) (O17 : PlainE K mg "NothingLeft" C17) :
    FnOk P w K mg base CX0 (k + 1) f fd ["words_here"] (spPlain K [C1, C2, C3, C4, C5, C6, C7, C8, C9, C10, C11, C12, C13, C14, C15, C16, C17]) := by
  refine F.ok scPlain (fun vs H Q E h => ?_) (fun cdv A outer s H vs Q E hr h => ?_)
  · obtain ⟨y, rfl, _⟩ := h
    rfl
  · obtain ⟨y, rfl, q⟩ := h
    refine ⟨_, pss_cons (ps_set (i := 1) scPlain.nd rfl (.inl rfl) (pe_lst pa_nil))
      (pss_cons (ps_set (i := 1) scPlain.nd rfl (.inl rfl) (pe_op op_cat (pv 1) (pe_lst (pa_cons (pe_exc1 PySem.F.excBase_ValueError O1.q O1.gC O1.kC (by rfl) (pv 0)) (pa_cons (pe_exc1 PySem.F.excBase_ValueError O2.q O2.gC O2.kC (by rfl) (pv 0)) (pa_cons (pe_exc1 PySem.F.excBase_ValueError O3.q O3.gC O3.kC (by rfl) (pv 0)) (pa_cons (pe_exc1 PySem.F.excBase_ValueError O4.q O4.gC O4.kC (by rfl) (pv 0)) pa_nil)))))))
      (pss_cons (ps_set (i := 1) scPlain.nd rfl (.inl rfl) (pe_op op_cat (pv 1) (pe_lst (pa_cons (pe_exc1 PySem.F.excBase_ValueError O5.q O5.gC O5.kC (by rfl) (pv 0)) (pa_cons (pe_exc1 PySem.F.excBase_ValueError O6.q O6.gC O6.kC (by rfl) (pv 0)) (pa_cons (pe_exc1 PySem.F.excBase_ValueError O7.q O7.gC O7.kC (by rfl) (pv 0)) (pa_cons (pe_exc1 PySem.F.excBase_ValueError O8.q O8.gC O8.kC (by rfl) (pv 0)) pa_nil)))))))
      (pss_cons (ps_set (i := 1) scPlain.nd rfl (.inl rfl) (pe_op op_cat (pv 1) (pe_lst (pa_cons (pe_exc1 PySem.F.excBase_ValueError O9.q O9.gC O9.kC (by rfl) (pv 0)) (pa_cons (pe_exc1 PySem.F.excBase_ValueError O10.q O10.gC O10.kC (by rfl) (pv 0)) (pa_cons (pe_exc1 PySem.F.excBase_ValueError O11.q O11.gC O11.kC (by rfl) (pv 0)) (pa_cons (pe_exc1 PySem.F.excBase_ValueError O12.q O12.gC O12.kC (by rfl) (pv 0)) pa_nil)))))))
      (pss_cons (ps_set (i := 1) scPlain.nd rfl (.inl rfl) (pe_op op_cat (pv 1) (pe_lst (pa_cons (pe_exc1 PySem.F.excBase_ValueError O13.q O13.gC O13.kC (by rfl) (pv 0)) (pa_cons (pe_exc1 PySem.F.excBase_ValueError O14.q O14.gC O14.kC (by rfl) (pv 0)) (pa_cons (pe_exc1 PySem.F.excBase_ValueError O15.q O15.gC O15.kC (by rfl) (pv 0)) (pa_cons (pe_exc1 PySem.F.excBase_ValueError O16.q O16.gC O16.kC (by rfl) (pv 0)) pa_nil)))))))
      (pss_cons (ps_set (i := 1) scPlain.nd rfl (.inl rfl) (pe_op op_cat (pv 1) (pe_lst (pa_cons (pe_exc1 PySem.F.excBase_ValueError O17.q O17.gC O17.kC (by rfl) (pv 0)) pa_nil))))
      (pss_one (ps_ret (pv 1)))))))), ?_⟩
    refine ⟨Nat.zero_le _, fun p hp => ?_⟩
    refine more_read (Cs := [C1, C2, C3, C4]) (H0 := H) (same_upd hp) upd_same .nil (by simp) fun H1 p1 w1 s1 n1 l1 e1 => ?_
    refine more_read (Cs := [C5, C6, C7, C8]) s1 l1 e1 (by simp) fun H2 p2 w2 s2 n2 l2 e2 => ?_
    refine more_read (Cs := [C9, C10, C11, C12]) s2 l2 e2 (by simp) fun H3 p3 w3 s3 n3 l3 e3 => ?_
    refine more_read (Cs := [C13, C14, C15, C16]) s3 l3 e3 (by simp) fun H4 p4 w4 s4 n4 l4 e4 => ?_
    refine more_read (Cs := [C17]) s4 l4 e4 (by simp) fun H5 p5 w5 s5 n5 l5 e5 => ?_
    exact ⟨_, rfl, q H5 p5 _ s5 n5 l5 e5⟩
end
end Kz

namespace Kz
open PySem PySem.Spec PyProof.Rows L2 Gk Ky
abbrev sKinds : Stmt := topS 31
theorem scKinds : FnScope ["error", "found"] ["error"] (defScope sKinds) := ⟨rfl, rfl, rfl, by decide +kernel, rfl, by decide +kernel, by decide +kernel⟩
/-- a class as isinstance sees it: what stands behind it -/
structure KCls (K : PySem.W.Frag) (C : Addr) (up : List Value) : Prop where
  cl : ∃ cd, PySem.W.clsIn K C = some cd ∧ cd.mro = .ref C :: up
  ty : PySem.W.typeIn K (.ref C) = some (.type "type")
theorem kit_refs {K : PySem.W.Frag} {C0 C : Addr} {up up' : List Value} (h0 : KCls K C0 up) (h : KCls K C up') (hn : up.contains (.ref C) = false) : PySem.W.kitOne K (.ref C0) (.ref C) = some (decide (C0 = C)) := by
  obtain ⟨⟨cd0, e0, m0⟩, _⟩ := h0
  obtain ⟨⟨cd, e1, _⟩, t1⟩ := h
  unfold PySem.W.kitOne
  by_cases e : C0 = C
  · subst e
    simp
  · rw [if_neg (by simp [e]), decide_eq_false e]
    unfold PySem.W.kitCls
    simp only [e1, t1, Option.isSome_some, beq_self_eq_true, Bool.and_self, if_true]
    unfold PySem.W.subIn PySem.W.mroIn
    simp only [e0, m0, Option.bind_some, List.isEmpty_cons, Bool.false_eq_true, if_false, List.contains_cons, hn, Bool.or_false]
    have e' : ¬ C = C0 := fun z => e z.symm
    simp [e']
theorem kit_up {K : PySem.W.Frag} {C0 B : Addr} {up up' : List Value} (h0 : KCls K C0 up) (h : KCls K B up') (hn : up.contains (.ref B) = true) : PySem.W.kitOne K (.ref C0) (.ref B) = some true := by
  obtain ⟨⟨cd0, e0, m0⟩, _⟩ := h0
  obtain ⟨⟨cd, e1, _⟩, t1⟩ := h
  unfold PySem.W.kitOne
  split
  · rfl
  · unfold PySem.W.kitCls
    simp only [e1, t1, Option.isSome_some, beq_self_eq_true, Bool.and_self, if_true]
    unfold PySem.W.subIn PySem.W.mroIn
    simp only [e0, m0, Option.bind_some, List.isEmpty_cons, Bool.false_eq_true, if_false, List.contains_cons, hn, Bool.or_true]
theorem kit_ve {K : PySem.W.Frag} {C0 : Addr} {up : List Value} (h0 : KCls K C0 up) (hn : up.contains (.type "ValueError") = true) : PySem.W.kitOne K (.ref C0) (.type "ValueError") = some true := by
  obtain ⟨⟨cd0, e0, m0⟩, _⟩ := h0
  unfold PySem.W.kitOne
  split
  · rfl
  · unfold PySem.W.kitCls
    show (if PySem.W.kitMeta "ValueError" = true then PySem.W.subIn K (.ref C0) (.type "ValueError") else none) = some true
    rw [if_pos (by decide +kernel)]
    unfold PySem.W.subIn PySem.W.mroIn
    simp only [e0, m0, Option.bind_some, List.isEmpty_cons, Bool.false_eq_true, if_false, List.contains_cons, hn, Bool.or_true]
/-- what each isinstance of a row gives -/
abbrev tI (K : PySem.W.Frag) (C : Addr) : TE := tCB (rIsX K) (tCons (tVar 0) (tCons (tC (.ref C)) tNil))
def tIs (K : PySem.W.Frag) : List Addr → TA
  | [] => tNil
  | C :: Cs => tCons (tI K C) (tIs K Cs)
theorem is_read {K : PySem.W.Frag} {σ : L2.St} {H : Hp} {e C0 : Addr} (hy : σ[0]? = some (some (.ref e))) (he : ErrAt H e C0) (hC : ErrC K C0) (hK : ErrK K) : ∀ (Cs : List Addr) (Q : List V → Hp → Prop), (∀ C ∈ Cs, PySem.W.kitOne K (.ref C0) (.ref C) = some (decide (C0 = C))) →
    Q (Cs.map fun C => V.bl (decide (C0 = C))) H → tIs K Cs σ H Q
  | [], Q, _, q => q
  | C :: Cs, Q, h, q => by
    refine ⟨.ref e, hy, e, C0, .ref C, .ref C, _, rfl, he, hC, hK, .own C, h C List.mem_cons_self, ?_⟩
    exact is_read hy he hC hK Cs _ (fun D hD => h D (List.mem_cons_of_mem _ hD)) q
abbrev tKin (K : PySem.W.Frag) (Cs : List Addr) : TS := tAsg (tOp rCat (tVar 1) (tLst (tIs K Cs))) (gName 1)
theorem kin_read {K : PySem.W.Frag} {H0 H : Hp} {e C0 p : Addr} {Cs Ds : List Addr} {D : Ends} (s0 : Same H0 H) (he : ErrAt H0 e C0) (hC : ErrC K C0) (hK : ErrK K) (h : ∀ C ∈ Cs, PySem.W.kitOne K (.ref C0) (.ref C) = some (decide (C0 = C)))
    (hl : H p = some (.lst (Ds.map fun C => V.bl (decide (C0 = C))))) (hn : (Ds ++ Cs).length ≤ 100)
    (q : ∀ H' p', Same H0 H' → H0 p' = none → H' p' = some (.lst ((Ds ++ Cs).map fun C => V.bl (decide (C0 = C)))) → D.nx [some (.ref e), some (.ref p')] H') : tKin K Cs D [some (.ref e), some (.ref p)] H := by
  rw [List.length_append] at hn
  refine ⟨.ref p, rfl, ?_⟩
  refine is_read rfl (he.same s0) hC hK Cs _ h ⟨by rw [List.length_map]; exact Nat.le_trans (by omega : _ ≤ 100) (by decide), fun l hl1 => ?_⟩
  have s2 := same_upd (o := .lst (Cs.map fun C => V.bl (decide (C0 = C)))) hl1
  refine ⟨p, l, _, _, rfl, rfl, s2 _ _ hl, upd_same, by rw [List.length_map, List.length_map]; exact Nat.le_trans (by omega : _ ≤ 100) (by decide), fun p' hp' => ?_⟩
  refine q _ p' (s0.trans (s2.trans (same_upd hp'))) (s0.free (s2.free hp')) ?_
  rw [upd_same, List.map_append]
section
variable {P : Program} {w : World} {K : PySem.W.Frag} {mg : Str → Option Value} {base : Heap}
def spKinds (K : PySem.W.Frag) (Cs : List Addr) : Sp := fun vs H Q _ => ∃ e C0, vs = [.ref e] ∧ ErrAt H e C0 ∧ ErrC K C0 ∧ ErrK K ∧ (∀ C ∈ Cs, PySem.W.kitOne K (.ref C0) (.ref C) = some (decide (C0 = C))) ∧
  ∀ H' p, Same H H' → H p = none → H' p = some (.lst (Cs.map fun C => V.bl (decide (C0 = C)))) → Q (.ref p) H'
theorem ok_kinds {f : Addr} {fd : FuncData} {k : Nat} (F : Fun K "_law_kinds" "_law_kinds" sKinds f fd) (mi : mg "isinstance" = none) {C1 C2 C3 C4 C5 C6 C7 C8 C9 C10 C11 C12 C13 C14 C15 C16 C17 C18 C19 C20 C21 C22 C23 : Addr} (g1 : mg "BadPrime" = some (.ref C1)) (g2 : mg "BadWord" = some (.ref C2)) (g3 : mg "BadRow" = some (.ref C3)) (g4 : mg "BadTable" = some (.ref C4)) (g5 : mg "NotAlike" = some (.ref C5)) (g6 : mg "BadMap" = some (.ref C6)) (g7 : mg "NotFull" = some (.ref C7)) (g8 : mg "BadLower" = some (.ref C8)) (g9 : mg "BadOrder" = some (.ref C9)) (g10 : mg "NotTidy" = some (.ref C10)) (g11 : mg "BadWeb" = some (.ref C11)) (g12 : mg "BadCells" = some (.ref C12)) (g13 : mg "BadStart" = some (.ref C13)) (g14 : mg "BadDeed" = some (.ref C14)) (g15 : mg "BadName" = some (.ref C15)) (g16 : mg "BadLive" = some (.ref C16)) (g17 : mg "NothingLeft" = some (.ref C17)) (g18 : mg "BadNumber" = some (.ref C18)) (g19 : mg "BadBook" = some (.ref C19)) (g20 : mg "TooMany" = some (.ref C20)) (g21 : mg "NoWatch" = some (.ref C21)) (g22 : mg "NoMark" = some (.ref C22)) (g23 : mg "BadText" = some (.ref C23)) :
    FnOk P w K mg base CX0 (k + 1) f fd ["error"] (spKinds K [C1, C2, C3, C4, C5, C6, C7, C8, C9, C10, C11, C12, C13, C14, C15, C16, C17, C18, C19, C20, C21, C22, C23]) := by
  refine F.ok scKinds (fun vs H Q E h => ?_) (fun cdv A outer s H vs Q E hr h => ?_)
  · obtain ⟨e, C0, rfl, _⟩ := h
    rfl
  · obtain ⟨e, C0, rfl, he, hC, hK, hk, q⟩ := h
    refine ⟨_, pss_cons (ps_set (i := 1) scKinds.nd rfl (.inl rfl) (pe_lst pa_nil))
      (pss_cons (ps_set (i := 1) scKinds.nd rfl (.inl rfl) (pe_op op_cat (pv 1) (pe_lst (pa_cons (pe_callB call_isX (by rfl) mi (by decide +kernel) (pa_cons (pv 0) (pa_cons (pe_glob (v := .ref C1) (by rfl) g1 rfl) pa_nil))) (pa_cons (pe_callB call_isX (by rfl) mi (by decide +kernel) (pa_cons (pv 0) (pa_cons (pe_glob (v := .ref C2) (by rfl) g2 rfl) pa_nil))) (pa_cons (pe_callB call_isX (by rfl) mi (by decide +kernel) (pa_cons (pv 0) (pa_cons (pe_glob (v := .ref C3) (by rfl) g3 rfl) pa_nil))) pa_nil))))))
      (pss_cons (ps_set (i := 1) scKinds.nd rfl (.inl rfl) (pe_op op_cat (pv 1) (pe_lst (pa_cons (pe_callB call_isX (by rfl) mi (by decide +kernel) (pa_cons (pv 0) (pa_cons (pe_glob (v := .ref C4) (by rfl) g4 rfl) pa_nil))) (pa_cons (pe_callB call_isX (by rfl) mi (by decide +kernel) (pa_cons (pv 0) (pa_cons (pe_glob (v := .ref C5) (by rfl) g5 rfl) pa_nil))) (pa_cons (pe_callB call_isX (by rfl) mi (by decide +kernel) (pa_cons (pv 0) (pa_cons (pe_glob (v := .ref C6) (by rfl) g6 rfl) pa_nil))) pa_nil))))))
      (pss_cons (ps_set (i := 1) scKinds.nd rfl (.inl rfl) (pe_op op_cat (pv 1) (pe_lst (pa_cons (pe_callB call_isX (by rfl) mi (by decide +kernel) (pa_cons (pv 0) (pa_cons (pe_glob (v := .ref C7) (by rfl) g7 rfl) pa_nil))) (pa_cons (pe_callB call_isX (by rfl) mi (by decide +kernel) (pa_cons (pv 0) (pa_cons (pe_glob (v := .ref C8) (by rfl) g8 rfl) pa_nil))) (pa_cons (pe_callB call_isX (by rfl) mi (by decide +kernel) (pa_cons (pv 0) (pa_cons (pe_glob (v := .ref C9) (by rfl) g9 rfl) pa_nil))) pa_nil))))))
      (pss_cons (ps_set (i := 1) scKinds.nd rfl (.inl rfl) (pe_op op_cat (pv 1) (pe_lst (pa_cons (pe_callB call_isX (by rfl) mi (by decide +kernel) (pa_cons (pv 0) (pa_cons (pe_glob (v := .ref C10) (by rfl) g10 rfl) pa_nil))) (pa_cons (pe_callB call_isX (by rfl) mi (by decide +kernel) (pa_cons (pv 0) (pa_cons (pe_glob (v := .ref C11) (by rfl) g11 rfl) pa_nil))) (pa_cons (pe_callB call_isX (by rfl) mi (by decide +kernel) (pa_cons (pv 0) (pa_cons (pe_glob (v := .ref C12) (by rfl) g12 rfl) pa_nil))) pa_nil))))))
      (pss_cons (ps_set (i := 1) scKinds.nd rfl (.inl rfl) (pe_op op_cat (pv 1) (pe_lst (pa_cons (pe_callB call_isX (by rfl) mi (by decide +kernel) (pa_cons (pv 0) (pa_cons (pe_glob (v := .ref C13) (by rfl) g13 rfl) pa_nil))) (pa_cons (pe_callB call_isX (by rfl) mi (by decide +kernel) (pa_cons (pv 0) (pa_cons (pe_glob (v := .ref C14) (by rfl) g14 rfl) pa_nil))) (pa_cons (pe_callB call_isX (by rfl) mi (by decide +kernel) (pa_cons (pv 0) (pa_cons (pe_glob (v := .ref C15) (by rfl) g15 rfl) pa_nil))) pa_nil))))))
      (pss_cons (ps_set (i := 1) scKinds.nd rfl (.inl rfl) (pe_op op_cat (pv 1) (pe_lst (pa_cons (pe_callB call_isX (by rfl) mi (by decide +kernel) (pa_cons (pv 0) (pa_cons (pe_glob (v := .ref C16) (by rfl) g16 rfl) pa_nil))) (pa_cons (pe_callB call_isX (by rfl) mi (by decide +kernel) (pa_cons (pv 0) (pa_cons (pe_glob (v := .ref C17) (by rfl) g17 rfl) pa_nil))) (pa_cons (pe_callB call_isX (by rfl) mi (by decide +kernel) (pa_cons (pv 0) (pa_cons (pe_glob (v := .ref C18) (by rfl) g18 rfl) pa_nil))) pa_nil))))))
      (pss_cons (ps_set (i := 1) scKinds.nd rfl (.inl rfl) (pe_op op_cat (pv 1) (pe_lst (pa_cons (pe_callB call_isX (by rfl) mi (by decide +kernel) (pa_cons (pv 0) (pa_cons (pe_glob (v := .ref C19) (by rfl) g19 rfl) pa_nil))) (pa_cons (pe_callB call_isX (by rfl) mi (by decide +kernel) (pa_cons (pv 0) (pa_cons (pe_glob (v := .ref C20) (by rfl) g20 rfl) pa_nil))) (pa_cons (pe_callB call_isX (by rfl) mi (by decide +kernel) (pa_cons (pv 0) (pa_cons (pe_glob (v := .ref C21) (by rfl) g21 rfl) pa_nil))) pa_nil))))))
      (pss_cons (ps_set (i := 1) scKinds.nd rfl (.inl rfl) (pe_op op_cat (pv 1) (pe_lst (pa_cons (pe_callB call_isX (by rfl) mi (by decide +kernel) (pa_cons (pv 0) (pa_cons (pe_glob (v := .ref C22) (by rfl) g22 rfl) pa_nil))) (pa_cons (pe_callB call_isX (by rfl) mi (by decide +kernel) (pa_cons (pv 0) (pa_cons (pe_glob (v := .ref C23) (by rfl) g23 rfl) pa_nil))) pa_nil)))))
      (pss_one (ps_ret (pv 1))))))))))), ?_⟩
    have sub : ∀ Ds : List Addr, (∀ C ∈ Ds, C ∈ [C1, C2, C3, C4, C5, C6, C7, C8, C9, C10, C11, C12, C13, C14, C15, C16, C17, C18, C19, C20, C21, C22, C23]) → ∀ C ∈ Ds, PySem.W.kitOne K (.ref C0) (.ref C) = some (decide (C0 = C)) := fun Ds hD C hC' => hk C (hD C hC')
    refine ⟨Nat.zero_le _, fun p0 hp => ?_⟩
    have l0 : (upd H p0 (.lst [])) p0 = some (.lst (([] : List Addr).map fun C => V.bl (decide (C0 = C)))) := upd_same
    have s0 := same_upd (o := .lst []) hp
    refine kin_read (Cs := [C1, C2, C3]) (Ds := []) s0 he hC hK (sub _ (by simp)) l0 (by simp) fun H1 p1 s1 n1 l1 => ?_
    refine kin_read (Cs := [C4, C5, C6]) (Ds := [C1, C2, C3]) s1 he hC hK (sub _ (by simp)) l1 (by simp) fun H2 p2 s2 n2 l2 => ?_
    refine kin_read (Cs := [C7, C8, C9]) (Ds := [C1, C2, C3, C4, C5, C6]) s2 he hC hK (sub _ (by simp)) l2 (by simp) fun H3 p3 s3 n3 l3 => ?_
    refine kin_read (Cs := [C10, C11, C12]) (Ds := [C1, C2, C3, C4, C5, C6, C7, C8, C9]) s3 he hC hK (sub _ (by simp)) l3 (by simp) fun H4 p4 s4 n4 l4 => ?_
    refine kin_read (Cs := [C13, C14, C15]) (Ds := [C1, C2, C3, C4, C5, C6, C7, C8, C9, C10, C11, C12]) s4 he hC hK (sub _ (by simp)) l4 (by simp) fun H5 p5 s5 n5 l5 => ?_
    refine kin_read (Cs := [C16, C17, C18]) (Ds := [C1, C2, C3, C4, C5, C6, C7, C8, C9, C10, C11, C12, C13, C14, C15]) s5 he hC hK (sub _ (by simp)) l5 (by simp) fun H6 p6 s6 n6 l6 => ?_
    refine kin_read (Cs := [C19, C20, C21]) (Ds := [C1, C2, C3, C4, C5, C6, C7, C8, C9, C10, C11, C12, C13, C14, C15, C16, C17, C18]) s6 he hC hK (sub _ (by simp)) l6 (by simp) fun H7 p7 s7 n7 l7 => ?_
    refine kin_read (Cs := [C22, C23]) (Ds := [C1, C2, C3, C4, C5, C6, C7, C8, C9, C10, C11, C12, C13, C14, C15, C16, C17, C18, C19, C20, C21]) s7 he hC hK (sub _ (by simp)) l7 (by simp) fun H8 p8 s8 n8 l8 => ?_
    exact ⟨_, rfl, q _ p8 s8 n8 l8⟩
end
end Kz

namespace Kz
open PySem PySem.Spec PyProof.Rows L2 Gk Ky
abbrev sAny : Stmt := topS 30
theorem scAny : FnScope ["draw", "some"] ["draw"] (defScope sAny) := ⟨rfl, rfl, rfl, by decide +kernel, rfl, by decide +kernel, by decide +kernel⟩
/-- data, or a small dict -/
def OneD (K : PySem.W.Frag) (H : Hp) (x : V) (d : PyData) : Prop := Dp K H x d ∨ DicAt K H x d
theorem OneD.show {K : PySem.W.Frag} {H : Hp} {x : V} {d : PyData} (h : OneD K H x d) : ShowD K H x d := h.elim .inl fun z => .inr (.inl z)
theorem oneD_same {K : PySem.W.Frag} {H H' : Hp} {x : V} {d : PyData} (h : OneD K H x d) (s : Same H H') : OneD K H' x d := h.elim (fun z => .inl (dp_same s d x z)) fun z => .inr (dic_same s z)
/-- what has been laid since H -/
def newPart (H H' : Hp) : Hp := fun a => if H a = none then H' a else none
theorem newPart_at {H H' : Hp} {a : Addr} {o : HO} (h : H a = none) (h' : H' a = some o) : newPart H H' a = some o := by
  unfold newPart
  rw [if_pos h]
  exact h'
theorem newPart_some {H H' : Hp} {a : Addr} {o : HO} (h : newPart H H' a = some o) : H a = none ∧ H' a = some o := by
  unfold newPart at h
  split at h
  · rename_i e
    exact ⟨e, h⟩
  · cases h
theorem newPart_grow {H H1 H2 : Hp} (s : Same H1 H2) : Same (newPart H H1) (newPart H H2) := fun a o h =>
  let ⟨h1, h2⟩ := newPart_some h
  newPart_at h1 (s _ _ h2)
theorem newPart_back {H H1 H2 : Hp} (s : Same H H1) : Same (newPart H1 H2) (newPart H H2) := fun a o h =>
  let ⟨h1, h2⟩ := newPart_some h
  newPart_at (s.free h1) h2
/-- an expression whose value can be shown, all of it laid anew -/
def Item (K : PySem.W.Frag) (te : TE) : Prop := ∀ (σ : L2.St) (H : Hp) (Q : VK), (∀ H' y d, Same H H' → OneD K (newPart H H') y d → Short d → Q y H') → te σ H Q
theorem short_dec {d : PyData} (h1 : d.showable = true) (h2 : d.depth ≤ 50) (h3 : d.shown.length ≤ 10000) : Short d := ⟨h1, h2, h3⟩
section
variable {K : PySem.W.Frag}
theorem item_non : Item K (tC .non) := fun σ H Q q => q H _ _ (Same.refl H) (.inl .non) ⟨by decide +kernel, by decide +kernel, by decide +kernel⟩
theorem item_false : Item K (tC (.bl false)) := fun σ H Q q => q H _ _ (Same.refl H) (.inl (.bl _)) ⟨by decide +kernel, by decide +kernel, by decide +kernel⟩
theorem item_str {z : Str} (h : Short (.str z)) : Item K (tC (.str z)) := fun σ H Q q => q H _ _ (Same.refl H) (.inl (.str _)) h
theorem item_neg5 : Item K (tUn (rU fun i => .int (-i)) (tC (.int 5))) := fun σ H Q q => ⟨_, rfl, q H _ (.int (-5)) (Same.refl H) (.inl (.int _)) ⟨by decide +kernel, by decide +kernel, by decide +kernel⟩⟩
theorem item_pow : Item K (tOp (rI CPow fun i j => .int (i ^ j.toNat)) (tC (.int 10)) (tC (.int 45))) := fun σ H Q q =>
  ⟨_, _, rfl, rfl, ⟨by decide, by decide, by decide⟩, q H _ (.int (10 ^ (45 : Int).toNat)) (Same.refl H) (.inl (.int _)) ⟨by decide +kernel, by decide +kernel, by decide +kernel⟩⟩
theorem item_nil : Item K (tLst tNil) := fun σ H Q q => ⟨Nat.zero_le _, fun p hp => q _ _ (.list []) (same_upd hp) (.inl (.lst (.inl (.inl (newPart_at hp upd_same))) .nil)) ⟨by decide +kernel, by decide +kernel, by decide +kernel⟩⟩
theorem item_unit : Item K (tTup tNil) := fun σ H Q q => ⟨Nat.zero_le _, fun p hp => q _ _ (.tuple []) (same_upd hp) (.inl (.tup (.inl (.inl (newPart_at hp upd_same))) .nil)) ⟨by decide +kernel, by decide +kernel, by decide +kernel⟩⟩
theorem item_four : Item K (tTup (tCons (tC (.int 4)) tNil)) := fun σ H Q q => ⟨by show 1 ≤ sizeLine; decide, fun p hp => q _ _ (.tuple [.int 4]) (same_upd hp) (.inl (.tup (.inl (.inl (newPart_at hp upd_same))) (.cons (.int 4) .nil))) ⟨by decide +kernel, by decide +kernel, by decide +kernel⟩⟩
theorem item_pair : Item K (tLst (tCons (tTup (tCons (tC (.int 0)) (tCons (tC (.int 2)) tNil))) tNil)) := fun σ H Q q =>
  ⟨by show 2 ≤ sizeLine; decide, fun t ht => ⟨by show 1 ≤ sizeLine; decide, fun p hp => by
    have s1 := same_upd (o := .tup [.int 0, .int 2]) ht
    have s2 := same_upd (o := .lst [.ref t]) hp
    exact q _ _ (.list [.tuple [.int 0, .int 2]]) (s1.trans s2) (.inl (.lst (.inl (.inl (newPart_at (s1.free hp) upd_same))) (.cons (.tup (.inl (.inl (newPart_at ht (s2 _ _ upd_same)))) (.cons (.int 0) (.cons (.int 2) .nil))) .nil))) ⟨by decide +kernel, by decide +kernel, by decide +kernel⟩⟩⟩
theorem item_none2 : Item K (tLst (tCons (tLst (tCons (tC .non) tNil)) tNil)) := fun σ H Q q =>
  ⟨by show 1 ≤ sizeLine; decide, fun t ht => ⟨by show 1 ≤ sizeLine; decide, fun p hp => by
    have s1 := same_upd (o := .lst [.non]) ht
    have s2 := same_upd (o := .lst [.ref t]) hp
    exact q _ _ (.list [.list [.none]]) (s1.trans s2) (.inl (.lst (.inl (.inl (newPart_at (s1.free hp) upd_same))) (.cons (.lst (.inl (.inl (newPart_at ht (s2 _ _ upd_same)))) (.cons .non .nil)) .nil))) ⟨by decide +kernel, by decide +kernel, by decide +kernel⟩⟩⟩
theorem item_dict0 : Item K tDNewK := fun σ H Q q => fun p hp => q _ _ (.dict []) (same_upd hp) (.inr (.e0 (newPart_at hp upd_same))) ⟨by decide +kernel, by decide +kernel, by decide +kernel⟩
theorem item_dict1 : Item K (tDisp [(tC (.str "a"), tTup (tCons (tC (.int 1)) tNil))]) := fun σ H Q q => fun p hp => by
  refine ⟨by show 1 ≤ sizeLine; decide, fun t ht => ?_⟩
  obtain ⟨ntp, ht0⟩ := upd_none ht
  refine ⟨by rw [upd_ne ntp.symm, upd_same], [(.inr "a", .ref t)], rfl, by show 1 ≤ 15; decide, ?_⟩
  refine q _ _ (.dict [(.str "a", .tuple [.int 1])]) (fun b o e => ?_) (.inr (.e1 (t := t) (newPart_at hp upd_same) (.inl (.inl (newPart_at ht0 ?_))))) ⟨by decide +kernel, by decide +kernel, by decide +kernel⟩
  · rw [upd_ne (ne_of_none e hp), upd_ne (ne_of_none e ht0), upd_ne (ne_of_none e hp)]
    exact e
  · rw [upd_ne ntp, upd_same]
/-- several of them, so many -/
def Items (K : PySem.W.Frag) (t : TA) (n : Nat) : Prop := ∀ (σ : L2.St) (H : Hp) (Q : List V → Hp → Prop), (∀ H' ys, Same H H' → (∀ y ∈ ys, ∃ d, OneD K (newPart H H') y d ∧ Short d) → ys.length = n → Q ys H') → t σ H Q
theorem items_nil : Items K tNil 0 := fun σ H Q q => q H [] (Same.refl H) (fun y hy => nomatch hy) rfl
theorem items_cons {te : TE} {t : TA} {n : Nat} (h : Item K te) (r : Items K t n) : Items K (tCons te t) (n + 1) := fun σ H Q q =>
  h σ H _ fun H1 y d s1 hd sh => r σ H1 _ fun H2 ys s2 hy hl => by
    refine q H2 (y :: ys) (s1.trans s2) (fun z hz => ?_) (by rw [List.length_cons, hl])
    (rcases List.mem_cons.mp hz with rfl | hz)
    · exact ⟨d, oneD_same hd (newPart_grow s2), sh⟩
    · obtain ⟨e, he, se⟩ := hy z hz
      exact ⟨e, oneD_same he (newPart_back s1), se⟩
end
section
variable {P : Program} {w : World} {K : PySem.W.Frag} {mg : Str → Option Value} {base : Heap}
theorem anyItems : Items K (tCons (tC .non) (tCons (tC (.bl false)) (tCons (tUn (rU fun i => .int (-i)) (tC (.int 5))) (tCons (tOp (rI CPow fun i j => .int (i ^ j.toNat)) (tC (.int 10)) (tC (.int 45))) (tCons (tC (.str "")) (tCons (tC (.str "wide")) (tCons (tC (.str "two words"))
    (tCons (tLst tNil) (tCons (tLst (tCons (tTup (tCons (tC (.int 0)) (tCons (tC (.int 2)) tNil))) tNil)) (tCons (tTup tNil) (tCons (tTup (tCons (tC (.int 4)) tNil)) (tCons tDNewK (tCons (tDisp [(tC (.str "a"), tTup (tCons (tC (.int 1)) tNil))])
    (tCons (tLst (tCons (tLst (tCons (tC .non) tNil)) tNil)) tNil)))))))))))))) 14 :=
  items_cons item_non (items_cons item_false (items_cons item_neg5 (items_cons item_pow (items_cons (item_str ⟨by decide +kernel, by decide +kernel, by decide +kernel⟩) (items_cons (item_str ⟨by decide +kernel, by decide +kernel, by decide +kernel⟩)
      (items_cons (item_str ⟨by decide +kernel, by decide +kernel, by decide +kernel⟩) (items_cons item_nil (items_cons item_pair (items_cons item_unit (items_cons item_four (items_cons item_dict0 (items_cons item_dict1 (items_cons item_none2 items_nil)))))))))))))
theorem asg_lst_read {t : TA} {n i : Nat} (I : Items K t n) (hn : n ≤ 1000) {D : Ends} {σ : L2.St} {H : Hp} (q : ∀ H1 l ys, Same H H1 → H1 l = none → (∀ y ∈ ys, ∃ d, OneD K (newPart H H1) y d ∧ Short d) → ys.length = n → D.nx (σ.set i (some (.ref l))) (upd H1 l (.lst ys))) :
    tAsg (tLst t) (gName i) D σ H := by
  refine I σ H _ fun H1 ys s1 hy hl => ⟨by rw [hl]; exact Nat.le_trans hn (by decide), fun l hl1 => q H1 l ys s1 hl1 hy hl⟩
def spAny (K : PySem.W.Frag) : Sp := fun vs H Q _ => ∃ p b c, vs = [.ref p] ∧ DrawAt H p b c ∧ ∀ y d H', OneD K H' y d → Short d → DrawAt H' p b c → But2 H H' p b → Q y H'
theorem ok_any {f fP : Addr} {fd fdP : FuncData} {k : Nat} (F : Fun K "_law_any" "_law_any" sAny f fd) (GP : FnOk P w K mg base CX0 k fP fdP ["draw", "some"] (spPick K)) (kP : PySem.W.keepIn K (.ref fP) = true) (bP : Binds K fdP ["draw", "some"] []) (gP : mg "_law_pick" = some (.ref fP)) :
    FnOk P w K mg base CX0 (k + 1) f fd ["draw"] (spAny K) := by
  refine F.ok scAny (fun vs H Q E h => ?_) (fun cdv A outer s H vs Q E hr h => ?_)
  · obtain ⟨p, b, c, rfl, _⟩ := h
    rfl
  · obtain ⟨p, b, c, rfl, D, q⟩ := h
    refine ⟨_, pss_cons (ps_set (i := 1) scAny.nd rfl (.inl rfl) (pe_lst (pa_cons pe_non (pa_cons pe_bl (pa_cons (pe_un un_neg pe_int) (pa_cons (pe_op op_pow pe_int pe_int) (pa_cons pe_str (pa_cons pe_str (pa_cons pe_str (pa_cons (pe_lst pa_nil) (pa_cons (pe_lst (pa_cons (pe_tup (pa_cons pe_int (pa_cons pe_int pa_nil))) pa_nil)) (pa_cons (pe_tup pa_nil) (pa_cons (pe_tup (pa_cons pe_int pa_nil)) (pa_cons pe_dnewK (pa_cons (pe_disp (pps_cons pe_str (pe_tup (pa_cons pe_int pa_nil)) pps_nil) (by rfl) (by rfl) (fun z => by cases z) (by decide)) (pa_cons (pe_lst (pa_cons (pe_lst (pa_cons pe_non pa_nil)) pa_nil)) pa_nil))))))))))))))))
      (pss_one (ps_ret (pe_call GP hr (by rfl) gP kP bP .nil pass0 (pa_cons (pv 0) (pa_cons (pv 1) pa_nil))))), ?_⟩
    refine asg_lst_read (K := K) anyItems (by decide) (fun H1 l ys s1 hl1 hy hl => ?_)
    have s2 := same_upd (o := .lst ys) hl1
    have D2 := D.same (s1.trans s2)
    obtain ⟨⟨rest, turn, hd⟩, ⟨lg, hb⟩, _⟩ := id D
    have nlp : l ≠ p := fun z => by
      have e := s1 _ _ hd
      rw [← z, hl1] at e
      cases e
    have nlb : l ≠ b := fun z => by
      have e := s1 _ _ hb
      rw [← z, hl1] at e
      cases e
    refine ⟨_, rfl, _, rfl, p, b, c, l, ys, rfl, D2, .inl (.inl upd_same), nlp, nlb, by omega, by rw [hl]; decide, fun x H' hx D' B' => ?_⟩
    obtain ⟨d, hd1, sh⟩ := hy x hx
    refine q x d H' (oneD_same hd1 fun a o e => ?_) sh D' ((But2.of_same (s1.trans s2)).trans B')
    obtain ⟨e1, e2⟩ := newPart_some e
    exact B' a o (s2 _ _ e2) (fun z => by rw [z, hd] at e1; cases e1) (fun z => by rw [z, hb] at e1; cases e1)
end
end Kz

namespace Kz
open PySem PySem.Spec PyProof.Rows L2 Gk Ky
theorem two_len (a b : Str) : (listText [a, b]).length = a.length + b.length + 4 := by
  unfold listText
  have e1 : (Str.ofString "[").length = 1 := rfl
  have e2 : (Str.ofString "").length = 0 := rfl
  have e3 : (Str.ofString ", ").length = 2 := rfl
  have e4 : (Str.ofString "]").length = 1 := rfl
  have e5 : Str.empty.length = 0 := rfl
  have i1 : (if (0:Nat) > 0 then ", " else "") = "" := rfl
  have i2 : (if (0:Nat) + 1 > 0 then ", " else "") = ", " := rfl
  simp only [textFrom, Str.length_append, e1, i1, i2, e2, e3, e4, e5]
  omega
theorem fits_two {d : PyData} (h : Short d) : Fits (.list [d, d]) := by
  refine ⟨?_, ?_, ?_⟩
  · simp only [PyData.showable, PyData.showableAll, h.1, Bool.and_self]
  · simp only [PyData.depth, PyData.depthAll]
    have := h.2.1
    omega
  · simp only [PyData.shown, PyData.shownAll, two_len]
    have := h.2.2
    exact Nat.le_trans (by omega : _ ≤ 20004) (by decide)
theorem canAll_bools : ∀ bs : List Bool, PyData.canLayAll0 (bs.map .bool) = true
  | [] => by simp [PyData.canLayAll0]
  | n :: r => by
    have h := canAll_bools r
    simp [PyData.canLayAll0, PyData.canLay0, h]
theorem depAll_bools : ∀ bs : List Bool, PyData.depthAll (bs.map .bool) = 0
  | [] => by simp [PyData.depthAll]
  | n :: r => by
    have h := depAll_bools r
    simp [PyData.depthAll, PyData.depth, h]
theorem shp_bools (bs : List Bool) : SeqAt.shaped (.list (bs.map .bool)) = true := by
  unfold SeqAt.shaped
  simp only [PyData.canLay0, PyData.depth, canAll_bools, depAll_bools]
  decide
theorem dpAll_bools {K : PySem.W.Frag} {H : Hp} : ∀ bs : List Bool, DpAll K H (bs.map V.bl) (bs.map PyData.bool)
  | [] => .nil
  | n :: r => .cons (.bl n) (dpAll_bools r)
theorem eqv_bools : ∀ bs : List Bool, PyData.eqvAll (bs.map .bool) (bs.map .bool) = true
  | [] => by simp [PyData.eqvAll]
  | n :: r => by
    have h := eqv_bools r
    simp [PyData.eqvAll, PyData.eqv, h]
theorem row_of {Cs : List Addr} {i : Nat} {C : Addr} (hn : Cs.Nodup) (hi : Cs[i]? = some C) : Cs.map (fun D => decide (C = D)) = (List.range Cs.length).map fun k => decide (k = i) := by
  obtain ⟨h1, h2⟩ := List.getElem?_eq_some_iff.mp hi
  refine List.ext_getElem (by simp) fun j a b => ?_
  simp only [List.getElem_map, List.getElem_range, decide_eq_decide]
  constructor
  · intro e
    exact ((List.getElem_inj hn).mp (h2.trans e)).symm
  · intro e
    subst e
    exact h2.symm
end Kz

namespace Kz
open PySem PySem.Spec PyProof.Rows L2 Gk Ky
abbrev sLaw : Stmt := topS 34
abbrev NL : List Str := ["script", "draw", "words_here", "each", "threes_here", "errors_here", "spot", "error", "base_here", "item", "k"]
theorem scLaw : FnScope NL ["script"] (defScope sLaw) := ⟨rfl, rfl, rfl, by decide +kernel, rfl, by decide +kernel, by decide +kernel⟩
theorem paired_get {α β : Type} {R : α → β → Prop} : ∀ {xs : List α} {ys : List β} {i : Nat} {x : α}, Paired R xs ys → xs[i]? = some x → ∃ y, ys[i]? = some y ∧ R x y
  | _, _, _, _, .nil, h => by simp at h
  | _, _, 0, _, .cons r _, h => ⟨_, rfl, by cases h; exact r⟩
  | _, _, i + 1, _, .cons _ t, h => paired_get (i := i) t h
theorem errsAt_snoc {H : Hp} {C e : Addr} : ∀ {vs : List V} {Cs : List Addr}, ErrsAt H vs Cs → ErrAt H e C → ErrsAt H (vs ++ [.ref e]) (Cs ++ [C])
  | _, _, .nil, h => .cons ⟨e, rfl, h⟩ .nil
  | _, _, .cons a r, h => .cons a (errsAt_snoc r h)
theorem rowsAt_same {H H' : Hp} {y : V} (s : Same H H') {vs : List V} {Cs : List Addr} (h : RowsAt H y vs Cs) : RowsAt H' y vs Cs :=
  Paired.mapP h fun v C ⟨t, e, h1, h2, h3⟩ => ⟨t, e, h1, s _ _ h2, h3.same s⟩
theorem two_show {K : PySem.W.Frag} {H : Hp} {L : Addr} {y : V} {d : PyData} (hm : L ≠ sysModules) (hL : SqL K H L [y, y]) (h : OneD K H y d) : ShowD K H (.ref L) (.list [d, d]) := by
  rcases h with h | h
  · exact .inl (.lst hL (.cons h (.cons h .nil)))
  · exact .inr (.inr ⟨L, y, y, d, d, rfl, hm, hL, h, h, rfl⟩)
section
variable {P : Program} {w : World} {K : PySem.W.Frag} {mg : Str → Option Value} {base : Heap}
structure LawKit (P : Program) (w : World) (K : PySem.W.Frag) (mg : Str → Option Value) (base : Heap) (B : Addr) (Cs : List Addr) : Prop where
  mi : mg "isinstance" = none
  me : mg "enumerate" = none
  mr : mg "range" = none
  mp : mg "repr" = none
  mv : mg "ValueError" = none
  gB : mg "RuleError" = some (.ref B)
  pB : PlainE K mg "RuleError" B
  begun : ∃ f fd, FnOk P w K mg base CX0 1 f fd ["script"] (spBegun K) ∧ PySem.W.keepIn K (.ref f) = true ∧ Binds K fd ["script"] [] ∧ mg "_law_begun" = some (.ref f)
  pick : ∃ f fd, FnOk P w K mg base CX0 4 f fd ["draw", "some"] (spPick K) ∧ PySem.W.keepIn K (.ref f) = true ∧ Binds K fd ["draw", "some"] [] ∧ mg "_law_pick" = some (.ref f)
  any : ∃ f fd, FnOk P w K mg base CX0 5 f fd ["draw"] (spAny K) ∧ PySem.W.keepIn K (.ref f) = true ∧ Binds K fd ["draw"] [] ∧ mg "_law_any" = some (.ref f)
  kinds : ∃ f fd, FnOk P w K mg base CX0 1 f fd ["error"] (spKinds K Cs) ∧ PySem.W.keepIn K (.ref f) = true ∧ Binds K fd ["error"] [] ∧ mg "_law_kinds" = some (.ref f)
  plain : ∃ f fd, FnOk P w K mg base CX0 1 f fd ["words_here"] (spPlain K (Cs.take 17)) ∧ PySem.W.keepIn K (.ref f) = true ∧ Binds K fd ["words_here"] [] ∧ mg "_law_plain_errors" = some (.ref f)
  errs : ∃ f fd, FnG P w K mg base CX0 3 f fd ["each"] (spErrs K (Cs.drop 17)) ∧ PySem.W.keepIn K (.ref f) = true ∧ Binds K fd ["each"] [] ∧ mg "_law_errors_of" = some (.ref f)
  len : Cs.length = 23
  nod : Cs.Nodup
  eK : ErrK K
  eC : ∀ C ∈ Cs, ErrC K C
  kk : ∀ C ∈ Cs, ∀ D ∈ Cs, PySem.W.kitOne K (.ref C) (.ref D) = some (decide (C = D))
  kB : ∀ C ∈ Cs, PySem.W.kitOne K (.ref C) (.ref B) = some true
  kV : ∀ C ∈ Cs, PySem.W.kitOne K (.ref C) (.type "ValueError") = some true
  bk : ∀ D ∈ Cs, PySem.W.kitOne K (.ref B) (.ref D) = some (decide (B = D))
  nB : B ∉ Cs
  bV : PySem.W.kitOne K (.ref B) (.type "ValueError") = some true
def spLaw (K : PySem.W.Frag) : Sp := fun vs H Q _ => ∃ (a : Addr) (ns : List Int), vs = [.ref a] ∧ SqL K H a (ns.map V.int) ∧ ns.length ≤ 63 ∧ ∀ H', Q (.bl true) H'
theorem ok_law {f B : Addr} {fd : FuncData} {Cs : List Addr} (F : Fun K "law" "law" sLaw f fd) (T : LawKit P w K mg base B Cs) : FnG P w K mg base CX0 6 f fd ["script"] (spLaw K) := by
  obtain ⟨fb, db, Gb, kb, bb, gb⟩ := T.begun
  obtain ⟨fp, dp, Gp, kp, bp, gp⟩ := T.pick
  obtain ⟨fa, da, Ga, ka, ba, ga⟩ := T.any
  obtain ⟨fk, dk, Gk, kk, bk, gk⟩ := T.kinds
  obtain ⟨fl, dl, Gl, kl, bl, gl⟩ := T.plain
  obtain ⟨fe, de, Ge, ke, be, ge⟩ := T.errs
  refine okG F scLaw (fun vs H Q E h => ?_) (fun cdv A outer s H vs Q E hA hr h => ?_)
  · obtain ⟨a, ns, rfl, _⟩ := h
    rfl
  · obtain ⟨a, ns, rfl, hS, hlen, q⟩ := h
    have hD := hA.deeper (env := envOfC "law" (defScope sLaw) s.heap.objs.size f cdv)
    refine ⟨_, pss_cons (ps_set (i := 1) scLaw.nd rfl (.inl rfl) (pe_call Gb (hr.mono (by decide)) (by rfl) gb kb bb .nil pass0 (pa_cons (pv 0) pa_nil)))
      (pss_cons (ps_asg (pe_tup (pa_cons (pe_call Gp (hr.mono (by decide)) (by rfl) gp kp bp .nil pass0 (pa_cons (pv 1) (pa_cons (pe_lst (pa_cons pe_str (pa_cons pe_str (pa_cons pe_str pa_nil)))) pa_nil))) (pa_cons (pe_call Ga (hr.mono (by decide)) (by rfl) ga ka ba .nil pass0 (pa_cons (pv 1) pa_nil)) pa_nil)))
          (pg_tup rfl (pgs_cons (pg_name (i := 2) scLaw.nd rfl (.inl rfl)) (pgs_cons (pg_name (i := 3) scLaw.nd rfl (.inr rfl)) pgs_nil))))
      (pss_cons (ps_set (i := 4) scLaw.nd rfl (.inl rfl) (pe_callG Ge hD (hr.mono (by decide)) (by rfl) ge ke be .nil pass0 (pa_cons (pv 3) pa_nil)))
      (pss_cons (ps_set (i := 5) scLaw.nd rfl (.inl rfl) (pe_op op_cat (pe_call Gl (hr.mono (by decide)) (by rfl) gl kl bl .nil pass0 (pa_cons (pv 2) pa_nil))
          (pe_lc (own := [("item", 9)]) (g := gName 9) (tt := tYes) rfl scLaw.nd (pi_list (pv 4)) (blkOk_by (N := NL) (sc := defScope sLaw) (by decide +kernel)) (fun _ _ _ _ _ => pg_name (i := 9) scLaw.nd rfl (Or.inl rfl)) (fun _ _ _ _ _ => pts_nil) (te := tOp (rIxT K) (tVar 9) (tC (.int 0))) (fun _ _ _ _ _ => pe_ix ix_tup (pv 9) pe_int (fun _ _ => rfl)))))
      (pss_cons (ps_for PassesOwn.never rfl (pi_enum (by rfl) T.me (pa_cons (pv 5) pa_nil)) (pg_tup rfl (pgs_cons (pg_name (i := 6) scLaw.nd rfl (.inr rfl)) (pgs_cons (pg_name (i := 7) scLaw.nd rfl (.inl rfl)) pgs_nil)))
          (pss_cons (ps_if (pt_cmpR (op_neD hr.units) (pe_call Gk (hr.mono (by decide)) (by rfl) gk kk bk .nil pass0 (pa_cons (pv 7) pa_nil))
              (pe_lc (own := [("k", 10)]) (g := gName 10) (tt := tYes) rfl scLaw.nd (pi_range1 (by rfl) T.mr (pa_cons pe_int pa_nil)) (blkOk_by (N := NL) (sc := defScope sLaw) (by decide +kernel)) (fun _ _ _ _ _ => pg_name (i := 10) scLaw.nd rfl (Or.inl rfl)) (fun _ _ _ _ _ => pts_nil) (te := tOp rEq (tVar 10) (tVar 6)) (fun _ _ _ _ _ => pe_cmpR op_eq (pv 10) (pv 6) (nomark _))) (nomark _))
            (pss_one (ps_ret pe_bl)) pss_nil)
          (pss_one (ps_if (PW.pt (pw_or (pt_not (pt_val (pe_callB call_isX (by rfl) T.mi (by decide +kernel) (pa_cons (pv 7) (pa_cons (pe_glob (v := .ref B) (by rfl) T.gB rfl) pa_nil)))))
              (pw_or1 (pt_not (pt_val (pe_callB call_isX (by rfl) T.mi (by decide +kernel) (pa_cons (pv 7) (pa_cons (pe_bltn (v := .ty "ValueError") (u := .type "ValueError") (by rfl) T.mv (by decide +kernel) rfl) pa_nil))))))))
            (pss_one (ps_ret pe_bl)) pss_nil))))
      (pss_cons (ps_if (pt_cmpR (op_neD hr.units) (pe_lc (own := [("item", 9)]) (g := gName 9) rfl scLaw.nd (pi_list (pv 4)) (blkOk_by (N := NL) (sc := defScope sLaw) (by decide +kernel)) (fun _ _ _ _ _ => pg_name (i := 9) scLaw.nd rfl (Or.inl rfl))
            (tt := tTest (tOp rNe (tCB (rShow K) (tCons (tLstN (tCons (tOp (rIxT K) (tVar 9) (tC (.int 1))) (tCons (tOp (rIxT K) (tVar 9) (tC (.int 2))) tNil))) tNil)) (tCB (rShow K) (tCons (tLstN (tCons (tVar 3) (tCons (tVar 3) tNil))) tNil))))
            (fun _ _ _ _ _ => pts_one (pt_cmpR op_ne (pe_callB (call_show hD hr.units) (by rfl) T.mp (by decide +kernel) (pa_cons (pe_lstN (pa_cons (pe_ix ix_tup (pv 9) pe_int (fun _ _ => rfl)) (pa_cons (pe_ix ix_tup (pv 9) pe_int (fun _ _ => rfl)) pa_nil))) pa_nil))
              (pe_callB (call_show hD hr.units) (by rfl) T.mp (by decide +kernel) (pa_cons (pe_lstN (pa_cons (pv 3) (pa_cons (pv 3) pa_nil))) pa_nil)) (nomark _)))
            (te := tC (.int 1)) (fun _ _ _ _ _ => pe_int)) (pe_lst pa_nil) (nomark _)) (pss_one (ps_ret pe_bl)) pss_nil)
      (pss_cons (ps_set (i := 8) scLaw.nd rfl (.inl rfl) (pe_exc1 PySem.F.excBase_ValueError T.pB.q T.gB T.pB.kC (by rfl) pe_str))
      (pss_one (ps_ret (pe_and (pe_cmpR op_notIn_seq pe_bl (pe_call Gk (hr.mono (by decide)) (by rfl) gk kk bk .nil pass0 (pa_cons (pv 8) pa_nil)) (by rfl)) (pe_one (pe_callB call_isX (by rfl) T.mi (by decide +kernel) (pa_cons (pv 8) (pa_cons (pe_bltn (v := .ty "ValueError") (u := .type "ValueError") (by rfl) T.mv (by decide +kernel) rfl) pa_nil))))))))))))), ?_⟩
    -- draw
    refine ⟨.ref a, rfl, a, ns, rfl, hS, by omega, fun H1 p b c s1 np nb nc D => ?_⟩
    -- words_here, each
    refine ⟨.ref p, rfl, by show 3 ≤ sizeLine; decide, fun l hl => ?_⟩
    have sl := same_upd (o := .lst [.str "", .str "w", .str "nothing of the kind"]) hl
    obtain ⟨⟨rest, turn, hd⟩, ⟨lg, hb⟩, _⟩ := id D
    have nlp : l ≠ p := fun z => by rw [z, hd] at hl; cases hl
    have nlb : l ≠ b := fun z => by rw [z, hb] at hl; cases hl
    refine ⟨p, b, c, l, _, rfl, D.same sl, .inl (.inl upd_same), nlp, nlb, by decide, by decide, fun x H2 hx D2 B2 => ?_⟩
    refine ⟨.ref p, rfl, p, b, c, rfl, D2, fun y d H3 hy sh D3 B3 => ?_⟩
    refine ⟨by show 2 ≤ sizeLine; decide, fun t ht => ⟨t, [x, y], rfl, .inl (.inl upd_same), rfl, x, [y], rfl, y, [], rfl, rfl, ?_⟩⟩
    have hy3 := oneD_same hy (same_upd (o := .tup [x, y]) ht)
    -- threes_here
    refine ⟨y, rfl, y, d, rfl, hy3.show, sh, fun H4 q3 rs s4 n4 l4 R4 => ?_⟩
    have hy4 := oneD_same hy3 s4
    -- errors_here
    refine ⟨x, rfl, x, rfl, fun H5 q4 ws s5 n5 l5 E5 => ?_⟩
    have hy5 := oneD_same hy4 s5
    have l5' : H5 q3 = some (.lst rs) := s5 _ _ l4
    have R5 := rowsAt_same s5 R4
    have lenT : (Cs.take 17).length = 17 := by rw [List.length_take, T.len]; rfl
    have lenD : (Cs.drop 17).length = 6 := by rw [List.length_drop, T.len]
    have lrs : rs.length = 6 := by rw [Paired.length R4, lenD]
    have lws : ws.length = 17 := by rw [Paired.length E5, lenT]
    refine ⟨.ref q3, rfl, q3, rfl, ⟨_, .inl (.inl l5')⟩, fun D1 nD1 => ?_⟩
    have sD : ∀ o, Same H5 (upd H5 D1 o) := fun o => same_upd nD1
    refine lc_list (K := K) (a := q3) (xs := rs) (fun i H' => ∃ es, ErrsAt H5 es ((Cs.drop 17).take i) ∧ H' = upd H5 D1 (.lst es)) ⟨[], .nil, rfl⟩ (fun i H' _ ⟨es, _, e⟩ => by rw [e]; exact (sD _).seq (.inl (.inl l5'))) ?_ ?_
    · rintro i v H' hv ⟨es, he, rfl⟩
      obtain ⟨C, hC, t1, e, rfl, ht1, hE⟩ := paired_get R5 hv
      refine ⟨rfl, yesT ⟨_, rfl, t1, _, 0, .ref e, rfl, rfl, .inl (.inl (sD _ _ _ ht1)), rfl, es, upd_same, ?_, es ++ [.ref e], ?_, upd_upd⟩⟩
      · have h1 := (List.getElem?_eq_some_iff.mp hv).1
        have h2 : es.length ≤ 6 := by rw [Paired.length he, List.length_take]; omega
        exact small1000 (by omega)
      · rw [List.take_add_one, hC]
        exact errsAt_snoc he hE
    · rintro H' ⟨es, he, rfl⟩
      rw [lrs, List.take_of_length_le (by omega)] at he
      have les : es.length = 6 := by rw [Paired.length he, lenD]
      have n45 : H5 q4 ≠ none := by rw [l5]; intro z; cases z
      refine ⟨q4, D1, ws, es, rfl, rfl, sD _ _ _ l5, upd_same, by rw [lws, les]; decide, fun z nz => ?_⟩
      have s6 : Same H5 (upd (upd H5 D1 (.lst es)) z (.lst (ws ++ es))) := (sD _).trans (same_upd nz)
      have hy6 := oneD_same hy5 s6
      have R6 := rowsAt_same s6 R5
      have E6 : ErrsAt (upd (upd H5 D1 (.lst es)) z (.lst (ws ++ es))) (ws ++ es) Cs := by
        have h := errsAt_same s6 (errsAt_app E5 he)
        (rw [List.take_append_drop] at h)
        exact h
      have l6 : (upd (upd H5 D1 (.lst es)) z (.lst (ws ++ es))) z = some (.lst (ws ++ es)) := upd_same
      have l63 := s6 _ _ l5'
      have lall : (ws ++ es).length = 23 := by rw [List.length_append, lws, les]
      generalize (upd (upd H5 D1 (.lst es)) z (.lst (ws ++ es))) = H6 at s6 hy6 R6 E6 l6 l63 ⊢
      generalize (ws ++ es) = all at E6 l6 lall
      -- the loop
      refine ⟨.ref z, rfl, z, all, rfl, .inl (.inl l6), ?_⟩
      refine for_it walk_enum (fun i σ H' => ∃ u6 u7, σ = [some (.ref a), some (.ref p), some x, some y, some (.ref q3), some (.ref z), u6, u7, none, none, none] ∧ Same H6 H') ⟨none, none, rfl, Same.refl _⟩ (fun i σ H' _ ⟨_, _, _, s7⟩ => s7.seq (.inl (.inl l6))) ?_ ?_
      · rintro i v σ H7 H7' hi ⟨u6, u7, rfl, s7⟩ ⟨tt, x0, e0, rfl, nT, rfl, hx0, he0⟩
        cases hx0
        obtain ⟨C, hC, e, rfl, hE⟩ := paired_get E6 he0
        have st := same_upd (o := .tup [.int (i : Nat), .ref e]) nT
        refine ⟨tt, [.int (i : Nat), .ref e], rfl, .inl (.inl upd_same), rfl, .int (i : Nat), [.ref e], rfl, .ref e, [], rfl, rfl, ?_⟩
        have hCm : C ∈ Cs := List.mem_of_getElem? hC
        have hE8 := hE.same (s7.trans st)
        refine ⟨.ref e, rfl, e, C, rfl, hE8, T.eC C hCm, T.eK, fun D hD => T.kk C hCm D hD, fun H8 pk s8 n8 l8 => ?_⟩
        have s68 := (s7.trans st).trans s8
        refine ⟨23, rfl, by decide, by decide, fun D2 nD2 => ?_⟩
        have sD2 : ∀ o, Same H8 (upd H8 D2 o) := fun o => same_upd nD2
        have hi23 : i < 23 := by
          have h1 := (List.getElem?_eq_some_iff.mp he0).1
          omega
        have rw1 := row_of T.nod hC
        rw [T.len] at rw1
        have l8' : H8 pk = some (.lst (((List.range 23).map fun k => decide (k = i)).map V.bl)) := by
          rw [l8, ← rw1, List.map_map]
          rfl
        refine lc_range (lo := 0) (n := 23) (fun j H' => H' = upd H8 D2 (.lst (((List.range j).map fun k => decide (k = i)).map V.bl))) rfl ?_ ?_
        · rintro j H' hj rfl
          refine ⟨rfl, yesT ⟨_, rfl, _, rfl, rfl, _, upd_same, ?_, ?_⟩⟩
          · rw [List.length_map, List.length_map, List.length_range]
            exact small1000 (by omega)
          · have ed : decide (V.int (0 + (j : Int)) = V.int (i : Int)) = decide (j = i) := by
              rw [dec_int, Bool.eq_iff_iff]
              simp
              omega
            show upd (upd H8 D2 _) D2 (.lst (_ ++ [V.bl (decide (V.int (0 + (j : Int)) = V.int (i : Int)))])) = _
            rw [upd_upd, ed, List.range_succ, List.map_append, List.map_append]
            rfl
        · rintro H' rfl
          have he : (!PyData.eqv (.list (((List.range 23).map fun k => decide (k = i)).map .bool)) (.list (((List.range 23).map fun k => decide (k = i)).map .bool))) = false := by
            simp only [PyData.eqv, eqv_bools, Bool.not_true]
          refine ⟨_, _, .lst (.inl (.inl (sD2 _ _ _ l8'))) (dpAll_bools _), .lst (.inl (.inl upd_same)) (dpAll_bools _), shp_bools _, shp_bools _, false, congrArg V.bl he, ite2 (fun z => nomatch z) (fun _ => ?_)⟩
          have hE9 := hE.same ((s68).trans (sD2 (.lst (((List.range 23).map fun k => decide (k = i)).map V.bl))))
          refine ⟨.ref e, rfl, e, C, .ref B, .ref B, true, rfl, hE9, T.eC C hCm, T.eK, .own B, T.kB C hCm, true, rfl, ite2 (fun z => nomatch z) (fun _ => ?_)⟩
          refine ⟨.ref e, rfl, e, C, .ty "ValueError", .type "ValueError", true, rfl, hE9, T.eC C hCm, T.eK, .ty _, T.kV C hCm, true, rfl, ite2 (fun z => nomatch z) (fun _ => ?_)⟩
          exact ⟨_, _, rfl, s68.trans (sD2 _)⟩
      · rintro σ H9 ⟨u6, u7, rfl, s9⟩
        have l93 := s9 _ _ l63
        have R9 := rowsAt_same s9 R6
        have hy9 := oneD_same hy6 s9
        refine ⟨.ref q3, rfl, q3, rfl, ⟨_, .inl (.inl l93)⟩, fun D3 nD3 => ?_⟩
        refine lc_list (K := K) (a := q3) (xs := rs) (fun i H' => Same H9 H' ∧ H' D3 = some (.lst [])) ⟨same_upd nD3, upd_same⟩ (fun i H' _ ⟨e, _⟩ => e.seq (.inl (.inl l93))) ?_ ?_
        · rintro i v H' hv ⟨sv, hD3⟩
          obtain ⟨C, hC, t1, e, rfl, ht1, hE⟩ := paired_get R9 hv
          have ht1' := sv _ _ ht1
          refine ⟨rfl, .ref t1, rfl, t1, _, 1, y, rfl, rfl, .inl (.inl ht1'), rfl, .ref t1, rfl, t1, _, 2, y, rfl, rfl, .inl (.inl ht1'), rfl, by show 2 ≤ sizeLine; decide, fun L1 nL1 mL1 => ?_⟩
          have sL1 := same_upd (o := .lst [y, y]) nL1
          refine ⟨.ref L1, .list [d, d], rfl, two_show mL1 (.inl (.inl upd_same)) (oneD_same hy9 (sv.trans sL1)), fits_two sh, y, rfl, y, rfl, by show 2 ≤ sizeLine; decide, fun L2 nL2 mL2 => ?_⟩
          have sL2 := same_upd (o := .lst [y, y]) nL2
          refine ⟨.ref L2, .list [d, d], rfl, two_show mL2 (.inl (.inl upd_same)) (oneD_same hy9 ((sv.trans sL1).trans sL2)), fits_two sh, rfl, false, by rw [decide_eq_true rfl]; rfl, ite2 (fun z => nomatch z) (fun _ => ?_)⟩
          exact ⟨(sv.trans sL1).trans sL2, sL2 _ _ (sL1 _ _ hD3)⟩
        · rintro H10 ⟨s10, hD3⟩
          refine ⟨Nat.zero_le _, fun m nm => ?_⟩
          have sm := same_upd (o := .lst []) nm
          refine ⟨.list [], .list [], .lst (.inl (.inl (sm _ _ hD3))) .nil, .lst (.inl (.inl upd_same)) .nil, by decide, by decide, false, by decide, ite2 (fun z => nomatch z) (fun _ => ?_)⟩
          -- base_here
          refine fun eb neb => ?_
          refine ⟨.ref eb, rfl, eb, B, rfl, .inl upd_same, T.pB.E, T.eK, T.bk, fun H11 pk s11 n11 l11 => ?_⟩
          have hin : inV (.bl true) (Cs.map fun D => V.bl (decide (B = D))) = false := by
            unfold inV
            rw [List.any_eq_false]
            intro v hv
            obtain ⟨D', hD', rfl⟩ := List.mem_map.mp hv
            rw [decide_eq_false fun z : B = D' => T.nB (z ▸ hD')]
            decide
          have hfl : (Cs.map fun D => V.bl (decide (B = D))).all flatV = true := by
            rw [List.all_eq_true]
            intro v hv
            obtain ⟨D', _, rfl⟩ := List.mem_map.mp hv
            rfl
          refine ⟨pk, _, rfl, .inl (.inl (.inl l11)), rfl, hfl, true, congrArg V.bl (by rw [hin]; rfl), ite2 (fun _ => ?_) (fun z => absurd rfl z)⟩
          exact ⟨.ref eb, rfl, eb, B, .ty "ValueError", .type "ValueError", true, rfl, .inl (s11 _ _ upd_same), T.pB.E, T.eK, .ty _, T.bV, q _⟩
end
end Kz

namespace Kz
open PySem PySem.Spec PyProof.Rows L2 Gk Ky
/-- what the text's top says of an error class -/
structure ClsT (K : PySem.W.Frag) (mg : Str → Option Value) (x : Str) (C : Addr) (up : List Value) : Prop where
  gC : mg x = some (.ref C)
  lk : ∃ nm q N bs sn sub ab col dd k0 k1 k2 k3 k5, K.lookup C = some (excClassObj nm q C N bs up true sn sub ab col dd k0 k1 k2 k3 k5 "ValueError.__new__")
  E : ErrC K C
  kc : KCls K C up
  kC : PySem.W.keepIn K (.ref C) = true
  sb : PySem.W.subIn K (.ref C) (.type "BaseException") = some true
  ty : PySem.W.typeIn K (.ref C) = some (.type "type")
theorem cls_mk {K : PySem.W.Frag} {mg : Str → Option Value} {C N : Addr} {x nm q : Str} {bs up : List Value} {sn : List Str} {sub : List Value} {ab : Bool} {col : Option Bool} {dd : Option Addr} {k0 k1 k2 k3 k5 : Option Value} {h : Heap} (X : K.In h) (G : h.Ns mainGlobals mg)
    (ns : PySem.W.nsIn K mainGlobals x = some (some (.ref C)))
    (lk : K.lookup C = some (excClassObj nm q C N bs up true sn sub ab col dd k0 k1 k2 k3 k5 "ValueError.__new__"))
    (ga : PySem.W.findIn K (.ref C) "__getattribute__" = some (some (.builtin "BaseException.__getattribute__")))
    (gt : PySem.W.findIn K (.ref C) "__getattr__" = some none)
    (sb : PySem.W.subIn K (.ref C) (.type "BaseException") = some true)
    (cc : PySem.W.findIn K (.ref C) "__class__" = some (some (.builtin "object.__class__")))
    (ob : PySem.W.mroIn K C (.type "object") = some true)
    (hd : PySem.W.hasDictIn K C = true)
    (ty : PySem.W.typeIn K (.ref C) = some (.type "type"))
    (kC : PySem.W.keepIn K (.ref C) = true) : ClsT K mg x C up := by
  have hcl : PySem.W.clsIn K C = some { name := nm, bases := bs, mro := .ref C :: up, ns := N, qualname := q, hasDict := true, slotNames := sn, subclasses := sub, abstract := ab, collection := col, hasDel := false } := by
    unfold PySem.W.clsIn; rw [lk] <;> rfl
  exact ⟨PySem.W.mg_of X G ns, ⟨nm, q, N, bs, sn, sub, ab, col, dd, k0, k1, k2, k3, k5, lk⟩, ⟨by rw [hcl]; rfl, ga, gt, sb, cc, ob, hd⟩, ⟨⟨_, hcl, rfl⟩, ty⟩, kC, sb, ty⟩
theorem ClsT.plain {K : PySem.W.Frag} {mg : Str → Option Value} {x : Str} {C : Addr} {up : List Value} (T : ClsT K mg x C up) (q : PySem.W.excIn K C veBases "ValueError.__new__" = true) : PlainE K mg x C := ⟨T.gC, q, T.kC, T.E⟩
theorem ClsT.oex {K : PySem.W.Frag} {mg : Str → Option Value} {x : Str} {C : Addr} {up : List Value} (T : ClsT K mg x C up) (hr : PySem.HandSPX.refsVE up = true) (sa : PySem.W.findIn K (.ref C) "__setattr__" = some (some (.builtin "object.__setattr__"))) : OexC K C := by
  obtain ⟨nm, q, N, bs, sn, sub, ab, col, dd, k0, k1, k2, k3, k5, e⟩ := T.lk
  exact ⟨⟨nm, q, N, bs, up, sn, sub, ab, col, dd, k0, k1, k2, k3, k5, e, hr⟩, sa, T.sb, T.ty, T.kC⟩
theorem own_number {P : Program} {w : World} {K : PySem.W.Frag} {mg : Str → Option Value} {C B fI : Addr} {up : List Value} {oc kV doc pm cdv ct : Value} {od an : Option Addr} {osl : Array (Option Value)} (T : ClsT K mg "BadNumber" C up) (hr : PySem.HandSPX.refsVE up = true) (gB : mg "RuleError" = some (.ref B)) (iB : InitOf K B)
    (sa : PySem.W.findIn K (.ref C) "__setattr__" = some (some (.builtin "object.__setattr__"))) (nf : PySem.W.findIn K (.ref C) "part" = some none)
    (iC : PySem.W.findIn K (.ref C) "__init__" = some (some (.ref fI))) (tI : PySem.W.typeIn K (.ref fI) = some (.type "function"))
    (l : K.lookup fI = some ⟨oc, od, .func (PySem.W.fnOf "__init__" "BadNumber.__init__" (defArgs sNumber) (defBody sNumber) (defScope sNumber) .none kV doc pm an cdv ct), osl⟩) (c : PySem.W.codeIn K cdv "BadNumber.__init__" = true) (k : PySem.W.keepIn K (.ref fI) = true) :
    ∃ fI fd, ∀ base : Heap, OwnE P w K mg base "BadNumber" "part" C fI fd := by
  have F := fun_mk (st := sNumber) l c k
  exact ⟨fI, _, fun base => ⟨T.gC, T.oex hr sa, T.E, iC, tI, nf, ok_number F gB iB, F.binds (ps := ["self", "part"]) fun _ _ _ _ _ _ us hl => match us, hl with | [_, _], _ => rfl, fun _ _ _ _ => .of_eq rfl⟩⟩
theorem own_book {P : Program} {w : World} {K : PySem.W.Frag} {mg : Str → Option Value} {C B fI : Addr} {up : List Value} {oc kV doc pm cdv ct : Value} {od an : Option Addr} {osl : Array (Option Value)} (T : ClsT K mg "BadBook" C up) (hr : PySem.HandSPX.refsVE up = true) (gB : mg "RuleError" = some (.ref B)) (iB : InitOf K B)
    (sa : PySem.W.findIn K (.ref C) "__setattr__" = some (some (.builtin "object.__setattr__"))) (nf : PySem.W.findIn K (.ref C) "part" = some none)
    (iC : PySem.W.findIn K (.ref C) "__init__" = some (some (.ref fI))) (tI : PySem.W.typeIn K (.ref fI) = some (.type "function"))
    (l : K.lookup fI = some ⟨oc, od, .func (PySem.W.fnOf "__init__" "BadBook.__init__" (defArgs sBook) (defBody sBook) (defScope sBook) .none kV doc pm an cdv ct), osl⟩) (c : PySem.W.codeIn K cdv "BadBook.__init__" = true) (k : PySem.W.keepIn K (.ref fI) = true) :
    ∃ fI fd, ∀ base : Heap, OwnE P w K mg base "BadBook" "part" C fI fd := by
  have F := fun_mk (st := sBook) l c k
  exact ⟨fI, _, fun base => ⟨T.gC, T.oex hr sa, T.E, iC, tI, nf, ok_book F gB iB, F.binds (ps := ["self", "part"]) fun _ _ _ _ _ _ us hl => match us, hl with | [_, _], _ => rfl, fun _ _ _ _ => .of_eq rfl⟩⟩
theorem own_many {P : Program} {w : World} {K : PySem.W.Frag} {mg : Str → Option Value} {C B fI : Addr} {up : List Value} {oc kV doc pm cdv ct : Value} {od an : Option Addr} {osl : Array (Option Value)} (T : ClsT K mg "TooMany" C up) (hr : PySem.HandSPX.refsVE up = true) (gB : mg "RuleError" = some (.ref B)) (iB : InitOf K B)
    (sa : PySem.W.findIn K (.ref C) "__setattr__" = some (some (.builtin "object.__setattr__"))) (nf : PySem.W.findIn K (.ref C) "most" = some none)
    (iC : PySem.W.findIn K (.ref C) "__init__" = some (some (.ref fI))) (tI : PySem.W.typeIn K (.ref fI) = some (.type "function"))
    (l : K.lookup fI = some ⟨oc, od, .func (PySem.W.fnOf "__init__" "TooMany.__init__" (defArgs sMany) (defBody sMany) (defScope sMany) .none kV doc pm an cdv ct), osl⟩) (c : PySem.W.codeIn K cdv "TooMany.__init__" = true) (k : PySem.W.keepIn K (.ref fI) = true) :
    ∃ fI fd, ∀ base : Heap, OwnE P w K mg base "TooMany" "most" C fI fd := by
  have F := fun_mk (st := sMany) l c k
  exact ⟨fI, _, fun base => ⟨T.gC, T.oex hr sa, T.E, iC, tI, nf, ok_many F gB iB, F.binds (ps := ["self", "most"]) fun _ _ _ _ _ _ us hl => match us, hl with | [_, _], _ => rfl, fun _ _ _ _ => .of_eq rfl⟩⟩
theorem own_watch {P : Program} {w : World} {K : PySem.W.Frag} {mg : Str → Option Value} {C B fI : Addr} {up : List Value} {oc kV doc pm cdv ct : Value} {od an : Option Addr} {osl : Array (Option Value)} (T : ClsT K mg "NoWatch" C up) (hr : PySem.HandSPX.refsVE up = true) (gB : mg "RuleError" = some (.ref B)) (iB : InitOf K B)
    (sa : PySem.W.findIn K (.ref C) "__setattr__" = some (some (.builtin "object.__setattr__"))) (nf : PySem.W.findIn K (.ref C) "name" = some none)
    (iC : PySem.W.findIn K (.ref C) "__init__" = some (some (.ref fI))) (tI : PySem.W.typeIn K (.ref fI) = some (.type "function"))
    (l : K.lookup fI = some ⟨oc, od, .func (PySem.W.fnOf "__init__" "NoWatch.__init__" (defArgs sWatch) (defBody sWatch) (defScope sWatch) .none kV doc pm an cdv ct), osl⟩) (c : PySem.W.codeIn K cdv "NoWatch.__init__" = true) (k : PySem.W.keepIn K (.ref fI) = true) :
    ∃ fI fd, ∀ base : Heap, OwnE P w K mg base "NoWatch" "name" C fI fd := by
  have F := fun_mk (st := sWatch) l c k
  exact ⟨fI, _, fun base => ⟨T.gC, T.oex hr sa, T.E, iC, tI, nf, ok_watch F gB iB, F.binds (ps := ["self", "name"]) fun _ _ _ _ _ _ us hl => match us, hl with | [_, _], _ => rfl, fun _ _ _ _ => .of_eq rfl⟩⟩
theorem own_mark {P : Program} {w : World} {K : PySem.W.Frag} {mg : Str → Option Value} {C B fI : Addr} {up : List Value} {oc kV doc pm cdv ct : Value} {od an : Option Addr} {osl : Array (Option Value)} (T : ClsT K mg "NoMark" C up) (hr : PySem.HandSPX.refsVE up = true) (gB : mg "RuleError" = some (.ref B)) (iB : InitOf K B)
    (sa : PySem.W.findIn K (.ref C) "__setattr__" = some (some (.builtin "object.__setattr__"))) (nf : PySem.W.findIn K (.ref C) "name" = some none)
    (iC : PySem.W.findIn K (.ref C) "__init__" = some (some (.ref fI))) (tI : PySem.W.typeIn K (.ref fI) = some (.type "function"))
    (l : K.lookup fI = some ⟨oc, od, .func (PySem.W.fnOf "__init__" "NoMark.__init__" (defArgs sMark) (defBody sMark) (defScope sMark) .none kV doc pm an cdv ct), osl⟩) (c : PySem.W.codeIn K cdv "NoMark.__init__" = true) (k : PySem.W.keepIn K (.ref fI) = true) :
    ∃ fI fd, ∀ base : Heap, OwnE P w K mg base "NoMark" "name" C fI fd := by
  have F := fun_mk (st := sMark) l c k
  exact ⟨fI, _, fun base => ⟨T.gC, T.oex hr sa, T.E, iC, tI, nf, ok_mark F gB iB, F.binds (ps := ["self", "name"]) fun _ _ _ _ _ _ us hl => match us, hl with | [_, _], _ => rfl, fun _ _ _ _ => .of_eq rfl⟩⟩
theorem own_text {P : Program} {w : World} {K : PySem.W.Frag} {mg : Str → Option Value} {C B fI : Addr} {up : List Value} {oc kV doc pm cdv ct : Value} {od an : Option Addr} {osl : Array (Option Value)} (T : ClsT K mg "BadText" C up) (hr : PySem.HandSPX.refsVE up = true) (gB : mg "RuleError" = some (.ref B)) (iB : InitOf K B)
    (sa : PySem.W.findIn K (.ref C) "__setattr__" = some (some (.builtin "object.__setattr__"))) (nf : PySem.W.findIn K (.ref C) "at" = some none)
    (iC : PySem.W.findIn K (.ref C) "__init__" = some (some (.ref fI))) (tI : PySem.W.typeIn K (.ref fI) = some (.type "function"))
    (l : K.lookup fI = some ⟨oc, od, .func (PySem.W.fnOf "__init__" "BadText.__init__" (defArgs sText) (defBody sText) (defScope sText) .none kV doc pm an cdv ct), osl⟩) (c : PySem.W.codeIn K cdv "BadText.__init__" = true) (k : PySem.W.keepIn K (.ref fI) = true) :
    ∃ fI fd, ∀ base : Heap, OwnE P w K mg base "BadText" "at" C fI fd := by
  have F := fun_mk (st := sText) l c k
  exact ⟨fI, _, fun base => ⟨T.gC, T.oex hr sa, T.E, iC, tI, nf, ok_text F gB iB, F.binds (ps := ["self", "at"]) fun _ _ _ _ _ _ us hl => match us, hl with | [_, _], _ => rfl, fun _ _ _ _ => .of_eq rfl⟩⟩
def FnT (K : PySem.W.Frag) (mg : Str → Option Value) (x : Str) (st : Stmt) (ps : List Str) : Prop := ∃ f fd, mg x = some (.ref f) ∧ Fun K x x st f fd ∧ PySem.W.keepIn K (.ref f) = true ∧ Binds K fd ps []
theorem fnT_mk {K : PySem.W.Frag} {mg : Str → Option Value} {h : Heap} {x : Str} {st : Stmt} {ps : List Str} {f : Addr} {oc kV doc pm cdv ct : Value} {od an : Option Addr} {osl : Array (Option Value)} (X : K.In h) (G : h.Ns mainGlobals mg)
    (a : PySem.W.nsIn K mainGlobals x = some (some (.ref f))) (l : K.lookup f = some ⟨oc, od, .func (PySem.W.fnOf x x (defArgs st) (defBody st) (defScope st) .none kV doc pm an cdv ct), osl⟩) (c : PySem.W.codeIn K cdv x = true) (k : PySem.W.keepIn K (.ref f) = true)
    (hb : ∀ (kV doc pm : Value) (an : Option Addr) (cdv ct : Value) (us : List Value), us.length = ps.length → bindArgs (PySem.W.fnOf x x (defArgs st) (defBody st) (defScope st) .none kV doc pm an cdv ct) ⟨us, []⟩ = pure (ps.zip us)) : FnT K mg x st ps := by
  have F := fun_mk (st := st) l c k
  exact ⟨f, _, PySem.W.mg_of X G a, F, k, F.binds hb⟩
def FnL (K : PySem.W.Frag) (fa : Addr) : Prop := ∃ fd, Fun K "law" "law" sLaw fa fd ∧ ∀ (s : Shared) (v : Value), BindsTo s fd ⟨[v], []⟩ [("script", v)]
theorem fnL_mk {K : PySem.W.Frag} {mg : Str → Option Value} {h : Heap} {f fa : Addr} {oc kV doc pm cdv ct : Value} {od an : Option Addr} {osl : Array (Option Value)} (X : K.In h) (G : h.Ns mainGlobals mg) (hfa : mg "law" = some (.ref fa))
    (a : PySem.W.nsIn K mainGlobals "law" = some (some (.ref f))) (l : K.lookup f = some ⟨oc, od, .func (PySem.W.fnOf "law" "law" (defArgs sLaw) (defBody sLaw) (defScope sLaw) .none kV doc pm an cdv ct), osl⟩) (c : PySem.W.codeIn K cdv "law" = true) (k : PySem.W.keepIn K (.ref f) = true) : FnL K fa := by
  have e := hfa.symm.trans (PySem.W.mg_of X G a)
  cases e
  exact ⟨_, fun_mk (st := sLaw) l c k, fun s v => .of_eq rfl⟩
theorem fa_nil {α : Type} {R : α → Prop} : ∀ x ∈ ([] : List α), R x := fun x h => nomatch h
theorem fa_cons {α : Type} {R : α → Prop} {a : α} {l : List α} (h : R a) (t : ∀ x ∈ l, R x) : ∀ x ∈ a :: l, R x := fun x hx => (List.mem_cons.mp hx).elim (fun e => e ▸ h) (t x)
theorem up_no {B D : Addr} (h : D ≠ B) : (Value.ref B :: veBases).contains (.ref D) = false := by
  have h1 : (Value.ref D == Value.ref B) = false := by simp [h]
  simp only [List.contains_cons, h1, Bool.false_or]
  simp [List.contains_cons]
theorem up_no0 {D : Addr} : veBases.contains (.ref D) = false := by
  simp [List.contains_cons]
theorem all_mk {P : Program} {w : World} {K : PySem.W.Frag} {mg : Str → Option Value} {fa B C1 C2 C3 C4 C5 C6 C7 C8 C9 C10 C11 C12 C13 C14 C15 C16 C17 C18 C19 C20 C21 C22 C23 : Addr} (eK : ErrK K)
    (TB : ClsT K mg "RuleError" B veBases) (qB : PySem.W.excIn K B veBases "ValueError.__new__" = true)
    (T1 : ClsT K mg "BadPrime" C1 (.ref B :: veBases))
    (T2 : ClsT K mg "BadWord" C2 (.ref B :: veBases))
    (T3 : ClsT K mg "BadRow" C3 (.ref B :: veBases))
    (T4 : ClsT K mg "BadTable" C4 (.ref B :: veBases))
    (T5 : ClsT K mg "NotAlike" C5 (.ref B :: veBases))
    (T6 : ClsT K mg "BadMap" C6 (.ref B :: veBases))
    (T7 : ClsT K mg "NotFull" C7 (.ref B :: veBases))
    (T8 : ClsT K mg "BadLower" C8 (.ref B :: veBases))
    (T9 : ClsT K mg "BadOrder" C9 (.ref B :: veBases))
    (T10 : ClsT K mg "NotTidy" C10 (.ref B :: veBases))
    (T11 : ClsT K mg "BadWeb" C11 (.ref B :: veBases))
    (T12 : ClsT K mg "BadCells" C12 (.ref B :: veBases))
    (T13 : ClsT K mg "BadStart" C13 (.ref B :: veBases))
    (T14 : ClsT K mg "BadDeed" C14 (.ref B :: veBases))
    (T15 : ClsT K mg "BadName" C15 (.ref B :: veBases))
    (T16 : ClsT K mg "BadLive" C16 (.ref B :: veBases))
    (T17 : ClsT K mg "NothingLeft" C17 (.ref B :: veBases))
    (T18 : ClsT K mg "BadNumber" C18 (.ref B :: veBases))
    (T19 : ClsT K mg "BadBook" C19 (.ref B :: veBases))
    (T20 : ClsT K mg "TooMany" C20 (.ref B :: veBases))
    (T21 : ClsT K mg "NoWatch" C21 (.ref B :: veBases))
    (T22 : ClsT K mg "NoMark" C22 (.ref B :: veBases))
    (T23 : ClsT K mg "BadText" C23 (.ref B :: veBases))
    (q1 : PySem.W.excIn K C1 veBases "ValueError.__new__" = true) (q2 : PySem.W.excIn K C2 veBases "ValueError.__new__" = true) (q3 : PySem.W.excIn K C3 veBases "ValueError.__new__" = true) (q4 : PySem.W.excIn K C4 veBases "ValueError.__new__" = true) (q5 : PySem.W.excIn K C5 veBases "ValueError.__new__" = true) (q6 : PySem.W.excIn K C6 veBases "ValueError.__new__" = true) (q7 : PySem.W.excIn K C7 veBases "ValueError.__new__" = true) (q8 : PySem.W.excIn K C8 veBases "ValueError.__new__" = true) (q9 : PySem.W.excIn K C9 veBases "ValueError.__new__" = true) (q10 : PySem.W.excIn K C10 veBases "ValueError.__new__" = true) (q11 : PySem.W.excIn K C11 veBases "ValueError.__new__" = true) (q12 : PySem.W.excIn K C12 veBases "ValueError.__new__" = true) (q13 : PySem.W.excIn K C13 veBases "ValueError.__new__" = true) (q14 : PySem.W.excIn K C14 veBases "ValueError.__new__" = true) (q15 : PySem.W.excIn K C15 veBases "ValueError.__new__" = true) (q16 : PySem.W.excIn K C16 veBases "ValueError.__new__" = true) (q17 : PySem.W.excIn K C17 veBases "ValueError.__new__" = true)
    (O18 : ∃ fI fd, ∀ base : Heap, OwnE P w K mg base "BadNumber" "part" C18 fI fd)
    (O19 : ∃ fI fd, ∀ base : Heap, OwnE P w K mg base "BadBook" "part" C19 fI fd)
    (O20 : ∃ fI fd, ∀ base : Heap, OwnE P w K mg base "TooMany" "most" C20 fI fd)
    (O21 : ∃ fI fd, ∀ base : Heap, OwnE P w K mg base "NoWatch" "name" C21 fI fd)
    (O22 : ∃ fI fd, ∀ base : Heap, OwnE P w K mg base "NoMark" "name" C22 fI fd)
    (O23 : ∃ fI fd, ∀ base : Heap, OwnE P w K mg base "BadText" "at" C23 fI fd)
    (nd : (B :: [C1, C2, C3, C4, C5, C6, C7, C8, C9, C10, C11, C12, C13, C14, C15, C16, C17, C18, C19, C20, C21, C22, C23]).Nodup)
    (FL : FnL K fa) (Fb : FnT K mg "_law_begun" sBegun ["script"]) (Fm : FnT K mg "_law_mixed" sMixed ["draw"]) (Ft : FnT K mg "_law_take" sTake ["draw", "amount"]) (Fp : FnT K mg "_law_pick" sPick ["draw", "some"]) (Fa : FnT K mg "_law_any" sAny ["draw"])
    (Fk : FnT K mg "_law_kinds" sKinds ["error"]) (Fl : FnT K mg "_law_plain_errors" sPlain ["words_here"]) (Fe : FnT K mg "_law_errors_of" sErrs ["each"])
    (mi : mg "isinstance" = none) (me : mg "enumerate" = none) (mr : mg "range" = none) (mp : mg "repr" = none) (mv : mg "ValueError" = none) (ma : mg "abs" = none) (mt : mg "int" = none) (ml : mg "len" = none) :
    ∃ fd : FuncData, (∀ (s : Shared) (u : Value), BindsTo s fd ⟨[u], []⟩ [("script", u)]) ∧ ∀ base : Heap, FnG P w K mg base CX0 6 fa fd ["script"] (spLaw K) := by
  obtain ⟨fd, F, bf⟩ := FL
  obtain ⟨fb, db, gb, Fb, kb, bb⟩ := Fb
  obtain ⟨fm, dm, gm, Fm, km, bm⟩ := Fm
  obtain ⟨ft, dt, gt, Ft, kt, bt⟩ := Ft
  obtain ⟨fp, dp, gp, Fp, kp, bp⟩ := Fp
  obtain ⟨fy, dy, gy, Fa, ky, by_⟩ := Fa
  obtain ⟨fk, dk, gk, Fk, kk, bk⟩ := Fk
  obtain ⟨fl, dl, gl, Fl, kl, bl⟩ := Fl
  obtain ⟨fe, de, ge, Fe, ke, be⟩ := Fe
  obtain ⟨i18, d18, O18⟩ := O18
  obtain ⟨i19, d19, O19⟩ := O19
  obtain ⟨i20, d20, O20⟩ := O20
  obtain ⟨i21, d21, O21⟩ := O21
  obtain ⟨i22, d22, O22⟩ := O22
  obtain ⟨i23, d23, O23⟩ := O23
  have hall : ∀ C ∈ [C1, C2, C3, C4, C5, C6, C7, C8, C9, C10, C11, C12, C13, C14, C15, C16, C17, C18, C19, C20, C21, C22, C23], ErrC K C ∧ KCls K C (.ref B :: veBases) := fa_cons ⟨T1.E, T1.kc⟩ (fa_cons ⟨T2.E, T2.kc⟩ (fa_cons ⟨T3.E, T3.kc⟩ (fa_cons ⟨T4.E, T4.kc⟩ (fa_cons ⟨T5.E, T5.kc⟩ (fa_cons ⟨T6.E, T6.kc⟩ (fa_cons ⟨T7.E, T7.kc⟩ (fa_cons ⟨T8.E, T8.kc⟩ (fa_cons ⟨T9.E, T9.kc⟩ (fa_cons ⟨T10.E, T10.kc⟩ (fa_cons ⟨T11.E, T11.kc⟩ (fa_cons ⟨T12.E, T12.kc⟩ (fa_cons ⟨T13.E, T13.kc⟩ (fa_cons ⟨T14.E, T14.kc⟩ (fa_cons ⟨T15.E, T15.kc⟩ (fa_cons ⟨T16.E, T16.kc⟩ (fa_cons ⟨T17.E, T17.kc⟩ (fa_cons ⟨T18.E, T18.kc⟩ (fa_cons ⟨T19.E, T19.kc⟩ (fa_cons ⟨T20.E, T20.kc⟩ (fa_cons ⟨T21.E, T21.kc⟩ (fa_cons ⟨T22.E, T22.kc⟩ (fa_cons ⟨T23.E, T23.kc⟩ fa_nil))))))))))))))))))))))
  obtain ⟨nB, nod⟩ := List.nodup_cons.mp nd
  have no : ∀ D ∈ [C1, C2, C3, C4, C5, C6, C7, C8, C9, C10, C11, C12, C13, C14, C15, C16, C17, C18, C19, C20, C21, C22, C23], D ≠ B := fun D hD e => nB (e ▸ hD)
  refine ⟨fd, bf, fun base => ?_⟩
  have GM : FnOk P w K mg base CX0 1 fm dm ["draw"] (spMixed K) := ok_mixed Fm mt
  have GT : FnOk P w K mg base CX0 3 ft dt ["draw", "amount"] (spTake K) := ok_take Ft mt Fm bm gm
  have GP : FnOk P w K mg base CX0 4 fp dp ["draw", "some"] (spPick K) := ok_pick Fp ml GT kt bt gt
  have GA : FnOk P w K mg base CX0 5 fy dy ["draw"] (spAny K) := ok_any Fa GP kp bp gp
  refine ok_law F (B := B) (Cs := [C1, C2, C3, C4, C5, C6, C7, C8, C9, C10, C11, C12, C13, C14, C15, C16, C17, C18, C19, C20, C21, C22, C23]) ⟨mi, me, mr, mp, mv, TB.gC, TB.plain qB, ⟨fb, db, ok_begun Fb ma, kb, bb, gb⟩, ⟨fp, dp, GP, kp, bp, gp⟩, ⟨fy, dy, GA, ky, by_, gy⟩,
    ⟨fk, dk, ok_kinds Fk mi T1.gC T2.gC T3.gC T4.gC T5.gC T6.gC T7.gC T8.gC T9.gC T10.gC T11.gC T12.gC T13.gC T14.gC T15.gC T16.gC T17.gC T18.gC T19.gC T20.gC T21.gC T22.gC T23.gC, kk, bk, gk⟩,
    ⟨fl, dl, ok_plain Fl (T1.plain q1) (T2.plain q2) (T3.plain q3) (T4.plain q4) (T5.plain q5) (T6.plain q6) (T7.plain q7) (T8.plain q8) (T9.plain q9) (T10.plain q10) (T11.plain q11) (T12.plain q12) (T13.plain q13) (T14.plain q14) (T15.plain q15) (T16.plain q16) (T17.plain q17), kl, bl, gl⟩,
    ⟨fe, de, ok_errs (k := 0) Fe (O18 base) (O19 base) (O20 base) (O21 base) (O22 base) (O23 base), ke, be, ge⟩,
    rfl, nod, eK, fun C hC => (hall C hC).1, fun C hC D hD => kit_refs (hall C hC).2 (hall D hD).2 (up_no (no D hD)), fun C hC => kit_up (hall C hC).2 TB.kc (by simp [List.contains_cons]), fun C hC => kit_ve (hall C hC).2 (by simp [List.contains_cons]),
    fun D hD => kit_refs TB.kc (hall D hD).2 up_no0, nB, kit_ve TB.kc (by simp [List.contains_cons])⟩
end Kz

open PySem PySem.W PyProof.Rows
set_option maxHeartbeats 0 in
theorem PySem.Challenge.cw_ruleshadows_k00_errors_of_all_parts_holds : PySem.Challenge.rw_ruleshadows_k00_errors_of_all_parts.Holds := by
  w_on; o_law; k_head; (case hw => w_witness2)
  k_fill
  refine Gk.walkG (l := PySem.Challenge.rw_ruleshadows_k00_errors_of_all_parts) (n := 63) (k := 6) (x := "script") (CX := fun _ => L2.CX0) (sp := fun w => Kz.spLaw _) rfl (by decide) rfl ⟨rfl, by decide, by decide⟩ (fun w h Y => PySem.W.kIn_of Y) ?F (fun _ _ a ns hl _ hS => ⟨a, ns, rfl, hS, hl, fun _ => rfl⟩) (fun _ _ _ _ _ h => h)
  case F =>
    intro w mg fa h KX G hmg
    have TB := by
      refine' Kz.cls_mk (x := "RuleError") KX G ?ns ?lk ?ga ?gt ?sb ?cc ?ob ?hd ?ty ?kC
      (case ns => k_is); (case lk => k_is); (case ga => k_is); (case gt => k_is); (case sb => k_is); (case cc => k_is); (case ob => k_is); (case hd => k_is); (case ty => k_is); (case kC => k_is)
    have T1 := by
      refine' Kz.cls_mk (x := "BadPrime") KX G ?ns ?lk ?ga ?gt ?sb ?cc ?ob ?hd ?ty ?kC
      (case ns => k_is); (case lk => k_is); (case ga => k_is); (case gt => k_is); (case sb => k_is); (case cc => k_is); (case ob => k_is); (case hd => k_is); (case ty => k_is); (case kC => k_is)
    have T2 := by
      refine' Kz.cls_mk (x := "BadWord") KX G ?ns ?lk ?ga ?gt ?sb ?cc ?ob ?hd ?ty ?kC
      (case ns => k_is); (case lk => k_is); (case ga => k_is); (case gt => k_is); (case sb => k_is); (case cc => k_is); (case ob => k_is); (case hd => k_is); (case ty => k_is); (case kC => k_is)
    have T3 := by
      refine' Kz.cls_mk (x := "BadRow") KX G ?ns ?lk ?ga ?gt ?sb ?cc ?ob ?hd ?ty ?kC
      (case ns => k_is); (case lk => k_is); (case ga => k_is); (case gt => k_is); (case sb => k_is); (case cc => k_is); (case ob => k_is); (case hd => k_is); (case ty => k_is); (case kC => k_is)
    have T4 := by
      refine' Kz.cls_mk (x := "BadTable") KX G ?ns ?lk ?ga ?gt ?sb ?cc ?ob ?hd ?ty ?kC
      (case ns => k_is); (case lk => k_is); (case ga => k_is); (case gt => k_is); (case sb => k_is); (case cc => k_is); (case ob => k_is); (case hd => k_is); (case ty => k_is); (case kC => k_is)
    have T5 := by
      refine' Kz.cls_mk (x := "NotAlike") KX G ?ns ?lk ?ga ?gt ?sb ?cc ?ob ?hd ?ty ?kC
      (case ns => k_is); (case lk => k_is); (case ga => k_is); (case gt => k_is); (case sb => k_is); (case cc => k_is); (case ob => k_is); (case hd => k_is); (case ty => k_is); (case kC => k_is)
    have T6 := by
      refine' Kz.cls_mk (x := "BadMap") KX G ?ns ?lk ?ga ?gt ?sb ?cc ?ob ?hd ?ty ?kC
      (case ns => k_is); (case lk => k_is); (case ga => k_is); (case gt => k_is); (case sb => k_is); (case cc => k_is); (case ob => k_is); (case hd => k_is); (case ty => k_is); (case kC => k_is)
    have T7 := by
      refine' Kz.cls_mk (x := "NotFull") KX G ?ns ?lk ?ga ?gt ?sb ?cc ?ob ?hd ?ty ?kC
      (case ns => k_is); (case lk => k_is); (case ga => k_is); (case gt => k_is); (case sb => k_is); (case cc => k_is); (case ob => k_is); (case hd => k_is); (case ty => k_is); (case kC => k_is)
    have T8 := by
      refine' Kz.cls_mk (x := "BadLower") KX G ?ns ?lk ?ga ?gt ?sb ?cc ?ob ?hd ?ty ?kC
      (case ns => k_is); (case lk => k_is); (case ga => k_is); (case gt => k_is); (case sb => k_is); (case cc => k_is); (case ob => k_is); (case hd => k_is); (case ty => k_is); (case kC => k_is)
    have T9 := by
      refine' Kz.cls_mk (x := "BadOrder") KX G ?ns ?lk ?ga ?gt ?sb ?cc ?ob ?hd ?ty ?kC
      (case ns => k_is); (case lk => k_is); (case ga => k_is); (case gt => k_is); (case sb => k_is); (case cc => k_is); (case ob => k_is); (case hd => k_is); (case ty => k_is); (case kC => k_is)
    have T10 := by
      refine' Kz.cls_mk (x := "NotTidy") KX G ?ns ?lk ?ga ?gt ?sb ?cc ?ob ?hd ?ty ?kC
      (case ns => k_is); (case lk => k_is); (case ga => k_is); (case gt => k_is); (case sb => k_is); (case cc => k_is); (case ob => k_is); (case hd => k_is); (case ty => k_is); (case kC => k_is)
    have T11 := by
      refine' Kz.cls_mk (x := "BadWeb") KX G ?ns ?lk ?ga ?gt ?sb ?cc ?ob ?hd ?ty ?kC
      (case ns => k_is); (case lk => k_is); (case ga => k_is); (case gt => k_is); (case sb => k_is); (case cc => k_is); (case ob => k_is); (case hd => k_is); (case ty => k_is); (case kC => k_is)
    have T12 := by
      refine' Kz.cls_mk (x := "BadCells") KX G ?ns ?lk ?ga ?gt ?sb ?cc ?ob ?hd ?ty ?kC
      (case ns => k_is); (case lk => k_is); (case ga => k_is); (case gt => k_is); (case sb => k_is); (case cc => k_is); (case ob => k_is); (case hd => k_is); (case ty => k_is); (case kC => k_is)
    have T13 := by
      refine' Kz.cls_mk (x := "BadStart") KX G ?ns ?lk ?ga ?gt ?sb ?cc ?ob ?hd ?ty ?kC
      (case ns => k_is); (case lk => k_is); (case ga => k_is); (case gt => k_is); (case sb => k_is); (case cc => k_is); (case ob => k_is); (case hd => k_is); (case ty => k_is); (case kC => k_is)
    have T14 := by
      refine' Kz.cls_mk (x := "BadDeed") KX G ?ns ?lk ?ga ?gt ?sb ?cc ?ob ?hd ?ty ?kC
      (case ns => k_is); (case lk => k_is); (case ga => k_is); (case gt => k_is); (case sb => k_is); (case cc => k_is); (case ob => k_is); (case hd => k_is); (case ty => k_is); (case kC => k_is)
    have T15 := by
      refine' Kz.cls_mk (x := "BadName") KX G ?ns ?lk ?ga ?gt ?sb ?cc ?ob ?hd ?ty ?kC
      (case ns => k_is); (case lk => k_is); (case ga => k_is); (case gt => k_is); (case sb => k_is); (case cc => k_is); (case ob => k_is); (case hd => k_is); (case ty => k_is); (case kC => k_is)
    have T16 := by
      refine' Kz.cls_mk (x := "BadLive") KX G ?ns ?lk ?ga ?gt ?sb ?cc ?ob ?hd ?ty ?kC
      (case ns => k_is); (case lk => k_is); (case ga => k_is); (case gt => k_is); (case sb => k_is); (case cc => k_is); (case ob => k_is); (case hd => k_is); (case ty => k_is); (case kC => k_is)
    have T17 := by
      refine' Kz.cls_mk (x := "NothingLeft") KX G ?ns ?lk ?ga ?gt ?sb ?cc ?ob ?hd ?ty ?kC
      (case ns => k_is); (case lk => k_is); (case ga => k_is); (case gt => k_is); (case sb => k_is); (case cc => k_is); (case ob => k_is); (case hd => k_is); (case ty => k_is); (case kC => k_is)
    have T18 := by
      refine' Kz.cls_mk (x := "BadNumber") KX G ?ns ?lk ?ga ?gt ?sb ?cc ?ob ?hd ?ty ?kC
      (case ns => k_is); (case lk => k_is); (case ga => k_is); (case gt => k_is); (case sb => k_is); (case cc => k_is); (case ob => k_is); (case hd => k_is); (case ty => k_is); (case kC => k_is)
    have T19 := by
      refine' Kz.cls_mk (x := "BadBook") KX G ?ns ?lk ?ga ?gt ?sb ?cc ?ob ?hd ?ty ?kC
      (case ns => k_is); (case lk => k_is); (case ga => k_is); (case gt => k_is); (case sb => k_is); (case cc => k_is); (case ob => k_is); (case hd => k_is); (case ty => k_is); (case kC => k_is)
    have T20 := by
      refine' Kz.cls_mk (x := "TooMany") KX G ?ns ?lk ?ga ?gt ?sb ?cc ?ob ?hd ?ty ?kC
      (case ns => k_is); (case lk => k_is); (case ga => k_is); (case gt => k_is); (case sb => k_is); (case cc => k_is); (case ob => k_is); (case hd => k_is); (case ty => k_is); (case kC => k_is)
    have T21 := by
      refine' Kz.cls_mk (x := "NoWatch") KX G ?ns ?lk ?ga ?gt ?sb ?cc ?ob ?hd ?ty ?kC
      (case ns => k_is); (case lk => k_is); (case ga => k_is); (case gt => k_is); (case sb => k_is); (case cc => k_is); (case ob => k_is); (case hd => k_is); (case ty => k_is); (case kC => k_is)
    have T22 := by
      refine' Kz.cls_mk (x := "NoMark") KX G ?ns ?lk ?ga ?gt ?sb ?cc ?ob ?hd ?ty ?kC
      (case ns => k_is); (case lk => k_is); (case ga => k_is); (case gt => k_is); (case sb => k_is); (case cc => k_is); (case ob => k_is); (case hd => k_is); (case ty => k_is); (case kC => k_is)
    have T23 := by
      refine' Kz.cls_mk (x := "BadText") KX G ?ns ?lk ?ga ?gt ?sb ?cc ?ob ?hd ?ty ?kC
      (case ns => k_is); (case lk => k_is); (case ga => k_is); (case gt => k_is); (case sb => k_is); (case cc => k_is); (case ob => k_is); (case hd => k_is); (case ty => k_is); (case kC => k_is)
    have O18 := by
      refine' Kz.own_number (P := PySem.Challenge.rw_ruleshadows_k00_errors_of_all_parts.prog) (w := w) T18 (by decide) TB.gC ⟨?rd, ?gi, ?att⟩ ?sa ?nf ?iC ?tI ?l ?c ?k
      (case rd => k_is); (case gi => k_is); (case att => k_is); (case sa => k_is); (case nf => k_is); (case iC => k_is); (case tI => k_is); (case l => k_is); (case c => k_is); (case k => k_is)
    have O19 := by
      refine' Kz.own_book (P := PySem.Challenge.rw_ruleshadows_k00_errors_of_all_parts.prog) (w := w) T19 (by decide) TB.gC ⟨?rd, ?gi, ?att⟩ ?sa ?nf ?iC ?tI ?l ?c ?k
      (case rd => k_is); (case gi => k_is); (case att => k_is); (case sa => k_is); (case nf => k_is); (case iC => k_is); (case tI => k_is); (case l => k_is); (case c => k_is); (case k => k_is)
    have O20 := by
      refine' Kz.own_many (P := PySem.Challenge.rw_ruleshadows_k00_errors_of_all_parts.prog) (w := w) T20 (by decide) TB.gC ⟨?rd, ?gi, ?att⟩ ?sa ?nf ?iC ?tI ?l ?c ?k
      (case rd => k_is); (case gi => k_is); (case att => k_is); (case sa => k_is); (case nf => k_is); (case iC => k_is); (case tI => k_is); (case l => k_is); (case c => k_is); (case k => k_is)
    have O21 := by
      refine' Kz.own_watch (P := PySem.Challenge.rw_ruleshadows_k00_errors_of_all_parts.prog) (w := w) T21 (by decide) TB.gC ⟨?rd, ?gi, ?att⟩ ?sa ?nf ?iC ?tI ?l ?c ?k
      (case rd => k_is); (case gi => k_is); (case att => k_is); (case sa => k_is); (case nf => k_is); (case iC => k_is); (case tI => k_is); (case l => k_is); (case c => k_is); (case k => k_is)
    have O22 := by
      refine' Kz.own_mark (P := PySem.Challenge.rw_ruleshadows_k00_errors_of_all_parts.prog) (w := w) T22 (by decide) TB.gC ⟨?rd, ?gi, ?att⟩ ?sa ?nf ?iC ?tI ?l ?c ?k
      (case rd => k_is); (case gi => k_is); (case att => k_is); (case sa => k_is); (case nf => k_is); (case iC => k_is); (case tI => k_is); (case l => k_is); (case c => k_is); (case k => k_is)
    have O23 := by
      refine' Kz.own_text (P := PySem.Challenge.rw_ruleshadows_k00_errors_of_all_parts.prog) (w := w) T23 (by decide) TB.gC ⟨?rd, ?gi, ?att⟩ ?sa ?nf ?iC ?tI ?l ?c ?k
      (case rd => k_is); (case gi => k_is); (case att => k_is); (case sa => k_is); (case nf => k_is); (case iC => k_is); (case tI => k_is); (case l => k_is); (case c => k_is); (case k => k_is)
    have Fb := by
      refine' Kz.fnT_mk (x := "_law_begun") (st := Kz.sBegun) (ps := ["script"]) KX G ?a ?l ?c ?k (fun _ _ _ _ _ _ us hl => match us, hl with | [_], _ => rfl)
      (case a => k_is); (case l => k_is); (case c => k_is); (case k => k_is)
    have Fm := by
      refine' Kz.fnT_mk (x := "_law_mixed") (st := Kz.sMixed) (ps := ["draw"]) KX G ?a ?l ?c ?k (fun _ _ _ _ _ _ us hl => match us, hl with | [_], _ => rfl)
      (case a => k_is); (case l => k_is); (case c => k_is); (case k => k_is)
    have Ft := by
      refine' Kz.fnT_mk (x := "_law_take") (st := Kz.sTake) (ps := ["draw", "amount"]) KX G ?a ?l ?c ?k (fun _ _ _ _ _ _ us hl => match us, hl with | [_, _], _ => rfl)
      (case a => k_is); (case l => k_is); (case c => k_is); (case k => k_is)
    have Fp := by
      refine' Kz.fnT_mk (x := "_law_pick") (st := Kz.sPick) (ps := ["draw", "some"]) KX G ?a ?l ?c ?k (fun _ _ _ _ _ _ us hl => match us, hl with | [_, _], _ => rfl)
      (case a => k_is); (case l => k_is); (case c => k_is); (case k => k_is)
    have Fa := by
      refine' Kz.fnT_mk (x := "_law_any") (st := Kz.sAny) (ps := ["draw"]) KX G ?a ?l ?c ?k (fun _ _ _ _ _ _ us hl => match us, hl with | [_], _ => rfl)
      (case a => k_is); (case l => k_is); (case c => k_is); (case k => k_is)
    have Fk := by
      refine' Kz.fnT_mk (x := "_law_kinds") (st := Kz.sKinds) (ps := ["error"]) KX G ?a ?l ?c ?k (fun _ _ _ _ _ _ us hl => match us, hl with | [_], _ => rfl)
      (case a => k_is); (case l => k_is); (case c => k_is); (case k => k_is)
    have Fl := by
      refine' Kz.fnT_mk (x := "_law_plain_errors") (st := Kz.sPlain) (ps := ["words_here"]) KX G ?a ?l ?c ?k (fun _ _ _ _ _ _ us hl => match us, hl with | [_], _ => rfl)
      (case a => k_is); (case l => k_is); (case c => k_is); (case k => k_is)
    have Fe := by
      refine' Kz.fnT_mk (x := "_law_errors_of") (st := Kz.sErrs) (ps := ["each"]) KX G ?a ?l ?c ?k (fun _ _ _ _ _ _ us hl => match us, hl with | [_], _ => rfl)
      (case a => k_is); (case l => k_is); (case c => k_is); (case k => k_is)
    have FL := by
      refine' Kz.fnL_mk KX G hmg ?a ?l ?c ?k
      (case a => k_is); (case l => k_is); (case c => k_is); (case k => k_is)
    have M := by
      refine' Kz.all_mk (P := PySem.Challenge.rw_ruleshadows_k00_errors_of_all_parts.prog) (w := w) ⟨?gg, ?tk⟩ TB ?qB T1 T2 T3 T4 T5 T6 T7 T8 T9 T10 T11 T12 T13 T14 T15 T16 T17 T18 T19 T20 T21 T22 T23 ?q1 ?q2 ?q3 ?q4 ?q5 ?q6 ?q7 ?q8 ?q9 ?q10 ?q11 ?q12 ?q13 ?q14 ?q15 ?q16 ?q17 O18 O19 O20 O21 O22 O23 (by decide) FL Fb Fm Ft Fp Fa Fk Fl Fe (PySem.W.mg_none_of KX G ?z0) (PySem.W.mg_none_of KX G ?z1) (PySem.W.mg_none_of KX G ?z2) (PySem.W.mg_none_of KX G ?z3) (PySem.W.mg_none_of KX G ?z4) (PySem.W.mg_none_of KX G ?z5) (PySem.W.mg_none_of KX G ?z6) (PySem.W.mg_none_of KX G ?z7)
      (case gg => k_is); (case tk => k_is); (case qB => k_exc)
      (case q1 => k_exc); (case q2 => k_exc); (case q3 => k_exc); (case q4 => k_exc); (case q5 => k_exc); (case q6 => k_exc); (case q7 => k_exc); (case q8 => k_exc); (case q9 => k_exc); (case q10 => k_exc); (case q11 => k_exc); (case q12 => k_exc); (case q13 => k_exc); (case q14 => k_exc); (case q15 => k_exc); (case q16 => k_exc); (case q17 => k_exc)
      (case z0 => k_is); (case z1 => k_is); (case z2 => k_is); (case z3 => k_is); (case z4 => k_is); (case z5 => k_is); (case z6 => k_is); (case z7 => k_is)
    obtain ⟨fd, bf, hF⟩ := M
    exact ⟨fd, bf, fun base _ _ => hF base⟩
