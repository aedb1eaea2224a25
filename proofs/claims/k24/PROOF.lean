import PyProof.Rows.All
import Wide.All
import OpenK.AllK
import Wide.FinOn
import HandS.ForMost
import HandS.Codes
import PySem.Challenge.RW_saidandasked_k24_errors_made_and_bases
import HandS.ExcInit
import HandS.Nested
import KE.KExcSuper
import HandS.ExcIs
import HandS.IsInst
import HandS.ExcField
import KE.KExcIs
import HandS.Head0
import HandS.Head1
import HandS.Head2
import HandS.HeadHook1
import HandS.HeadHook2
import KE.KStateDown
import HandS.TupSets
set_option Elab.async false
set_option linter.all false
set_option maxRecDepth 100000
set_option maxHeartbeats 2000000
/-! super().__init__(text) of an own error class, over the hand layer. -/
namespace Sx
open PySem PySem.Spec PyProof.Rows L2
section
variable {prog : Program} {w : World} {A : Around} {E : Value → Shared → Prop} {h : Heap} {g : Array GenState} {d : Drawn} {t : Nat} {os : OsState}
variable {nm q : Str} {C N : Addr} {bs bm : List Value} {hdct : Bool} {sn : List Str} {sub : List Value} {ab : Bool} {col : Option Bool} {dd : Option Addr} {k0 k1 k2 k3 k5 : Option Value}
/-- the bound ValueError.__init__ is called -/
theorem call_mw {u e t0 : Addr} {us : List Value} {Q : Value → Shared → Prop} (hC : h.get? C = some (excClassObj nm q C N bs bm hdct sn sub ab col dd k0 k1 k2 k3 k5 "ValueError.__new__"))
    (he : h.get? e = some (PySem.HandSPX.excO C t0)) (hu : h.get? u = some (PySem.W.kxs_mw "ValueError.__init__" e)) (hz : us.length ≤ sizeLine)
    (hq : ∀ h' t1, (∀ b o, b ≠ e → h.get? b = some o → h'.get? b = some o) → h'.get? e = some (PySem.HandSPX.excO C t1) → Q .none ⟨h', g, d, t, os⟩) :
    wpAny (model prog w) A (call (.ref u) us) Q E ⟨h, g, d, t, os⟩ := by
  refine wpAny_call (codeAny_of_tree ?_); show wpAny _ A.in1 (callAny (.ref u) ⟨us, []⟩) _ _ _; simp only [callAny]
  refine wpAny_bind (wpAny_load hu ?_); simp only [PySem.W.kxs_mw, show (Value.type "method-wrapper" == Value.type "method" || Value.type "method-wrapper" == Value.type "builtin_function_or_method" || Value.type "method-wrapper" == Value.type "method-wrapper") = true by decide, if_true]
  refine PySem.W.KFB.if_so (by decide) (wpAny_bind (PySem.W.check_bound_init F.excBase_ValueError.toExcCallFacts hC he rfl ?_))
  refine wpAny_bind (wpAny_pure (wpAny_pure ⟨PySem.plainId_quiet F.excBase_ValueError.init.plain _, codeAny_builtin F.excBase_ValueError.initEntry ?_⟩))
  exact PySem.W.exc_init_tree (cls := .ref C) (t0 := t0) (dv := none) (c2 := .none) (c3 := .none) (b4 := .bool false) he hz fun h' k e1 _ => hq h' _ k e1
end
section
variable {X : Cx} {pins : List (Addr × Obj)} {σ : L2.St} {H : Hp} {s : Shared} {a C D f cc cda : Addr} {oc : Value} {od : Option Addr} {fd : FuncData} {osl : Array (Option Value)} {ar : Arg} {vs : Array Value} {file : Str} {tf : Tok} {ccl cl : Value} {cdd cld : Option Addr} {ccs csl : Array (Option Value)} {cdD : ClassData}
theorem super_init {body : List Stmt} {p0 p1 p2 pos pos' cp : Pos} {j : Nat} {x : Str} {pl : Sem Bool} (I : Inv X pins σ H s)
    (hks : X.env.scope.names.lookup ("super" : Str) = some .globalImplicit) (hkc : X.env.scope.names.lookup ("__class__" : Str) = some .free) (hcells : X.env.cells.lookup ("__class__" : Str) = some cc)
    (hfu : X.env.func = some f) (hf : X.K.lookup f = some ⟨oc, od, .func fd, osl⟩) (hp : (fd.params.posonlyargs ++ fd.params.args).head? = some ar)
    (hka : X.env.scope.names.lookup ar.arg = some .local) (hN : X.N[0]? = some ar.arg) (hσ : σ[0]? = some (some (.ref a)))
    (hco : X.env.code = .ref cda) (hcode : X.K.lookup cda = some ⟨ccl, cdd, .fields vs, ccs⟩) (hvs : vs[2]? = some (.str file tf)) (hfile : ((X.prog.main.file : Str) == file) = true)
    (htop : (X.prog.main.scope.names.lookup ("super" : Str)).isSome = false) (hcell : X.K.lookup cc = some ⟨cl, cld, .cell (some (.ref D)), csl⟩) (hD : PySem.W.clsIn X.K D = some cdD)
    (hsub : PySem.W.mroIn X.K C (.ref D) = some true) (hsuper : X.mg "super" = none) (hopq : PySem.W.nsIn X.K cStatics "thirdparty.any" = some none)
    (hm : PySem.W.ks_superIn X.K C D "__init__" = some (some (.builtin "ValueError.__init__"))) (hB : PySem.W.subIn X.K (.ref C) (.type "ValueError") = some true)
    (T : OexC X.K C) (ea : H a = some (exo a C none)) (hint : interactive X.env = false)
    (hsw : swapsWith (.Call (.Attribute (.Call (.Name "super" p0) [] [] p1) "__init__" p2) [.Constant (.str x) j cp] [] pos) none pos'.line X.env = pure false)
    (he : starEach [.Constant (.str x) j cp] X.env = (false, eval (.Constant (.str x) j cp) X.env) :: starEach [] X.env)
    (hev : eval (.Call (.Attribute (.Call (.Name "super" p0) [] [] p1) "__init__" p2) [.Constant (.str x) j cp] [] pos) X.env = (do
      let ov ← attributeBase (.Call (.Name "super" p0) [] [] p1) "__init__" X.env (eval (.Call (.Name "super" p0) [] [] p1) X.env)
      standAt p2.atName; let (f, first) ← holding [ov] (getMethod ov "__init__" pl); callWith pos f first (backTo pos (starEach [.Constant (.str x) j cp] X.env)) [])) :
    PySem.wpAt (model X.prog X.w) X.A (.func body X.env) (exec (.Expr (.Call (.Attribute (.Call (.Name "super" p0) [] [] p1) "__init__" p2) [.Constant (.str x) j cp] [] pos) pos') X.env) (fun fl s' => fl = .next ∧ Inv X pins σ H s') X.xe s := by
  refine ks_wpAt_Expr_any (ks_wpAt_MethodCall ?_ hev) hint hsw
  refine ks_wpAt_super_base hks hkc rfl hfu (I.kIn _ _ hf) rfl hp hco (I.kIn _ _ hcode) rfl hvs hfile htop ?_
  obtain ⟨mb, hb1, hb2⟩ := I.mod.blt
  refine PySem.W.ks_loadName_global I.ok.kind hks (Calls.loadGlobal_builtin (by rw [I.ok.glob]; exact I.mod.glob.keeps I.bk) hsuper (by rw [I.ok.blt]; exact hb1.keeps I.bk) ((hb2 _ (by decide +kernel)).trans PyProof.Rows.Boot.«super») ⟨rfl, ?_⟩)
  refine wpAny_loadName_free I.ok.kind hkc hcells ⟨_, I.kIn _ _ hcell, rfl⟩ ?_
  obtain ⟨m, hns, hl⟩ := id I.loc
  obtain ⟨u, ru, lu⟩ := hl 0 _ _ hN hσ (.inl hka)
  obtain rfl : u = Value.ref a := ru
  have lv : m ar.arg = some (.ref a) := by
    rcases lu with ⟨_, z⟩ | ⟨z, _⟩
    · exact z
    · have k : X.env.kindOf ar.arg = some .local := hka
      rw [k] at z
      rcases z with z | z <;> cases z
  refine wpAny_loadName_local I.ok.kind hka hns lv ?_
  obtain ⟨t1, ho⟩ := exo_at I.hok ea
  obtain ⟨hp', g, d, t, os⟩ := s
  obtain ⟨oD, hD1, hD2⟩ : ∃ oD, hp'.get? D = some oD ∧ oD.data = .cls cdD := by
    unfold PySem.W.clsIn at hD
    split at hD
    · rename_i ho'
      cases hD
      exact ⟨_, I.kIn _ _ ho', rfl⟩
    · cases hD
  refine ks_wpAny_isType_cls hD1 hD2 ⟨rfl, ?_⟩
  refine ks_wpAny_call_super hD1 hD2 ho rfl (fun c e => by cases e) (PySem.W.looks_mroIn I.kIn hsub) (fun h1 e1 k1 => ?_)
  obtain ⟨nm, q, N, bs, bm, sn, sub, ab, col, dd, k0, k1', k2, k3, k5, hC, hbm⟩ := T.cls
  have KX := I.kIn
  have KX1 : X.K.In h1 := KX.keeps k1
  have IA : PySem.W.InstAt hp' a { cls := .ref C, dict := none, data := .fields #[.ref t1, .none, .none, .none, .bool false, .none] } C none := ⟨ho, rfl, rfl, trivial⟩
  have IA1 : PySem.W.InstAt h1 a { cls := .ref C, dict := none, data := .fields #[.ref t1, .none, .none, .none, .bool false, .none] } C none := ⟨k1 _ _ ho, rfl, rfl, trivial⟩
  cases hc : PySem.W.clsIn X.K C with
  | none => unfold PySem.W.ks_superIn at hm; rw [hc] at hm; cases hm
  | some cd =>
    unfold PySem.W.ks_superIn at hm
    rw [hc] at hm
    refine PySem.W.kxs_getMethod PySem.W.kxs_ValueError e1 (PySem.W.looks_opaque KX1 hopq) (l₀ := cd.mro) (fun A Q E s k q => wpAny_bind ((PySem.W.looks_clsIn KX1 hc) A _ E s k (wpAny_pure q))) rfl KX1 hm
      (IA1.type.andThen (PySem.W.looks_subIn KX1 hB)) (PySem.W.ks_ne KX1 IA1 hc) (by decide) ?_
    generalize hh2 : h1.push (PySem.W.kxs_mw "ValueError.__init__" a) = h2
    have k2' : ∀ b o, hp'.get? b = some o → h2.get? b = some o := fun b o e => by rw [← hh2]; exact Heap.get?_push_of_some _ (k1 b o e)
    have KX1' : X.K.In h2 := KX.keeps k2'
    have hu2 : h2.get? h1.objs.size = some (PySem.W.kxs_mw "ValueError.__init__" a) := by rw [← hh2]; exact Heap.get?_push_at rfl rfl
    have I2 : Inv X pins σ H ⟨h2, g, d, t + 1, os⟩ := I.kept (t' := t + 1) k2'
    rw [he]
    refine PySem.W.kxs_callWith (i := "ValueError.__init__") (x := a) (by rfl) (Calls.evalArgs_plain ?_)
    refine Calls.spliced_cons (wpAny_Constant_str (k := j) (pos := cp) (Calls.spliced_nil ⟨hu2, ?_⟩))
    refine call_mw (KX1' _ _ hC) (k2' _ _ ho) hu2 (by show 1 ≤ sizeLine; rw [sizeLine_eq]; omega) fun h3 t3 k3 hx => ⟨rfl, ?_⟩
    have J := I2.write (t' := t + 1 + 1) (x := a) (e := a) (o := exo a C none) (by rw [ea]; exact True.intro) (.inl rfl) k3 ⟨_, hx⟩ (exo_ok hx)
    have eu : upd H a (exo a C none) = H := funext fun b => by
      by_cases hb : b = a
      · rw [hb, upd_same, ea]
      · exact upd_ne hb
    rw [eu] at J
    exact J
end
section
open NdefX
variable {CX : CXT} {P : Program} {w : World} {K : PySem.W.Frag} {mg : Str → Option Value} {base : Heap} {N ps fr : List Str} {ws : List (Option V)} {F : NF} {f : Addr} {k : Nat} {sp : Sp} {st : Stmt} {rest : List Stmt} {oc doc pm ctv : Value} {od : Option Addr} {osl : Array (Option Value)}
/-- a written def that captures cells, its first statement known by its activation, the others by the layer -/
theorem fn_first (hb0 : F.body = st :: rest) (lk : K.lookup f = some ⟨oc, od, .func (F.fd doc pm ctv), osl⟩) (hcd : PySem.W.codeIn K (.ref F.c) F.qual = true) (S : NScope N ps fr F.scope)
    (C : ∀ (A : Around) (outer : List Env) (s : Shared) (H : Hp), Env0 P w K mg base A outer s H → CellsAt F.cl fr ws s.heap H) (len : ∀ vs H Q E, sp vs H Q E → vs.length = ps.length)
    (h1 : ∀ (A : Around) (outer : List Env) (s : Shared) (H : Hp) (vs : List V) (Q : VK) (E : XK), Room k (A.deeper (envF F f s.heap.objs.size)) → sp vs H Q E → ∀ s1, Inv (ncx CX P w K mg base N F f A outer s H E) [] (startF N vs ws) H s1 →
      PySem.wpAt (model P w) (A.deeper (envF F f s.heap.objs.size)) (.func F.body (envF F f s.heap.objs.size)) (exec st (envF F f s.heap.objs.size)) (fun fl s' => fl = .next ∧ Inv (ncx CX P w K mg base N F f A outer s H E) [] (startF N vs ws) H s') (ncx CX P w K mg base N F f A outer s H E).xe s1)
    (h2 : ∀ (A : Around) (outer : List Env) (s : Shared) (H : Hp) (vs : List V) (Q : VK) (E : XK), Room k (A.deeper (envF F f s.heap.objs.size)) → sp vs H Q E →
      ∃ t, PSs (ncx CX P w K mg base N F f A outer s H E) rest t ∧ t { nx := fun _ H' => Q .non H', rt := Q } (startF N vs ws) H) :
    FnOk P w K mg base CX (k + 1) f (F.fd doc pm ctv) ps sp := by
  refine ⟨len, fun A outer s H args us vs Q E hr e0 hb r hsp => ?_⟩
  have hl := len _ _ _ _ hsp
  have KX : K.In s.heap := e0.mod.kin.keeps fun b o e => (e0.bs b o e).1
  have lim : s.heap.NoLimit := e0.mod.nolimit.keeps fun b o e => (e0.bs b o e).1
  refine codeAny_call_function hr.depth (KX _ _ lk) rfl S.co S.gen rfl (PySem.W.codeRec_of KX hcd) (hb _ _ _ _ ?_)
  refine wpAny_newFunctionEnv S.nocell (fun ⟨n, _⟩ hy => S.par n (List.of_mem_zip hy).1) (fun h₁ hns hsb => ⟨lim.fresh _ hsb, ks_codeAny_funcAt ?_⟩) S.kind
  have kp : ∀ b o, s.heap.get? b = some o → h₁.get? b = some o := fun b o e => hsb.extBut b o (Nat.ne_of_lt (Heap.lt_size e)) (Heap.get?_push_of_some _ e)
  have I := inv_startN (CX := CX) (N := N) (F := F) (f := f) (E := E) (tk := s.toks + (ps.zip us).length) S hr.hd e0 hl r (C A outer s H e0) hns kp
  have q1 := h1 A outer s H vs Q E (hr.deeper _) hsp _ I
  obtain ⟨t, ht, hq⟩ := h2 A outer s H vs Q E (hr.deeper _) hsp
  show PySem.wpAt _ _ _ (execs F.body (envF F f s.heap.objs.size)) _ _ _
  rw [show execs F.body (envF F f s.heap.objs.size) = execs (st :: rest) (envF F f s.heap.objs.size) from by rw [hb0]]
  refine ks_wpAt_execs_cons (PySem.wpAt_mono q1 (fun fl s2 hfl => ?_) fun e s2 z => z)
  obtain ⟨rfl, J⟩ := hfl
  refine PySem.wpAt_of_wpAny (wpAny_mono (ht.run [] s2 (startF N vs ws) H _ J hq) (fun fl s' hs => ?_) fun e s' hs => hs)
  have fin : ∀ {σ' : L2.St} {H' : Hp} {v : V} {u : Value}, Inv (ncx CX P w K mg base N F f A outer s H E) [] σ' H' s' → L2.RelV v u → Q v H' → CE outer P w H s Q u s' := fun J r q => ⟨_, _, J.os, J.bare, J.base, J.hok, r, q⟩
  cases fl with
  | ret u => exact let ⟨_, _, _, J, r, q⟩ := hs; fin J r q
  | next => exact let ⟨_, _, J, q⟩ := hs; fin (v := V.non) (u := Value.none) J rfl q
  | brk => exact let ⟨_, _, _, q⟩ := hs; q.elim
  | cont => exact let ⟨_, _, _, q⟩ := hs; q.elim
end
section
variable {X : Cx} {e : Expr} {es : List Expr} {ta : TA} {p pos : Pos}
/-- C(e, ..) as a value, C an own error class with an __init__ of its own: the new error stays known -/
theorem pe_err {CX : CXT} {x : Str} {C fI : Addr} {k : Nat} {fd : FuncData} {ps : List Str} {sp : Sp} (T : OexC X.K C) (iC : PySem.W.findIn X.K (.ref C) "__init__" = some (some (.ref fI))) (tI : PySem.W.typeIn X.K (.ref fI) = some (.type "function"))
    (F1 : FnOk X.prog X.w X.K X.mg X.base CX k fI fd ps sp) (hr : Room (k + 1) X.A) (hb : Binds X.K fd ps []) (hx : Passes CX X E0) (hg : Gl X x) (hm : X.mg x = some (.ref C)) (ha : PA X (e :: es) ta)
    (hdb : (x == ("__debug__" : Str)) = false := by decide) (he : starEach (e :: es) X.env = (false, eval e X.env) :: starEach es X.env := by rfl) (hpl : (backTo pos (starEach es X.env)).any (·.1) = false := by rfl) :
    PE X (.Call (.Name x p) (e :: es) [] pos) (fun σ H Q => ta σ H fun vs H1 => vs.length ≤ 1000 ∧ ∀ a, H1 a = none → sp (.ref a :: vs) (upd H1 a (exo a C none)) (fun v H2 => v = .non ∧ Q (.ref a) H2) E0) := by
  refine ⟨fun pins s σ H Q I h => ?_⟩
  obtain ⟨nm, q, N, bs, bm, sn, sub, ab, col, dd, k0, k1, k2, k3, k5, hC, hbm⟩ := T.cls
  refine wpAny_Call_Name_kw (ld_glob I hg hm (PySem.W.callWith_K (h₀ := X.base) I.ok.mod.kin T.kC (thn (ha.run pos pins s σ H _ I h) fun us s1 ⟨vs, H1, I1, r1, hz, q1⟩ => ⟨I1.kIn, ?_⟩) he hpl) hdb)
  show wpAny _ _ (call (.ref C) us) _ _ _
  obtain ⟨hp, g, dr, tk, os⟩ := s1
  have hn : H1 (hp.objs.size + 1) = none := I1.hok.fresh (Nat.le_succ _)
  have hq := q1 _ hn
  have hget : ((hp.push (PySem.W.kdv_tup us)).push (PySem.HandSPX.excO C hp.objs.size)).get? (hp.objs.size + 1) = some (PySem.HandSPX.excO C hp.objs.size) := by heap_get
  have I2 : Inv X pins σ (upd H1 (hp.objs.size + 1) (exo (hp.objs.size + 1) C none)) ⟨(hp.push (PySem.W.kdv_tup us)).push (PySem.HandSPX.excO C hp.objs.size), g, dr, tk, os⟩ :=
    I1.laid (t' := tk) (a := hp.objs.size + 1) (o := exo (hp.objs.size + 1) C none) (fun b o e => Heap.get?_push_of_some _ (Heap.get?_push_of_some _ e)) (Nat.le_succ _) (exo_ok hget)
  have r2 : Vals (V.ref (hp.objs.size + 1) :: vs) (Value.ref (hp.objs.size + 1) :: us) := .cons rfl r1
  have hl : (Value.ref (hp.objs.size + 1) :: us ++ []).length = ps.length := by rw [List.append_nil, ← r2.length]; exact F1.len _ _ _ _ hq
  have hus : us.length ≤ sizeLine := by rw [← Paired.length r1, sizeLine_eq]; omega
  refine wpAny_call (PySem.HandSPX.call_own F.excBase_ValueError (fun Y => PySem.HandSPX.refsVE_contains Y bm hbm) (I1.kIn _ _ hC) (PySem.W.looks_findIn I1.kIn iC) (fun self => PySem.W.bind_fn I1.kIn self tI) hus
    (codeAny_mono (F1.run _ X.stack _ _ ⟨Value.ref (hp.objs.size + 1) :: us, []⟩ (Value.ref (hp.objs.size + 1) :: us) _ _ E0 (hr.make C us []) (I2.env0.make C us []) (by have z := hb _ (Value.ref (hp.objs.size + 1) :: us) I2.kIn hl; rw [List.append_nil] at z; exact z) r2 hq) fun r s' hq' => ?_))
  cases r with
  | error er => exact hx pins σ _ _ er s' I2 hq'
  | ok fl =>
    cases fl with
    | ret u =>
      obtain ⟨v, H3, I3, rv, ev, q3⟩ := I2.after hq'
      subst ev
      exact ⟨rv, .ref (hp.objs.size + 1), H3, I3, rfl, q3⟩
    | next => exact False.elim hq'
    | brk => exact False.elim hq'
    | cont => exact False.elim hq'
end
section
variable {X : Cx} {e : Expr} {es : List Expr} {ta : TA} {p pos : Pos}
/-- C(e, ..) as a value, C an own error class without an __init__ of its own -/
theorem pe_err0 {x : Str} {C : Addr} (T : OexC X.K C) (iC : PySem.W.findIn X.K (.ref C) "__init__" = some (some (.builtin "ValueError.__init__"))) (hg : Gl X x) (hm : X.mg x = some (.ref C)) (ha : PA X (e :: es) ta)
    (hdb : (x == ("__debug__" : Str)) = false := by decide) (he : starEach (e :: es) X.env = (false, eval e X.env) :: starEach es X.env := by rfl) (hpl : (backTo pos (starEach es X.env)).any (·.1) = false := by rfl) :
    PE X (.Call (.Name x p) (e :: es) [] pos) (fun σ H Q => ta σ H fun vs H1 => vs.length ≤ 1000 ∧ ∀ a, H1 a = none → Q (.ref a) (upd H1 a (exo a C none))) := by
  refine ⟨fun pins s σ H Q I h => ?_⟩
  obtain ⟨nm, q, N, bs, bm, sn, sub, ab, col, dd, k0, k1, k2, k3, k5, hC, hbm⟩ := T.cls
  refine wpAny_Call_Name_kw (ld_glob I hg hm (PySem.W.callWith_K (h₀ := X.base) I.ok.mod.kin T.kC (thn (ha.run pos pins s σ H _ I h) fun us s1 ⟨vs, H1, I1, r1, hz, q1⟩ => ⟨I1.kIn, ?_⟩) he hpl) hdb)
  show wpAny _ _ (call (.ref C) us) _ _ _
  obtain ⟨hp, g, dr, tk, os⟩ := s1
  have hus : us.length ≤ sizeLine := by rw [← Paired.length r1, sizeLine_eq]; omega
  refine PySem.W.call_B F.excBase_ValueError (fun Y => PySem.HandSPX.refsVE_contains Y bm hbm) (I1.kIn _ _ hC) (PySem.W.looks_findIn I1.kIn iC) hus fun h' k he1 _ => ?_
  exact ⟨.ref (hp.objs.size + 1), _, I1.laid (t' := tk) (a := hp.objs.size + 1) (o := exo (hp.objs.size + 1) C none) k (Nat.le_succ _) (exo_ok he1), rfl, q1 _ (I1.hok.fresh (Nat.le_succ _))⟩
end
/-- an error of the class C, known as a value: no attributes yet, or these -/
def KErr (H : Hp) (a C : Addr) (fs : List (Str × V)) : Prop := (fs = [] ∧ H a = some (exo a C none)) ∨ ∃ dx, H a = some (exo a C (some dx)) ∧ H dx = some (exd dx fs)
theorem KErr.same {H H' : Hp} {a C : Addr} {fs : List (Str × V)} (k : KErr H a C fs) (e : ∀ b o, H b = some o → H' b = some o) : KErr H' a C fs := by
  rcases k with ⟨h1, h2⟩ | ⟨dx, h1, h2⟩
  · exact .inl ⟨h1, e _ _ h2⟩
  · exact .inr ⟨dx, e _ _ h1, e _ _ h2⟩
theorem KErr.inst {P : Program} {w : World} {H : Hp} {h : Heap} {a C : Addr} {fs : List (Str × V)} (hok : HOk P w H h) (k : KErr H a C fs) : ∃ (ox : Obj) (od : Option Obj), PySem.W.InstAt h a ox C od := by
  rcases k with ⟨_, h2⟩ | ⟨dx, h1, h2⟩
  · obtain ⟨t1, ho⟩ := exo_at hok h2
    exact ⟨_, none, ho, rfl, rfl, trivial⟩
  · obtain ⟨t1, ho⟩ := exo_at hok h1
    obtain ⟨mA, ⟨oD, _, _, hoD, _⟩, _⟩ := exd_at hok h2
    exact ⟨_, some oD, ho, rfl, rfl, hoD⟩
/-- isinstance(error, class) -/
def rIsX (K : PySem.W.Frag) : List V → Hp → VK → Prop := fun xs H Q => ∃ (a D : Addr) (fs : List (Str × V)) (c : V) (cv : Value) (b : Bool), xs = [.ref a, c] ∧ KErr H a D fs ∧ ExcC K D ∧ ClsV c cv ∧ PySem.W.kitOne K (.ref D) cv = some b ∧ Q (.bl b) H
theorem call_isX {X : Cx} : CallR X (.builtin "isinstance") (rIsX X.K) := by
  intro pins s σ H xs us Q I r h
  obtain ⟨a, D, fs, c, cv, b, rfl, ke, C, k, e, q⟩ := h
  obtain ⟨u1, u2, rfl, r1, r2⟩ := vals2 r
  obtain rfl : u1 = Value.ref a := r1
  have e2 := k.eq r2
  subst e2
  obtain ⟨ox, od, J⟩ := ke.inst I.hok
  obtain ⟨cdD, hcD, _⟩ := PySem.W.any_some C.hd
  exact PySem.W.kia_one (PySem.W.kitx_exc (by rw [hcD]; rfl) C.hg C.hk C.hs C.ha C.hn C.ht C.hm) I.kIn J e (fun z => nomatch z) fun tk => ⟨.bl b, H, I.tok tk, rfl, q⟩
/-- error.name -/
theorem pe_xa {X : Cx} {e : Expr} {te : TE} {pos : Pos} {n : Str} (he : PE X e te) (hb : attributeBase e n X.env (eval e X.env) = eval e X.env := by rfl) :
    PE X (.Attribute e n pos) (fun σ H Q => te σ H fun x H1 => ∃ (a C : Addr) (fs : List (Str × V)) (v : V), x = .ref a ∧ KErr H1 a C fs ∧ XfC X.K C ∧ PySem.W.findIn X.K (.ref C) n = some none ∧ fs.lookup n = some v ∧ Q v H1) := by
  refine ⟨fun pins s σ H Q I h => attr_of hb (thn (he.run pins s σ H _ I h) fun u s1 hh => ?_)⟩
  obtain ⟨x, H1, I1, rx, a, C, fs, v, rfl, ke, T, hno, l, q⟩ := hh
  obtain rfl : u = Value.ref a := rx
  rcases ke with ⟨h1, _⟩ | ⟨dx, h1, h2⟩
  · rw [h1] at l; cases l
  · obtain ⟨t1, ho⟩ := exo_at I1.hok h1
    obtain ⟨mA, hns, rel⟩ := exd_at I1.hok h2
    obtain ⟨od, hod, hl⟩ := lookIn_ns hns
    obtain ⟨u, hu, ru⟩ := RelO.some_of (v := v) (o := mA n) (by rw [← l]; exact rel n)
    have J : PySem.W.InstAt s1.heap a _ C (some od) := ⟨ho, rfl, rfl, hod⟩
    exact HandSPX.exc_get I1.kIn J T.ga T.gg T.exC (PySem.W.findObj_own T.hdC hno rfl (by rw [hl, hu])) (handed_of ru) ⟨v, H1, I1.tok _, ru, q⟩
end Sx
namespace Dw
open PySem PySem.Spec PyProof.Rows L2
def topS (i : Nat) : Stmt := PySem.Challenge.pw_saidandasked_k24_errors_made_and_bases.main.body.getD i (.Pass ⟨0, 0, 0, 0⟩)
end Dw
set_option maxHeartbeats 0
namespace Kx
open PySem PySem.Spec PyProof.Rows L2 Sx Dw NdefX
def errStrs : List String := ["BadAnswer", "BadAnswers", "BadBit", "BadBits", "BadCall", "BadClause", "BadCount", "BadDocument", "BadDocuments", "BadFuture", "BadGroup", "BadHistories", "BadHistory", "BadHouse", "BadIndex", "BadLaw", "BadLaws", "BadLeft", "BadLimit", "BadMany"] ++ ["BadMeaning", "BadMost", "BadName", "BadNames", "BadNumber", "BadOuter", "BadPaper", "BadPool", "BadProgram", "BadPrograms", "BadScript", "BadSet", "BadStand", "BadState", "BadSuite", "BadText", "BadThing", "BadWord", "Empty", "Ended"] ++ ["ManyObjects", "NoDifference", "NotAsked", "NotDone", "NotEnough", "NotGuessed", "NotMet", "NotOrderly", "NotPossible", "NotRight", "NotTrue", "NothingDone", "NothingUndone", "OtherHouse", "OverAsks", "Parted", "SameName", "Sound", "TooMany", "TooShort"] ++ ["Unsound"]
def errNames : List Str := errStrs.map Str.ofString
abbrev tailOf (PE : Addr) : List Value := .ref PE :: PySem.HandSPX.veTail
def shapeB (K : PySem.W.Frag) (PE C : Addr) : Bool := match K.lookup C with
  | some ⟨.type "type", _, .cls cd, sl⟩ => (match sl.toList with
    | [_, _, _, _, some (.builtin n), _] => n == "ValueError.__new__" && (!cd.hasDel && (cd.hasDict && cd.mro == (Value.ref C :: tailOf PE)))
    | _ => false)
  | _ => false
def errB (K : PySem.W.Frag) (PE C : Addr) : Bool := shapeB K PE C && (decide (PySem.W.findIn K (.ref C) "__setattr__" = some (some (.builtin "object.__setattr__"))) && (PySem.W.keepIn K (.ref C) && (xfB K C &&
  (decide (PySem.W.findIn K (.ref C) "__class__" = some (some (.builtin "object.__class__"))) && (decide (PySem.W.specialIn K (.builtin "object.__class__") "__get__" = some (some (.builtin "getset_descriptor.__get__"))) && decide (PySem.W.takesIn K (.builtin "object.__class__") = some true))))))
def addrOf (K : PySem.W.Frag) (n : Str) : Addr := match PySem.W.nsIn K mainGlobals n with
  | some (some (.ref C)) => C
  | _ => 0
def peOf (K : PySem.W.Frag) : Addr := addrOf K "PageError"
def csOf (K : PySem.W.Frag) (i : Nat) : Addr := addrOf K (errNames.getD i "")
def namesB (K : PySem.W.Frag) : Bool := errNames.all fun n => decide (PySem.W.nsIn K mainGlobals n = some (some (.ref (addrOf K n))))
def errsB (K : PySem.W.Frag) : Bool := errNames.all fun n => errB K (peOf K) (addrOf K n)
def apartB (K : PySem.W.Frag) : Bool := decide ((peOf K :: errNames.map (addrOf K)).Nodup)
def pageB (K : PySem.W.Frag) : Bool := decide (PySem.W.nsIn K mainGlobals "PageError" = some (some (.ref (peOf K)))) && ((PySem.W.clsIn K (peOf K)).isSome && decide (PySem.W.typeIn K (.ref (peOf K)) = some (.type "type")))
/-- the classes with an __init__ of their own -/
def ownInit (i : Nat) : Bool := [3, 8, 11, 16, 26, 35, 48, 49, 50, 54, 55, 56, 59].contains i
abbrev sIn (j : Nat) : Stmt := inClass (topS (j + 2)) 0
/-! ### what the head is looked at for -/
/-- a function's words -/
abbrev Fw : Type := Option (Str × Str × Arguments × FuncBody × Scope × Addr × List Str × Addr)
def fwOf (K : PySem.W.Frag) (f : Addr) : Fw := match K.lookup f with
  | some ⟨_, _, .func fd, _⟩ => some (fd.name, fd.qualname, fd.params, fd.body, fd.scope, fd.globals, fd.closure.map (·.1), fd.builtins)
  | _ => none
def fwVal (st : Stmt) (x qual : Str) (cl : List Str) : Fw := some (x, qual, defArgs st, .stmts (defBody st), defScope st, mainGlobals, cl, builtinsNs)
/-- the rest of what is wanted of a def of the top -/
def defB (K : PySem.W.Frag) (x : Str) : Bool := decide (PySem.W.nsIn K mainGlobals x = some (some (.ref (addrOf K x)))) && (PySem.W.keepIn K (.ref (addrOf K x)) && (match K.lookup (addrOf K x) with
  | some ⟨_, _, .func fd, _⟩ => PySem.W.codeIn K fd.code x && decide (fd.defaults = .none)
  | _ => false))
def iniOf (K : PySem.W.Frag) (C : Addr) : Addr := match PySem.W.findIn K (.ref C) "__init__" with
  | some (some (.ref f)) => f
  | _ => 0
def iniB (K : PySem.W.Frag) (C : Addr) (qual : Str) (ns : List Str) : Bool :=
  decide (PySem.W.findIn K (.ref C) "__init__" = some (some (.ref (iniOf K C)))) && (decide (PySem.W.typeIn K (.ref (iniOf K C)) = some (.type "function")) && (decide (PySem.W.ks_superIn K C C "__init__" = some (some (.builtin "ValueError.__init__"))) && ((ns.all fun n => decide (PySem.W.findIn K (.ref C) n = some none)) &&
  (match K.lookup (iniOf K C) with
  | some ⟨_, _, .func fd, _⟩ => decide (fd.defaults = .none) && (decide (fd.kwdefaults = .none) && (decide (fd.annotations = none) && (match fd.closure, fd.code with
    | [(_, cc)], .ref c => PySem.W.codeIn K (.ref c) qual && ((match K.lookup cc with
      | some ⟨_, _, .cell (some v), _⟩ => decide (v = .ref C)
      | _ => false) && (match K.lookup c with
      | some ⟨_, _, .fields vs, _⟩ => (match (vs[2]? : Option Value) with
        | some (Value.str x _) => ("/claim/cut.py" : Str) == x
        | _ => false)
      | _ => false))
    | _, _ => false)))
  | _ => false))))
def plainB (K : PySem.W.Frag) : Bool := (List.range 61).all fun i => ownInit i || decide (PySem.W.findIn K (.ref (csOf K i)) "__init__" = some (some (.builtin "ValueError.__init__")))
def freeB (K : PySem.W.Frag) : Bool := (["super", "len", "int", "abs", "repr", "isinstance", "enumerate", "set", "ValueError"] : List Str).all fun x => decide (PySem.W.nsIn K mainGlobals x = some none)
def opqB (K : PySem.W.Frag) : Bool := decide (PySem.W.nsIn K cStatics "thirdparty.any" = some none)
def iniL : List (Nat × Str × List Str) := [(3, "BadBits", ["at"]), (8, "BadDocuments", ["at"]), (11, "BadHistories", ["at"]), (16, "BadLaws", ["at"]), (26, "BadPaper", ["word"]), (35, "BadText", ["line", "column", "wanted"]), (48, "NotPossible", ["at"]), (49, "NotRight", ["word"]), (50, "NotTrue", ["word"]), (54, "OverAsks", ["at"]), (55, "Parted", ["word"]), (56, "SameName", ["name"]), (59, "TooShort", ["program"])]
def defL : List (Nat × Str) := [(64, "_law_begun"), (65, "_law_mixed"), (66, "_law_take"), (67, "_law_pick"), (68, "_law_plain_errors"), (69, "_law_told_errors"), (70, "_law_classes"), (71, "law")]
abbrev Ob : Type := (Bool × Bool × Bool × Bool × Bool × Bool × Bool × Bool × Bool) × List Fw × List Fw
def obsK (K : PySem.W.Frag) : Ob := ((namesB K, errsB K, apartB K, pageB K, plainB K, freeB K, opqB K, defL.all fun d => defB K d.2, iniL.all fun d => iniB K (csOf K d.1) (d.2.1 ++ ".__init__") d.2.2), defL.map fun d => fwOf K (addrOf K d.2), iniL.map fun d => fwOf K (iniOf K (csOf K d.1)))
def valK : Ob := ((true, true, true, true, true, true, true, true, true), defL.map fun d => fwVal (topS d.1) d.2 d.2 [], iniL.map fun d => fwVal (sIn d.1) "__init__" (d.2.1 ++ ".__init__") ["__class__"])
def asK (g : Addr → Option Obj) : List Addr := cStatics :: He.asD g 4
def hk : PySem.W.Hook where
  α := Ob
  obs := fun s => obsK (He.frG s.heap.get? (asK s.heap.get?))
  val := fun _ => valK
  says := fun _ h => ∃ K : PySem.W.Frag, K.In h ∧ obsK K = valK
  of := fun _ _ e => ⟨_, He.frG_in, e⟩
  keeps := fun _ _ _ ⟨K, hK, c⟩ k => ⟨K, PySem.W.Frag.In.keeps hK k, c⟩
def ob (s : PySem.W.SharedT) : Ob := obsK (He.frG (HandSHeadRun.getT s) (asK (HandSHeadRun.getT s)))
theorem ob_eq (s : PySem.W.SharedT) : ob s = hk.obs s.abs := by
  have e : HandSHeadRun.getT s = s.abs.heap.get? := funext (HandSHeadRun.getT_eq s)
  show obsK (He.frG (HandSHeadRun.getT s) (asK (HandSHeadRun.getT s))) = obsK (He.frG s.abs.heap.get? (asK s.abs.heap.get?))
  rw [e]
abbrev R : PySem.W.OpenRow := PySem.W.OpenLaw.row PySem.Challenge.rw_saidandasked_k24_errors_made_and_bases
def looseK : List Str := errNames ++ (["PageError", "_law_begun", "_law_mixed", "_law_take", "_law_pick", "_law_plain_errors", "_law_told_errors", "_law_classes"] : List Str)
theorem run (w : World) : HandSHeadRun.RunEq R (PySem.W.view R.prog [71]) hk ob 40000 looseK w := by
  intro os
  kernel_rfl
end Kx
set_option Elab.async false
set_option linter.all false
set_option maxRecDepth 100000
/-! The draws of the laws: begun, mixed, take, pick. -/
namespace Dw
open PySem PySem.Spec PyProof.Rows L2
abbrev sBegun : Stmt := topS 64
abbrev sMixed : Stmt := topS 65
abbrev sTake : Stmt := topS 66
abbrev sPick : Stmt := topS 67
theorem scB : FnScope ["script", "wide", "grain"] ["script"] (defScope sBegun) := ⟨rfl, rfl, rfl, by decide +kernel, rfl, by decide +kernel, by decide +kernel⟩
theorem scM : FnScope ["draw", "turn", "found", "prime", "blend", "grain"] ["draw"] (defScope sMixed) := ⟨rfl, rfl, rfl, by decide +kernel, rfl, by decide +kernel, by decide +kernel⟩
theorem scT : FnScope ["draw", "many", "found"] ["draw", "many"] (defScope sTake) := ⟨rfl, rfl, rfl, by decide +kernel, rfl, by decide +kernel, by decide +kernel⟩
theorem scP : FnScope ["draw", "some"] ["draw", "some"] (defScope sPick) := ⟨rfl, rfl, rfl, by decide +kernel, rfl, by decide +kernel, by decide +kernel⟩
/-! ### what a draw looks like -/
abbrev kW : Key := Sum.inr ("wide" : Str)
abbrev kC : Key := Sum.inr ("cells" : Str)
abbrev kR : Key := Sum.inr ("rest" : Str)
abbrev kT : Key := Sum.inr ("turn" : Str)
def dkv (wp cp : Addr) (r t : Int) : List (Key × V) := [(kW, .ref wp), (kC, .ref cp), (kR, .int r), (kT, .int t)]
structure DrawAt (H : Hp) (d wp cp : Addr) (ws cs : List Int) (r t : Int) : Prop where
  dc : H d = some (.dK (dkv wp cp r t))
  wl : H wp = some (.lst (ws.map V.int))
  cl : H cp = some (.lst (cs.map V.int))
  cb : ∀ c ∈ cs, 0 ≤ c ∧ c < 2147483629
  cn : cs.length ≤ 63
  wn : ws.length ≤ 63
  t0 : 0 ≤ t
  nwc : wp ≠ cp
/-- a draw with n turns left -/
def Dr (H : Hp) (d wp cp : Addr) (n : Nat) : Prop := ∃ (ws cs : List Int) (r t : Int), DrawAt H d wp cp ws cs r t ∧ t + n ≤ 1000000000
theorem kWC : ¬ kW = kC := by decide +kernel
theorem kWR : ¬ kW = kR := by decide +kernel
theorem kWT : ¬ kW = kT := by decide +kernel
theorem kCR : ¬ kC = kR := by decide +kernel
theorem kCT : ¬ kC = kT := by decide +kernel
theorem kRT : ¬ kR = kT := by decide +kernel
theorem v_wide (wp cp : Addr) (r t : Int) : valV (dkv wp cp r t) kW = some (.ref wp) := valV_pos (p := (kW, V.ref wp)) rfl
theorem v_cells (wp cp : Addr) (r t : Int) : valV (dkv wp cp r t) kC = some (.ref cp) :=
  (valV_neg (p := (kW, V.ref wp)) kWC).trans (valV_pos (p := (kC, V.ref cp)) rfl)
theorem v_rest (wp cp : Addr) (r t : Int) : valV (dkv wp cp r t) kR = some (.int r) :=
  (valV_neg (p := (kW, V.ref wp)) kWR).trans ((valV_neg (p := (kC, V.ref cp)) kCR).trans (valV_pos (p := (kR, V.int r)) rfl))
theorem v_turn (wp cp : Addr) (r t : Int) : valV (dkv wp cp r t) kT = some (.int t) :=
  (valV_neg (p := (kW, V.ref wp)) kWT).trans ((valV_neg (p := (kC, V.ref cp)) kCT).trans ((valV_neg (p := (kR, V.int r)) kRT).trans (valV_pos (p := (kT, V.int t)) rfl)))
theorem p_rest (wp cp : Addr) (r t r' : Int) : putK (dkv wp cp r t) kR (.int r') = dkv wp cp r' t := by
  unfold putK
  rw [valV_any, v_rest, if_pos (show (some (V.int r)).isSome = true from rfl)]
  unfold dkv
  rw [List.map_cons, List.map_cons, List.map_cons, List.map_cons, List.map_nil]
  rw [if_neg kWR, if_neg kCR, if_pos rfl, if_neg (fun e => kRT e.symm)]
theorem p_turn (wp cp : Addr) (r t t' : Int) : putK (dkv wp cp r t) kT (.int t') = dkv wp cp r t' := by
  unfold putK
  rw [valV_any, v_turn, if_pos (show (some (V.int t)).isSome = true from rfl)]
  unfold dkv
  rw [List.map_cons, List.map_cons, List.map_cons, List.map_cons, List.map_nil]
  rw [if_neg kWT, if_neg kCT, if_neg kRT, if_pos rfl]
/-- what stands but at d and at wp -/
def But (d wp : Addr) (H H' : Hp) : Prop := ∀ b o, H b = some o → b ≠ d → b ≠ wp → H' b = some o
section
variable {P : Program} {w : World} {K : PySem.W.Frag} {mg : Str → Option Value} {base : Heap}
/-! ### mixed -/
def spMixed : Sp := fun vs H Q _ => ∃ (d wp cp : Addr) (ws cs : List Int) (r t : Int), vs = [.ref d] ∧ DrawAt H d wp cp ws cs r t ∧ t < 1000000000 ∧
  ∀ (v : Int) (H' : Hp), DrawAt H' d wp cp ws cs r (t + 1) → But d d H H' → Q (.int v) H'
theorem ok_mixed {f : Addr} {fd : FuncData} (F : Fun K "_law_mixed" "_law_mixed" sMixed f fd) (mi : mg "int" = none) : FnOk P w K mg base CX0 1 f fd ["draw"] spMixed := by
  refine F.ok scM (fun vs H Q E h => ?_) (fun cdv A outer s H vs Q E hr h => ?_)
  · obtain ⟨d, wp, cp, ws, cs, r, t, rfl, _⟩ := h
    rfl
  · obtain ⟨d, wp, cp, ws, cs, r, t, rfl, D, tb, k⟩ := h
    have hu := hu_of hr
    refine ⟨_, pss_cons (ps_par (by rfl) scM.nd (i := 1) (j := 2) rfl rfl (by decide) rfl rfl (pa_cons (pe_op op_add (pe_dget hu (pv 0) pe_str (fun _ _ => rfl)) pe_int) (pa_cons pe_int pa_nil)) (by rfl))
      (pss_cons (ps_dput hu (pv 0) pe_str (pv 1) rfl)
      (pss_cons (ps_for PassesOwn.never rfl (pi_list (pe_lst (pa_cons pe_int (pa_cons pe_int (pa_cons pe_int (pa_cons pe_int pa_nil)))))) (pg_name (i := 3) scM.nd rfl (.inl rfl))
        (pss_cons (ps_set (i := 4) scM.nd rfl (.inl rfl) (pe_op op_add (pe_op op_mul pe_int (pv 1)) (pe_op op_fdiv (pv 3) pe_int)))
        (pss_cons (ps_for PassesOwn.never rfl (pi_list (pe_dget hu (pv 0) pe_str (fun _ _ => rfl))) (pg_name (i := 5) scM.nd rfl (.inl rfl))
          (pss_one (ps_set (i := 4) scM.nd rfl (.inl rfl) (pe_op op_mod (pe_callTy call_int1 (by rfl) mi (by decide +kernel) (pa_cons (pe_op op_add (pe_op op_add (pe_op op_mul (pv 4) pe_int) (pv 5)) (pv 1)) pa_nil)) (pv 3)))))
        (pss_one (ps_set (i := 2) scM.nd rfl (.inl rfl) (pe_op op_add (pe_op op_mul (pv 2) pe_int) (pe_op op_mod (pe_callTy call_int1 (by rfl) mi (by decide +kernel) (pa_cons (pe_op op_pow (pv 4) pe_int) pa_nil)) (pv 3))))))))
      (pss_one (ps_ret (pv 2))))), ?_⟩
    have gT : DGet H d (kV kT) (some (.int t)) := by
      have z := DGet.k (k := kT) D.dc
      rw [v_turn] at z
      exact z
    refine ⟨_, rfl, d, _, rfl, gT, _, _, rfl, rfl, _, _, rfl, ?_⟩
    have ncd : cp ≠ d := ne_of D.cl D.dc (by intro z; cases z)
    have nwd : wp ≠ d := ne_of D.wl D.dc (by intro z; cases z)
    have D1 : DrawAt (upd H d (.dK (dkv wp cp r (t + 1)))) d wp cp ws cs r (t + 1) :=
      ⟨upd_same, by rw [upd_ne nwd]; exact D.wl, by rw [upd_ne ncd]; exact D.cl, D.cb, D.cn, D.wn, by have := D.t0; omega, D.nwc⟩
    refine ⟨_, rfl, _, rfl, d, _, rfl, DPut.k (k := kT) D.dc (show 4 < sizeLine by decide), ?_⟩
    rw [p_turn]
    generalize hH1 : upd H d (.dK (dkv wp cp r (t + 1))) = H1 at D1
    have B1 : But d d H H1 := fun b o e n _ => by rw [← hH1, upd_ne n]; exact e
    refine ⟨by decide, fun l nl => ?_⟩
    have nld : d ≠ l := ne_of_none D1.dc nl
    have nlc : cp ≠ l := ne_of_none D1.cl nl
    have nlw : wp ≠ l := ne_of_none D1.wl nl
    generalize hH2 : upd H1 l _ = H2
    have hl2 : H2 l = some (.lst ([2147483647, 2147483629, 2147483587, 2147483579].map V.int)) := by rw [← hH2, upd_same] <;> rfl
    have D2 : DrawAt H2 d wp cp ws cs r (t + 1) := ⟨by rw [← hH2, upd_ne nld]; exact D1.dc, by rw [← hH2, upd_ne nlw]; exact D1.wl, by rw [← hH2, upd_ne nlc]; exact D1.cl, D.cb, D.cn, D.wn, D1.t0, D.nwc⟩
    have B2 : But d d H H2 := fun b o e n _ => by
      have z := B1 b o e n n
      rw [← hH2, upd_ne (ne_of_none z nl)]
      exact z
    have gC : DGet H2 d (kV kC) (some (.ref cp)) := by
      have z := DGet.k (k := kC) D2.dc
      rw [v_cells] at z
      exact z
    refine ⟨l, rfl, ⟨_, SqL.of hl2⟩, for_list (xs := [2147483647, 2147483629, 2147483587, 2147483579].map V.int)
      (fun i σ H' => H2 = H' ∧ ∃ (found : Int) (pr bl gr : Option V), σ = [some (.ref d), some (.int (t + 1)), some (.int found), pr, bl, gr]) ⟨rfl, 0, none, none, none, rfl⟩ (fun i σ H' _ h => ?_) (fun i x σ H' hx h => ?_) (fun σ H' h => ?_)⟩
    · rw [← h.1]
      exact SqL.of hl2
    · obtain ⟨rfl, found, pr, bl, gr, rfl⟩ := h
      obtain ⟨p, rfl, p0, p1⟩ : ∃ p : Int, x = .int p ∧ 0 < p ∧ p < 2147483648 := by
        obtain ⟨p, hp, rfl⟩ := List.mem_map.mp (List.mem_of_getElem? hx)
        refine ⟨p, rfl, ?_⟩
        simp only [List.mem_cons, List.not_mem_nil, or_false] at hp
        omega
      have t0 := D.t0
      -- blend
      refine ⟨_, rfl, _, _, rfl, rfl, .inl ⟨by decide, by decide⟩, _, rfl, _, _, rfl, rfl, ⟨by decide, by decide⟩, _, _, rfl, rfl, ?_⟩
      -- the inner loop
      refine ⟨_, rfl, d, _, rfl, gC, cp, rfl, ⟨_, SqL.of D2.cl⟩, for_list (xs := cs.map V.int)
        (fun j σ H' => H2 = H' ∧ ∃ (bl : Int) (gr : Option V), σ = [some (.ref d), some (.int (t + 1)), some (.int found), some (.int p), some (.int bl), gr] ∧ 0 ≤ bl ∧ bl < 1000000000000000) ⟨rfl, _, gr, rfl, by omega, by omega⟩ (fun j σ H' _ h => ?_) (fun j x σ H' hx h => ?_) (fun σ H' h => ?_)⟩
      · rw [← h.1]
        exact SqL.of D2.cl
      · obtain ⟨rfl, bl, gr, rfl, b0, b1⟩ := h
        obtain ⟨g, hg, rfl⟩ := List.mem_map.mp (List.mem_of_getElem? hx)
        have hgb := D.cb g hg
        refine ⟨_, rfl, _, _, rfl, rfl, .inl ⟨by omega, by omega⟩, _, rfl, _, _, rfl, rfl, _, rfl, _, _, rfl, rfl, .inl ⟨_, rfl, ?_⟩⟩
        refine ⟨_, rfl, _, _, rfl, rfl, p0, ?_⟩
        refine ⟨rfl, _, _, rfl, Int.emod_nonneg _ (by omega), ?_⟩
        have := Int.emod_lt_of_pos (bl * 69621 + g + (t + 1)) p0
        omega
      · obtain ⟨rfl, bl, gr, rfl, b0, b1⟩ := h
        refine ⟨_, rfl, _, _, rfl, rfl, .inr ⟨by decide, by decide⟩, _, rfl, _, _, rfl, rfl, ⟨by decide, by decide, by omega⟩, .inl ⟨_, rfl, _, rfl, _, _, rfl, rfl, p0, _, _, rfl, rfl, ?_⟩⟩
        exact ⟨rfl, _, _, _, _, rfl⟩
    · obtain ⟨rfl, found, pr, bl, gr, rfl⟩ := h
      exact ⟨_, rfl, k _ _ D2 B2⟩
theorem iteT' {A B : Prop} {c : Bool} (e : c = true) (h : A) : if c = true then A else B := by rw [if_pos e]; exact h
theorem iteF' {A B : Prop} {c : Bool} (e : c = false) (h : B) : if c = true then A else B := by rw [if_neg (by rw [e]; decide)]; exact h
theorem dp_ints {K : PySem.W.Frag} {H : Hp} : ∀ ns : List Int, DpAll K H (ns.map V.int) (ns.map PyData.int)
  | [] => .nil
  | x :: r => .cons (.int x) (dp_ints r)
theorem ints_lay : ∀ ns : List Int, PyData.canLayAll0 (ns.map PyData.int) = true
  | [] => by simp [PyData.canLayAll0]
  | z :: zs => by simp [PyData.canLayAll0, PyData.canLay0, ints_lay zs]
theorem ints_depth : ∀ ns : List Int, PyData.depthAll (ns.map PyData.int) = 0
  | [] => by simp [PyData.depthAll]
  | z :: zs => by simp [PyData.depthAll, PyData.depth, ints_depth zs]
theorem ints_shaped (ns : List Int) : SeqAt.shaped (.list (ns.map PyData.int)) = true := by
  have h2 : PyData.depth (.list (ns.map PyData.int)) ≤ 64 := by
    simp only [PyData.depth, ints_depth]
    omega
  show (PyData.canLay0 (.list (ns.map PyData.int)) && decide (PyData.depth (.list (ns.map PyData.int)) ≤ 64)) = true
  rw [Bool.and_eq_true]
  exact ⟨by simp only [PyData.canLay0]; exact ints_lay ns, decide_eq_true h2⟩
/-! ### take -/
def Stays (d wp : Addr) (H H' : Hp) : Prop := But d wp H H'
def spTake : Sp := fun vs H Q _ => ∃ (d wp cp : Addr) (n : Nat) (m : Int), vs = [.ref d, .int m] ∧ Dr H d wp cp (n + 1) ∧ 0 < m ∧ m < 1000000000 ∧
  ∀ (v : Int) (H' : Hp), 0 ≤ v → v < m → Dr H' d wp cp n → But d wp H H' → Q (.int v) H'
theorem ok_take {f g : Addr} {fd gd : FuncData} (F : Fun K "_law_take" "_law_take" sTake f fd) (mi : mg "int" = none)
    (G : FnOk P w K mg base CX0 1 g gd ["draw"] spMixed) (mgf : mg "_law_mixed" = some (.ref g)) (kp : PySem.W.keepIn K (.ref g) = true) (b : Binds K gd ["draw"] []) : FnOk P w K mg base CX0 2 f fd ["draw", "many"] spTake := by
  refine F.ok scT (fun vs H Q E h => ?_) (fun cdv A outer s H vs Q E hr h => ?_)
  · obtain ⟨d, wp, cp, n, m, rfl, _⟩ := h
    rfl
  · obtain ⟨d, wp, cp, n, m, rfl, ⟨ws, cs, r, t, D, tb⟩, m0, m1, k⟩ := h
    have hu := hu_of hr
    refine ⟨_, C8.pss_cut (ps_if (pt_cmpR op_eq (pe_dget hu (pv 0) pe_str (fun _ _ => rfl)) pe_int (nomark _))
        (pss_one (ps_dput hu (pv 0) pe_str (pe_ifExp (pt_cmpR (op_neD hr.units) (pe_dget hu (pv 0) pe_str (fun _ _ => rfl)) (pe_lst pa_nil) (nomark _))
          (pe_bm PySem.F.plainAttrs_list PySem.F.slot_list_pop PySem.F.type_list_pop mt_popAt (pe_dget hu (pv 0) pe_str (fun _ _ => rfl)) (pa_cons pe_int pa_nil))
          (pe_call G (hr.mono (by decide)) rfl mgf kp b .nil pass0 (pa_cons (pv 0) pa_nil))) rfl)) pss_nil)
      (pss_cons (ps_set (i := 2) scT.nd rfl (.inl rfl) (pe_op op_mod (pe_callTy call_int1 (by rfl) mi (by decide +kernel) (pa_cons (pe_dget hu (pv 0) pe_str (fun _ _ => rfl)) pa_nil)) (pv 1)))
      (pss_cons (ps_dput hu (pv 0) pe_str (pe_op op_fdiv (pe_dget hu (pv 0) pe_str (fun _ _ => rfl)) (pv 1)) rfl)
      (pss_one (ps_ret (pv 2))))), ?_⟩
    have gR : DGet H d (kV kR) (some (.int r)) := by
      have z := DGet.k (k := kR) D.dc
      rw [v_rest] at z
      exact z
    have gW : DGet H d (kV kW) (some (.ref wp)) := by
      have z := DGet.k (k := kW) D.dc
      rw [v_wide] at z
      exact z
    have nwd : wp ≠ d := ne_of D.wl D.dc (by intro z; cases z)
    have ncd : cp ≠ d := ne_of D.cl D.dc (by intro z; cases z)
    refine ⟨fun σ H' => σ = [some (.ref d), some (.int m), none] ∧ ∃ (ws1 : List Int) (r1 t1 : Int), DrawAt H' d wp cp ws1 cs r1 t1 ∧ t1 + (n : Int) ≤ 1000000000 ∧ But d wp H H', ?_, fun σ' H' hM => ?_⟩
    · refine ⟨_, rfl, d, _, rfl, gR, rfl, _, rfl, ?_⟩
      by_cases r0 : V.int r = V.int 0
      · refine iteT' (decide_eq_true r0) ?_
        refine ⟨_, rfl, d, _, rfl, gW, by decide, fun p np => ?_⟩
        have npd : d ≠ p := ne_of_none D.dc np
        have npw : wp ≠ p := ne_of_none D.wl np
        have npc : cp ≠ p := ne_of_none D.cl np
        generalize hH1 : upd H p (.lst []) = H1
        have hp1 : H1 p = some (.lst []) := by rw [← hH1, upd_same]
        have D1 : DrawAt H1 d wp cp ws cs r t := ⟨by rw [← hH1, upd_ne npd]; exact D.dc, by rw [← hH1, upd_ne npw]; exact D.wl, by rw [← hH1, upd_ne npc]; exact D.cl, D.cb, D.cn, D.wn, D.t0, D.nwc⟩
        have B1 : But d wp H H1 := fun b o e _ _ => by rw [← hH1, upd_ne (ne_of_none e np)]; exact e
        have gW1 : DGet H1 d (kV kW) (some (.ref wp)) := by
          have z := DGet.k (k := kW) D1.dc
          rw [v_wide] at z
          exact z
        refine ⟨_, _, .lst (SqL.of D1.wl) (dp_ints ws), .lst (SqL.of hp1) .nil, ints_shaped ws, (by decide +kernel), _, rfl, ?_⟩
        cases ws with
        | nil =>
          refine iteF' (by decide +kernel) ?_
          refine ⟨_, rfl, d, wp, cp, [], cs, r, t, rfl, D1, by omega, fun v H' D' B' => ?_⟩
          refine ⟨_, rfl, d, _, rfl, DPut.k (k := kR) D'.dc (show 4 < sizeLine by decide), ?_⟩
          rw [p_rest]
          refine ⟨rfl, [], v, t + 1, ⟨upd_same, by rw [upd_ne nwd]; exact D'.wl, by rw [upd_ne ncd]; exact D'.cl, D'.cb, D'.cn, D'.wn, D'.t0, D'.nwc⟩, by omega, fun b o e n1 n2 => ?_⟩
          rw [upd_ne n1]
          exact B' b o (B1 b o e n1 n2) n1 n1
        | cons w1 wr =>
          refine iteT' (by rw [List.map_cons]; simp [PyData.eqv, PyData.eqvAll]) ?_
          refine ⟨_, rfl, d, _, rfl, gW1, .inl ⟨rfl, _, SqL.of D1.wl⟩, wp, _, 0, 0, _, rfl, rfl, D1.wl, by decide, by decide, ?_, rfl, ?_⟩
          · rw [List.map_cons, List.length_cons]
            simp [seqIndex?]
          have D2 : DrawAt (upd H1 wp (.lst (wr.map V.int))) d wp cp wr cs r t :=
            ⟨by rw [upd_ne nwd.symm]; exact D1.dc, upd_same, by rw [upd_ne D.nwc.symm]; exact D1.cl, D.cb, D.cn, by have := D.wn; rw [List.length_cons] at this; omega, D.t0, D.nwc⟩
          refine ⟨_, rfl, d, _, rfl, DPut.k (k := kR) D2.dc (show 4 < sizeLine by decide), ?_⟩
          rw [p_rest]
          refine ⟨rfl, wr, w1, t, ⟨upd_same, by rw [upd_ne nwd]; exact D2.wl, by rw [upd_ne ncd]; exact D2.cl, D2.cb, D2.cn, D2.wn, D2.t0, D2.nwc⟩, by omega, fun b o e n1 n2 => ?_⟩
          rw [upd_ne n1, upd_ne n2]
          exact B1 b o e n1 n2
      · refine iteF' (decide_eq_false r0) ?_
        exact ⟨rfl, ws, r, t, D, by omega, fun _ _ e _ _ => e⟩
    · obtain ⟨rfl, ws1, r1, t1, D1, tb1, B1⟩ := hM
      have gR1 : DGet H' d (kV kR) (some (.int r1)) := by
        have z := DGet.k (k := kR) D1.dc
        rw [v_rest] at z
        exact z
      refine ⟨_, rfl, d, _, rfl, gR1, .inl ⟨_, rfl, _, rfl, _, _, rfl, rfl, m0, ?_⟩⟩
      refine ⟨_, rfl, d, _, rfl, gR1, _, rfl, _, _, rfl, rfl, ⟨m0, by omega⟩, _, rfl, d, _, rfl, DPut.k (k := kR) D1.dc (show 4 < sizeLine by decide), ?_⟩
      rw [p_rest]
      have nwd1 : wp ≠ d := nwd
      refine ⟨_, rfl, k _ _ (Int.emod_nonneg _ (by omega)) (Int.emod_lt_of_pos _ m0) ⟨ws1, cs, r1 / m, t1, ⟨upd_same, by rw [upd_ne nwd]; exact D1.wl, by rw [upd_ne ncd]; exact D1.cl, D1.cb, D1.cn, D1.wn, D1.t0, D1.nwc⟩, tb1⟩ fun b o e n1 n2 => ?_⟩
      rw [upd_ne n1]
      exact B1 b o e n1 n2
/-! ### pick -/
def spPick : Sp := fun vs H Q _ => ∃ (d wp cp a : Addr) (n : Nat) (xs : List V), vs = [.ref d, .ref a] ∧ Dr H d wp cp (n + 1) ∧ H a = some (.lst xs) ∧ a ≠ wp ∧ 0 < xs.length ∧ xs.length < 1000000 ∧
  ∀ (i : Nat) (y : V) (H' : Hp), xs[i]? = some y → Dr H' d wp cp n → But d wp H H' → Q y H'
theorem ok_pick {f g : Addr} {fd gd : FuncData} (F : Fun K "_law_pick" "_law_pick" sPick f fd) (ml : mg "len" = none)
    (G : FnOk P w K mg base CX0 2 g gd ["draw", "many"] spTake) (mgf : mg "_law_take" = some (.ref g)) (kp : PySem.W.keepIn K (.ref g) = true) (b : Binds K gd ["draw", "many"] []) : FnOk P w K mg base CX0 3 f fd ["draw", "some"] spPick := by
  refine F.ok scP (fun vs H Q E h => ?_) (fun cdv A outer s H vs Q E hr h => ?_)
  · obtain ⟨d, wp, cp, a, n, xs, rfl, _⟩ := h
    rfl
  · obtain ⟨d, wp, cp, a, n, xs, rfl, D, ha, nw, l0, l1, k⟩ := h
    refine ⟨_, pss_one (ps_ret (pe_ix ix_list (pv 1) (pe_call G (hr.mono (by decide)) rfl mgf kp b .nil pass0 (pa_cons (pv 0) (pa_cons (pe_callB call_len_seq (by rfl) ml PySem.boot_len (pa_cons (pv 1) pa_nil)) pa_nil))) (fun _ _ => rfl))), ?_⟩
    have nd : a ≠ d := by
      obtain ⟨ws, cs, r, t, D1, _⟩ := D
      exact ne_of ha D1.dc (by intro z; cases z)
    refine ⟨_, rfl, _, rfl, _, rfl, a, _, rfl, .inl (SqL.of ha), ?_⟩
    refine ⟨d, wp, cp, n, (xs.length : Int), rfl, D, by omega, by omega, fun v H' v0 v1 D' B' => ?_⟩
    have ha' := B' a _ ha nd nw
    have hlt : v.toNat < xs.length := by omega
    refine ⟨a, xs, v, _, rfl, rfl, SqL.of ha', ?_, k v.toNat _ _ (List.getElem?_eq_getElem hlt) D' B'⟩
    have e := atI_nat (List.getElem?_eq_getElem hlt)
    rw [Int.toNat_of_nonneg v0] at e
    exact e
/-! ### begun -/
theorem upd_upd_same {H : Hp} {a : Addr} {o o' : HO} : upd (upd H a o) a o' = upd H a o' := by
  funext b
  by_cases e : b = a
  · rw [e, upd_same, upd_same]
  · rw [upd_ne e, upd_ne e, upd_ne e]
def cellOf (g : Int) : Int := (if g < 0 then -g else g) % 2147483629
def wideOf (ns : List Int) : List Int := (ns.filter fun g => decide ((if g < 0 then -g else g) ≥ (10 : Int) ^ 18)).map fun g => (if g < 0 then -g else g) - (10 : Int) ^ 18
def spBegun (K : PySem.W.Frag) : Sp := fun vs H Q _ => ∃ (a : Addr) (ns : List Int), vs = [.ref a] ∧ SqL K H a (ns.map V.int) ∧ ns.length ≤ 63 ∧
  ∀ (d wp cp : Addr) (H' : Hp), H d = none → H wp = none → H cp = none → Dr H' d wp cp 999999999 → (∀ b o, H b = some o → H' b = some o) → Q (.ref d) H'
theorem ok_begun {f : Addr} {fd : FuncData} (F : Fun K "_law_begun" "_law_begun" sBegun f fd) (mi : mg "int" = none) (ma : mg "abs" = none) : FnOk P w K mg base CX0 1 f fd ["script"] (spBegun K) := by
  refine F.ok scB (fun vs H Q E h => ?_) (fun cdv A outer s H vs Q E hr h => ?_)
  · obtain ⟨a, ns, rfl, _⟩ := h
    rfl
  · obtain ⟨a, ns, rfl, hS, hn, k⟩ := h
    have hu := hu_of hr
    refine ⟨_, pss_cons (ps_setLc (i := 1) (own := [("grain", 2)]) (g := gName 2) (by rfl) scB.nd rfl rfl (sw_true rfl rfl rfl (by decide +kernel)) (pi_list (pv 0)) (blkOk_by (own := [("grain", 2)]) (N := ["script", "wide", "grain"]) (sc := defScope sBegun) (by decide +kernel))
          (fun _ _ _ _ _ => pg_name (i := 2) scB.nd rfl (Or.inl rfl)) (fun _ _ _ _ _ => pts_one (pt_cmpR op_ge (pe_callB call_abs (by rfl) ma (by decide +kernel) (pa_cons (pv 2) pa_nil)) (pe_op op_pow pe_int pe_int) (nomark _)))
          (fun _ _ _ _ _ => pe_op op_sub (pe_callB call_abs (by rfl) ma (by decide +kernel) (pa_cons (pv 2) pa_nil)) (pe_op op_pow pe_int pe_int)))
      (pss_one (ps_ret (pe_disp (pps_cons pe_str (pv 1) (pps_cons pe_str
        (pe_lc (own := [("grain", 2)]) (g := gName 2) (tt := tYes) (by rfl) scB.nd (pi_list (pv 0)) (blkOk_by (own := [("grain", 2)]) (N := ["script", "wide", "grain"]) (sc := defScope sBegun) (by decide +kernel))
          (fun _ _ _ _ _ => pg_name (i := 2) scB.nd rfl (Or.inl rfl)) (fun _ _ _ _ _ => pts_nil)
          (fun _ _ _ _ _ => pe_op op_mod (pe_callTy call_int1 (by rfl) mi (by decide +kernel) (pa_cons (pe_callB call_abs (by rfl) ma (by decide +kernel) (pa_cons (pv 2) pa_nil)) pa_nil)) pe_int))
        (pps_cons pe_str pe_int (pps_cons pe_str pe_int pps_nil)))) (by rfl) (by rfl) (fun z => by cases z) (by decide)))), ?_⟩
    refine ⟨_, rfl, a, rfl, ⟨_, hS⟩, fun D nD => ?_⟩
    have same1 : ∀ {o : HO}, Same H (upd H D o) := fun {o} b u e => by rw [upd_ne (ne_of_none e nD)]; exact e
    refine lc_list (K := K) (a := a) (xs := ns.map V.int) (fun i H' => ∃ acc : List Int, H' = upd H D (.lst (acc.map V.int)) ∧ acc.length ≤ i) ⟨[], rfl, Nat.le_refl _⟩ (fun i H' _ h => ?_) (fun i x H' hx h => ?_) (fun H' h => ?_)
    · obtain ⟨acc, rfl, _⟩ := h
      exact same1.seq hS
    · obtain ⟨acc, rfl, al⟩ := h
      obtain ⟨g, hg, rfl⟩ := List.mem_map.mp (List.mem_of_getElem? hx)
      have hi : i < (ns.map V.int).length := (List.getElem?_eq_some_iff.mp hx).1
      rw [List.length_map] at hi
      refine ⟨rfl, _, rfl, _, rfl, _, _, rfl, rfl, ⟨by decide, by decide, by decide⟩, _, _, rfl, rfl, _, rfl, ?_⟩
      by_cases c : (10 : Int) ^ (18 : Int).toNat ≤ (if g < 0 then -g else g)
      · refine iteT' (decide_eq_true c) ?_
        refine ⟨_, rfl, _, rfl, _, _, rfl, rfl, ⟨by decide, by decide, by decide⟩, _, _, rfl, rfl, _, upd_same, by rw [List.length_map, sizeLine_eq]; omega, acc ++ [(if g < 0 then -g else g) - (10 : Int) ^ (18 : Int).toNat], ?_, by rw [List.length_append]; show acc.length + 1 ≤ i + 1; omega⟩
        rw [upd_upd_same, List.map_append]
        rfl
      · refine iteF' (decide_eq_false c) ?_
        exact ⟨acc, rfl, by omega⟩
    · obtain ⟨acc, rfl, al⟩ := h
      rw [List.length_map] at al
      intro p np
      generalize hH1 : upd H D (.lst (acc.map V.int)) = H1 at np
      have hD1 : H1 D = some (.lst (acc.map V.int)) := by rw [← hH1, upd_same]
      have s1 : Same H H1 := by rw [← hH1]; exact same1
      have nDp : D ≠ p := ne_of_none hD1 np
      have s2 : Same H1 (upd H1 p (.dK [])) := fun b u e => by rw [upd_ne (ne_of_none e np)]; exact e
      have hp0 : H p = none := by
        cases e : H p with
        | none => rfl
        | some o => exact absurd (s1 p o e) (by rw [np]; intro z; cases z)
      have sq : SqL K (upd H1 p (.dK [])) a (ns.map V.int) := s2.seq (s1.seq hS)
      refine ⟨_, rfl, _, rfl, a, rfl, ⟨_, sq⟩, fun C nC => ?_⟩
      have nCp : p ≠ C := ne_of_none upd_same nC
      have nCD : D ≠ C := ne_of_none (s2 _ _ hD1) nC
      have s3 : ∀ {o : HO}, Same (upd H1 p (.dK [])) (upd (upd H1 p (.dK [])) C o) := fun {o} b u e => by rw [upd_ne (ne_of_none e nC)]; exact e
      have hC0 : H C = none := by
        cases e : H C with
        | none => rfl
        | some o => exact absurd (s2 _ _ (s1 C o e)) (by rw [nC]; intro z; cases z)
      refine lc_list (K := K) (a := a) (xs := ns.map V.int) (fun i H' => ∃ cs : List Int, H' = upd (upd H1 p (.dK [])) C (.lst (cs.map V.int)) ∧ cs.length ≤ i ∧ ∀ c ∈ cs, 0 ≤ c ∧ c < 2147483629) ⟨[], rfl, Nat.le_refl _, fun c h => nomatch h⟩ (fun i H' _ h => ?_) (fun i x H' hx h => ?_) (fun H' h => ?_)
      · obtain ⟨cs, rfl, _⟩ := h
        exact s3.seq sq
      · obtain ⟨cs, rfl, cl, cb⟩ := h
        obtain ⟨g, hg, rfl⟩ := List.mem_map.mp (List.mem_of_getElem? hx)
        have hi : i < (ns.map V.int).length := (List.getElem?_eq_some_iff.mp hx).1
        rw [List.length_map] at hi
        refine ⟨rfl, _, rfl, _, rfl, .inl ⟨_, rfl, _, _, rfl, rfl, (show (0 : Int) < 2147483629 by decide), _, upd_same, by rw [List.length_map, sizeLine_eq]; omega, cs ++ [(if g < 0 then -g else g) % 2147483629], ?_, by rw [List.length_append]; show cs.length + 1 ≤ i + 1; omega, fun c hc => ?_⟩⟩
        · rw [upd_upd_same, List.map_append]
          rfl
        · rcases List.mem_append.mp hc with hc | hc
          · exact cb c hc
          · rw [List.mem_singleton] at hc
            rw [hc]
            exact ⟨Int.emod_nonneg _ (by decide), Int.emod_lt_of_pos _ (by decide)⟩
      · obtain ⟨cs, rfl, cl, cb⟩ := h
        rw [List.length_map] at cl
        refine ⟨by rw [upd_ne nCp, upd_same], dkv D C 0 0, rfl, (show 4 ≤ 15 by decide), ?_⟩
        have em : mergeK [] (dkv D C 0 0) = dkv D C 0 0 := by
          show putK (putK (putK (putK ([] : List (Key × V)) kW (.ref D)) kC (.ref C)) kR (.int 0)) kT (.int 0) = _
          have e1 : putK ([] : List (Key × V)) kW (.ref D) = [(kW, .ref D)] := putK_new _ rfl
          rw [e1, putK_new (kvs := [(kW, V.ref D)]) (k := kC) _ ((valV_neg (p := (kW, V.ref D)) kWC).trans rfl)]
          rw [putK_new (kvs := [(kW, V.ref D)] ++ [(kC, V.ref C)]) (k := kR) _ ((valV_neg (p := (kW, V.ref D)) kWR).trans ((valV_neg (p := (kC, V.ref C)) kCR).trans rfl))]
          rw [putK_new (kvs := [(kW, V.ref D)] ++ [(kC, V.ref C)] ++ [(kR, V.int 0)]) (k := kT) _ ((valV_neg (p := (kW, V.ref D)) kWT).trans ((valV_neg (p := (kC, V.ref C)) kCT).trans ((valV_neg (p := (kR, V.int 0)) kRT).trans rfl)))]
          rfl
        rw [em]
        refine k p D C _ hp0 nD hC0 ⟨_, cs, 0, 0, ⟨upd_same, by rw [upd_ne nDp, upd_ne nCD, upd_ne nDp]; exact hD1, by rw [upd_ne nCp.symm, upd_same], cb, by omega, by omega, by decide, nCD⟩, by decide⟩ fun b o e => ?_
        rw [upd_ne (ne_of_none e hp0)]
        exact s3 b o (s2 b o (s1 b o e))
end
end Dw
set_option Elab.async false
set_option linter.all false
set_option maxRecDepth 100000
set_option maxHeartbeats 2000000
/-! repr of tracked data. -/
namespace Rp
open PySem PySem.Spec PyProof.Rows L2
/-- what repr needs of a value: the data that it reads as, all of its objects tracked -/
def Sh (P : Program) (w : World) (H : Hp) (x : V) (d : PyData) : Prop := ∀ h, HOk P w H h → ∀ u, RelV x u → ∃ as, Reads h u d as ∧ ∀ b ∈ as, ∃ o, H b = some o
def ShAll (P : Program) (w : World) (H : Hp) (xs : List V) (ds : List PyData) : Prop := ∀ h, HOk P w H h → ∀ us, Vals xs us → ∃ as, ReadsAll h us ds as ∧ ∀ b ∈ as, ∃ o, H b = some o
section
variable {P : Program} {w : World} {H H' : Hp} {x : V} {d : PyData} {xs : List V} {ds : List PyData} {a : Addr}
theorem sh_non : Sh P w H .non .none := fun h _ u r => by cases (show u = Value.none from r); exact ⟨[], .none, fun b z => nomatch z⟩
theorem sh_bl (b : Bool) : Sh P w H (.bl b) (.bool b) := fun h _ u r => by cases (show u = Value.bool b from r); exact ⟨[], .bool b, fun b z => nomatch z⟩
theorem sh_int (i : Int) : Sh P w H (.int i) (.int i) := fun h _ u r => by obtain ⟨t, rfl⟩ := (show ∃ t, u = Value.int i t from r); exact ⟨[], .int i t, fun b z => nomatch z⟩
theorem sh_str (y : Str) : Sh P w H (.str y) (.str y) := fun h _ u r => by obtain ⟨t, rfl⟩ := (show ∃ t, u = Value.str y t from r); exact ⟨[], .str y t, fun b z => nomatch z⟩
theorem sh_nil : ShAll P w H [] [] := fun h _ us r => by cases r; exact ⟨[], .nil, fun b z => nomatch z⟩
theorem sh_cons (h1 : Sh P w H x d) (h2 : ShAll P w H xs ds) : ShAll P w H (x :: xs) (d :: ds) := fun h k us r => by
  cases r with
  | cons r1 r2 =>
    obtain ⟨a1, p1, q1⟩ := h1 h k _ r1
    obtain ⟨a2, p2, q2⟩ := h2 h k _ r2
    exact ⟨_, .cons p1 p2, fun b z => (List.mem_append.mp z).elim (q1 b) (q2 b)⟩
theorem sh_lst (ha : H a = some (.lst xs)) (hx : ShAll P w H xs ds) : Sh P w H (.ref a) (.list ds) := fun h k u r => by
  cases (show u = Value.ref a from r)
  obtain ⟨_, its, n, rv, e⟩ := (show ObjOk P w H h a (.lst xs) from k a _ ha)
  obtain ⟨as, p, q⟩ := hx h k its rv
  refine ⟨a :: as, .list e rfl rfl p, fun b z => ?_⟩
  rcases List.mem_cons.mp z with rfl | z
  · exact ⟨_, ha⟩
  · exact q b z
theorem sh_tup (ha : H a = some (.tup xs)) (hx : ShAll P w H xs ds) : Sh P w H (.ref a) (.tuple ds) := fun h k u r => by
  cases (show u = Value.ref a from r)
  obtain ⟨_, its, rv, o, h1, h2, n, h3⟩ := (show ObjOk P w H h a (.tup xs) from k a _ ha)
  obtain ⟨as, p, q⟩ := hx h k its rv
  exact ⟨as, .tuple h1 h2 h3 p, q⟩
theorem sh_dict1 {y : Str} (ha : H a = some (.dK [((Sum.inr y : Key), x)])) (hx : Sh P w H x d) : Sh P w H (.ref a) (.dict [(.str y, d)]) := fun h k u r => by
  cases (show u = Value.ref a from r)
  obtain ⟨_, _, vs, kv, o, es, ep, h1, h2, h3, _, h5, _⟩ := (show ObjOk P w H h a (.dK [((Sum.inr y : Key), x)]) from k a _ ha)
  cases kv with
  | @cons p0 q0 _ _ kr kt =>
    cases kt
    obtain ⟨k1, v1⟩ := q0
    obtain ⟨e1, e2⟩ := kr
    obtain rfl : Sum.inr y = k1 := e1
    generalize he : es.toList = el at h5
    cases h5 with
    | @cons en _ er _ i1 i2 i3 =>
      cases i3
      obtain ⟨as, p, q⟩ := hx h k v1 e2
      have i2 : en.val = v1 := i2
      have ek : ∃ t, en.key = Value.str y t := by
        rcases keyIs_shape (show keyIs (Sum.inr y) en.key = true from i1) with ⟨i, t, h1, h2⟩ | ⟨z, t, h1, h2⟩
        · first | cases h1 | cases h2
        · first | (cases h2; exact ⟨t, h1⟩) | (cases h1; exact ⟨t, h2⟩)
      obtain ⟨t, ek⟩ := ek
      refine ⟨_, .dict (as := [] ++ []) (bs := as ++ []) h1 h2.1 h3 ?_ ?_, fun b z => ?_⟩
      · rw [he, List.map_cons, List.map_nil, ek]
        exact .cons (.str y t) .nil
      · rw [he, List.map_cons, List.map_nil, i2]
        exact .cons p .nil
      · rcases List.mem_cons.mp z with rfl | z
        · exact ⟨_, ha⟩
        · exact q b (by simpa using z)
end
mutual
/-- tracked data, dicts of one text key among it -/
inductive Dt (H : Hp) : V → PyData → Prop
  | non : Dt H .non .none
  | bl (b : Bool) : Dt H (.bl b) (.bool b)
  | int (i : Int) : Dt H (.int i) (.int i)
  | str (x : Str) : Dt H (.str x) (.str x)
  | lst {a : Addr} {xs : List V} {ds : List PyData} : H a = some (.lst xs) → DtAll H xs ds → Dt H (.ref a) (.list ds)
  | tup {a : Addr} {xs : List V} {ds : List PyData} : H a = some (.tup xs) → DtAll H xs ds → Dt H (.ref a) (.tuple ds)
  | one {a : Addr} {y : Str} {x : V} {d : PyData} : H a = some (.dK [((Sum.inr y : Key), x)]) → Dt H x d → Dt H (.ref a) (.dict [(.str y, d)])
inductive DtAll (H : Hp) : List V → List PyData → Prop
  | nil : DtAll H [] []
  | cons {v : V} {vs : List V} {d : PyData} {ds : List PyData} : Dt H v d → DtAll H vs ds → DtAll H (v :: vs) (d :: ds)
end
mutual
theorem Dt.same {H H' : Hp} (e : ∀ b o, H b = some o → H' b = some o) {v : V} {d : PyData} (h : Dt H v d) : Dt H' v d := by
  cases h with
  | non => exact .non
  | bl b => exact .bl b
  | int i => exact .int i
  | str x => exact .str x
  | lst ha hx => exact .lst (e _ _ ha) (hx.same e)
  | tup ha hx => exact .tup (e _ _ ha) (hx.same e)
  | one ha hx => exact .one (e _ _ ha) (hx.same e)
theorem DtAll.same {H H' : Hp} (e : ∀ b o, H b = some o → H' b = some o) {vs : List V} {ds : List PyData} (h : DtAll H vs ds) : DtAll H' vs ds := by
  cases h with
  | nil => exact .nil
  | cons h1 h2 => exact .cons (h1.same e) (h2.same e)
end
mutual
theorem Dt.sh {P : Program} {w : World} {H : Hp} {v : V} {d : PyData} (h : Dt H v d) : Sh P w H v d := by
  cases h with
  | non => exact sh_non
  | bl b => exact sh_bl b
  | int i => exact sh_int i
  | str x => exact sh_str x
  | lst ha hx => exact sh_lst ha hx.sh
  | tup ha hx => exact sh_tup ha hx.sh
  | one ha hx => exact sh_dict1 ha hx.sh
theorem DtAll.sh {P : Program} {w : World} {H : Hp} {vs : List V} {ds : List PyData} (h : DtAll H vs ds) : ShAll P w H vs ds := by
  cases h with
  | nil => exact sh_nil
  | cons h1 h2 => exact sh_cons h1.sh h2.sh
end
section
variable {X : Cx}
/-- repr(x) of tracked data, where no repr runs -/
def rRepr : List V → Hp → VK → Prop := fun xs H Q => ∃ (a : Addr) (d : PyData), xs = [.ref a] ∧ Dt H (.ref a) d ∧ d.showable = true ∧ d.depth ≤ 64 ∧ d.shown.length ≤ sizeLine ∧ Q (.str d.shown) H
theorem call_reprD (hg : X.A.guards = some []) (hu : X.A.units + 100 < cLine) (hs : ∃ mm, X.base.Ns sysModules mm) : CallR X (.builtin "repr") rRepr := by
  intro pins s σ H xs us Q I r h
  obtain ⟨a, d, rfl, sh, h1, h2, h3, q⟩ := h
  obtain ⟨u, rfl, ru⟩ := vals1 r
  obtain rfl : u = Value.ref a := ru
  obtain ⟨as, p, hb⟩ := sh.sh (P := X.prog) (w := X.w) s.heap I.hok (.ref a) rfl
  obtain ⟨mm, o, _, _, ho, _⟩ := hs
  have hn : sysModules ∉ as := fun z => by
    obtain ⟨o', e⟩ := hb _ z
    rw [(I.bs _ _ ho).2] at e
    cases e
  exact repr_of_reads' p h1 (fun _ => hn) hg (by omega) (fun b o e => e) (fun h' u tk k => ⟨.str d.shown, H, I.kept (t' := tk) k, ⟨u, rfl⟩, q⟩) h3
end
end Rp
set_option Elab.async false
set_option linter.all false
set_option maxRecDepth 100000
set_option maxHeartbeats 2000000
/-! The law's own def, at the very frame from which it is called (no repr runs there). -/
namespace Lw
open PySem PySem.Spec PyProof.Rows L2
section
variable {CX : CXT} {P : Program} {w : World} {K : PySem.W.Frag} {mg : Str → Option Value} {base : Heap} {k : Nat} {f : Addr} {name qual : Str} {params : Arguments} {body : List Stmt} {scope : Scope} {dV kV doc pm cdv ct oc : Value} {an od : Option Addr} {osl : Array (Option Value)} {N ps : List Str}
/-- a def of the text by its body, at one frame -/
theorem run_at {A : Around} {outer : List Env} {s : Shared} {H : Hp} {args : Args} {us : List Value} {vs : List V} {Q : VK} {E : XK} (lk : K.lookup f = some ⟨oc, od, .func (PySem.W.fnOf name qual params body scope dV kV doc pm an cdv ct), osl⟩) (hcd : PySem.W.codeIn K cdv qual = true) (S : FnScope N ps scope)
    (hr : Room (k + 1) A) (e0 : Env0 P w K mg base A outer s H) (hb : BindsTo s (PySem.W.fnOf name qual params body scope dV kV doc pm an cdv ct) args (ps.zip us)) (r : Vals vs us) (hl : vs.length = ps.length) {t : TS}
    (ht : PSs (cxOf CX P w K mg base N qual scope f cdv A outer s H E) body t) (hq : t { nx := fun _ H' => Q .non H', rt := Q } (start N vs) H) :
    codeAny (model P w) A (.call (.ref f) args) (CR CX outer P w H s Q E) s := by
  have KX : K.In s.heap := e0.mod.kin.keeps fun b o e => (e0.bs b o e).1
  have lim := e0.mod.nolimit.keeps fun b o e => (e0.bs b o e).1
  refine codeAny_call_function hr.depth (KX _ _ lk) rfl S.co S.gen rfl (PySem.W.codeRec_of KX hcd) (hb _ _ _ _ (wpAny_newFunctionEnv_cells S.kind (fun ⟨n, v⟩ hy => ?_) fun env he s1 x => ?_))
  · rcases S.par n (List.of_mem_zip hy).1 with q | q
    · exact .inl q
    · exact .inr ⟨q, PySem.W.cellsFrom_some _ _ _ (.inl q)⟩
  subst he
  refine ⟨lim.keeps x.toInCall.keep, codeAny_func (wpAny_mono (ht.run [] s1 (start N vs) H _ (inv_start S hr.hd e0 hl r x) hq) (fun fl s' hs => ?_) fun e s' hs => hs)⟩
  cases fl with
  | ret u => exact let ⟨v, _, H', J, rv, q⟩ := hs; ⟨v, H', J.os, J.bare, J.base, J.hok, rv, q⟩
  | next => exact let ⟨_, H', J, q⟩ := hs; ⟨V.non, H', J.os, J.bare, J.base, J.hok, rfl, q⟩
  | brk => exact let ⟨_, _, _, q⟩ := hs; q.elim
  | cont => exact let ⟨_, _, _, q⟩ := hs; q.elim
end
section
variable {P : Program} {w : World} {K : PySem.W.Frag} {mg mb : Str → Option Value} {fa a : Addr} {s : Shared} {vs : List Value} {ns : List Int}
/-- what the law's def must do: from a heap in which the script alone may be tracked -/
def LawAt (P : Program) (w : World) (K : PySem.W.Frag) (mg : Str → Option Value) (fa : Addr) : Prop := ∀ (base : Heap) (s : Shared) (H : Hp) (a : Addr) (ns : List Int), K.In base → base.Ns mainGlobals mg → (∃ mm, base.Ns sysModules mm) → Env0 P w K mg base callerA [] s H → SqL K H a (ns.map V.int) → ns.length ≤ 63 →
  codeAny (model P w) callerA (.call (.ref fa) ⟨[.ref a], []⟩) (CR CX0 [] P w H s (fun v _ => v = .bl true) E0) s
theorem law_here (L : LawAt P w K mg fa) (KX : K.In s.heap) (hns : s.heap.Ns mainGlobals mg) (hb : s.heap.Ns builtinsNs mb) (hbb : ∀ x : Str, x ≠ "__name__" → mb x = bootBuiltins x) (hlim : s.heap.NoLimit) (hsm : ∃ mm, s.heap.Ns sysModules mm) (hg : s.gens = #[])
    (ha : s.heap.get? a = some { cls := .type "list", data := .seq vs.toArray }) (hi : IntsAre vs ns) (hl : ns.length ≤ 63) :
    codeAny (model P w) callerA (.call (.ref fa) ⟨[.ref a], []⟩) (fun r s' => r = .ok (.ret (.bool true)) ∧ OldK s.heap s'.heap ∧ s'.os = s.os ∧ AllBare s'.gens) s := by
  have l63 : ns.length ≤ sizeLine := Nat.le_trans hl (by decide)
  -- one tracked heap for both cases
  suffices main : ∀ H : Hp, (∀ b o, H b = some o → b = a ∧ o = .frz { cls := .type "list", data := .seq vs.toArray } (.lst (ns.map V.int)) ∧ K.lookup a = none) → SqL K H a (ns.map V.int) → codeAny (model P w) callerA (.call (.ref fa) ⟨[.ref a], []⟩) (fun r s' => r = .ok (.ret (.bool true)) ∧ OldK s.heap s'.heap ∧ s'.os = s.os ∧ AllBare s'.gens) s by
    cases hk : K.lookup a with
    | some o =>
      have e := (KX a o hk).symm.trans ha
      cases e
      refine main (fun _ => none) (fun b o z => nomatch (show (none : Option HO) = some o from z)) (.inr ⟨_, vs.toArray, _, hk, rfl, rfl, rfl, ?_, by simpa using vals_ints hi⟩)
      rw [List.size_toArray, hi.length]; exact l63
    | none =>
      refine main (fun b => if b = a then some (.frz { cls := .type "list", data := .seq vs.toArray } (.lst (ns.map V.int))) else none) (fun b o z => ?_) (.inl (.inr ⟨_, if_pos rfl⟩))
      by_cases e : b = a
      · have z := (if_pos e).symm.trans z
        cases z
        exact ⟨e, rfl, hk⟩
      · exact nomatch (if_neg e).symm.trans z
  intro H hH hS
  let B := hidT s.heap H
  have keep : ∀ b o, s.heap.get? b = some o → H b = none → B.get? b = some o := fun b o e n => hidT_get e n
  have nsB : ∀ {b : Addr} {m : Str → Option Value}, s.heap.Ns b m → B.Ns b m := fun {b m} ⟨o, es, ep, e, d, r⟩ => by
    refine ⟨o, es, ep, keep b o e ?_, d, r⟩
    cases q : H b with
    | none => rfl
    | some u =>
      obtain ⟨rfl, _, _⟩ := hH b u q
      rw [ha] at e; cases e; cases d
  have KB : K.In B := fun b o e => by
    refine keep b o (KX b o e) ?_
    cases q : H b with
    | none => rfl
    | some u =>
      obtain ⟨rfl, _, hk⟩ := hH b u q
      rw [hk] at e; cases e
  have hok : HOk P w H s.heap := fun b o e => by
    obtain ⟨rfl, rfl, _⟩ := hH b o e
    exact ⟨ha, by rw [List.length_map]; exact l63, vs, _, vals_ints hi, ha⟩
  have M : Mod K mg B := ⟨KB, nsB hns, ⟨mb, nsB hb, hbb⟩, (fun ⟨mc, h1, h2⟩ => ⟨mc, nsB h1, h2⟩) hlim⟩
  have e0 : Env0 P w K mg B callerA [] s H := ⟨rfl, M, fun b o e => of_hidT e, Nat.le_of_eq (hidT_size _ _), trivial, (fun b hb => absurd (show b ∈ ([] : List Addr) from hb) (by simp)), hok, AllBare.of_eq hg⟩
  refine codeAny_mono (L B s H a ns KB (nsB hns) (hsm.imp fun _ z => nsB z) e0 hS hl) fun r s' h => ?_
  cases r with
  | error e => exact (show False from h).elim
  | ok fl =>
    cases fl with
    | next => exact (show False from h).elim
    | brk => exact (show False from h).elim
    | cont => exact (show False from h).elim
    | ret u =>
      obtain ⟨v, H', os, bare, un, hok', r', rfl⟩ := h
      obtain rfl : u = Value.bool true := r'
      refine ⟨rfl, OldK.of_keep fun b o e => ?_, os, bare⟩
      cases q : H b with
      | none => exact un.keep b o e q (fun z => nomatch (show b ∈ ([] : List Addr) from z)) (fun z => nomatch z)
      | some u =>
        obtain ⟨rfl, rfl, _⟩ := hH b u q
        have z := hok' b _ (un.frzs b _ _ q)
        rw [ha] at e; cases e
        exact z.1
end
/-- the goal that k_head leaves -/
theorem walk_here {l : PySem.W.OpenLaw} {q : Program} {loose : List Str} {XP : (Str → Option Value) → Heap → Prop} {YP : World → Heap → Prop} {d : DefRec} {K : Params → PySem.W.Frag} (hn : l.most = some 63) (hdf : d.params.defaults = []) (hin : PyProof.Rows.importsNone q = true)
    (hY : ∀ (w : World) (h : Heap), YP w h → (K w.params).In h)
    (F : ∀ (w : World) (mg : Str → Option Value) (fa : Addr) (h : Heap), (K w.params).In h → h.Ns mainGlobals mg → mg d.name = some (.ref fa) → LawAt l.prog w (K w.params) mg fa) :
    PySem.W.WalkO q loose XP YP l.row.toRowW d [] (fun f vs => PySem.call f vs) := by
  refine Att.attach_call hn hdf fun w s₀ s₁ mg mb fa o pm cd doc a vs ns G Y ho hd hcd hmg hobj hints hlen hg => ?_
  have KX := hY w _ Y
  exact law_here (F w mg fa _ KX G.T.g hmg) KX G.T.g G.T.b G.T.builtins G.T.nolimit ((G.T.seer hin).mods.imp fun _ z => z.1) hg hobj hints hlen
/-- the same over a head by facts -/
theorem walk_hereE {l : PySem.W.OpenLaw} {q : Program} {loose : List Str} {XP : (Str → Option Value) → Heap → Prop} {YP : World → Heap → Prop} {d : DefRec} (hn : l.most = some 63) (hdf : d.params.defaults = []) (hin : PyProof.Rows.importsNone q = true)
    (F : ∀ (w : World) (mg : Str → Option Value) (fa : Addr) (h : Heap), YP w h → h.Ns mainGlobals mg → mg d.name = some (.ref fa) → ∃ K : PySem.W.Frag, K.In h ∧ LawAt l.prog w K mg fa) :
    PySem.W.WalkO q loose XP YP l.row.toRowW d [] (fun f vs => PySem.call f vs) := by
  refine Att.attach_call hn hdf fun w s₀ s₁ mg mb fa o pm cd doc a vs ns G Y ho hd hcd hmg hobj hints hlen hg => ?_
  obtain ⟨K, KX, L⟩ := F w mg fa _ Y G.T.g hmg
  exact law_here L KX G.T.g G.T.b G.T.builtins G.T.nolimit ((G.T.seer hin).mods.imp fun _ z => z.1) hg hobj hints hlen
end Lw
set_option Elab.async false
set_option linter.all false
set_option maxRecDepth 100000
set_option maxHeartbeats 2000000
namespace Kx
open PySem PySem.Spec PyProof.Rows L2 Sx
/-! ### the error classes -/
structure ErrC (K : PySem.W.Frag) (PE C : Addr) : Prop where
  T : OexC K C
  X : ExcC K C
  F : XfC K C
  cls : (PySem.W.clsIn K C).isSome = true
  mro : ∀ v : Value, PySem.W.mroIn K C v = some ((Value.ref C :: tailOf PE).contains v)
theorem shapeB_ok {K : PySem.W.Frag} {PE C : Addr} (h : shapeB K PE C = true) : ∃ nm q N bs sn sub ab col dd k0 k1 k2 k3 k5, K.lookup C = some (excClassObj nm q C N bs (tailOf PE) true sn sub ab col dd k0 k1 k2 k3 k5 "ValueError.__new__") := by
  unfold shapeB at h
  split at h
  · rename_i dd cd sl ho
    split at h
    · rename_i k0 k1 k2 k3 n k5 hs
      simp only [Bool.and_eq_true, beq_iff_eq, Bool.not_eq_true'] at h
      obtain ⟨rfl, h2, h3, h4⟩ := h
      obtain ⟨nm, bs, mro, ns, qn, hd, sn, sub, ab, col, del⟩ := cd
      dsimp only at h2 h3 h4
      subst h2 h3 h4
      obtain ⟨l⟩ := sl
      simp only at hs
      subst hs
      exact ⟨_, _, _, _, _, _, _, _, _, _, _, _, _, _, ho⟩
    · cases h
  · cases h
theorem errB_ok {K : PySem.W.Frag} {PE C : Addr} (h : errB K PE C = true) : ErrC K PE C := by
  unfold errB at h
  simp only [Bool.and_eq_true, decide_eq_true_eq] at h
  obtain ⟨h1, h2, h3, h4, h5, h6, h7⟩ := h
  have F := xfB_ok h4
  obtain ⟨nm, q, N, bs, sn, sub, ab, col, dd, k0, k1, k2, k3, k5, e⟩ := shapeB_ok h1
  have ec : PySem.W.clsIn K C = some { name := nm, bases := bs, mro := .ref C :: tailOf PE, ns := N, qualname := q, hasDict := true, slotNames := sn, subclasses := sub, abstract := ab, collection := col, hasDel := false } := by unfold PySem.W.clsIn; rw [e]
  have em : ∀ v : Value, PySem.W.mroIn K C v = some ((Value.ref C :: tailOf PE).contains v) := fun v => by unfold PySem.W.mroIn; rw [ec]; rfl
  have et : PySem.W.typeIn K (.ref C) = some (.type "type") := by show (K.lookup C).map (·.cls) = _; rw [e]; rfl
  exact ⟨⟨⟨nm, q, N, bs, tailOf PE, sn, sub, ab, col, dd, k0, k1, k2, k3, k5, e, (show PySem.HandSPX.refsVE PySem.HandSPX.veTail = true by decide)⟩, h2, F.exC, et, h3⟩, ⟨F.ga, F.gg, F.exC, F.hdC, h5, h6, h7, by rw [em]; simp [tailOf]⟩, F, by rw [ec]; rfl, em⟩
theorem kit_own {K : PySem.W.Frag} {PE C D : Addr} (h1 : ErrC K PE C) (h2 : ErrC K PE D) (hp : D ≠ PE) : PySem.W.kitOne K (.ref C) (.ref D) = some (decide (C = D)) := by
  unfold PySem.W.kitOne
  by_cases e : C = D
  · rw [if_pos (by rw [e]; exact beq_self_eq_true _), decide_eq_true e]
  · rw [if_neg (fun z => e (Value.ref.inj (beq_iff_eq.mp z))), decide_eq_false e]
    show (if ((PySem.W.clsIn K D).isSome && PySem.W.typeIn K (.ref D) == some (.type "type")) = true then PySem.W.subIn K (.ref C) (.ref D) else none) = _
    rw [if_pos (by rw [h2.cls, h2.T.tyC]; rfl)]
    show PySem.W.mroIn K C (.ref D) = _
    rw [h1.mro]
    have : (Value.ref C :: tailOf PE).contains (.ref D) = false := by
      simp only [tailOf, List.contains_cons, Bool.or_eq_false_iff]
      refine ⟨?_, ?_, beq_eq_false_iff_ne.mpr (fun z => nomatch z), beq_eq_false_iff_ne.mpr (fun z => nomatch z), beq_eq_false_iff_ne.mpr (fun z => nomatch z), beq_eq_false_iff_ne.mpr (fun z => nomatch z), rfl⟩
      · exact beq_eq_false_iff_ne.mpr fun z => e (Value.ref.inj z).symm
      · exact beq_eq_false_iff_ne.mpr fun z => hp (Value.ref.inj z)
    rw [this]
/-! ### all of them, by one look at the written part -/
end Kx
set_option Elab.async false
set_option linter.all false
set_option maxRecDepth 100000
set_option maxHeartbeats 4000000
namespace Kx
open PySem PySem.Spec PyProof.Rows L2 Sx Rp Dw
/-- what the top has left of the error classes -/
structure Cls61 (K : PySem.W.Frag) (mg : Str → Option Value) (PE : Addr) (cs : Nat → Addr) : Prop where
  ok : ∀ i, i < 61 → ErrC K PE (cs i)
  nm : ∀ i, i < 61 → mg (errNames.getD i "") = some (.ref (cs i))
  ne : ∀ i j, i < 61 → j < 61 → i ≠ j → cs i ≠ cs j
  np : ∀ i, i < 61 → cs i ≠ PE
  pm : mg "PageError" = some (.ref PE)
  pc : (PySem.W.clsIn K PE).isSome = true
  pt : PySem.W.typeIn K (.ref PE) = some (.type "type")
  pl : ∀ i, i < 61 → ownInit i = false → PySem.W.findIn K (.ref (cs i)) "__init__" = some (some (.builtin "ValueError.__init__"))
def plainJs : List Nat := [0, 1, 2, 4, 5, 6, 7, 9, 10, 12, 13, 14, 15, 17, 18, 19, 20, 21, 22, 23, 24, 25, 27, 28, 29, 30, 31, 32, 33, 34, 36, 37, 38, 39, 40, 41, 42, 43, 44, 45, 46, 47, 51, 52, 53, 57, 58, 60]
/-- errors of these classes, in order -/
def ErrsAt (cs : Nat → Addr) (H : Hp) (xs : List V) (js : List Nat) : Prop := Paired (fun v j => j < 61 ∧ ∃ a fs, v = .ref a ∧ KErr H a (cs j) fs) xs js
theorem ErrsAt.same {cs : Nat → Addr} {H H' : Hp} (e : Same H H') : ∀ {xs : List V} {js : List Nat}, ErrsAt cs H xs js → ErrsAt cs H' xs js
  | _, _, .nil => .nil
  | _, _, .cons ⟨h0, a, fs, h1, h2⟩ t => .cons ⟨h0, a, fs, h1, h2.same e⟩ (ErrsAt.same e t)
theorem ErrsAt.append {cs : Nat → Addr} {H : Hp} : ∀ {xs ys : List V} {js ks : List Nat}, ErrsAt cs H xs js → ErrsAt cs H ys ks → ErrsAt cs H (xs ++ ys) (js ++ ks)
  | _, _, _, _, .nil, h => h
  | _, _, _, _, .cons h t, h2 => .cons h (ErrsAt.append t h2)
def tErrs (cs : Nat → Addr) (js : List Nat) : TA := fun _ H Q => ∀ H' xs, Same H H' → ErrsAt cs H' xs js → Q xs H'
section
variable {X : Cx} {PE : Addr} {cs : Nat → Addr}
theorem same_new {H : Hp} {a : Addr} {o : HO} (h : H a = none) : Same H (upd H a o) := fun b u e => by rw [upd_ne (ne_of_none e h)]; exact e
theorem none_back {H H' : Hp} {p : Addr} (s : Same H H') (n : H' p = none) : H p = none := by
  cases e : H p with
  | none => rfl
  | some o => rw [s p o e] at n; cases n
theorem pa_nilE : PA X [] (tErrs cs []) := ⟨fun p pins s σ H Q I h => pa_nil.run p pins s σ H Q I (h H [] (fun _ _ e => e) .nil)⟩
theorem pa_e (T : Cls61 X.K X.mg PE cs) {j : Nat} {x : Str} {y : Str} {p cp pos : Pos} {m : Nat} {es : List Expr} {js : List Nat} (hj : j < 61) (hx : errNames.getD j "" = x) (hi : ownInit j = false) (h : PA X es (tErrs cs js)) (hg : Gl X x := by rfl) (hdb : (x == ("__debug__" : Str)) = false := by decide)
    (he : starEach [Expr.Constant (.str y) m cp] X.env = (false, eval (.Constant (.str y) m cp) X.env) :: starEach [] X.env := by rfl) : PA X (.Call (.Name x p) [.Constant (.str y) m cp] [] pos :: es) (tErrs cs (j :: js)) := by
  refine ⟨fun p' pins s σ H Q I q => (pa_cons (pe_err0 (T.ok j hj).T (T.pl j hj hi) hg (by rw [← hx]; exact T.nm j hj) (pa_cons pe_str pa_nil) hdb he (by rfl)) h).run p' pins s σ H Q I ?_⟩
  refine ⟨(show 1 ≤ 1000 by decide), fun a na H' xs s1 e => ?_⟩
  exact q H' _ (fun b o z => s1 b o (same_new na b o z)) (.cons ⟨hj, a, [], rfl, .inl ⟨rfl, s1 a _ upd_same⟩⟩ e)
end
section
variable {P : Program} {w : World} {K : PySem.W.Frag} {mg : Str → Option Value} {base : Heap} {PE : Addr} {cs : Nat → Addr}
abbrev sPlain : Stmt := topS 68
theorem scPl : FnScope ["found"] [] (defScope sPlain) := ⟨rfl, rfl, rfl, by decide +kernel, rfl, by decide +kernel, by decide +kernel⟩
def spPlain (cs : Nat → Addr) : Sp := fun vs H Q _ => vs = [] ∧ ∀ (p : Addr) (xs : List V) (H' : Hp), Same H H' → H p = none → H' p = some (.lst xs) → ErrsAt cs H' xs plainJs → Q (.ref p) H'
theorem ok_plain {f : Addr} {fd : FuncData} (F : Fun K "_law_plain_errors" "_law_plain_errors" sPlain f fd) (T : Cls61 K mg PE cs) : FnOk P w K mg base CX0 1 f fd [] (spPlain cs) := by
  refine F.ok scPl (fun vs H Q E h => ?_) (fun cdv A outer s H vs Q E hr h => ?_)
  · obtain ⟨rfl, _⟩ := h
    rfl
  · obtain ⟨rfl, k⟩ := h
    refine ⟨_, pss_cons (ps_set (i := 0) scPl.nd rfl (.inl rfl) (pe_lst (pa_e T (j := 0) (by decide) rfl rfl (pa_e T (j := 1) (by decide) rfl rfl (pa_e T (j := 2) (by decide) rfl rfl (pa_e T (j := 4) (by decide) rfl rfl (pa_e T (j := 5) (by decide) rfl rfl (pa_e T (j := 6) (by decide) rfl rfl (pa_e T (j := 7) (by decide) rfl rfl (pa_e T (j := 9) (by decide) rfl rfl (pa_e T (j := 10) (by decide) rfl rfl (pa_nilE))))))))))))
      (pss_cons (ps_set (i := 0) scPl.nd rfl (.inl rfl) (pe_op op_cat (pv 0) (pe_lst (pa_e T (j := 12) (by decide) rfl rfl (pa_e T (j := 13) (by decide) rfl rfl (pa_e T (j := 14) (by decide) rfl rfl (pa_e T (j := 15) (by decide) rfl rfl (pa_e T (j := 17) (by decide) rfl rfl (pa_e T (j := 18) (by decide) rfl rfl (pa_e T (j := 19) (by decide) rfl rfl (pa_e T (j := 20) (by decide) rfl rfl (pa_e T (j := 21) (by decide) rfl rfl (pa_e T (j := 22) (by decide) rfl rfl (pa_nilE))))))))))))))
      (pss_cons (ps_set (i := 0) scPl.nd rfl (.inl rfl) (pe_op op_cat (pv 0) (pe_lst (pa_e T (j := 23) (by decide) rfl rfl (pa_e T (j := 24) (by decide) rfl rfl (pa_e T (j := 25) (by decide) rfl rfl (pa_e T (j := 27) (by decide) rfl rfl (pa_e T (j := 28) (by decide) rfl rfl (pa_e T (j := 29) (by decide) rfl rfl (pa_e T (j := 30) (by decide) rfl rfl (pa_e T (j := 31) (by decide) rfl rfl (pa_e T (j := 32) (by decide) rfl rfl (pa_e T (j := 33) (by decide) rfl rfl (pa_nilE))))))))))))))
      (pss_cons (ps_set (i := 0) scPl.nd rfl (.inl rfl) (pe_op op_cat (pv 0) (pe_lst (pa_e T (j := 34) (by decide) rfl rfl (pa_e T (j := 36) (by decide) rfl rfl (pa_e T (j := 37) (by decide) rfl rfl (pa_e T (j := 38) (by decide) rfl rfl (pa_e T (j := 39) (by decide) rfl rfl (pa_e T (j := 40) (by decide) rfl rfl (pa_e T (j := 41) (by decide) rfl rfl (pa_e T (j := 42) (by decide) rfl rfl (pa_e T (j := 43) (by decide) rfl rfl (pa_e T (j := 44) (by decide) rfl rfl (pa_nilE))))))))))))))
      (pss_cons (ps_set (i := 0) scPl.nd rfl (.inl rfl) (pe_op op_cat (pv 0) (pe_lst (pa_e T (j := 45) (by decide) rfl rfl (pa_e T (j := 46) (by decide) rfl rfl (pa_e T (j := 47) (by decide) rfl rfl (pa_e T (j := 51) (by decide) rfl rfl (pa_e T (j := 52) (by decide) rfl rfl (pa_e T (j := 53) (by decide) rfl rfl (pa_e T (j := 57) (by decide) rfl rfl (pa_e T (j := 58) (by decide) rfl rfl (pa_e T (j := 60) (by decide) rfl rfl (pa_nilE)))))))))))))
      (pss_one (ps_ret (pv 0))))))), ?_⟩
    intro H1 x1 s1 e1
    refine ⟨by rw [Paired.length e1]; decide, fun p1 np1 => ?_⟩
    have f1 : (upd H1 p1 (.lst x1)) p1 = some (.lst x1) := upd_same
    have n1 : H p1 = none := none_back s1 np1
    have g1 : ErrsAt cs (upd H1 p1 (.lst x1)) x1 [0, 1, 2, 4, 5, 6, 7, 9, 10] := e1.same (same_new np1)
    have t1 : Same H (upd H1 p1 (.lst x1)) := fun b o z => same_new np1 b o (s1 b o z)
    generalize upd H1 p1 (.lst x1) = G1 at f1 g1 t1
    refine ⟨_, rfl, fun H2 x2 s2 e2 => ⟨by rw [Paired.length e2]; decide, fun q2 nq2 => ⟨p1, q2, _, _, rfl, rfl, (same_new nq2 _ _ (s2 _ _ f1)), upd_same, by rw [Paired.length g1, Paired.length e2]; decide, fun p2 np2 => ?_⟩⟩⟩
    have w2 : Same G1 (upd (upd H2 q2 (.lst x2)) p2 (.lst (x1 ++ x2))) := fun b o z => same_new np2 b o (same_new nq2 b o (s2 b o z))
    have f2 : (upd (upd H2 q2 (.lst x2)) p2 (.lst (x1 ++ x2))) p2 = some (.lst (x1 ++ x2)) := upd_same
    have n2 : H p2 = none := none_back (fun b o z => same_new nq2 b o (s2 b o (t1 b o z))) np2
    have g2 : ErrsAt cs (upd (upd H2 q2 (.lst x2)) p2 (.lst (x1 ++ x2))) (x1 ++ x2) ([0, 1, 2, 4, 5, 6, 7, 9, 10] ++ [12, 13, 14, 15, 17, 18, 19, 20, 21, 22]) := (g1.same w2).append (e2.same fun b o z => same_new np2 b o (same_new nq2 b o z))
    have t2 : Same H (upd (upd H2 q2 (.lst x2)) p2 (.lst (x1 ++ x2))) := fun b o z => w2 b o (t1 b o z)
    generalize upd (upd H2 q2 (.lst x2)) p2 (.lst (x1 ++ x2)) = G2 at f2 g2 t2
    generalize x1 ++ x2 = y2 at f2 g2
    refine ⟨_, rfl, fun H3 x3 s3 e3 => ⟨by rw [Paired.length e3]; decide, fun q3 nq3 => ⟨p2, q3, _, _, rfl, rfl, (same_new nq3 _ _ (s3 _ _ f2)), upd_same, by rw [Paired.length g2, Paired.length e3]; decide, fun p3 np3 => ?_⟩⟩⟩
    have w3 : Same G2 (upd (upd H3 q3 (.lst x3)) p3 (.lst (y2 ++ x3))) := fun b o z => same_new np3 b o (same_new nq3 b o (s3 b o z))
    have f3 : (upd (upd H3 q3 (.lst x3)) p3 (.lst (y2 ++ x3))) p3 = some (.lst (y2 ++ x3)) := upd_same
    have n3 : H p3 = none := none_back (fun b o z => same_new nq3 b o (s3 b o (t2 b o z))) np3
    have g3 : ErrsAt cs (upd (upd H3 q3 (.lst x3)) p3 (.lst (y2 ++ x3))) (y2 ++ x3) ([0, 1, 2, 4, 5, 6, 7, 9, 10, 12, 13, 14, 15, 17, 18, 19, 20, 21, 22] ++ [23, 24, 25, 27, 28, 29, 30, 31, 32, 33]) := (g2.same w3).append (e3.same fun b o z => same_new np3 b o (same_new nq3 b o z))
    have t3 : Same H (upd (upd H3 q3 (.lst x3)) p3 (.lst (y2 ++ x3))) := fun b o z => w3 b o (t2 b o z)
    generalize upd (upd H3 q3 (.lst x3)) p3 (.lst (y2 ++ x3)) = G3 at f3 g3 t3
    generalize y2 ++ x3 = y3 at f3 g3
    refine ⟨_, rfl, fun H4 x4 s4 e4 => ⟨by rw [Paired.length e4]; decide, fun q4 nq4 => ⟨p3, q4, _, _, rfl, rfl, (same_new nq4 _ _ (s4 _ _ f3)), upd_same, by rw [Paired.length g3, Paired.length e4]; decide, fun p4 np4 => ?_⟩⟩⟩
    have w4 : Same G3 (upd (upd H4 q4 (.lst x4)) p4 (.lst (y3 ++ x4))) := fun b o z => same_new np4 b o (same_new nq4 b o (s4 b o z))
    have f4 : (upd (upd H4 q4 (.lst x4)) p4 (.lst (y3 ++ x4))) p4 = some (.lst (y3 ++ x4)) := upd_same
    have n4 : H p4 = none := none_back (fun b o z => same_new nq4 b o (s4 b o (t3 b o z))) np4
    have g4 : ErrsAt cs (upd (upd H4 q4 (.lst x4)) p4 (.lst (y3 ++ x4))) (y3 ++ x4) ([0, 1, 2, 4, 5, 6, 7, 9, 10, 12, 13, 14, 15, 17, 18, 19, 20, 21, 22, 23, 24, 25, 27, 28, 29, 30, 31, 32, 33] ++ [34, 36, 37, 38, 39, 40, 41, 42, 43, 44]) := (g3.same w4).append (e4.same fun b o z => same_new np4 b o (same_new nq4 b o z))
    have t4 : Same H (upd (upd H4 q4 (.lst x4)) p4 (.lst (y3 ++ x4))) := fun b o z => w4 b o (t3 b o z)
    generalize upd (upd H4 q4 (.lst x4)) p4 (.lst (y3 ++ x4)) = G4 at f4 g4 t4
    generalize y3 ++ x4 = y4 at f4 g4
    refine ⟨_, rfl, fun H5 x5 s5 e5 => ⟨by rw [Paired.length e5]; decide, fun q5 nq5 => ⟨p4, q5, _, _, rfl, rfl, (same_new nq5 _ _ (s5 _ _ f4)), upd_same, by rw [Paired.length g4, Paired.length e5]; decide, fun p5 np5 => ?_⟩⟩⟩
    have w5 : Same G4 (upd (upd H5 q5 (.lst x5)) p5 (.lst (y4 ++ x5))) := fun b o z => same_new np5 b o (same_new nq5 b o (s5 b o z))
    have f5 : (upd (upd H5 q5 (.lst x5)) p5 (.lst (y4 ++ x5))) p5 = some (.lst (y4 ++ x5)) := upd_same
    have n5 : H p5 = none := none_back (fun b o z => same_new nq5 b o (s5 b o (t4 b o z))) np5
    have g5 : ErrsAt cs (upd (upd H5 q5 (.lst x5)) p5 (.lst (y4 ++ x5))) (y4 ++ x5) ([0, 1, 2, 4, 5, 6, 7, 9, 10, 12, 13, 14, 15, 17, 18, 19, 20, 21, 22, 23, 24, 25, 27, 28, 29, 30, 31, 32, 33, 34, 36, 37, 38, 39, 40, 41, 42, 43, 44] ++ [45, 46, 47, 51, 52, 53, 57, 58, 60]) := (g4.same w5).append (e5.same fun b o z => same_new np5 b o (same_new nq5 b o z))
    have t5 : Same H (upd (upd H5 q5 (.lst x5)) p5 (.lst (y4 ++ x5))) := fun b o z => w5 b o (t4 b o z)
    generalize upd (upd H5 q5 (.lst x5)) p5 (.lst (y4 ++ x5)) = G5 at f5 g5 t5
    generalize y4 ++ x5 = y5 at f5 g5
    exact ⟨_, rfl, k p5 y5 G5 t5 n5 f5 g5⟩
end
end Kx
set_option Elab.async false
set_option linter.all false
set_option maxRecDepth 100000
set_option maxHeartbeats 4000000
namespace Kx
open PySem PySem.Spec PyProof.Rows L2 Sx Rp Dw NdefX
section
variable {P : Program} {w : World} {K : PySem.W.Frag} {mg : Str → Option Value} {base : Heap} {PE : Addr} {cs : Nat → Addr}
theorem cells1 {cc : Addr} {cl : Value} {cld : Option Addr} {v : Option Value} {csl : Array (Option Value)} (hc : K.lookup cc = some ⟨cl, cld, .cell v, csl⟩) (A : Around) (outer : List Env) (s : Shared) (H : Hp) (e0 : Env0 P w K mg base A outer s H) :
    CellsAt [(("__class__" : Str), cc)] ["__class__"] [none] s.heap H := by
  obtain ⟨h1, h2⟩ := e0.bs cc _ (e0.mod.kin _ _ hc)
  have one : ∀ y c, ([(("__class__" : Str), cc)] : List (Str × Addr)).lookup y = some c → y = "__class__" ∧ c = cc := fun y c e => by
    simp only [List.lookup] at e
    split at e
    · rename_i z
      exact ⟨beq_iff_eq.mp z, (Option.some.inj e).symm⟩
    · cases e
  refine ⟨rfl, fun y c e => ?_, fun x y c e1 e2 => (one x c e1).1.trans (one y c e2).1.symm, fun i y e => ?_⟩
  · obtain ⟨_, rfl⟩ := one y c e
    exact ⟨h2, v, _, h1, rfl⟩
  · cases i with
    | zero =>
      obtain rfl : ("__class__" : Str) = y := Option.some.inj e
      exact ⟨cc, by simp [List.lookup], fun v z => nomatch (show (some (none : Option V)) = some (some v) from z)⟩
    | succ i => exact nomatch (show (none : Option Str) = some y from by simpa using e)
/-- what the top has left of an __init__ that says super().__init__ -/
structure InitF (P : Program) (K : PySem.W.Frag) (st : Stmt) (qual : Str) (C fI cc c : Addr) (fd : FuncData) : Prop where
  lk : ∃ oc od osl doc pm ctv, fd = (⟨"__init__", qual, defArgs st, defBody st, defScope st, [("__class__", cc)], c⟩ : NF).fd doc pm ctv ∧ K.lookup fI = some ⟨oc, od, .func fd, osl⟩
  cd : PySem.W.codeIn K (.ref c) qual = true
  cell : ∃ cl cld csl, K.lookup cc = some ⟨cl, cld, .cell (some (.ref C)), csl⟩
  file : ∃ ccl cdd vs ccs x tf, K.lookup c = some ⟨ccl, cdd, .fields vs, ccs⟩ ∧ vs[2]? = some (.str x tf) ∧ ((P.main.file : Str) == x) = true
  ini : PySem.W.findIn K (.ref C) "__init__" = some (some (.ref fI))
  ty : PySem.W.typeIn K (.ref fI) = some (.type "function")
  sup : PySem.W.ks_superIn K C C "__init__" = some (some (.builtin "ValueError.__init__"))
/-- self.f = v, all of them -/
def spInit (C : Addr) (ns : List Str) : Sp := fun vs H Q _ => ∃ (a : Addr) (ws : List V), vs = .ref a :: ws ∧ ws.length = ns.length ∧ H a = some (exo a C none) ∧
  ∀ (dx : Addr) (H' : Hp), (∀ b o, H b = some o → b ≠ a → H' b = some o) → H' a = some (exo a C (some dx)) → H' dx = some (exd dx (ns.zip ws).reverse) → Q .non H'
theorem ok_in3 {fI cc c : Addr} {fd : FuncData} (T : Cls61 K mg PE cs) (I0 : InitF P K (sIn 3) "BadBits.__init__" (cs 3) fI cc c fd) (ms : mg "super" = none) (ma0 : PySem.W.findIn K (.ref (cs 3)) "at" = some none) (ho : PySem.W.nsIn K cStatics "thirdparty.any" = some none) (ht : (P.main.scope.names.lookup ("super" : Str)).isSome = false) :
    FnOk P w K mg base CX0 1 fI fd ["self", "at"] (spInit (cs 3) ["at"]) := by
  obtain ⟨⟨oc, od, osl, doc, pm, ctv, rfl, lk⟩, cd, ⟨cl, cld, csl, cell⟩, ⟨ccl, cdd, vs, ccs, x, tf, hc1, hc2, hc3⟩, ini, ty, sup⟩ := I0
  have E := T.ok 3 (by decide)
  obtain ⟨cdD, hD⟩ := Option.isSome_iff_exists.mp E.cls
  refine fn_first (N := ["self", "at", "__class__"]) (fr := ["__class__"]) (ws := [none]) (st := (defBody (sIn 3)).getD 0 (.Pass ⟨0, 0, 0, 0⟩)) (rest := (defBody (sIn 3)).drop 1) rfl lk cd (nscope_by (sc := defScope (sIn 3)) (by decide +kernel)) (cells1 cell) (fun vs H Q E h => ?_) (fun A outer s H vs Q Ex hr h s1 I => ?_) (fun A outer s H vs Q Ex hr h => ?_)
  · obtain ⟨a, ws, rfl, e, _⟩ := h
    rw [List.length_cons, e]; rfl
  · obtain ⟨a, ws, rfl, e, ha, _⟩ := h
    exact super_init (D := cs 3) I rfl rfl rfl rfl lk rfl rfl rfl rfl rfl hc1 hc2 hc3 ht cell hD (by show PySem.W.mroIn K (cs 3) _ = _; rw [E.mro]; simp) ms ho sup (by show PySem.W.mroIn K (cs 3) _ = _; rw [E.mro]; rfl) E.T ha rfl rfl rfl rfl
  · obtain ⟨a, ws, rfl, e, ha, k⟩ := h
    match ws, e with
    | [y], _ =>
      refine ⟨_, pss_one (ps_ost (pv 0) (pv 1) (by rfl)), ?_⟩
      refine ⟨_, rfl, _, rfl, a, cs 3, rfl, E.T, ma0, .inl ⟨ha, fun dx nd ne => ?_⟩⟩
      exact k dx _ (fun b o z n => by rw [upd_ne n, upd_ne (ne_of_none z nd)]; exact z) upd_same (by rw [upd_ne ne, upd_same]; rfl)
theorem ok_in8 {fI cc c : Addr} {fd : FuncData} (T : Cls61 K mg PE cs) (I0 : InitF P K (sIn 8) "BadDocuments.__init__" (cs 8) fI cc c fd) (ms : mg "super" = none) (ma0 : PySem.W.findIn K (.ref (cs 8)) "at" = some none) (ho : PySem.W.nsIn K cStatics "thirdparty.any" = some none) (ht : (P.main.scope.names.lookup ("super" : Str)).isSome = false) :
    FnOk P w K mg base CX0 1 fI fd ["self", "at"] (spInit (cs 8) ["at"]) := by
  obtain ⟨⟨oc, od, osl, doc, pm, ctv, rfl, lk⟩, cd, ⟨cl, cld, csl, cell⟩, ⟨ccl, cdd, vs, ccs, x, tf, hc1, hc2, hc3⟩, ini, ty, sup⟩ := I0
  have E := T.ok 8 (by decide)
  obtain ⟨cdD, hD⟩ := Option.isSome_iff_exists.mp E.cls
  refine fn_first (N := ["self", "at", "__class__"]) (fr := ["__class__"]) (ws := [none]) (st := (defBody (sIn 8)).getD 0 (.Pass ⟨0, 0, 0, 0⟩)) (rest := (defBody (sIn 8)).drop 1) rfl lk cd (nscope_by (sc := defScope (sIn 8)) (by decide +kernel)) (cells1 cell) (fun vs H Q E h => ?_) (fun A outer s H vs Q Ex hr h s1 I => ?_) (fun A outer s H vs Q Ex hr h => ?_)
  · obtain ⟨a, ws, rfl, e, _⟩ := h
    rw [List.length_cons, e]; rfl
  · obtain ⟨a, ws, rfl, e, ha, _⟩ := h
    exact super_init (D := cs 8) I rfl rfl rfl rfl lk rfl rfl rfl rfl rfl hc1 hc2 hc3 ht cell hD (by show PySem.W.mroIn K (cs 8) _ = _; rw [E.mro]; simp) ms ho sup (by show PySem.W.mroIn K (cs 8) _ = _; rw [E.mro]; rfl) E.T ha rfl rfl rfl rfl
  · obtain ⟨a, ws, rfl, e, ha, k⟩ := h
    match ws, e with
    | [y], _ =>
      refine ⟨_, pss_one (ps_ost (pv 0) (pv 1) (by rfl)), ?_⟩
      refine ⟨_, rfl, _, rfl, a, cs 8, rfl, E.T, ma0, .inl ⟨ha, fun dx nd ne => ?_⟩⟩
      exact k dx _ (fun b o z n => by rw [upd_ne n, upd_ne (ne_of_none z nd)]; exact z) upd_same (by rw [upd_ne ne, upd_same]; rfl)
theorem ok_in11 {fI cc c : Addr} {fd : FuncData} (T : Cls61 K mg PE cs) (I0 : InitF P K (sIn 11) "BadHistories.__init__" (cs 11) fI cc c fd) (ms : mg "super" = none) (ma0 : PySem.W.findIn K (.ref (cs 11)) "at" = some none) (ho : PySem.W.nsIn K cStatics "thirdparty.any" = some none) (ht : (P.main.scope.names.lookup ("super" : Str)).isSome = false) :
    FnOk P w K mg base CX0 1 fI fd ["self", "at"] (spInit (cs 11) ["at"]) := by
  obtain ⟨⟨oc, od, osl, doc, pm, ctv, rfl, lk⟩, cd, ⟨cl, cld, csl, cell⟩, ⟨ccl, cdd, vs, ccs, x, tf, hc1, hc2, hc3⟩, ini, ty, sup⟩ := I0
  have E := T.ok 11 (by decide)
  obtain ⟨cdD, hD⟩ := Option.isSome_iff_exists.mp E.cls
  refine fn_first (N := ["self", "at", "__class__"]) (fr := ["__class__"]) (ws := [none]) (st := (defBody (sIn 11)).getD 0 (.Pass ⟨0, 0, 0, 0⟩)) (rest := (defBody (sIn 11)).drop 1) rfl lk cd (nscope_by (sc := defScope (sIn 11)) (by decide +kernel)) (cells1 cell) (fun vs H Q E h => ?_) (fun A outer s H vs Q Ex hr h s1 I => ?_) (fun A outer s H vs Q Ex hr h => ?_)
  · obtain ⟨a, ws, rfl, e, _⟩ := h
    rw [List.length_cons, e]; rfl
  · obtain ⟨a, ws, rfl, e, ha, _⟩ := h
    exact super_init (D := cs 11) I rfl rfl rfl rfl lk rfl rfl rfl rfl rfl hc1 hc2 hc3 ht cell hD (by show PySem.W.mroIn K (cs 11) _ = _; rw [E.mro]; simp) ms ho sup (by show PySem.W.mroIn K (cs 11) _ = _; rw [E.mro]; rfl) E.T ha rfl rfl rfl rfl
  · obtain ⟨a, ws, rfl, e, ha, k⟩ := h
    match ws, e with
    | [y], _ =>
      refine ⟨_, pss_one (ps_ost (pv 0) (pv 1) (by rfl)), ?_⟩
      refine ⟨_, rfl, _, rfl, a, cs 11, rfl, E.T, ma0, .inl ⟨ha, fun dx nd ne => ?_⟩⟩
      exact k dx _ (fun b o z n => by rw [upd_ne n, upd_ne (ne_of_none z nd)]; exact z) upd_same (by rw [upd_ne ne, upd_same]; rfl)
theorem ok_in16 {fI cc c : Addr} {fd : FuncData} (T : Cls61 K mg PE cs) (I0 : InitF P K (sIn 16) "BadLaws.__init__" (cs 16) fI cc c fd) (ms : mg "super" = none) (ma0 : PySem.W.findIn K (.ref (cs 16)) "at" = some none) (ho : PySem.W.nsIn K cStatics "thirdparty.any" = some none) (ht : (P.main.scope.names.lookup ("super" : Str)).isSome = false) :
    FnOk P w K mg base CX0 1 fI fd ["self", "at"] (spInit (cs 16) ["at"]) := by
  obtain ⟨⟨oc, od, osl, doc, pm, ctv, rfl, lk⟩, cd, ⟨cl, cld, csl, cell⟩, ⟨ccl, cdd, vs, ccs, x, tf, hc1, hc2, hc3⟩, ini, ty, sup⟩ := I0
  have E := T.ok 16 (by decide)
  obtain ⟨cdD, hD⟩ := Option.isSome_iff_exists.mp E.cls
  refine fn_first (N := ["self", "at", "__class__"]) (fr := ["__class__"]) (ws := [none]) (st := (defBody (sIn 16)).getD 0 (.Pass ⟨0, 0, 0, 0⟩)) (rest := (defBody (sIn 16)).drop 1) rfl lk cd (nscope_by (sc := defScope (sIn 16)) (by decide +kernel)) (cells1 cell) (fun vs H Q E h => ?_) (fun A outer s H vs Q Ex hr h s1 I => ?_) (fun A outer s H vs Q Ex hr h => ?_)
  · obtain ⟨a, ws, rfl, e, _⟩ := h
    rw [List.length_cons, e]; rfl
  · obtain ⟨a, ws, rfl, e, ha, _⟩ := h
    exact super_init (D := cs 16) I rfl rfl rfl rfl lk rfl rfl rfl rfl rfl hc1 hc2 hc3 ht cell hD (by show PySem.W.mroIn K (cs 16) _ = _; rw [E.mro]; simp) ms ho sup (by show PySem.W.mroIn K (cs 16) _ = _; rw [E.mro]; rfl) E.T ha rfl rfl rfl rfl
  · obtain ⟨a, ws, rfl, e, ha, k⟩ := h
    match ws, e with
    | [y], _ =>
      refine ⟨_, pss_one (ps_ost (pv 0) (pv 1) (by rfl)), ?_⟩
      refine ⟨_, rfl, _, rfl, a, cs 16, rfl, E.T, ma0, .inl ⟨ha, fun dx nd ne => ?_⟩⟩
      exact k dx _ (fun b o z n => by rw [upd_ne n, upd_ne (ne_of_none z nd)]; exact z) upd_same (by rw [upd_ne ne, upd_same]; rfl)
theorem ok_in26 {fI cc c : Addr} {fd : FuncData} (T : Cls61 K mg PE cs) (I0 : InitF P K (sIn 26) "BadPaper.__init__" (cs 26) fI cc c fd) (ms : mg "super" = none) (ma0 : PySem.W.findIn K (.ref (cs 26)) "word" = some none) (ho : PySem.W.nsIn K cStatics "thirdparty.any" = some none) (ht : (P.main.scope.names.lookup ("super" : Str)).isSome = false) :
    FnOk P w K mg base CX0 1 fI fd ["self", "word"] (spInit (cs 26) ["word"]) := by
  obtain ⟨⟨oc, od, osl, doc, pm, ctv, rfl, lk⟩, cd, ⟨cl, cld, csl, cell⟩, ⟨ccl, cdd, vs, ccs, x, tf, hc1, hc2, hc3⟩, ini, ty, sup⟩ := I0
  have E := T.ok 26 (by decide)
  obtain ⟨cdD, hD⟩ := Option.isSome_iff_exists.mp E.cls
  refine fn_first (N := ["self", "word", "__class__"]) (fr := ["__class__"]) (ws := [none]) (st := (defBody (sIn 26)).getD 0 (.Pass ⟨0, 0, 0, 0⟩)) (rest := (defBody (sIn 26)).drop 1) rfl lk cd (nscope_by (sc := defScope (sIn 26)) (by decide +kernel)) (cells1 cell) (fun vs H Q E h => ?_) (fun A outer s H vs Q Ex hr h s1 I => ?_) (fun A outer s H vs Q Ex hr h => ?_)
  · obtain ⟨a, ws, rfl, e, _⟩ := h
    rw [List.length_cons, e]; rfl
  · obtain ⟨a, ws, rfl, e, ha, _⟩ := h
    exact super_init (D := cs 26) I rfl rfl rfl rfl lk rfl rfl rfl rfl rfl hc1 hc2 hc3 ht cell hD (by show PySem.W.mroIn K (cs 26) _ = _; rw [E.mro]; simp) ms ho sup (by show PySem.W.mroIn K (cs 26) _ = _; rw [E.mro]; rfl) E.T ha rfl rfl rfl rfl
  · obtain ⟨a, ws, rfl, e, ha, k⟩ := h
    match ws, e with
    | [y], _ =>
      refine ⟨_, pss_one (ps_ost (pv 0) (pv 1) (by rfl)), ?_⟩
      refine ⟨_, rfl, _, rfl, a, cs 26, rfl, E.T, ma0, .inl ⟨ha, fun dx nd ne => ?_⟩⟩
      exact k dx _ (fun b o z n => by rw [upd_ne n, upd_ne (ne_of_none z nd)]; exact z) upd_same (by rw [upd_ne ne, upd_same]; rfl)
theorem ok_in35 {fI cc c : Addr} {fd : FuncData} (T : Cls61 K mg PE cs) (I0 : InitF P K (sIn 35) "BadText.__init__" (cs 35) fI cc c fd) (ms : mg "super" = none) (ma0 : PySem.W.findIn K (.ref (cs 35)) "line" = some none) (ma1 : PySem.W.findIn K (.ref (cs 35)) "column" = some none) (ma2 : PySem.W.findIn K (.ref (cs 35)) "wanted" = some none) (ho : PySem.W.nsIn K cStatics "thirdparty.any" = some none) (ht : (P.main.scope.names.lookup ("super" : Str)).isSome = false) :
    FnOk P w K mg base CX0 1 fI fd ["self", "line", "column", "wanted"] (spInit (cs 35) ["line", "column", "wanted"]) := by
  obtain ⟨⟨oc, od, osl, doc, pm, ctv, rfl, lk⟩, cd, ⟨cl, cld, csl, cell⟩, ⟨ccl, cdd, vs, ccs, x, tf, hc1, hc2, hc3⟩, ini, ty, sup⟩ := I0
  have E := T.ok 35 (by decide)
  obtain ⟨cdD, hD⟩ := Option.isSome_iff_exists.mp E.cls
  refine fn_first (N := ["self", "line", "column", "wanted", "__class__"]) (fr := ["__class__"]) (ws := [none]) (st := (defBody (sIn 35)).getD 0 (.Pass ⟨0, 0, 0, 0⟩)) (rest := (defBody (sIn 35)).drop 1) rfl lk cd (nscope_by (sc := defScope (sIn 35)) (by decide +kernel)) (cells1 cell) (fun vs H Q E h => ?_) (fun A outer s H vs Q Ex hr h s1 I => ?_) (fun A outer s H vs Q Ex hr h => ?_)
  · obtain ⟨a, ws, rfl, e, _⟩ := h
    rw [List.length_cons, e]; rfl
  · obtain ⟨a, ws, rfl, e, ha, _⟩ := h
    exact super_init (D := cs 35) I rfl rfl rfl rfl lk rfl rfl rfl rfl rfl hc1 hc2 hc3 ht cell hD (by show PySem.W.mroIn K (cs 35) _ = _; rw [E.mro]; simp) ms ho sup (by show PySem.W.mroIn K (cs 35) _ = _; rw [E.mro]; rfl) E.T ha rfl rfl rfl rfl
  · obtain ⟨a, ws, rfl, e, ha, k⟩ := h
    match ws, e with
    | [y1, y2, y3], _ =>
      refine ⟨_, pss_cons (ps_ost (pv 0) (pv 1) (by rfl)) (pss_cons (ps_ost (pv 0) (pv 2) (by rfl)) (pss_one (ps_ost (pv 0) (pv 3) (by rfl)))), ?_⟩
      refine ⟨_, rfl, _, rfl, a, cs 35, rfl, E.T, ma0, .inl ⟨ha, fun dx nd ne => ?_⟩⟩
      refine ⟨_, rfl, _, rfl, a, cs 35, rfl, E.T, ma1, .inr ⟨dx, [("line", y1)], upd_same, by rw [upd_ne ne, upd_same], (show 1 ≤ 900 by decide), ?_⟩⟩
      refine ⟨_, rfl, _, rfl, a, cs 35, rfl, E.T, ma2, .inr ⟨dx, [("column", y2), ("line", y1)], by rw [upd_ne ne.symm, upd_same], upd_same, (show 2 ≤ 900 by decide), ?_⟩⟩
      exact k dx _ (fun b o z n => by rw [upd_ne (ne_of_none z nd), upd_ne (ne_of_none z nd), upd_ne n, upd_ne (ne_of_none z nd)]; exact z) (by rw [upd_ne ne.symm, upd_ne ne.symm, upd_same]) (by rw [upd_same]; rfl)
theorem ok_in48 {fI cc c : Addr} {fd : FuncData} (T : Cls61 K mg PE cs) (I0 : InitF P K (sIn 48) "NotPossible.__init__" (cs 48) fI cc c fd) (ms : mg "super" = none) (ma0 : PySem.W.findIn K (.ref (cs 48)) "at" = some none) (ho : PySem.W.nsIn K cStatics "thirdparty.any" = some none) (ht : (P.main.scope.names.lookup ("super" : Str)).isSome = false) :
    FnOk P w K mg base CX0 1 fI fd ["self", "at"] (spInit (cs 48) ["at"]) := by
  obtain ⟨⟨oc, od, osl, doc, pm, ctv, rfl, lk⟩, cd, ⟨cl, cld, csl, cell⟩, ⟨ccl, cdd, vs, ccs, x, tf, hc1, hc2, hc3⟩, ini, ty, sup⟩ := I0
  have E := T.ok 48 (by decide)
  obtain ⟨cdD, hD⟩ := Option.isSome_iff_exists.mp E.cls
  refine fn_first (N := ["self", "at", "__class__"]) (fr := ["__class__"]) (ws := [none]) (st := (defBody (sIn 48)).getD 0 (.Pass ⟨0, 0, 0, 0⟩)) (rest := (defBody (sIn 48)).drop 1) rfl lk cd (nscope_by (sc := defScope (sIn 48)) (by decide +kernel)) (cells1 cell) (fun vs H Q E h => ?_) (fun A outer s H vs Q Ex hr h s1 I => ?_) (fun A outer s H vs Q Ex hr h => ?_)
  · obtain ⟨a, ws, rfl, e, _⟩ := h
    rw [List.length_cons, e]; rfl
  · obtain ⟨a, ws, rfl, e, ha, _⟩ := h
    exact super_init (D := cs 48) I rfl rfl rfl rfl lk rfl rfl rfl rfl rfl hc1 hc2 hc3 ht cell hD (by show PySem.W.mroIn K (cs 48) _ = _; rw [E.mro]; simp) ms ho sup (by show PySem.W.mroIn K (cs 48) _ = _; rw [E.mro]; rfl) E.T ha rfl rfl rfl rfl
  · obtain ⟨a, ws, rfl, e, ha, k⟩ := h
    match ws, e with
    | [y], _ =>
      refine ⟨_, pss_one (ps_ost (pv 0) (pv 1) (by rfl)), ?_⟩
      refine ⟨_, rfl, _, rfl, a, cs 48, rfl, E.T, ma0, .inl ⟨ha, fun dx nd ne => ?_⟩⟩
      exact k dx _ (fun b o z n => by rw [upd_ne n, upd_ne (ne_of_none z nd)]; exact z) upd_same (by rw [upd_ne ne, upd_same]; rfl)
theorem ok_in49 {fI cc c : Addr} {fd : FuncData} (T : Cls61 K mg PE cs) (I0 : InitF P K (sIn 49) "NotRight.__init__" (cs 49) fI cc c fd) (ms : mg "super" = none) (ma0 : PySem.W.findIn K (.ref (cs 49)) "word" = some none) (ho : PySem.W.nsIn K cStatics "thirdparty.any" = some none) (ht : (P.main.scope.names.lookup ("super" : Str)).isSome = false) :
    FnOk P w K mg base CX0 1 fI fd ["self", "word"] (spInit (cs 49) ["word"]) := by
  obtain ⟨⟨oc, od, osl, doc, pm, ctv, rfl, lk⟩, cd, ⟨cl, cld, csl, cell⟩, ⟨ccl, cdd, vs, ccs, x, tf, hc1, hc2, hc3⟩, ini, ty, sup⟩ := I0
  have E := T.ok 49 (by decide)
  obtain ⟨cdD, hD⟩ := Option.isSome_iff_exists.mp E.cls
  refine fn_first (N := ["self", "word", "__class__"]) (fr := ["__class__"]) (ws := [none]) (st := (defBody (sIn 49)).getD 0 (.Pass ⟨0, 0, 0, 0⟩)) (rest := (defBody (sIn 49)).drop 1) rfl lk cd (nscope_by (sc := defScope (sIn 49)) (by decide +kernel)) (cells1 cell) (fun vs H Q E h => ?_) (fun A outer s H vs Q Ex hr h s1 I => ?_) (fun A outer s H vs Q Ex hr h => ?_)
  · obtain ⟨a, ws, rfl, e, _⟩ := h
    rw [List.length_cons, e]; rfl
  · obtain ⟨a, ws, rfl, e, ha, _⟩ := h
    exact super_init (D := cs 49) I rfl rfl rfl rfl lk rfl rfl rfl rfl rfl hc1 hc2 hc3 ht cell hD (by show PySem.W.mroIn K (cs 49) _ = _; rw [E.mro]; simp) ms ho sup (by show PySem.W.mroIn K (cs 49) _ = _; rw [E.mro]; rfl) E.T ha rfl rfl rfl rfl
  · obtain ⟨a, ws, rfl, e, ha, k⟩ := h
    match ws, e with
    | [y], _ =>
      refine ⟨_, pss_one (ps_ost (pv 0) (pv 1) (by rfl)), ?_⟩
      refine ⟨_, rfl, _, rfl, a, cs 49, rfl, E.T, ma0, .inl ⟨ha, fun dx nd ne => ?_⟩⟩
      exact k dx _ (fun b o z n => by rw [upd_ne n, upd_ne (ne_of_none z nd)]; exact z) upd_same (by rw [upd_ne ne, upd_same]; rfl)
theorem ok_in50 {fI cc c : Addr} {fd : FuncData} (T : Cls61 K mg PE cs) (I0 : InitF P K (sIn 50) "NotTrue.__init__" (cs 50) fI cc c fd) (ms : mg "super" = none) (ma0 : PySem.W.findIn K (.ref (cs 50)) "word" = some none) (ho : PySem.W.nsIn K cStatics "thirdparty.any" = some none) (ht : (P.main.scope.names.lookup ("super" : Str)).isSome = false) :
    FnOk P w K mg base CX0 1 fI fd ["self", "word"] (spInit (cs 50) ["word"]) := by
  obtain ⟨⟨oc, od, osl, doc, pm, ctv, rfl, lk⟩, cd, ⟨cl, cld, csl, cell⟩, ⟨ccl, cdd, vs, ccs, x, tf, hc1, hc2, hc3⟩, ini, ty, sup⟩ := I0
  have E := T.ok 50 (by decide)
  obtain ⟨cdD, hD⟩ := Option.isSome_iff_exists.mp E.cls
  refine fn_first (N := ["self", "word", "__class__"]) (fr := ["__class__"]) (ws := [none]) (st := (defBody (sIn 50)).getD 0 (.Pass ⟨0, 0, 0, 0⟩)) (rest := (defBody (sIn 50)).drop 1) rfl lk cd (nscope_by (sc := defScope (sIn 50)) (by decide +kernel)) (cells1 cell) (fun vs H Q E h => ?_) (fun A outer s H vs Q Ex hr h s1 I => ?_) (fun A outer s H vs Q Ex hr h => ?_)
  · obtain ⟨a, ws, rfl, e, _⟩ := h
    rw [List.length_cons, e]; rfl
  · obtain ⟨a, ws, rfl, e, ha, _⟩ := h
    exact super_init (D := cs 50) I rfl rfl rfl rfl lk rfl rfl rfl rfl rfl hc1 hc2 hc3 ht cell hD (by show PySem.W.mroIn K (cs 50) _ = _; rw [E.mro]; simp) ms ho sup (by show PySem.W.mroIn K (cs 50) _ = _; rw [E.mro]; rfl) E.T ha rfl rfl rfl rfl
  · obtain ⟨a, ws, rfl, e, ha, k⟩ := h
    match ws, e with
    | [y], _ =>
      refine ⟨_, pss_one (ps_ost (pv 0) (pv 1) (by rfl)), ?_⟩
      refine ⟨_, rfl, _, rfl, a, cs 50, rfl, E.T, ma0, .inl ⟨ha, fun dx nd ne => ?_⟩⟩
      exact k dx _ (fun b o z n => by rw [upd_ne n, upd_ne (ne_of_none z nd)]; exact z) upd_same (by rw [upd_ne ne, upd_same]; rfl)
theorem ok_in54 {fI cc c : Addr} {fd : FuncData} (T : Cls61 K mg PE cs) (I0 : InitF P K (sIn 54) "OverAsks.__init__" (cs 54) fI cc c fd) (ms : mg "super" = none) (ma0 : PySem.W.findIn K (.ref (cs 54)) "at" = some none) (ho : PySem.W.nsIn K cStatics "thirdparty.any" = some none) (ht : (P.main.scope.names.lookup ("super" : Str)).isSome = false) :
    FnOk P w K mg base CX0 1 fI fd ["self", "at"] (spInit (cs 54) ["at"]) := by
  obtain ⟨⟨oc, od, osl, doc, pm, ctv, rfl, lk⟩, cd, ⟨cl, cld, csl, cell⟩, ⟨ccl, cdd, vs, ccs, x, tf, hc1, hc2, hc3⟩, ini, ty, sup⟩ := I0
  have E := T.ok 54 (by decide)
  obtain ⟨cdD, hD⟩ := Option.isSome_iff_exists.mp E.cls
  refine fn_first (N := ["self", "at", "__class__"]) (fr := ["__class__"]) (ws := [none]) (st := (defBody (sIn 54)).getD 0 (.Pass ⟨0, 0, 0, 0⟩)) (rest := (defBody (sIn 54)).drop 1) rfl lk cd (nscope_by (sc := defScope (sIn 54)) (by decide +kernel)) (cells1 cell) (fun vs H Q E h => ?_) (fun A outer s H vs Q Ex hr h s1 I => ?_) (fun A outer s H vs Q Ex hr h => ?_)
  · obtain ⟨a, ws, rfl, e, _⟩ := h
    rw [List.length_cons, e]; rfl
  · obtain ⟨a, ws, rfl, e, ha, _⟩ := h
    exact super_init (D := cs 54) I rfl rfl rfl rfl lk rfl rfl rfl rfl rfl hc1 hc2 hc3 ht cell hD (by show PySem.W.mroIn K (cs 54) _ = _; rw [E.mro]; simp) ms ho sup (by show PySem.W.mroIn K (cs 54) _ = _; rw [E.mro]; rfl) E.T ha rfl rfl rfl rfl
  · obtain ⟨a, ws, rfl, e, ha, k⟩ := h
    match ws, e with
    | [y], _ =>
      refine ⟨_, pss_one (ps_ost (pv 0) (pv 1) (by rfl)), ?_⟩
      refine ⟨_, rfl, _, rfl, a, cs 54, rfl, E.T, ma0, .inl ⟨ha, fun dx nd ne => ?_⟩⟩
      exact k dx _ (fun b o z n => by rw [upd_ne n, upd_ne (ne_of_none z nd)]; exact z) upd_same (by rw [upd_ne ne, upd_same]; rfl)
theorem ok_in55 {fI cc c : Addr} {fd : FuncData} (T : Cls61 K mg PE cs) (I0 : InitF P K (sIn 55) "Parted.__init__" (cs 55) fI cc c fd) (ms : mg "super" = none) (ma0 : PySem.W.findIn K (.ref (cs 55)) "word" = some none) (ho : PySem.W.nsIn K cStatics "thirdparty.any" = some none) (ht : (P.main.scope.names.lookup ("super" : Str)).isSome = false) :
    FnOk P w K mg base CX0 1 fI fd ["self", "word"] (spInit (cs 55) ["word"]) := by
  obtain ⟨⟨oc, od, osl, doc, pm, ctv, rfl, lk⟩, cd, ⟨cl, cld, csl, cell⟩, ⟨ccl, cdd, vs, ccs, x, tf, hc1, hc2, hc3⟩, ini, ty, sup⟩ := I0
  have E := T.ok 55 (by decide)
  obtain ⟨cdD, hD⟩ := Option.isSome_iff_exists.mp E.cls
  refine fn_first (N := ["self", "word", "__class__"]) (fr := ["__class__"]) (ws := [none]) (st := (defBody (sIn 55)).getD 0 (.Pass ⟨0, 0, 0, 0⟩)) (rest := (defBody (sIn 55)).drop 1) rfl lk cd (nscope_by (sc := defScope (sIn 55)) (by decide +kernel)) (cells1 cell) (fun vs H Q E h => ?_) (fun A outer s H vs Q Ex hr h s1 I => ?_) (fun A outer s H vs Q Ex hr h => ?_)
  · obtain ⟨a, ws, rfl, e, _⟩ := h
    rw [List.length_cons, e]; rfl
  · obtain ⟨a, ws, rfl, e, ha, _⟩ := h
    exact super_init (D := cs 55) I rfl rfl rfl rfl lk rfl rfl rfl rfl rfl hc1 hc2 hc3 ht cell hD (by show PySem.W.mroIn K (cs 55) _ = _; rw [E.mro]; simp) ms ho sup (by show PySem.W.mroIn K (cs 55) _ = _; rw [E.mro]; rfl) E.T ha rfl rfl rfl rfl
  · obtain ⟨a, ws, rfl, e, ha, k⟩ := h
    match ws, e with
    | [y], _ =>
      refine ⟨_, pss_one (ps_ost (pv 0) (pv 1) (by rfl)), ?_⟩
      refine ⟨_, rfl, _, rfl, a, cs 55, rfl, E.T, ma0, .inl ⟨ha, fun dx nd ne => ?_⟩⟩
      exact k dx _ (fun b o z n => by rw [upd_ne n, upd_ne (ne_of_none z nd)]; exact z) upd_same (by rw [upd_ne ne, upd_same]; rfl)
theorem ok_in56 {fI cc c : Addr} {fd : FuncData} (T : Cls61 K mg PE cs) (I0 : InitF P K (sIn 56) "SameName.__init__" (cs 56) fI cc c fd) (ms : mg "super" = none) (ma0 : PySem.W.findIn K (.ref (cs 56)) "name" = some none) (ho : PySem.W.nsIn K cStatics "thirdparty.any" = some none) (ht : (P.main.scope.names.lookup ("super" : Str)).isSome = false) :
    FnOk P w K mg base CX0 1 fI fd ["self", "name"] (spInit (cs 56) ["name"]) := by
  obtain ⟨⟨oc, od, osl, doc, pm, ctv, rfl, lk⟩, cd, ⟨cl, cld, csl, cell⟩, ⟨ccl, cdd, vs, ccs, x, tf, hc1, hc2, hc3⟩, ini, ty, sup⟩ := I0
  have E := T.ok 56 (by decide)
  obtain ⟨cdD, hD⟩ := Option.isSome_iff_exists.mp E.cls
  refine fn_first (N := ["self", "name", "__class__"]) (fr := ["__class__"]) (ws := [none]) (st := (defBody (sIn 56)).getD 0 (.Pass ⟨0, 0, 0, 0⟩)) (rest := (defBody (sIn 56)).drop 1) rfl lk cd (nscope_by (sc := defScope (sIn 56)) (by decide +kernel)) (cells1 cell) (fun vs H Q E h => ?_) (fun A outer s H vs Q Ex hr h s1 I => ?_) (fun A outer s H vs Q Ex hr h => ?_)
  · obtain ⟨a, ws, rfl, e, _⟩ := h
    rw [List.length_cons, e]; rfl
  · obtain ⟨a, ws, rfl, e, ha, _⟩ := h
    exact super_init (D := cs 56) I rfl rfl rfl rfl lk rfl rfl rfl rfl rfl hc1 hc2 hc3 ht cell hD (by show PySem.W.mroIn K (cs 56) _ = _; rw [E.mro]; simp) ms ho sup (by show PySem.W.mroIn K (cs 56) _ = _; rw [E.mro]; rfl) E.T ha rfl rfl rfl rfl
  · obtain ⟨a, ws, rfl, e, ha, k⟩ := h
    match ws, e with
    | [y], _ =>
      refine ⟨_, pss_one (ps_ost (pv 0) (pv 1) (by rfl)), ?_⟩
      refine ⟨_, rfl, _, rfl, a, cs 56, rfl, E.T, ma0, .inl ⟨ha, fun dx nd ne => ?_⟩⟩
      exact k dx _ (fun b o z n => by rw [upd_ne n, upd_ne (ne_of_none z nd)]; exact z) upd_same (by rw [upd_ne ne, upd_same]; rfl)
theorem ok_in59 {fI cc c : Addr} {fd : FuncData} (T : Cls61 K mg PE cs) (I0 : InitF P K (sIn 59) "TooShort.__init__" (cs 59) fI cc c fd) (ms : mg "super" = none) (ma0 : PySem.W.findIn K (.ref (cs 59)) "program" = some none) (ho : PySem.W.nsIn K cStatics "thirdparty.any" = some none) (ht : (P.main.scope.names.lookup ("super" : Str)).isSome = false) :
    FnOk P w K mg base CX0 1 fI fd ["self", "program"] (spInit (cs 59) ["program"]) := by
  obtain ⟨⟨oc, od, osl, doc, pm, ctv, rfl, lk⟩, cd, ⟨cl, cld, csl, cell⟩, ⟨ccl, cdd, vs, ccs, x, tf, hc1, hc2, hc3⟩, ini, ty, sup⟩ := I0
  have E := T.ok 59 (by decide)
  obtain ⟨cdD, hD⟩ := Option.isSome_iff_exists.mp E.cls
  refine fn_first (N := ["self", "program", "__class__"]) (fr := ["__class__"]) (ws := [none]) (st := (defBody (sIn 59)).getD 0 (.Pass ⟨0, 0, 0, 0⟩)) (rest := (defBody (sIn 59)).drop 1) rfl lk cd (nscope_by (sc := defScope (sIn 59)) (by decide +kernel)) (cells1 cell) (fun vs H Q E h => ?_) (fun A outer s H vs Q Ex hr h s1 I => ?_) (fun A outer s H vs Q Ex hr h => ?_)
  · obtain ⟨a, ws, rfl, e, _⟩ := h
    rw [List.length_cons, e]; rfl
  · obtain ⟨a, ws, rfl, e, ha, _⟩ := h
    exact super_init (D := cs 59) I rfl rfl rfl rfl lk rfl rfl rfl rfl rfl hc1 hc2 hc3 ht cell hD (by show PySem.W.mroIn K (cs 59) _ = _; rw [E.mro]; simp) ms ho sup (by show PySem.W.mroIn K (cs 59) _ = _; rw [E.mro]; rfl) E.T ha rfl rfl rfl rfl
  · obtain ⟨a, ws, rfl, e, ha, k⟩ := h
    match ws, e with
    | [y], _ =>
      refine ⟨_, pss_one (ps_ost (pv 0) (pv 1) (by rfl)), ?_⟩
      refine ⟨_, rfl, _, rfl, a, cs 59, rfl, E.T, ma0, .inl ⟨ha, fun dx nd ne => ?_⟩⟩
      exact k dx _ (fun b o z n => by rw [upd_ne n, upd_ne (ne_of_none z nd)]; exact z) upd_same (by rw [upd_ne ne, upd_same]; rfl)
end
end Kx
set_option Elab.async false
set_option linter.all false
set_option maxRecDepth 100000
set_option maxHeartbeats 4000000
namespace Kx
open PySem PySem.Spec PyProof.Rows L2 Sx Rp Dw NdefX
/-! ### the told errors -/
/-- data whose list repr writes -/
def Fine (ds : List PyData) : Prop := (PyData.list ds).showable = true ∧ (PyData.list ds).depth ≤ 64 ∧ (PyData.list ds).shown.length ≤ sizeLine
structure Entry (cs : Nat → Addr) (H : Hp) (v : V) (j : Nat) : Prop where
  lt : j < 61
  at_ : ∃ (t e m d : Addr) (fs : List (Str × V)) (w1 w2 : List V) (ds : List PyData), v = .ref t ∧ H t = some (.tup [.ref e, .ref m, .ref d]) ∧ KErr H e (cs j) fs ∧ H m = some (.lst w1) ∧ H d = some (.lst w2) ∧ DtAll H w1 ds ∧ DtAll H w2 ds ∧ Fine ds
def Told (cs : Nat → Addr) (H : Hp) (xs : List V) (js : List Nat) : Prop := Paired (fun v j => Entry cs H v j) xs js
theorem Entry.same {cs : Nat → Addr} {H H' : Hp} {v : V} {j : Nat} (s : Same H H') (e : Entry cs H v j) : Entry cs H' v j := by
  obtain ⟨t, e', m, d, fs, w1, w2, ds, h1, h2, h3, h4, h5, h6, h7, h8⟩ := e.at_
  exact ⟨e.lt, t, e', m, d, fs, w1, w2, ds, h1, s _ _ h2, h3.same s, s _ _ h4, s _ _ h5, h6.same s, h7.same s, h8⟩
theorem Told.same {cs : Nat → Addr} {H H' : Hp} (s : Same H H') : ∀ {xs : List V} {js : List Nat}, Told cs H xs js → Told cs H' xs js
  | _, _, .nil => .nil
  | _, _, .cons h t => .cons (h.same s) (Told.same s t)
theorem Told.snoc {cs : Nat → Addr} {H : Hp} {v : V} {j : Nat} (h : Entry cs H v j) : ∀ {xs : List V} {js : List Nat}, Told cs H xs js → Told cs H (xs ++ [v]) (js ++ [j])
  | _, _, .nil => .cons h .nil
  | _, _, .cons h' t => .cons h' (Told.snoc h t)
/-- the list at p, told so far: H is the heap at the entry -/
structure Made (cs : Nat → Addr) (H G : Hp) (p : Addr) (js : List Nat) (xs : List V) : Prop where
  pl : G p = some (.lst xs)
  tl : Told cs (del G p) xs js
  sm : Same H (del G p)
  np : H p = none
theorem ne_of_none2 {H : Hp} {a b : Addr} {o : HO} (n : H a = none) (e : H b = some o) : a ≠ b := fun z => by rw [z, e] at n; cases n
theorem del_mono {G G2 : Hp} {p : Addr} (k : Same G G2) : Same (del G p) (del G2 p) := fun b o e => by
  by_cases h : b = p
  · rw [h, del_same] at e; cases e
  · rw [del_ne h] at e ⊢; exact k b o e
theorem del_upd {G : Hp} {p : Addr} {o : HO} : del (upd G p o) p = del G p := funext fun b => by
  by_cases h : b = p
  · rw [h, del_same, del_same]
  · rw [del_ne h, del_ne h, upd_ne h]
theorem Made.step {cs : Nat → Addr} {H G G2 : Hp} {p a m d t : Addr} {js : List Nat} {xs : List V} {j : Nat} {fs : List (Str × V)} {w1 w2 : List V} {ds : List PyData} (M : Made cs H G p js xs) (k : Same G G2) (hj : j < 61)
    (ha : KErr (del G2 p) a (cs j) fs) (hm : (del G2 p) m = some (.lst w1)) (hd : (del G2 p) d = some (.lst w2)) (ht : (del G2 p) t = some (.tup [.ref a, .ref m, .ref d])) (d1 : DtAll (del G2 p) w1 ds) (d2 : DtAll (del G2 p) w2 ds) (hf : Fine ds) :
    Made cs H (upd G2 p (.lst (xs ++ [.ref t]))) p (js ++ [j]) (xs ++ [.ref t]) := by
  refine ⟨upd_same, ?_, ?_, M.np⟩
  · rw [del_upd]
    exact (M.tl.same (del_mono k)).snoc ⟨hj, t, a, m, d, fs, w1, w2, ds, rfl, ht, ha, hm, hd, d1, d2, hf⟩
  · rw [del_upd]
    exact fun b o e => del_mono k b o (M.sm b o e)
theorem Made.len {cs : Nat → Addr} {H G : Hp} {p : Addr} {js : List Nat} {xs : List V} (M : Made cs H G p js xs) : xs.length = js.length := Paired.length M.tl
def tenD : List PyData := [.none, .int 0, .int (-7), .str "x", .str "", .tuple [.int 1, .int 2], .list [.int 3], .dict [(.str "a", .int 4)], .bool true, .int (10 ^ 20)]
theorem fine1 {d : PyData} (h : d ∈ tenD) : Fine [d] := by
  have q : (tenD.all fun d => (PyData.list [d]).showable && (decide ((PyData.list [d]).depth ≤ 64) && decide ((PyData.list [d]).shown.length ≤ 1000))) = true := by decide +kernel
  have z := List.all_eq_true.mp q d h
  simp only [Bool.and_eq_true, decide_eq_true_eq] at z
  exact ⟨z.1, z.2.1, Nat.le_trans z.2.2 (by decide)⟩
theorem fine3 {d e : PyData} (h : d ∈ tenD) (h' : e ∈ tenD) : Fine [d, e, .tuple [d, e]] := by
  have q : (tenD.all fun d => tenD.all fun e => (PyData.list [d, e, .tuple [d, e]]).showable && (decide ((PyData.list [d, e, .tuple [d, e]]).depth ≤ 64) && decide ((PyData.list [d, e, .tuple [d, e]]).shown.length ≤ 1000))) = true := by decide +kernel
  have z := List.all_eq_true.mp (List.all_eq_true.mp q d h) e h'
  simp only [Bool.and_eq_true, decide_eq_true_eq] at z
  exact ⟨z.1, z.2.1, Nat.le_trans z.2.2 (by decide)⟩
end Kx
set_option Elab.async false
set_option linter.all false
set_option maxRecDepth 100000
set_option maxHeartbeats 8000000
namespace Kx
open PySem PySem.Spec PyProof.Rows L2 Sx Rp Dw NdefX
section
variable {P : Program} {w : World} {K : PySem.W.Frag} {mg : Str → Option Value} {base : Heap} {PE : Addr} {cs : Nat → Addr}
/-- the __init__ of the class at C stores these names -/
structure InitOk (P : Program) (w : World) (K : PySem.W.Frag) (mg : Str → Option Value) (base : Heap) (C : Addr) (ns : List Str) : Prop where
  ex : ∃ fI fd, PySem.W.findIn K (.ref C) "__init__" = some (some (.ref fI)) ∧ PySem.W.typeIn K (.ref fI) = some (.type "function") ∧ FnOk P w K mg base CX0 1 fI fd ("self" :: ns) (spInit C ns) ∧ Binds K fd ("self" :: ns) []
  no : ∀ n, n ∈ ns → PySem.W.findIn K (.ref C) n = some none
abbrev sTold : Stmt := topS 69
def toldJs : List Nat := [3, 8, 11, 16, 26, 35, 48, 49, 50, 54, 55, 56, 59]
theorem scTo : FnScope ["one", "other", "found", "error"] ["one", "other"] (defScope sTold) := ⟨rfl, rfl, rfl, by decide +kernel, rfl, by decide +kernel, by decide +kernel⟩
def spTold (cs : Nat → Addr) : Sp := fun vs H Q _ => ∃ (one other : V) (d1 d2 : PyData), vs = [one, other] ∧ Dt H one d1 ∧ Dt H other d2 ∧ d1 ∈ tenD ∧ d2 ∈ tenD ∧
  ∀ (p : Addr) (xs : List V) (H' : Hp), Same H H' → H p = none → H' p = some (.lst xs) → Told cs H' xs toldJs → Q (.ref p) H'
theorem ok_told {f : Addr} {fd : FuncData} (F : Fun K "_law_told_errors" "_law_told_errors" sTold f fd) (T : Cls61 K mg PE cs) (i3 : InitOk P w K mg base (cs 3) ["at"]) (i8 : InitOk P w K mg base (cs 8) ["at"]) (i11 : InitOk P w K mg base (cs 11) ["at"]) (i16 : InitOk P w K mg base (cs 16) ["at"]) (i26 : InitOk P w K mg base (cs 26) ["word"]) (i35 : InitOk P w K mg base (cs 35) ["line", "column", "wanted"]) (i48 : InitOk P w K mg base (cs 48) ["at"]) (i49 : InitOk P w K mg base (cs 49) ["word"]) (i50 : InitOk P w K mg base (cs 50) ["word"]) (i54 : InitOk P w K mg base (cs 54) ["at"]) (i55 : InitOk P w K mg base (cs 55) ["word"]) (i56 : InitOk P w K mg base (cs 56) ["name"]) (i59 : InitOk P w K mg base (cs 59) ["program"]) : FnOk P w K mg base CX0 3 f fd ["one", "other"] (spTold cs) := by
  obtain ⟨⟨f3, g3, a3, b3, o3, c3⟩, n3⟩ := i3
  obtain ⟨⟨f8, g8, a8, b8, o8, c8⟩, n8⟩ := i8
  obtain ⟨⟨f11, g11, a11, b11, o11, c11⟩, n11⟩ := i11
  obtain ⟨⟨f16, g16, a16, b16, o16, c16⟩, n16⟩ := i16
  obtain ⟨⟨f26, g26, a26, b26, o26, c26⟩, n26⟩ := i26
  obtain ⟨⟨f35, g35, a35, b35, o35, c35⟩, n35⟩ := i35
  obtain ⟨⟨f48, g48, a48, b48, o48, c48⟩, n48⟩ := i48
  obtain ⟨⟨f49, g49, a49, b49, o49, c49⟩, n49⟩ := i49
  obtain ⟨⟨f50, g50, a50, b50, o50, c50⟩, n50⟩ := i50
  obtain ⟨⟨f54, g54, a54, b54, o54, c54⟩, n54⟩ := i54
  obtain ⟨⟨f55, g55, a55, b55, o55, c55⟩, n55⟩ := i55
  obtain ⟨⟨f56, g56, a56, b56, o56, c56⟩, n56⟩ := i56
  obtain ⟨⟨f59, g59, a59, b59, o59, c59⟩, n59⟩ := i59
  refine F.ok scTo (fun vs H Q E h => ?_) (fun cdv A outer s H vs Q E hr h => ?_)
  · obtain ⟨one, other, d1, d2, rfl, _⟩ := h
    rfl
  · obtain ⟨one, other, d1, d2, rfl, t1, t2, m1, m2, k⟩ := h
    refine ⟨_, pss_cons (ps_set (i := 2) scTo.nd rfl (.inl rfl) (pe_lst pa_nil))
      (pss_cons (ps_set (i := 3) scTo.nd rfl (.inl rfl) (pe_err (T.ok 3 (by decide)).T a3 b3 o3 hr c3 pass0 rfl (T.nm 3 (by decide)) (pa_cons (pv 0) pa_nil)))
      (pss_cons (ps_expr (pe_bm PySem.F.plainAttrs_list PySem.F.slot_list_append PySem.F.type_list_append mt_append (pv 2) (pa_cons (pe_tup (pa_cons (pv 3) (pa_cons (pe_lst (pa_cons (pe_xa (pv 3)) pa_nil)) (pa_cons (pe_lst (pa_cons (pv 0) pa_nil)) pa_nil)))) pa_nil)))
      (pss_cons (ps_set (i := 3) scTo.nd rfl (.inl rfl) (pe_err (T.ok 8 (by decide)).T a8 b8 o8 hr c8 pass0 rfl (T.nm 8 (by decide)) (pa_cons (pv 0) pa_nil)))
      (pss_cons (ps_expr (pe_bm PySem.F.plainAttrs_list PySem.F.slot_list_append PySem.F.type_list_append mt_append (pv 2) (pa_cons (pe_tup (pa_cons (pv 3) (pa_cons (pe_lst (pa_cons (pe_xa (pv 3)) pa_nil)) (pa_cons (pe_lst (pa_cons (pv 0) pa_nil)) pa_nil)))) pa_nil)))
      (pss_cons (ps_set (i := 3) scTo.nd rfl (.inl rfl) (pe_err (T.ok 11 (by decide)).T a11 b11 o11 hr c11 pass0 rfl (T.nm 11 (by decide)) (pa_cons (pv 0) pa_nil)))
      (pss_cons (ps_expr (pe_bm PySem.F.plainAttrs_list PySem.F.slot_list_append PySem.F.type_list_append mt_append (pv 2) (pa_cons (pe_tup (pa_cons (pv 3) (pa_cons (pe_lst (pa_cons (pe_xa (pv 3)) pa_nil)) (pa_cons (pe_lst (pa_cons (pv 0) pa_nil)) pa_nil)))) pa_nil)))
      (pss_cons (ps_set (i := 3) scTo.nd rfl (.inl rfl) (pe_err (T.ok 16 (by decide)).T a16 b16 o16 hr c16 pass0 rfl (T.nm 16 (by decide)) (pa_cons (pv 0) pa_nil)))
      (pss_cons (ps_expr (pe_bm PySem.F.plainAttrs_list PySem.F.slot_list_append PySem.F.type_list_append mt_append (pv 2) (pa_cons (pe_tup (pa_cons (pv 3) (pa_cons (pe_lst (pa_cons (pe_xa (pv 3)) pa_nil)) (pa_cons (pe_lst (pa_cons (pv 0) pa_nil)) pa_nil)))) pa_nil)))
      (pss_cons (ps_set (i := 3) scTo.nd rfl (.inl rfl) (pe_err (T.ok 26 (by decide)).T a26 b26 o26 hr c26 pass0 rfl (T.nm 26 (by decide)) (pa_cons (pv 0) pa_nil)))
      (pss_cons (ps_expr (pe_bm PySem.F.plainAttrs_list PySem.F.slot_list_append PySem.F.type_list_append mt_append (pv 2) (pa_cons (pe_tup (pa_cons (pv 3) (pa_cons (pe_lst (pa_cons (pe_xa (pv 3)) pa_nil)) (pa_cons (pe_lst (pa_cons (pv 0) pa_nil)) pa_nil)))) pa_nil)))
      (pss_cons (ps_set (i := 3) scTo.nd rfl (.inl rfl) (pe_err (T.ok 35 (by decide)).T a35 b35 o35 hr c35 pass0 rfl (T.nm 35 (by decide)) (pa_cons (pv 0) (pa_cons (pv 1) (pa_cons (pe_tup (pa_cons (pv 0) (pa_cons (pv 1) pa_nil))) pa_nil)))))
      (pss_cons (ps_expr (pe_bm PySem.F.plainAttrs_list PySem.F.slot_list_append PySem.F.type_list_append mt_append (pv 2) (pa_cons (pe_tup (pa_cons (pv 3) (pa_cons (pe_lst (pa_cons (pe_xa (pv 3)) (pa_cons (pe_xa (pv 3)) (pa_cons (pe_xa (pv 3)) pa_nil)))) (pa_cons (pe_lst (pa_cons (pv 0) (pa_cons (pv 1) (pa_cons (pe_tup (pa_cons (pv 0) (pa_cons (pv 1) pa_nil))) pa_nil)))) pa_nil)))) pa_nil)))
      (pss_cons (ps_set (i := 3) scTo.nd rfl (.inl rfl) (pe_err (T.ok 48 (by decide)).T a48 b48 o48 hr c48 pass0 rfl (T.nm 48 (by decide)) (pa_cons (pv 0) pa_nil)))
      (pss_cons (ps_expr (pe_bm PySem.F.plainAttrs_list PySem.F.slot_list_append PySem.F.type_list_append mt_append (pv 2) (pa_cons (pe_tup (pa_cons (pv 3) (pa_cons (pe_lst (pa_cons (pe_xa (pv 3)) pa_nil)) (pa_cons (pe_lst (pa_cons (pv 0) pa_nil)) pa_nil)))) pa_nil)))
      (pss_cons (ps_set (i := 3) scTo.nd rfl (.inl rfl) (pe_err (T.ok 49 (by decide)).T a49 b49 o49 hr c49 pass0 rfl (T.nm 49 (by decide)) (pa_cons (pv 0) pa_nil)))
      (pss_cons (ps_expr (pe_bm PySem.F.plainAttrs_list PySem.F.slot_list_append PySem.F.type_list_append mt_append (pv 2) (pa_cons (pe_tup (pa_cons (pv 3) (pa_cons (pe_lst (pa_cons (pe_xa (pv 3)) pa_nil)) (pa_cons (pe_lst (pa_cons (pv 0) pa_nil)) pa_nil)))) pa_nil)))
      (pss_cons (ps_set (i := 3) scTo.nd rfl (.inl rfl) (pe_err (T.ok 50 (by decide)).T a50 b50 o50 hr c50 pass0 rfl (T.nm 50 (by decide)) (pa_cons (pv 0) pa_nil)))
      (pss_cons (ps_expr (pe_bm PySem.F.plainAttrs_list PySem.F.slot_list_append PySem.F.type_list_append mt_append (pv 2) (pa_cons (pe_tup (pa_cons (pv 3) (pa_cons (pe_lst (pa_cons (pe_xa (pv 3)) pa_nil)) (pa_cons (pe_lst (pa_cons (pv 0) pa_nil)) pa_nil)))) pa_nil)))
      (pss_cons (ps_set (i := 3) scTo.nd rfl (.inl rfl) (pe_err (T.ok 54 (by decide)).T a54 b54 o54 hr c54 pass0 rfl (T.nm 54 (by decide)) (pa_cons (pv 0) pa_nil)))
      (pss_cons (ps_expr (pe_bm PySem.F.plainAttrs_list PySem.F.slot_list_append PySem.F.type_list_append mt_append (pv 2) (pa_cons (pe_tup (pa_cons (pv 3) (pa_cons (pe_lst (pa_cons (pe_xa (pv 3)) pa_nil)) (pa_cons (pe_lst (pa_cons (pv 0) pa_nil)) pa_nil)))) pa_nil)))
      (pss_cons (ps_set (i := 3) scTo.nd rfl (.inl rfl) (pe_err (T.ok 55 (by decide)).T a55 b55 o55 hr c55 pass0 rfl (T.nm 55 (by decide)) (pa_cons (pv 0) pa_nil)))
      (pss_cons (ps_expr (pe_bm PySem.F.plainAttrs_list PySem.F.slot_list_append PySem.F.type_list_append mt_append (pv 2) (pa_cons (pe_tup (pa_cons (pv 3) (pa_cons (pe_lst (pa_cons (pe_xa (pv 3)) pa_nil)) (pa_cons (pe_lst (pa_cons (pv 0) pa_nil)) pa_nil)))) pa_nil)))
      (pss_cons (ps_set (i := 3) scTo.nd rfl (.inl rfl) (pe_err (T.ok 56 (by decide)).T a56 b56 o56 hr c56 pass0 rfl (T.nm 56 (by decide)) (pa_cons (pv 0) pa_nil)))
      (pss_cons (ps_expr (pe_bm PySem.F.plainAttrs_list PySem.F.slot_list_append PySem.F.type_list_append mt_append (pv 2) (pa_cons (pe_tup (pa_cons (pv 3) (pa_cons (pe_lst (pa_cons (pe_xa (pv 3)) pa_nil)) (pa_cons (pe_lst (pa_cons (pv 0) pa_nil)) pa_nil)))) pa_nil)))
      (pss_cons (ps_set (i := 3) scTo.nd rfl (.inl rfl) (pe_err (T.ok 59 (by decide)).T a59 b59 o59 hr c59 pass0 rfl (T.nm 59 (by decide)) (pa_cons (pv 0) pa_nil)))
      (pss_cons (ps_expr (pe_bm PySem.F.plainAttrs_list PySem.F.slot_list_append PySem.F.type_list_append mt_append (pv 2) (pa_cons (pe_tup (pa_cons (pv 3) (pa_cons (pe_lst (pa_cons (pe_xa (pv 3)) pa_nil)) (pa_cons (pe_lst (pa_cons (pv 0) pa_nil)) pa_nil)))) pa_nil)))
      (pss_one (ps_ret (pv 2))))))))))))))))))))))))))))), ?_⟩
    refine ⟨by decide, fun p np => ?_⟩
    have M0 : Made cs H (upd H p (.lst [])) p [] [] := ⟨upd_same, .nil, by rw [del_upd]; exact fun b o e => by rw [del_ne (ne_of_none e np)]; exact e, np⟩
    generalize upd H p (.lst []) = G0 at M0
    obtain ⟨x0, M0⟩ : ∃ x0 : List V, Made cs H G0 p [] x0 := ⟨[], M0⟩
    -- BadBits
    refine ⟨_, rfl, (show 1 ≤ 1000 by decide), fun a na => ⟨a, [one], rfl, rfl, upd_same, fun dx G k1 k2 k3 => ⟨rfl, ?_⟩⟩⟩
    have kk : Same G0 G := fun b o e => k1 b o (by rw [upd_ne (ne_of_none e na)]; exact e) (ne_of_none e na)
    have ap : a ≠ p := ne_of_none2 na M0.pl
    have dp : dx ≠ p := ne_of k3 (kk _ _ M0.pl) (by intro z; cases z)
    refine ⟨.ref p, rfl, .inl ⟨rfl, _, SqL.of (kk _ _ M0.pl)⟩, _, rfl, _, rfl, a, cs 3, _, _, rfl, .inr ⟨dx, k2, k3⟩, (T.ok 3 (by decide)).F, n3 _ (by decide), rfl, (show 1 ≤ sizeLine by decide), fun m nm => ⟨_, rfl, (show 1 ≤ sizeLine by decide), fun d nd => ⟨(show 3 ≤ sizeLine by decide), fun t nt => ?_⟩⟩⟩
    have s1 : Same G (upd G m (.lst [one])) := same_new nm
    have s2 : Same (upd G m (.lst [one])) (upd (upd G m (.lst [one])) d (.lst [one])) := same_new nd
    have s3 := same_new (o := .tup [.ref a, .ref m, .ref d]) nt
    have s4 : Same G (upd (upd (upd G m (.lst [one])) d (.lst [one])) t (.tup [.ref a, .ref m, .ref d])) := fun b o e => s3 b o (s2 b o (s1 b o e))
    have pG := kk _ _ M0.pl
    have mp : m ≠ p := ne_of_none2 nm pG
    have qp : d ≠ p := ne_of_none2 nd (s1 _ _ pG)
    have tp : t ≠ p := ne_of_none2 nt (s2 _ _ (s1 _ _ pG))
    refine ⟨p, _, _, rfl, rfl, s4 _ _ pG, by rw [M0.len]; decide, ?_⟩
    have e1 : (upd (upd (upd G m (.lst [one])) d (.lst [one])) t (.tup [.ref a, .ref m, .ref d])) m = some (.lst [one]) := s3 _ _ (s2 _ _ upd_same)
    have e2 : (upd (upd (upd G m (.lst [one])) d (.lst [one])) t (.tup [.ref a, .ref m, .ref d])) d = some (.lst [one]) := s3 _ _ upd_same
    have e3 : (upd (upd (upd G m (.lst [one])) d (.lst [one])) t (.tup [.ref a, .ref m, .ref d])) t = some (.tup [.ref a, .ref m, .ref d]) := upd_same
    have e4 := s4 _ _ k2
    have e5 := s4 _ _ k3
    have sG : Same G0 (upd (upd (upd G m (.lst [one])) d (.lst [one])) t (.tup [.ref a, .ref m, .ref d])) := fun b o e => s4 b o (kk b o e)
    generalize upd (upd (upd G m (.lst [one])) d (.lst [one])) t (.tup [.ref a, .ref m, .ref d]) = G' at e1 e2 e3 e4 e5 sG
    have dd : DtAll (del G' p) [one] [d1] := .cons (t1.same fun b o e => del_mono sG b o (M0.sm b o e)) .nil
    have M1 := M0.step sG (j := 3) (by decide) (.inr ⟨dx, by rw [del_ne ap]; exact e4, by rw [del_ne dp]; exact e5⟩) (by rw [del_ne mp]; exact e1) (by rw [del_ne qp]; exact e2) (by rw [del_ne tp]; exact e3) dd dd (fine1 m1)
    clear kk s1 s2 s3 s4 e1 e2 e3 e4 e5 sG dd k1 k2 k3 pG
    generalize upd G' p _ = G1 at M1
    generalize x0 ++ [V.ref t] = x1 at M1
    clear ap dp mp qp tp na nm nd nt
    -- BadDocuments
    refine ⟨_, rfl, (show 1 ≤ 1000 by decide), fun a na => ⟨a, [one], rfl, rfl, upd_same, fun dx G k1 k2 k3 => ⟨rfl, ?_⟩⟩⟩
    have kk : Same G1 G := fun b o e => k1 b o (by rw [upd_ne (ne_of_none e na)]; exact e) (ne_of_none e na)
    have ap : a ≠ p := ne_of_none2 na M1.pl
    have dp : dx ≠ p := ne_of k3 (kk _ _ M1.pl) (by intro z; cases z)
    refine ⟨.ref p, rfl, .inl ⟨rfl, _, SqL.of (kk _ _ M1.pl)⟩, _, rfl, _, rfl, a, cs 8, _, _, rfl, .inr ⟨dx, k2, k3⟩, (T.ok 8 (by decide)).F, n8 _ (by decide), rfl, (show 1 ≤ sizeLine by decide), fun m nm => ⟨_, rfl, (show 1 ≤ sizeLine by decide), fun d nd => ⟨(show 3 ≤ sizeLine by decide), fun t nt => ?_⟩⟩⟩
    have s1 : Same G (upd G m (.lst [one])) := same_new nm
    have s2 : Same (upd G m (.lst [one])) (upd (upd G m (.lst [one])) d (.lst [one])) := same_new nd
    have s3 := same_new (o := .tup [.ref a, .ref m, .ref d]) nt
    have s4 : Same G (upd (upd (upd G m (.lst [one])) d (.lst [one])) t (.tup [.ref a, .ref m, .ref d])) := fun b o e => s3 b o (s2 b o (s1 b o e))
    have pG := kk _ _ M1.pl
    have mp : m ≠ p := ne_of_none2 nm pG
    have qp : d ≠ p := ne_of_none2 nd (s1 _ _ pG)
    have tp : t ≠ p := ne_of_none2 nt (s2 _ _ (s1 _ _ pG))
    refine ⟨p, _, _, rfl, rfl, s4 _ _ pG, by rw [M1.len]; decide, ?_⟩
    have e1 : (upd (upd (upd G m (.lst [one])) d (.lst [one])) t (.tup [.ref a, .ref m, .ref d])) m = some (.lst [one]) := s3 _ _ (s2 _ _ upd_same)
    have e2 : (upd (upd (upd G m (.lst [one])) d (.lst [one])) t (.tup [.ref a, .ref m, .ref d])) d = some (.lst [one]) := s3 _ _ upd_same
    have e3 : (upd (upd (upd G m (.lst [one])) d (.lst [one])) t (.tup [.ref a, .ref m, .ref d])) t = some (.tup [.ref a, .ref m, .ref d]) := upd_same
    have e4 := s4 _ _ k2
    have e5 := s4 _ _ k3
    have sG : Same G1 (upd (upd (upd G m (.lst [one])) d (.lst [one])) t (.tup [.ref a, .ref m, .ref d])) := fun b o e => s4 b o (kk b o e)
    generalize upd (upd (upd G m (.lst [one])) d (.lst [one])) t (.tup [.ref a, .ref m, .ref d]) = G' at e1 e2 e3 e4 e5 sG
    have dd : DtAll (del G' p) [one] [d1] := .cons (t1.same fun b o e => del_mono sG b o (M1.sm b o e)) .nil
    have M2 := M1.step sG (j := 8) (by decide) (.inr ⟨dx, by rw [del_ne ap]; exact e4, by rw [del_ne dp]; exact e5⟩) (by rw [del_ne mp]; exact e1) (by rw [del_ne qp]; exact e2) (by rw [del_ne tp]; exact e3) dd dd (fine1 m1)
    clear kk s1 s2 s3 s4 e1 e2 e3 e4 e5 sG dd k1 k2 k3 pG
    generalize upd G' p _ = G2 at M2
    generalize x1 ++ [V.ref t] = x2 at M2
    clear ap dp mp qp tp na nm nd nt
    -- BadHistories
    refine ⟨_, rfl, (show 1 ≤ 1000 by decide), fun a na => ⟨a, [one], rfl, rfl, upd_same, fun dx G k1 k2 k3 => ⟨rfl, ?_⟩⟩⟩
    have kk : Same G2 G := fun b o e => k1 b o (by rw [upd_ne (ne_of_none e na)]; exact e) (ne_of_none e na)
    have ap : a ≠ p := ne_of_none2 na M2.pl
    have dp : dx ≠ p := ne_of k3 (kk _ _ M2.pl) (by intro z; cases z)
    refine ⟨.ref p, rfl, .inl ⟨rfl, _, SqL.of (kk _ _ M2.pl)⟩, _, rfl, _, rfl, a, cs 11, _, _, rfl, .inr ⟨dx, k2, k3⟩, (T.ok 11 (by decide)).F, n11 _ (by decide), rfl, (show 1 ≤ sizeLine by decide), fun m nm => ⟨_, rfl, (show 1 ≤ sizeLine by decide), fun d nd => ⟨(show 3 ≤ sizeLine by decide), fun t nt => ?_⟩⟩⟩
    have s1 : Same G (upd G m (.lst [one])) := same_new nm
    have s2 : Same (upd G m (.lst [one])) (upd (upd G m (.lst [one])) d (.lst [one])) := same_new nd
    have s3 := same_new (o := .tup [.ref a, .ref m, .ref d]) nt
    have s4 : Same G (upd (upd (upd G m (.lst [one])) d (.lst [one])) t (.tup [.ref a, .ref m, .ref d])) := fun b o e => s3 b o (s2 b o (s1 b o e))
    have pG := kk _ _ M2.pl
    have mp : m ≠ p := ne_of_none2 nm pG
    have qp : d ≠ p := ne_of_none2 nd (s1 _ _ pG)
    have tp : t ≠ p := ne_of_none2 nt (s2 _ _ (s1 _ _ pG))
    refine ⟨p, _, _, rfl, rfl, s4 _ _ pG, by rw [M2.len]; decide, ?_⟩
    have e1 : (upd (upd (upd G m (.lst [one])) d (.lst [one])) t (.tup [.ref a, .ref m, .ref d])) m = some (.lst [one]) := s3 _ _ (s2 _ _ upd_same)
    have e2 : (upd (upd (upd G m (.lst [one])) d (.lst [one])) t (.tup [.ref a, .ref m, .ref d])) d = some (.lst [one]) := s3 _ _ upd_same
    have e3 : (upd (upd (upd G m (.lst [one])) d (.lst [one])) t (.tup [.ref a, .ref m, .ref d])) t = some (.tup [.ref a, .ref m, .ref d]) := upd_same
    have e4 := s4 _ _ k2
    have e5 := s4 _ _ k3
    have sG : Same G2 (upd (upd (upd G m (.lst [one])) d (.lst [one])) t (.tup [.ref a, .ref m, .ref d])) := fun b o e => s4 b o (kk b o e)
    generalize upd (upd (upd G m (.lst [one])) d (.lst [one])) t (.tup [.ref a, .ref m, .ref d]) = G' at e1 e2 e3 e4 e5 sG
    have dd : DtAll (del G' p) [one] [d1] := .cons (t1.same fun b o e => del_mono sG b o (M2.sm b o e)) .nil
    have M3 := M2.step sG (j := 11) (by decide) (.inr ⟨dx, by rw [del_ne ap]; exact e4, by rw [del_ne dp]; exact e5⟩) (by rw [del_ne mp]; exact e1) (by rw [del_ne qp]; exact e2) (by rw [del_ne tp]; exact e3) dd dd (fine1 m1)
    clear kk s1 s2 s3 s4 e1 e2 e3 e4 e5 sG dd k1 k2 k3 pG
    generalize upd G' p _ = G3 at M3
    generalize x2 ++ [V.ref t] = x3 at M3
    clear ap dp mp qp tp na nm nd nt
    -- BadLaws
    refine ⟨_, rfl, (show 1 ≤ 1000 by decide), fun a na => ⟨a, [one], rfl, rfl, upd_same, fun dx G k1 k2 k3 => ⟨rfl, ?_⟩⟩⟩
    have kk : Same G3 G := fun b o e => k1 b o (by rw [upd_ne (ne_of_none e na)]; exact e) (ne_of_none e na)
    have ap : a ≠ p := ne_of_none2 na M3.pl
    have dp : dx ≠ p := ne_of k3 (kk _ _ M3.pl) (by intro z; cases z)
    refine ⟨.ref p, rfl, .inl ⟨rfl, _, SqL.of (kk _ _ M3.pl)⟩, _, rfl, _, rfl, a, cs 16, _, _, rfl, .inr ⟨dx, k2, k3⟩, (T.ok 16 (by decide)).F, n16 _ (by decide), rfl, (show 1 ≤ sizeLine by decide), fun m nm => ⟨_, rfl, (show 1 ≤ sizeLine by decide), fun d nd => ⟨(show 3 ≤ sizeLine by decide), fun t nt => ?_⟩⟩⟩
    have s1 : Same G (upd G m (.lst [one])) := same_new nm
    have s2 : Same (upd G m (.lst [one])) (upd (upd G m (.lst [one])) d (.lst [one])) := same_new nd
    have s3 := same_new (o := .tup [.ref a, .ref m, .ref d]) nt
    have s4 : Same G (upd (upd (upd G m (.lst [one])) d (.lst [one])) t (.tup [.ref a, .ref m, .ref d])) := fun b o e => s3 b o (s2 b o (s1 b o e))
    have pG := kk _ _ M3.pl
    have mp : m ≠ p := ne_of_none2 nm pG
    have qp : d ≠ p := ne_of_none2 nd (s1 _ _ pG)
    have tp : t ≠ p := ne_of_none2 nt (s2 _ _ (s1 _ _ pG))
    refine ⟨p, _, _, rfl, rfl, s4 _ _ pG, by rw [M3.len]; decide, ?_⟩
    have e1 : (upd (upd (upd G m (.lst [one])) d (.lst [one])) t (.tup [.ref a, .ref m, .ref d])) m = some (.lst [one]) := s3 _ _ (s2 _ _ upd_same)
    have e2 : (upd (upd (upd G m (.lst [one])) d (.lst [one])) t (.tup [.ref a, .ref m, .ref d])) d = some (.lst [one]) := s3 _ _ upd_same
    have e3 : (upd (upd (upd G m (.lst [one])) d (.lst [one])) t (.tup [.ref a, .ref m, .ref d])) t = some (.tup [.ref a, .ref m, .ref d]) := upd_same
    have e4 := s4 _ _ k2
    have e5 := s4 _ _ k3
    have sG : Same G3 (upd (upd (upd G m (.lst [one])) d (.lst [one])) t (.tup [.ref a, .ref m, .ref d])) := fun b o e => s4 b o (kk b o e)
    generalize upd (upd (upd G m (.lst [one])) d (.lst [one])) t (.tup [.ref a, .ref m, .ref d]) = G' at e1 e2 e3 e4 e5 sG
    have dd : DtAll (del G' p) [one] [d1] := .cons (t1.same fun b o e => del_mono sG b o (M3.sm b o e)) .nil
    have M4 := M3.step sG (j := 16) (by decide) (.inr ⟨dx, by rw [del_ne ap]; exact e4, by rw [del_ne dp]; exact e5⟩) (by rw [del_ne mp]; exact e1) (by rw [del_ne qp]; exact e2) (by rw [del_ne tp]; exact e3) dd dd (fine1 m1)
    clear kk s1 s2 s3 s4 e1 e2 e3 e4 e5 sG dd k1 k2 k3 pG
    generalize upd G' p _ = G4 at M4
    generalize x3 ++ [V.ref t] = x4 at M4
    clear ap dp mp qp tp na nm nd nt
    -- BadPaper
    refine ⟨_, rfl, (show 1 ≤ 1000 by decide), fun a na => ⟨a, [one], rfl, rfl, upd_same, fun dx G k1 k2 k3 => ⟨rfl, ?_⟩⟩⟩
    have kk : Same G4 G := fun b o e => k1 b o (by rw [upd_ne (ne_of_none e na)]; exact e) (ne_of_none e na)
    have ap : a ≠ p := ne_of_none2 na M4.pl
    have dp : dx ≠ p := ne_of k3 (kk _ _ M4.pl) (by intro z; cases z)
    refine ⟨.ref p, rfl, .inl ⟨rfl, _, SqL.of (kk _ _ M4.pl)⟩, _, rfl, _, rfl, a, cs 26, _, _, rfl, .inr ⟨dx, k2, k3⟩, (T.ok 26 (by decide)).F, n26 _ (by decide), rfl, (show 1 ≤ sizeLine by decide), fun m nm => ⟨_, rfl, (show 1 ≤ sizeLine by decide), fun d nd => ⟨(show 3 ≤ sizeLine by decide), fun t nt => ?_⟩⟩⟩
    have s1 : Same G (upd G m (.lst [one])) := same_new nm
    have s2 : Same (upd G m (.lst [one])) (upd (upd G m (.lst [one])) d (.lst [one])) := same_new nd
    have s3 := same_new (o := .tup [.ref a, .ref m, .ref d]) nt
    have s4 : Same G (upd (upd (upd G m (.lst [one])) d (.lst [one])) t (.tup [.ref a, .ref m, .ref d])) := fun b o e => s3 b o (s2 b o (s1 b o e))
    have pG := kk _ _ M4.pl
    have mp : m ≠ p := ne_of_none2 nm pG
    have qp : d ≠ p := ne_of_none2 nd (s1 _ _ pG)
    have tp : t ≠ p := ne_of_none2 nt (s2 _ _ (s1 _ _ pG))
    refine ⟨p, _, _, rfl, rfl, s4 _ _ pG, by rw [M4.len]; decide, ?_⟩
    have e1 : (upd (upd (upd G m (.lst [one])) d (.lst [one])) t (.tup [.ref a, .ref m, .ref d])) m = some (.lst [one]) := s3 _ _ (s2 _ _ upd_same)
    have e2 : (upd (upd (upd G m (.lst [one])) d (.lst [one])) t (.tup [.ref a, .ref m, .ref d])) d = some (.lst [one]) := s3 _ _ upd_same
    have e3 : (upd (upd (upd G m (.lst [one])) d (.lst [one])) t (.tup [.ref a, .ref m, .ref d])) t = some (.tup [.ref a, .ref m, .ref d]) := upd_same
    have e4 := s4 _ _ k2
    have e5 := s4 _ _ k3
    have sG : Same G4 (upd (upd (upd G m (.lst [one])) d (.lst [one])) t (.tup [.ref a, .ref m, .ref d])) := fun b o e => s4 b o (kk b o e)
    generalize upd (upd (upd G m (.lst [one])) d (.lst [one])) t (.tup [.ref a, .ref m, .ref d]) = G' at e1 e2 e3 e4 e5 sG
    have dd : DtAll (del G' p) [one] [d1] := .cons (t1.same fun b o e => del_mono sG b o (M4.sm b o e)) .nil
    have M5 := M4.step sG (j := 26) (by decide) (.inr ⟨dx, by rw [del_ne ap]; exact e4, by rw [del_ne dp]; exact e5⟩) (by rw [del_ne mp]; exact e1) (by rw [del_ne qp]; exact e2) (by rw [del_ne tp]; exact e3) dd dd (fine1 m1)
    clear kk s1 s2 s3 s4 e1 e2 e3 e4 e5 sG dd k1 k2 k3 pG
    generalize upd G' p _ = G5 at M5
    generalize x4 ++ [V.ref t] = x5 at M5
    clear ap dp mp qp tp na nm nd nt
    -- BadText
    refine ⟨_, rfl, _, rfl, _, rfl, _, rfl, (show 2 ≤ sizeLine by decide), fun u nu => ⟨(show 3 ≤ 1000 by decide), fun a na => ⟨a, [one, other, .ref u], rfl, rfl, upd_same, fun dx G k1 k2 k3 => ⟨rfl, ?_⟩⟩⟩⟩
    have su : Same G5 (upd G5 u (.tup [one, other])) := same_new nu
    have kk : Same (upd G5 u (.tup [one, other])) G := fun b o e => k1 b o (by rw [upd_ne (ne_of_none e na)]; exact e) (ne_of_none e na)
    have pG := kk _ _ (su _ _ M5.pl)
    have uG := kk _ _ (upd_same (H := G5) (a := u) (o := .tup [one, other]))
    have up : u ≠ p := ne_of_none2 nu M5.pl
    have ap : a ≠ p := ne_of_none2 na (su _ _ M5.pl)
    have dp : dx ≠ p := ne_of k3 pG (by intro z; cases z)
    refine ⟨.ref p, rfl, .inl ⟨rfl, _, SqL.of pG⟩, _, rfl, _, rfl, a, cs 35, _, _, rfl, .inr ⟨dx, k2, k3⟩, (T.ok 35 (by decide)).F, n35 _ (by decide), rfl, _, rfl, a, cs 35, _, _, rfl, .inr ⟨dx, k2, k3⟩, (T.ok 35 (by decide)).F, n35 _ (by decide), rfl, _, rfl, a, cs 35, _, _, rfl, .inr ⟨dx, k2, k3⟩, (T.ok 35 (by decide)).F, n35 _ (by decide), rfl, (show 3 ≤ sizeLine by decide), fun m nm => ⟨_, rfl, _, rfl, _, rfl, _, rfl, (show 2 ≤ sizeLine by decide), fun v nv => ⟨(show 3 ≤ sizeLine by decide), fun d nd => ⟨(show 3 ≤ sizeLine by decide), fun t nt => ?_⟩⟩⟩⟩
    have s1 : Same G (upd G m (.lst [one, other, .ref u])) := same_new nm
    have s2 : Same (upd G m (.lst [one, other, .ref u])) (upd (upd G m (.lst [one, other, .ref u])) v (.tup [one, other])) := same_new nv
    have s3 := same_new (o := .lst [one, other, .ref v]) nd
    have s4 := same_new (o := .tup [.ref a, .ref m, .ref d]) nt
    have mp : m ≠ p := ne_of_none2 nm pG
    have vp : v ≠ p := ne_of_none2 nv (s1 _ _ pG)
    have qp : d ≠ p := ne_of_none2 nd (s2 _ _ (s1 _ _ pG))
    have tp : t ≠ p := ne_of_none2 nt (s3 _ _ (s2 _ _ (s1 _ _ pG)))
    refine ⟨p, _, _, rfl, rfl, s4 _ _ (s3 _ _ (s2 _ _ (s1 _ _ pG))), by rw [M5.len]; decide, ?_⟩
    generalize hG' : upd (upd (upd (upd G m (.lst [one, other, .ref u])) v (.tup [one, other])) d (.lst [one, other, .ref v])) t (.tup [.ref a, .ref m, .ref d]) = G' at s4
    have e1 : G' m = some (.lst [one, other, .ref u]) := s4 _ _ (s3 _ _ (s2 _ _ upd_same))
    have e0 : G' v = some (.tup [one, other]) := s4 _ _ (s3 _ _ upd_same)
    have e2 : G' d = some (.lst [one, other, .ref v]) := s4 _ _ upd_same
    have e3 : G' t = some (.tup [.ref a, .ref m, .ref d]) := by rw [← hG']; exact upd_same
    have sK : Same G G' := fun b o e => s4 b o (s3 b o (s2 b o (s1 b o e)))
    have sG : Same G5 G' := fun b o e => sK b o (kk b o (su b o e))
    have z1 : Dt (del G' p) one d1 := t1.same fun b o e => del_mono sG b o (M5.sm b o e)
    have z2 : Dt (del G' p) other d2 := t2.same fun b o e => del_mono sG b o (M5.sm b o e)
    have dd1 : DtAll (del G' p) [one, other, .ref u] [d1, d2, .tuple [d1, d2]] := .cons z1 (.cons z2 (.cons (.tup (by rw [del_ne up]; exact sK _ _ uG) (.cons z1 (.cons z2 .nil))) .nil))
    have dd2 : DtAll (del G' p) [one, other, .ref v] [d1, d2, .tuple [d1, d2]] := .cons z1 (.cons z2 (.cons (.tup (by rw [del_ne vp]; exact e0) (.cons z1 (.cons z2 .nil))) .nil))
    have M6 := M5.step sG (j := 35) (by decide) (.inr ⟨dx, by rw [del_ne ap]; exact sK _ _ k2, by rw [del_ne dp]; exact sK _ _ k3⟩) (by rw [del_ne mp]; exact e1) (by rw [del_ne qp]; exact e2) (by rw [del_ne tp]; exact e3) dd1 dd2 (fine3 m1 m2)
    clear kk su s1 s2 s3 s4 e0 e1 e2 e3 sK sG z1 z2 dd1 dd2 k1 k2 k3 pG uG hG'
    generalize upd G' p _ = G6 at M6
    generalize x5 ++ [V.ref t] = x6 at M6
    clear up ap dp mp vp qp tp nu na nm nv nd nt
    -- NotPossible
    refine ⟨_, rfl, (show 1 ≤ 1000 by decide), fun a na => ⟨a, [one], rfl, rfl, upd_same, fun dx G k1 k2 k3 => ⟨rfl, ?_⟩⟩⟩
    have kk : Same G6 G := fun b o e => k1 b o (by rw [upd_ne (ne_of_none e na)]; exact e) (ne_of_none e na)
    have ap : a ≠ p := ne_of_none2 na M6.pl
    have dp : dx ≠ p := ne_of k3 (kk _ _ M6.pl) (by intro z; cases z)
    refine ⟨.ref p, rfl, .inl ⟨rfl, _, SqL.of (kk _ _ M6.pl)⟩, _, rfl, _, rfl, a, cs 48, _, _, rfl, .inr ⟨dx, k2, k3⟩, (T.ok 48 (by decide)).F, n48 _ (by decide), rfl, (show 1 ≤ sizeLine by decide), fun m nm => ⟨_, rfl, (show 1 ≤ sizeLine by decide), fun d nd => ⟨(show 3 ≤ sizeLine by decide), fun t nt => ?_⟩⟩⟩
    have s1 : Same G (upd G m (.lst [one])) := same_new nm
    have s2 : Same (upd G m (.lst [one])) (upd (upd G m (.lst [one])) d (.lst [one])) := same_new nd
    have s3 := same_new (o := .tup [.ref a, .ref m, .ref d]) nt
    have s4 : Same G (upd (upd (upd G m (.lst [one])) d (.lst [one])) t (.tup [.ref a, .ref m, .ref d])) := fun b o e => s3 b o (s2 b o (s1 b o e))
    have pG := kk _ _ M6.pl
    have mp : m ≠ p := ne_of_none2 nm pG
    have qp : d ≠ p := ne_of_none2 nd (s1 _ _ pG)
    have tp : t ≠ p := ne_of_none2 nt (s2 _ _ (s1 _ _ pG))
    refine ⟨p, _, _, rfl, rfl, s4 _ _ pG, by rw [M6.len]; decide, ?_⟩
    have e1 : (upd (upd (upd G m (.lst [one])) d (.lst [one])) t (.tup [.ref a, .ref m, .ref d])) m = some (.lst [one]) := s3 _ _ (s2 _ _ upd_same)
    have e2 : (upd (upd (upd G m (.lst [one])) d (.lst [one])) t (.tup [.ref a, .ref m, .ref d])) d = some (.lst [one]) := s3 _ _ upd_same
    have e3 : (upd (upd (upd G m (.lst [one])) d (.lst [one])) t (.tup [.ref a, .ref m, .ref d])) t = some (.tup [.ref a, .ref m, .ref d]) := upd_same
    have e4 := s4 _ _ k2
    have e5 := s4 _ _ k3
    have sG : Same G6 (upd (upd (upd G m (.lst [one])) d (.lst [one])) t (.tup [.ref a, .ref m, .ref d])) := fun b o e => s4 b o (kk b o e)
    generalize upd (upd (upd G m (.lst [one])) d (.lst [one])) t (.tup [.ref a, .ref m, .ref d]) = G' at e1 e2 e3 e4 e5 sG
    have dd : DtAll (del G' p) [one] [d1] := .cons (t1.same fun b o e => del_mono sG b o (M6.sm b o e)) .nil
    have M7 := M6.step sG (j := 48) (by decide) (.inr ⟨dx, by rw [del_ne ap]; exact e4, by rw [del_ne dp]; exact e5⟩) (by rw [del_ne mp]; exact e1) (by rw [del_ne qp]; exact e2) (by rw [del_ne tp]; exact e3) dd dd (fine1 m1)
    clear kk s1 s2 s3 s4 e1 e2 e3 e4 e5 sG dd k1 k2 k3 pG
    generalize upd G' p _ = G7 at M7
    generalize x6 ++ [V.ref t] = x7 at M7
    clear ap dp mp qp tp na nm nd nt
    -- NotRight
    refine ⟨_, rfl, (show 1 ≤ 1000 by decide), fun a na => ⟨a, [one], rfl, rfl, upd_same, fun dx G k1 k2 k3 => ⟨rfl, ?_⟩⟩⟩
    have kk : Same G7 G := fun b o e => k1 b o (by rw [upd_ne (ne_of_none e na)]; exact e) (ne_of_none e na)
    have ap : a ≠ p := ne_of_none2 na M7.pl
    have dp : dx ≠ p := ne_of k3 (kk _ _ M7.pl) (by intro z; cases z)
    refine ⟨.ref p, rfl, .inl ⟨rfl, _, SqL.of (kk _ _ M7.pl)⟩, _, rfl, _, rfl, a, cs 49, _, _, rfl, .inr ⟨dx, k2, k3⟩, (T.ok 49 (by decide)).F, n49 _ (by decide), rfl, (show 1 ≤ sizeLine by decide), fun m nm => ⟨_, rfl, (show 1 ≤ sizeLine by decide), fun d nd => ⟨(show 3 ≤ sizeLine by decide), fun t nt => ?_⟩⟩⟩
    have s1 : Same G (upd G m (.lst [one])) := same_new nm
    have s2 : Same (upd G m (.lst [one])) (upd (upd G m (.lst [one])) d (.lst [one])) := same_new nd
    have s3 := same_new (o := .tup [.ref a, .ref m, .ref d]) nt
    have s4 : Same G (upd (upd (upd G m (.lst [one])) d (.lst [one])) t (.tup [.ref a, .ref m, .ref d])) := fun b o e => s3 b o (s2 b o (s1 b o e))
    have pG := kk _ _ M7.pl
    have mp : m ≠ p := ne_of_none2 nm pG
    have qp : d ≠ p := ne_of_none2 nd (s1 _ _ pG)
    have tp : t ≠ p := ne_of_none2 nt (s2 _ _ (s1 _ _ pG))
    refine ⟨p, _, _, rfl, rfl, s4 _ _ pG, by rw [M7.len]; decide, ?_⟩
    have e1 : (upd (upd (upd G m (.lst [one])) d (.lst [one])) t (.tup [.ref a, .ref m, .ref d])) m = some (.lst [one]) := s3 _ _ (s2 _ _ upd_same)
    have e2 : (upd (upd (upd G m (.lst [one])) d (.lst [one])) t (.tup [.ref a, .ref m, .ref d])) d = some (.lst [one]) := s3 _ _ upd_same
    have e3 : (upd (upd (upd G m (.lst [one])) d (.lst [one])) t (.tup [.ref a, .ref m, .ref d])) t = some (.tup [.ref a, .ref m, .ref d]) := upd_same
    have e4 := s4 _ _ k2
    have e5 := s4 _ _ k3
    have sG : Same G7 (upd (upd (upd G m (.lst [one])) d (.lst [one])) t (.tup [.ref a, .ref m, .ref d])) := fun b o e => s4 b o (kk b o e)
    generalize upd (upd (upd G m (.lst [one])) d (.lst [one])) t (.tup [.ref a, .ref m, .ref d]) = G' at e1 e2 e3 e4 e5 sG
    have dd : DtAll (del G' p) [one] [d1] := .cons (t1.same fun b o e => del_mono sG b o (M7.sm b o e)) .nil
    have M8 := M7.step sG (j := 49) (by decide) (.inr ⟨dx, by rw [del_ne ap]; exact e4, by rw [del_ne dp]; exact e5⟩) (by rw [del_ne mp]; exact e1) (by rw [del_ne qp]; exact e2) (by rw [del_ne tp]; exact e3) dd dd (fine1 m1)
    clear kk s1 s2 s3 s4 e1 e2 e3 e4 e5 sG dd k1 k2 k3 pG
    generalize upd G' p _ = G8 at M8
    generalize x7 ++ [V.ref t] = x8 at M8
    clear ap dp mp qp tp na nm nd nt
    -- NotTrue
    refine ⟨_, rfl, (show 1 ≤ 1000 by decide), fun a na => ⟨a, [one], rfl, rfl, upd_same, fun dx G k1 k2 k3 => ⟨rfl, ?_⟩⟩⟩
    have kk : Same G8 G := fun b o e => k1 b o (by rw [upd_ne (ne_of_none e na)]; exact e) (ne_of_none e na)
    have ap : a ≠ p := ne_of_none2 na M8.pl
    have dp : dx ≠ p := ne_of k3 (kk _ _ M8.pl) (by intro z; cases z)
    refine ⟨.ref p, rfl, .inl ⟨rfl, _, SqL.of (kk _ _ M8.pl)⟩, _, rfl, _, rfl, a, cs 50, _, _, rfl, .inr ⟨dx, k2, k3⟩, (T.ok 50 (by decide)).F, n50 _ (by decide), rfl, (show 1 ≤ sizeLine by decide), fun m nm => ⟨_, rfl, (show 1 ≤ sizeLine by decide), fun d nd => ⟨(show 3 ≤ sizeLine by decide), fun t nt => ?_⟩⟩⟩
    have s1 : Same G (upd G m (.lst [one])) := same_new nm
    have s2 : Same (upd G m (.lst [one])) (upd (upd G m (.lst [one])) d (.lst [one])) := same_new nd
    have s3 := same_new (o := .tup [.ref a, .ref m, .ref d]) nt
    have s4 : Same G (upd (upd (upd G m (.lst [one])) d (.lst [one])) t (.tup [.ref a, .ref m, .ref d])) := fun b o e => s3 b o (s2 b o (s1 b o e))
    have pG := kk _ _ M8.pl
    have mp : m ≠ p := ne_of_none2 nm pG
    have qp : d ≠ p := ne_of_none2 nd (s1 _ _ pG)
    have tp : t ≠ p := ne_of_none2 nt (s2 _ _ (s1 _ _ pG))
    refine ⟨p, _, _, rfl, rfl, s4 _ _ pG, by rw [M8.len]; decide, ?_⟩
    have e1 : (upd (upd (upd G m (.lst [one])) d (.lst [one])) t (.tup [.ref a, .ref m, .ref d])) m = some (.lst [one]) := s3 _ _ (s2 _ _ upd_same)
    have e2 : (upd (upd (upd G m (.lst [one])) d (.lst [one])) t (.tup [.ref a, .ref m, .ref d])) d = some (.lst [one]) := s3 _ _ upd_same
    have e3 : (upd (upd (upd G m (.lst [one])) d (.lst [one])) t (.tup [.ref a, .ref m, .ref d])) t = some (.tup [.ref a, .ref m, .ref d]) := upd_same
    have e4 := s4 _ _ k2
    have e5 := s4 _ _ k3
    have sG : Same G8 (upd (upd (upd G m (.lst [one])) d (.lst [one])) t (.tup [.ref a, .ref m, .ref d])) := fun b o e => s4 b o (kk b o e)
    generalize upd (upd (upd G m (.lst [one])) d (.lst [one])) t (.tup [.ref a, .ref m, .ref d]) = G' at e1 e2 e3 e4 e5 sG
    have dd : DtAll (del G' p) [one] [d1] := .cons (t1.same fun b o e => del_mono sG b o (M8.sm b o e)) .nil
    have M9 := M8.step sG (j := 50) (by decide) (.inr ⟨dx, by rw [del_ne ap]; exact e4, by rw [del_ne dp]; exact e5⟩) (by rw [del_ne mp]; exact e1) (by rw [del_ne qp]; exact e2) (by rw [del_ne tp]; exact e3) dd dd (fine1 m1)
    clear kk s1 s2 s3 s4 e1 e2 e3 e4 e5 sG dd k1 k2 k3 pG
    generalize upd G' p _ = G9 at M9
    generalize x8 ++ [V.ref t] = x9 at M9
    clear ap dp mp qp tp na nm nd nt
    -- OverAsks
    refine ⟨_, rfl, (show 1 ≤ 1000 by decide), fun a na => ⟨a, [one], rfl, rfl, upd_same, fun dx G k1 k2 k3 => ⟨rfl, ?_⟩⟩⟩
    have kk : Same G9 G := fun b o e => k1 b o (by rw [upd_ne (ne_of_none e na)]; exact e) (ne_of_none e na)
    have ap : a ≠ p := ne_of_none2 na M9.pl
    have dp : dx ≠ p := ne_of k3 (kk _ _ M9.pl) (by intro z; cases z)
    refine ⟨.ref p, rfl, .inl ⟨rfl, _, SqL.of (kk _ _ M9.pl)⟩, _, rfl, _, rfl, a, cs 54, _, _, rfl, .inr ⟨dx, k2, k3⟩, (T.ok 54 (by decide)).F, n54 _ (by decide), rfl, (show 1 ≤ sizeLine by decide), fun m nm => ⟨_, rfl, (show 1 ≤ sizeLine by decide), fun d nd => ⟨(show 3 ≤ sizeLine by decide), fun t nt => ?_⟩⟩⟩
    have s1 : Same G (upd G m (.lst [one])) := same_new nm
    have s2 : Same (upd G m (.lst [one])) (upd (upd G m (.lst [one])) d (.lst [one])) := same_new nd
    have s3 := same_new (o := .tup [.ref a, .ref m, .ref d]) nt
    have s4 : Same G (upd (upd (upd G m (.lst [one])) d (.lst [one])) t (.tup [.ref a, .ref m, .ref d])) := fun b o e => s3 b o (s2 b o (s1 b o e))
    have pG := kk _ _ M9.pl
    have mp : m ≠ p := ne_of_none2 nm pG
    have qp : d ≠ p := ne_of_none2 nd (s1 _ _ pG)
    have tp : t ≠ p := ne_of_none2 nt (s2 _ _ (s1 _ _ pG))
    refine ⟨p, _, _, rfl, rfl, s4 _ _ pG, by rw [M9.len]; decide, ?_⟩
    have e1 : (upd (upd (upd G m (.lst [one])) d (.lst [one])) t (.tup [.ref a, .ref m, .ref d])) m = some (.lst [one]) := s3 _ _ (s2 _ _ upd_same)
    have e2 : (upd (upd (upd G m (.lst [one])) d (.lst [one])) t (.tup [.ref a, .ref m, .ref d])) d = some (.lst [one]) := s3 _ _ upd_same
    have e3 : (upd (upd (upd G m (.lst [one])) d (.lst [one])) t (.tup [.ref a, .ref m, .ref d])) t = some (.tup [.ref a, .ref m, .ref d]) := upd_same
    have e4 := s4 _ _ k2
    have e5 := s4 _ _ k3
    have sG : Same G9 (upd (upd (upd G m (.lst [one])) d (.lst [one])) t (.tup [.ref a, .ref m, .ref d])) := fun b o e => s4 b o (kk b o e)
    generalize upd (upd (upd G m (.lst [one])) d (.lst [one])) t (.tup [.ref a, .ref m, .ref d]) = G' at e1 e2 e3 e4 e5 sG
    have dd : DtAll (del G' p) [one] [d1] := .cons (t1.same fun b o e => del_mono sG b o (M9.sm b o e)) .nil
    have M10 := M9.step sG (j := 54) (by decide) (.inr ⟨dx, by rw [del_ne ap]; exact e4, by rw [del_ne dp]; exact e5⟩) (by rw [del_ne mp]; exact e1) (by rw [del_ne qp]; exact e2) (by rw [del_ne tp]; exact e3) dd dd (fine1 m1)
    clear kk s1 s2 s3 s4 e1 e2 e3 e4 e5 sG dd k1 k2 k3 pG
    generalize upd G' p _ = G10 at M10
    generalize x9 ++ [V.ref t] = x10 at M10
    clear ap dp mp qp tp na nm nd nt
    -- Parted
    refine ⟨_, rfl, (show 1 ≤ 1000 by decide), fun a na => ⟨a, [one], rfl, rfl, upd_same, fun dx G k1 k2 k3 => ⟨rfl, ?_⟩⟩⟩
    have kk : Same G10 G := fun b o e => k1 b o (by rw [upd_ne (ne_of_none e na)]; exact e) (ne_of_none e na)
    have ap : a ≠ p := ne_of_none2 na M10.pl
    have dp : dx ≠ p := ne_of k3 (kk _ _ M10.pl) (by intro z; cases z)
    refine ⟨.ref p, rfl, .inl ⟨rfl, _, SqL.of (kk _ _ M10.pl)⟩, _, rfl, _, rfl, a, cs 55, _, _, rfl, .inr ⟨dx, k2, k3⟩, (T.ok 55 (by decide)).F, n55 _ (by decide), rfl, (show 1 ≤ sizeLine by decide), fun m nm => ⟨_, rfl, (show 1 ≤ sizeLine by decide), fun d nd => ⟨(show 3 ≤ sizeLine by decide), fun t nt => ?_⟩⟩⟩
    have s1 : Same G (upd G m (.lst [one])) := same_new nm
    have s2 : Same (upd G m (.lst [one])) (upd (upd G m (.lst [one])) d (.lst [one])) := same_new nd
    have s3 := same_new (o := .tup [.ref a, .ref m, .ref d]) nt
    have s4 : Same G (upd (upd (upd G m (.lst [one])) d (.lst [one])) t (.tup [.ref a, .ref m, .ref d])) := fun b o e => s3 b o (s2 b o (s1 b o e))
    have pG := kk _ _ M10.pl
    have mp : m ≠ p := ne_of_none2 nm pG
    have qp : d ≠ p := ne_of_none2 nd (s1 _ _ pG)
    have tp : t ≠ p := ne_of_none2 nt (s2 _ _ (s1 _ _ pG))
    refine ⟨p, _, _, rfl, rfl, s4 _ _ pG, by rw [M10.len]; decide, ?_⟩
    have e1 : (upd (upd (upd G m (.lst [one])) d (.lst [one])) t (.tup [.ref a, .ref m, .ref d])) m = some (.lst [one]) := s3 _ _ (s2 _ _ upd_same)
    have e2 : (upd (upd (upd G m (.lst [one])) d (.lst [one])) t (.tup [.ref a, .ref m, .ref d])) d = some (.lst [one]) := s3 _ _ upd_same
    have e3 : (upd (upd (upd G m (.lst [one])) d (.lst [one])) t (.tup [.ref a, .ref m, .ref d])) t = some (.tup [.ref a, .ref m, .ref d]) := upd_same
    have e4 := s4 _ _ k2
    have e5 := s4 _ _ k3
    have sG : Same G10 (upd (upd (upd G m (.lst [one])) d (.lst [one])) t (.tup [.ref a, .ref m, .ref d])) := fun b o e => s4 b o (kk b o e)
    generalize upd (upd (upd G m (.lst [one])) d (.lst [one])) t (.tup [.ref a, .ref m, .ref d]) = G' at e1 e2 e3 e4 e5 sG
    have dd : DtAll (del G' p) [one] [d1] := .cons (t1.same fun b o e => del_mono sG b o (M10.sm b o e)) .nil
    have M11 := M10.step sG (j := 55) (by decide) (.inr ⟨dx, by rw [del_ne ap]; exact e4, by rw [del_ne dp]; exact e5⟩) (by rw [del_ne mp]; exact e1) (by rw [del_ne qp]; exact e2) (by rw [del_ne tp]; exact e3) dd dd (fine1 m1)
    clear kk s1 s2 s3 s4 e1 e2 e3 e4 e5 sG dd k1 k2 k3 pG
    generalize upd G' p _ = G11 at M11
    generalize x10 ++ [V.ref t] = x11 at M11
    clear ap dp mp qp tp na nm nd nt
    -- SameName
    refine ⟨_, rfl, (show 1 ≤ 1000 by decide), fun a na => ⟨a, [one], rfl, rfl, upd_same, fun dx G k1 k2 k3 => ⟨rfl, ?_⟩⟩⟩
    have kk : Same G11 G := fun b o e => k1 b o (by rw [upd_ne (ne_of_none e na)]; exact e) (ne_of_none e na)
    have ap : a ≠ p := ne_of_none2 na M11.pl
    have dp : dx ≠ p := ne_of k3 (kk _ _ M11.pl) (by intro z; cases z)
    refine ⟨.ref p, rfl, .inl ⟨rfl, _, SqL.of (kk _ _ M11.pl)⟩, _, rfl, _, rfl, a, cs 56, _, _, rfl, .inr ⟨dx, k2, k3⟩, (T.ok 56 (by decide)).F, n56 _ (by decide), rfl, (show 1 ≤ sizeLine by decide), fun m nm => ⟨_, rfl, (show 1 ≤ sizeLine by decide), fun d nd => ⟨(show 3 ≤ sizeLine by decide), fun t nt => ?_⟩⟩⟩
    have s1 : Same G (upd G m (.lst [one])) := same_new nm
    have s2 : Same (upd G m (.lst [one])) (upd (upd G m (.lst [one])) d (.lst [one])) := same_new nd
    have s3 := same_new (o := .tup [.ref a, .ref m, .ref d]) nt
    have s4 : Same G (upd (upd (upd G m (.lst [one])) d (.lst [one])) t (.tup [.ref a, .ref m, .ref d])) := fun b o e => s3 b o (s2 b o (s1 b o e))
    have pG := kk _ _ M11.pl
    have mp : m ≠ p := ne_of_none2 nm pG
    have qp : d ≠ p := ne_of_none2 nd (s1 _ _ pG)
    have tp : t ≠ p := ne_of_none2 nt (s2 _ _ (s1 _ _ pG))
    refine ⟨p, _, _, rfl, rfl, s4 _ _ pG, by rw [M11.len]; decide, ?_⟩
    have e1 : (upd (upd (upd G m (.lst [one])) d (.lst [one])) t (.tup [.ref a, .ref m, .ref d])) m = some (.lst [one]) := s3 _ _ (s2 _ _ upd_same)
    have e2 : (upd (upd (upd G m (.lst [one])) d (.lst [one])) t (.tup [.ref a, .ref m, .ref d])) d = some (.lst [one]) := s3 _ _ upd_same
    have e3 : (upd (upd (upd G m (.lst [one])) d (.lst [one])) t (.tup [.ref a, .ref m, .ref d])) t = some (.tup [.ref a, .ref m, .ref d]) := upd_same
    have e4 := s4 _ _ k2
    have e5 := s4 _ _ k3
    have sG : Same G11 (upd (upd (upd G m (.lst [one])) d (.lst [one])) t (.tup [.ref a, .ref m, .ref d])) := fun b o e => s4 b o (kk b o e)
    generalize upd (upd (upd G m (.lst [one])) d (.lst [one])) t (.tup [.ref a, .ref m, .ref d]) = G' at e1 e2 e3 e4 e5 sG
    have dd : DtAll (del G' p) [one] [d1] := .cons (t1.same fun b o e => del_mono sG b o (M11.sm b o e)) .nil
    have M12 := M11.step sG (j := 56) (by decide) (.inr ⟨dx, by rw [del_ne ap]; exact e4, by rw [del_ne dp]; exact e5⟩) (by rw [del_ne mp]; exact e1) (by rw [del_ne qp]; exact e2) (by rw [del_ne tp]; exact e3) dd dd (fine1 m1)
    clear kk s1 s2 s3 s4 e1 e2 e3 e4 e5 sG dd k1 k2 k3 pG
    generalize upd G' p _ = G12 at M12
    generalize x11 ++ [V.ref t] = x12 at M12
    clear ap dp mp qp tp na nm nd nt
    -- TooShort
    refine ⟨_, rfl, (show 1 ≤ 1000 by decide), fun a na => ⟨a, [one], rfl, rfl, upd_same, fun dx G k1 k2 k3 => ⟨rfl, ?_⟩⟩⟩
    have kk : Same G12 G := fun b o e => k1 b o (by rw [upd_ne (ne_of_none e na)]; exact e) (ne_of_none e na)
    have ap : a ≠ p := ne_of_none2 na M12.pl
    have dp : dx ≠ p := ne_of k3 (kk _ _ M12.pl) (by intro z; cases z)
    refine ⟨.ref p, rfl, .inl ⟨rfl, _, SqL.of (kk _ _ M12.pl)⟩, _, rfl, _, rfl, a, cs 59, _, _, rfl, .inr ⟨dx, k2, k3⟩, (T.ok 59 (by decide)).F, n59 _ (by decide), rfl, (show 1 ≤ sizeLine by decide), fun m nm => ⟨_, rfl, (show 1 ≤ sizeLine by decide), fun d nd => ⟨(show 3 ≤ sizeLine by decide), fun t nt => ?_⟩⟩⟩
    have s1 : Same G (upd G m (.lst [one])) := same_new nm
    have s2 : Same (upd G m (.lst [one])) (upd (upd G m (.lst [one])) d (.lst [one])) := same_new nd
    have s3 := same_new (o := .tup [.ref a, .ref m, .ref d]) nt
    have s4 : Same G (upd (upd (upd G m (.lst [one])) d (.lst [one])) t (.tup [.ref a, .ref m, .ref d])) := fun b o e => s3 b o (s2 b o (s1 b o e))
    have pG := kk _ _ M12.pl
    have mp : m ≠ p := ne_of_none2 nm pG
    have qp : d ≠ p := ne_of_none2 nd (s1 _ _ pG)
    have tp : t ≠ p := ne_of_none2 nt (s2 _ _ (s1 _ _ pG))
    refine ⟨p, _, _, rfl, rfl, s4 _ _ pG, by rw [M12.len]; decide, ?_⟩
    have e1 : (upd (upd (upd G m (.lst [one])) d (.lst [one])) t (.tup [.ref a, .ref m, .ref d])) m = some (.lst [one]) := s3 _ _ (s2 _ _ upd_same)
    have e2 : (upd (upd (upd G m (.lst [one])) d (.lst [one])) t (.tup [.ref a, .ref m, .ref d])) d = some (.lst [one]) := s3 _ _ upd_same
    have e3 : (upd (upd (upd G m (.lst [one])) d (.lst [one])) t (.tup [.ref a, .ref m, .ref d])) t = some (.tup [.ref a, .ref m, .ref d]) := upd_same
    have e4 := s4 _ _ k2
    have e5 := s4 _ _ k3
    have sG : Same G12 (upd (upd (upd G m (.lst [one])) d (.lst [one])) t (.tup [.ref a, .ref m, .ref d])) := fun b o e => s4 b o (kk b o e)
    generalize upd (upd (upd G m (.lst [one])) d (.lst [one])) t (.tup [.ref a, .ref m, .ref d]) = G' at e1 e2 e3 e4 e5 sG
    have dd : DtAll (del G' p) [one] [d1] := .cons (t1.same fun b o e => del_mono sG b o (M12.sm b o e)) .nil
    have M13 := M12.step sG (j := 59) (by decide) (.inr ⟨dx, by rw [del_ne ap]; exact e4, by rw [del_ne dp]; exact e5⟩) (by rw [del_ne mp]; exact e1) (by rw [del_ne qp]; exact e2) (by rw [del_ne tp]; exact e3) dd dd (fine1 m1)
    clear kk s1 s2 s3 s4 e1 e2 e3 e4 e5 sG dd k1 k2 k3 pG
    generalize upd G' p _ = G13 at M13
    generalize x12 ++ [V.ref t] = x13 at M13
    clear ap dp mp qp tp na nm nd nt
    refine ⟨_, rfl, k p x13 G13 (fun b o e => ?_) np M13.pl (M13.tl.same fun b o e => ?_)⟩
    · have z := M13.sm b o e
      by_cases h : b = p
      · rw [h, np] at e; cases e
      · rw [del_ne h] at z; exact z
    · by_cases h : b = p
      · rw [h, del_same] at e; cases e
      · rw [del_ne h] at e; exact e
end
end Kx
set_option Elab.async false
set_option linter.all false
set_option maxRecDepth 100000
set_option maxHeartbeats 8000000
namespace Kx
open PySem PySem.Spec PyProof.Rows L2 Sx Rp Dw NdefX
theorem lc_flags {K : PySem.W.Frag} {G : Hp} {a p : Addr} {j : Nat} {all : List Nat} {Q : V → Hp → Prop} (al : ∀ i, i < 61 → all[i]? = some i) (ll : all.length = 61) (hj : j < 61) (f : G p = some (.lst (all.map fun i => V.bl (decide (j = i)))))
    (k : ∀ D H', Same G H' → G D = none → H' D = some (.lst [V.int (j : Int)]) → Q (.ref D) H') :
    tLc (iEnum K (tCons (tVar 1) tNil)) (gTup K 2 (gCons (gName 2) (gCons (gName 3) gNil))) (tB (tVar 3)) (tVar 2) [2, 3] [some (.ref a), some (.ref p), none, none] G Q := by
  have sp : SqL K G p (all.map fun i => V.bl (decide (j = i))) := SqL.of f
  refine ⟨_, rfl, p, _, rfl, sp, fun D nD => ?_⟩
  refine ⟨fun i m H' => m = 61 - i ∧ i ≤ 61 ∧ H' D = some (.lst (if j < i then [V.int (j : Int)] else [])) ∧ Same G H', ⟨61, rfl, by decide, upd_same, same_new nD⟩, fun i m H' hW => ?_⟩
  obtain ⟨rfl, hi, hD, hS⟩ := hW
  by_cases c : i < 61
  · refine .inr ⟨⟨_, .bl (decide (j = i)), hS.seq sp, by rw [List.getElem?_map, al i c]; rfl⟩, fun H'' => H'' D = some (.lst (if j < i + 1 then [V.int (j : Int)] else [])) ∧ Same G H'', fun H'' h => ⟨61 - (i + 1), by omega, rfl, by omega, h.1, h.2⟩, fun x H'' hy => ?_⟩
    obtain ⟨T', y, rfl, nT, rfl, hx⟩ := hy
    have hv : all[i]? = some i := al i c
    have e2 : (some (V.bl (decide (j = i))) : Option V) = some y := by rw [← hx _ (hS.seq sp), List.getElem?_map, hv]; rfl
    obtain rfl : V.bl (decide (j = i)) = y := Option.some.inj e2
    have hD' : (upd H' T' (.tup [.int (i : Nat), .bl (decide (j = i))])) D = some (.lst (if j < i then [V.int (j : Int)] else [])) := same_new nT _ _ hD
    have hS' : Same G (upd H' T' (.tup [.int (i : Nat), .bl (decide (j = i))])) := fun b o z => same_new nT b o (hS b o z)
    refine ⟨T', [.int (i : Nat), .bl (decide (j = i))], rfl, SqT.of upd_same, rfl, ?_⟩
    generalize upd H' T' (.tup [.int (i : Nat), .bl (decide (j = i))]) = G' at hD' hS'
    generalize hb : decide (j = i) = bb at hD'
    refine ⟨_, _, rfl, _, _, rfl, rfl, rfl, _, rfl, bb, rfl, ?_⟩
    by_cases e : j = i
    · rw [decide_eq_true e] at hb
      subst hb
      refine ⟨_, rfl, _, hD', ?_, ?_, ?_⟩
      · rw [if_neg (by omega)]; decide
      · rw [if_neg (by omega), if_pos (by omega), e]; exact upd_same
      · exact fun b o z => by
          have nb : b ≠ D := fun z2 => by
            rw [z2, nD] at z; cases z
          rw [upd_ne nb]; exact hS' b o z
    · rw [decide_eq_false e] at hb
      subst hb
      show G' D = _ ∧ _
      refine ⟨?_, hS'⟩
      rw [hD']
      by_cases lt : j < i
      · rw [if_pos lt, if_pos (by omega)]
      · rw [if_neg lt, if_neg (by omega)]
  · refine .inl ⟨⟨_, hS.seq sp, by rw [List.length_map, ll]; omega⟩, ?_⟩
    rw [if_pos (by omega)] at hD
    exact k D H' hS nD hD
def tIs (cs : Nat → Addr) (js : List Nat) : TA := fun σ H Q => ∃ (a : Addr) (j : Nat) (fs : List (Str × V)), σ[0]? = some (some (.ref a)) ∧ j < 61 ∧ KErr H a (cs j) fs ∧ Q (js.map fun i => V.bl (decide (j = i))) H
section
variable {X : Cx} {PE : Addr} {cs : Nat → Addr}
theorem pa_nilI : PA X [] (tIs cs []) := ⟨fun p pins s σ H Q I h => by
  obtain ⟨a, j, fs, _, _, _, q⟩ := h
  exact pa_nil.run p pins s σ H Q I q⟩
theorem pa_i (T : Cls61 X.K X.mg PE cs) (mi : X.mg "isinstance" = none) {i : Nat} {x y : Str} {p p1 p2 pos : Pos} {es : List Expr} {js : List Nat} (hi : i < 61) (hx : errNames.getD i "" = x) (h : PA X es (tIs cs js)) (hN : X.N[0]? = some y := by rfl) (hv : Vis X.env.scope y := by exact Or.inl rfl)
    (hd : (y == ("__debug__" : Str)) = false := by decide) (hc : (y == ("__classdict__" : Str)) = false := by decide) (hgi : Gl X "isinstance" := by rfl) (hg : Gl X x := by rfl) (hdx : (x == ("__debug__" : Str)) = false := by decide)
    (he1 : starEach [Expr.Name y p1, Expr.Name x p2] X.env = (false, eval (.Name y p1) X.env) :: starEach [Expr.Name x p2] X.env := by rfl) (he2 : starEach [Expr.Name x p2] X.env = (false, eval (.Name x p2) X.env) :: starEach [] X.env := by rfl)
    (he : starEach (Expr.Call (.Name "isinstance" p) [.Name y p1, .Name x p2] [] pos :: es) X.env = (false, eval (Expr.Call (.Name "isinstance" p) [.Name y p1, .Name x p2] [] pos) X.env) :: starEach es X.env := by rfl) (hpl : (backTo pos (starEach [Expr.Name x p2] X.env)).any (·.1) = false := by rfl) :
    PA X (.Call (.Name "isinstance" p) [.Name y p1, .Name x p2] [] pos :: es) (tIs cs (i :: js)) := by
  refine ⟨fun p' pins s σ H Q I q => ?_⟩
  obtain ⟨a, j, fs, hs, hj, ke, q⟩ := q
  refine (pa_cons (pe_callB call_isX hgi mi (by decide +kernel) (pa_cons (pe_var (i := 0) hN hv hd hc) (pa_cons (pe_glob (v := .ref (cs i)) hg (by rw [← hx]; exact T.nm i hi) rfl hdx) pa_nil he2) he1) (by decide) (by decide) he1 hpl) h he).run p' pins s σ H Q I ?_
  refine ⟨.ref a, hs, a, cs j, fs, .ref (cs i), .ref (cs i), _, rfl, ke, (T.ok j hj).X, .own (cs i), kit_own (T.ok j hj) (T.ok i hi) (T.np i hi), a, j, fs, hs, hj, ke, ?_⟩
  have e : decide (cs j = cs i) = decide (j = i) := by
    by_cases z : j = i
    · rw [z, decide_eq_true rfl, decide_eq_true rfl]
    · rw [decide_eq_false z, decide_eq_false (T.ne j i hj hi z)]
  rw [e]
  exact q
end
section
variable {P : Program} {w : World} {K : PySem.W.Frag} {mg : Str → Option Value} {base : Heap} {PE : Addr} {cs : Nat → Addr}
abbrev sClasses : Stmt := topS 70
theorem scCl : FnScope ["error", "found", "k", "is_one"] ["error"] (defScope sClasses) := ⟨rfl, rfl, rfl, by decide +kernel, rfl, by decide +kernel, by decide +kernel⟩
def spClasses (cs : Nat → Addr) : Sp := fun vs H Q _ => ∃ (a : Addr) (j : Nat) (fs : List (Str × V)), vs = [.ref a] ∧ j < 61 ∧ KErr H a (cs j) fs ∧ ∀ (p : Addr) (H' : Hp), Same H H' → H p = none → H' p = some (.lst [.int (j : Int)]) → Q (.ref p) H'
theorem ok_classes {f : Addr} {fd : FuncData} (F : Fun K "_law_classes" "_law_classes" sClasses f fd) (T : Cls61 K mg PE cs) (mi : mg "isinstance" = none) (me : mg "enumerate" = none) : FnOk P w K mg base CX0 1 f fd ["error"] (spClasses cs) := by
  refine F.ok scCl (fun vs H Q E h => ?_) (fun cdv A outer s H vs Q E hr h => ?_)
  · obtain ⟨a, j, fs, rfl, _⟩ := h
    rfl
  · obtain ⟨a, j, fs, rfl, hj, ke, k⟩ := h
    refine ⟨_, pss_cons (ps_set (i := 1) scCl.nd rfl (.inl rfl) (pe_lst (pa_i T mi (i := 0) (by decide) rfl (pa_i T mi (i := 1) (by decide) rfl (pa_i T mi (i := 2) (by decide) rfl (pa_i T mi (i := 3) (by decide) rfl (pa_i T mi (i := 4) (by decide) rfl (pa_nilI))))))))
      (pss_cons (ps_set (i := 1) scCl.nd rfl (.inl rfl) (pe_op op_cat (pv 1) (pe_lst (pa_i T mi (i := 5) (by decide) rfl (pa_i T mi (i := 6) (by decide) rfl (pa_i T mi (i := 7) (by decide) rfl (pa_i T mi (i := 8) (by decide) rfl (pa_i T mi (i := 9) (by decide) rfl (pa_nilI)))))))))
      (pss_cons (ps_set (i := 1) scCl.nd rfl (.inl rfl) (pe_op op_cat (pv 1) (pe_lst (pa_i T mi (i := 10) (by decide) rfl (pa_i T mi (i := 11) (by decide) rfl (pa_i T mi (i := 12) (by decide) rfl (pa_i T mi (i := 13) (by decide) rfl (pa_i T mi (i := 14) (by decide) rfl (pa_nilI)))))))))
      (pss_cons (ps_set (i := 1) scCl.nd rfl (.inl rfl) (pe_op op_cat (pv 1) (pe_lst (pa_i T mi (i := 15) (by decide) rfl (pa_i T mi (i := 16) (by decide) rfl (pa_i T mi (i := 17) (by decide) rfl (pa_i T mi (i := 18) (by decide) rfl (pa_i T mi (i := 19) (by decide) rfl (pa_nilI)))))))))
      (pss_cons (ps_set (i := 1) scCl.nd rfl (.inl rfl) (pe_op op_cat (pv 1) (pe_lst (pa_i T mi (i := 20) (by decide) rfl (pa_i T mi (i := 21) (by decide) rfl (pa_i T mi (i := 22) (by decide) rfl (pa_i T mi (i := 23) (by decide) rfl (pa_i T mi (i := 24) (by decide) rfl (pa_nilI)))))))))
      (pss_cons (ps_set (i := 1) scCl.nd rfl (.inl rfl) (pe_op op_cat (pv 1) (pe_lst (pa_i T mi (i := 25) (by decide) rfl (pa_i T mi (i := 26) (by decide) rfl (pa_i T mi (i := 27) (by decide) rfl (pa_i T mi (i := 28) (by decide) rfl (pa_i T mi (i := 29) (by decide) rfl (pa_nilI)))))))))
      (pss_cons (ps_set (i := 1) scCl.nd rfl (.inl rfl) (pe_op op_cat (pv 1) (pe_lst (pa_i T mi (i := 30) (by decide) rfl (pa_i T mi (i := 31) (by decide) rfl (pa_i T mi (i := 32) (by decide) rfl (pa_i T mi (i := 33) (by decide) rfl (pa_i T mi (i := 34) (by decide) rfl (pa_nilI)))))))))
      (pss_cons (ps_set (i := 1) scCl.nd rfl (.inl rfl) (pe_op op_cat (pv 1) (pe_lst (pa_i T mi (i := 35) (by decide) rfl (pa_i T mi (i := 36) (by decide) rfl (pa_i T mi (i := 37) (by decide) rfl (pa_i T mi (i := 38) (by decide) rfl (pa_i T mi (i := 39) (by decide) rfl (pa_nilI)))))))))
      (pss_cons (ps_set (i := 1) scCl.nd rfl (.inl rfl) (pe_op op_cat (pv 1) (pe_lst (pa_i T mi (i := 40) (by decide) rfl (pa_i T mi (i := 41) (by decide) rfl (pa_i T mi (i := 42) (by decide) rfl (pa_i T mi (i := 43) (by decide) rfl (pa_i T mi (i := 44) (by decide) rfl (pa_nilI)))))))))
      (pss_cons (ps_set (i := 1) scCl.nd rfl (.inl rfl) (pe_op op_cat (pv 1) (pe_lst (pa_i T mi (i := 45) (by decide) rfl (pa_i T mi (i := 46) (by decide) rfl (pa_i T mi (i := 47) (by decide) rfl (pa_i T mi (i := 48) (by decide) rfl (pa_i T mi (i := 49) (by decide) rfl (pa_nilI)))))))))
      (pss_cons (ps_set (i := 1) scCl.nd rfl (.inl rfl) (pe_op op_cat (pv 1) (pe_lst (pa_i T mi (i := 50) (by decide) rfl (pa_i T mi (i := 51) (by decide) rfl (pa_i T mi (i := 52) (by decide) rfl (pa_i T mi (i := 53) (by decide) rfl (pa_i T mi (i := 54) (by decide) rfl (pa_nilI)))))))))
      (pss_cons (ps_set (i := 1) scCl.nd rfl (.inl rfl) (pe_op op_cat (pv 1) (pe_lst (pa_i T mi (i := 55) (by decide) rfl (pa_i T mi (i := 56) (by decide) rfl (pa_i T mi (i := 57) (by decide) rfl (pa_i T mi (i := 58) (by decide) rfl (pa_i T mi (i := 59) (by decide) rfl (pa_nilI)))))))))
      (pss_cons (ps_set (i := 1) scCl.nd rfl (.inl rfl) (pe_op op_cat (pv 1) (pe_lst (pa_i T mi (i := 60) (by decide) rfl (pa_nilI)))))
      (pss_one (ps_ret (pe_lc (own := [("k", 2), ("is_one", 3)]) (g := gTup K 2 (gCons (gName 2) (gCons (gName 3) gNil))) (by rfl) scCl.nd (pi_enum (by rfl) me (pa_cons (pv 1) pa_nil)) (blkOk_by (own := [("k", 2), ("is_one", 3)]) (N := ["error", "found", "k", "is_one"]) (sc := defScope sClasses) (by decide +kernel))
          (fun _ _ _ _ _ => pg_tup rfl (pgs_cons (pg_name (i := 2) scCl.nd rfl (Or.inl rfl)) (pgs_cons (pg_name (i := 3) scCl.nd rfl (Or.inl rfl)) pgs_nil))) (fun _ _ _ _ _ => pts_one (pt_val (pv 3))) (fun _ _ _ _ _ => pv 2)))))))))))))))), ?_⟩
    refine ⟨a, j, fs, rfl, hj, ke, by rw [List.length_map]; decide, fun p0 np0 => ?_⟩
    have f0 : (upd H p0 (.lst (([0, 1, 2, 3, 4] : List Nat).map fun i => V.bl (decide (j = i))))) p0 = some (.lst (([0, 1, 2, 3, 4] : List Nat).map fun i => V.bl (decide (j = i)))) := upd_same
    have t0 : Same H (upd H p0 (.lst (([0, 1, 2, 3, 4] : List Nat).map fun i => V.bl (decide (j = i))))) := same_new np0
    have n0 : H p0 = none := np0
    generalize upd H p0 (.lst (([0, 1, 2, 3, 4] : List Nat).map fun i => V.bl (decide (j = i)))) = G0 at f0 t0
    refine ⟨_, rfl, a, j, fs, rfl, hj, ke.same t0, by rw [List.length_map]; decide, fun q1 nq1 => ⟨p0, q1, _, _, rfl, rfl, same_new nq1 _ _ f0, upd_same, by rw [List.length_map, List.length_map]; decide, fun p1 np1 => ?_⟩⟩
    rw [← List.map_append]
    have f1 := upd_same (H := upd G0 q1 (.lst (([5, 6, 7, 8, 9] : List Nat).map fun i => V.bl (decide (j = i))))) (a := p1) (o := .lst ((([0, 1, 2, 3, 4] : List Nat) ++ [5, 6, 7, 8, 9]).map fun i => V.bl (decide (j = i))))
    have t1 : Same H (upd (upd G0 q1 (.lst (([5, 6, 7, 8, 9] : List Nat).map fun i => V.bl (decide (j = i))))) p1 (.lst ((([0, 1, 2, 3, 4] : List Nat) ++ [5, 6, 7, 8, 9]).map fun i => V.bl (decide (j = i))))) := fun b o z => same_new np1 b o (same_new nq1 b o (t0 b o z))
    have n1 : H p1 = none := none_back (fun b o z => same_new nq1 b o (t0 b o z)) np1
    generalize upd (upd G0 q1 (.lst (([5, 6, 7, 8, 9] : List Nat).map fun i => V.bl (decide (j = i))))) p1 (.lst ((([0, 1, 2, 3, 4] : List Nat) ++ [5, 6, 7, 8, 9]).map fun i => V.bl (decide (j = i)))) = G1 at f1 t1
    replace f1 : G1 p1 = some (.lst (([0, 1, 2, 3, 4, 5, 6, 7, 8, 9] : List Nat).map fun i => V.bl (decide (j = i)))) := f1
    clear nq1 np1 f0 t0 n0 np0
    refine ⟨_, rfl, a, j, fs, rfl, hj, ke.same t1, by rw [List.length_map]; decide, fun q2 nq2 => ⟨p1, q2, _, _, rfl, rfl, same_new nq2 _ _ f1, upd_same, by rw [List.length_map, List.length_map]; decide, fun p2 np2 => ?_⟩⟩
    rw [← List.map_append]
    have f2 := upd_same (H := upd G1 q2 (.lst (([10, 11, 12, 13, 14] : List Nat).map fun i => V.bl (decide (j = i))))) (a := p2) (o := .lst ((([0, 1, 2, 3, 4, 5, 6, 7, 8, 9] : List Nat) ++ [10, 11, 12, 13, 14]).map fun i => V.bl (decide (j = i))))
    have t2 : Same H (upd (upd G1 q2 (.lst (([10, 11, 12, 13, 14] : List Nat).map fun i => V.bl (decide (j = i))))) p2 (.lst ((([0, 1, 2, 3, 4, 5, 6, 7, 8, 9] : List Nat) ++ [10, 11, 12, 13, 14]).map fun i => V.bl (decide (j = i))))) := fun b o z => same_new np2 b o (same_new nq2 b o (t1 b o z))
    have n2 : H p2 = none := none_back (fun b o z => same_new nq2 b o (t1 b o z)) np2
    generalize upd (upd G1 q2 (.lst (([10, 11, 12, 13, 14] : List Nat).map fun i => V.bl (decide (j = i))))) p2 (.lst ((([0, 1, 2, 3, 4, 5, 6, 7, 8, 9] : List Nat) ++ [10, 11, 12, 13, 14]).map fun i => V.bl (decide (j = i)))) = G2 at f2 t2
    replace f2 : G2 p2 = some (.lst (([0, 1, 2, 3, 4, 5, 6, 7, 8, 9, 10, 11, 12, 13, 14] : List Nat).map fun i => V.bl (decide (j = i)))) := f2
    clear nq2 np2 f1 t1 n1 
    refine ⟨_, rfl, a, j, fs, rfl, hj, ke.same t2, by rw [List.length_map]; decide, fun q3 nq3 => ⟨p2, q3, _, _, rfl, rfl, same_new nq3 _ _ f2, upd_same, by rw [List.length_map, List.length_map]; decide, fun p3 np3 => ?_⟩⟩
    rw [← List.map_append]
    have f3 := upd_same (H := upd G2 q3 (.lst (([15, 16, 17, 18, 19] : List Nat).map fun i => V.bl (decide (j = i))))) (a := p3) (o := .lst ((([0, 1, 2, 3, 4, 5, 6, 7, 8, 9, 10, 11, 12, 13, 14] : List Nat) ++ [15, 16, 17, 18, 19]).map fun i => V.bl (decide (j = i))))
    have t3 : Same H (upd (upd G2 q3 (.lst (([15, 16, 17, 18, 19] : List Nat).map fun i => V.bl (decide (j = i))))) p3 (.lst ((([0, 1, 2, 3, 4, 5, 6, 7, 8, 9, 10, 11, 12, 13, 14] : List Nat) ++ [15, 16, 17, 18, 19]).map fun i => V.bl (decide (j = i))))) := fun b o z => same_new np3 b o (same_new nq3 b o (t2 b o z))
    have n3 : H p3 = none := none_back (fun b o z => same_new nq3 b o (t2 b o z)) np3
    generalize upd (upd G2 q3 (.lst (([15, 16, 17, 18, 19] : List Nat).map fun i => V.bl (decide (j = i))))) p3 (.lst ((([0, 1, 2, 3, 4, 5, 6, 7, 8, 9, 10, 11, 12, 13, 14] : List Nat) ++ [15, 16, 17, 18, 19]).map fun i => V.bl (decide (j = i)))) = G3 at f3 t3
    replace f3 : G3 p3 = some (.lst (([0, 1, 2, 3, 4, 5, 6, 7, 8, 9, 10, 11, 12, 13, 14, 15, 16, 17, 18, 19] : List Nat).map fun i => V.bl (decide (j = i)))) := f3
    clear nq3 np3 f2 t2 n2 
    refine ⟨_, rfl, a, j, fs, rfl, hj, ke.same t3, by rw [List.length_map]; decide, fun q4 nq4 => ⟨p3, q4, _, _, rfl, rfl, same_new nq4 _ _ f3, upd_same, by rw [List.length_map, List.length_map]; decide, fun p4 np4 => ?_⟩⟩
    rw [← List.map_append]
    have f4 := upd_same (H := upd G3 q4 (.lst (([20, 21, 22, 23, 24] : List Nat).map fun i => V.bl (decide (j = i))))) (a := p4) (o := .lst ((([0, 1, 2, 3, 4, 5, 6, 7, 8, 9, 10, 11, 12, 13, 14, 15, 16, 17, 18, 19] : List Nat) ++ [20, 21, 22, 23, 24]).map fun i => V.bl (decide (j = i))))
    have t4 : Same H (upd (upd G3 q4 (.lst (([20, 21, 22, 23, 24] : List Nat).map fun i => V.bl (decide (j = i))))) p4 (.lst ((([0, 1, 2, 3, 4, 5, 6, 7, 8, 9, 10, 11, 12, 13, 14, 15, 16, 17, 18, 19] : List Nat) ++ [20, 21, 22, 23, 24]).map fun i => V.bl (decide (j = i))))) := fun b o z => same_new np4 b o (same_new nq4 b o (t3 b o z))
    have n4 : H p4 = none := none_back (fun b o z => same_new nq4 b o (t3 b o z)) np4
    generalize upd (upd G3 q4 (.lst (([20, 21, 22, 23, 24] : List Nat).map fun i => V.bl (decide (j = i))))) p4 (.lst ((([0, 1, 2, 3, 4, 5, 6, 7, 8, 9, 10, 11, 12, 13, 14, 15, 16, 17, 18, 19] : List Nat) ++ [20, 21, 22, 23, 24]).map fun i => V.bl (decide (j = i)))) = G4 at f4 t4
    replace f4 : G4 p4 = some (.lst (([0, 1, 2, 3, 4, 5, 6, 7, 8, 9, 10, 11, 12, 13, 14, 15, 16, 17, 18, 19, 20, 21, 22, 23, 24] : List Nat).map fun i => V.bl (decide (j = i)))) := f4
    clear nq4 np4 f3 t3 n3 
    refine ⟨_, rfl, a, j, fs, rfl, hj, ke.same t4, by rw [List.length_map]; decide, fun q5 nq5 => ⟨p4, q5, _, _, rfl, rfl, same_new nq5 _ _ f4, upd_same, by rw [List.length_map, List.length_map]; decide, fun p5 np5 => ?_⟩⟩
    rw [← List.map_append]
    have f5 := upd_same (H := upd G4 q5 (.lst (([25, 26, 27, 28, 29] : List Nat).map fun i => V.bl (decide (j = i))))) (a := p5) (o := .lst ((([0, 1, 2, 3, 4, 5, 6, 7, 8, 9, 10, 11, 12, 13, 14, 15, 16, 17, 18, 19, 20, 21, 22, 23, 24] : List Nat) ++ [25, 26, 27, 28, 29]).map fun i => V.bl (decide (j = i))))
    have t5 : Same H (upd (upd G4 q5 (.lst (([25, 26, 27, 28, 29] : List Nat).map fun i => V.bl (decide (j = i))))) p5 (.lst ((([0, 1, 2, 3, 4, 5, 6, 7, 8, 9, 10, 11, 12, 13, 14, 15, 16, 17, 18, 19, 20, 21, 22, 23, 24] : List Nat) ++ [25, 26, 27, 28, 29]).map fun i => V.bl (decide (j = i))))) := fun b o z => same_new np5 b o (same_new nq5 b o (t4 b o z))
    have n5 : H p5 = none := none_back (fun b o z => same_new nq5 b o (t4 b o z)) np5
    generalize upd (upd G4 q5 (.lst (([25, 26, 27, 28, 29] : List Nat).map fun i => V.bl (decide (j = i))))) p5 (.lst ((([0, 1, 2, 3, 4, 5, 6, 7, 8, 9, 10, 11, 12, 13, 14, 15, 16, 17, 18, 19, 20, 21, 22, 23, 24] : List Nat) ++ [25, 26, 27, 28, 29]).map fun i => V.bl (decide (j = i)))) = G5 at f5 t5
    replace f5 : G5 p5 = some (.lst (([0, 1, 2, 3, 4, 5, 6, 7, 8, 9, 10, 11, 12, 13, 14, 15, 16, 17, 18, 19, 20, 21, 22, 23, 24, 25, 26, 27, 28, 29] : List Nat).map fun i => V.bl (decide (j = i)))) := f5
    clear nq5 np5 f4 t4 n4 
    refine ⟨_, rfl, a, j, fs, rfl, hj, ke.same t5, by rw [List.length_map]; decide, fun q6 nq6 => ⟨p5, q6, _, _, rfl, rfl, same_new nq6 _ _ f5, upd_same, by rw [List.length_map, List.length_map]; decide, fun p6 np6 => ?_⟩⟩
    rw [← List.map_append]
    have f6 := upd_same (H := upd G5 q6 (.lst (([30, 31, 32, 33, 34] : List Nat).map fun i => V.bl (decide (j = i))))) (a := p6) (o := .lst ((([0, 1, 2, 3, 4, 5, 6, 7, 8, 9, 10, 11, 12, 13, 14, 15, 16, 17, 18, 19, 20, 21, 22, 23, 24, 25, 26, 27, 28, 29] : List Nat) ++ [30, 31, 32, 33, 34]).map fun i => V.bl (decide (j = i))))
    have t6 : Same H (upd (upd G5 q6 (.lst (([30, 31, 32, 33, 34] : List Nat).map fun i => V.bl (decide (j = i))))) p6 (.lst ((([0, 1, 2, 3, 4, 5, 6, 7, 8, 9, 10, 11, 12, 13, 14, 15, 16, 17, 18, 19, 20, 21, 22, 23, 24, 25, 26, 27, 28, 29] : List Nat) ++ [30, 31, 32, 33, 34]).map fun i => V.bl (decide (j = i))))) := fun b o z => same_new np6 b o (same_new nq6 b o (t5 b o z))
    have n6 : H p6 = none := none_back (fun b o z => same_new nq6 b o (t5 b o z)) np6
    generalize upd (upd G5 q6 (.lst (([30, 31, 32, 33, 34] : List Nat).map fun i => V.bl (decide (j = i))))) p6 (.lst ((([0, 1, 2, 3, 4, 5, 6, 7, 8, 9, 10, 11, 12, 13, 14, 15, 16, 17, 18, 19, 20, 21, 22, 23, 24, 25, 26, 27, 28, 29] : List Nat) ++ [30, 31, 32, 33, 34]).map fun i => V.bl (decide (j = i)))) = G6 at f6 t6
    replace f6 : G6 p6 = some (.lst (([0, 1, 2, 3, 4, 5, 6, 7, 8, 9, 10, 11, 12, 13, 14, 15, 16, 17, 18, 19, 20, 21, 22, 23, 24, 25, 26, 27, 28, 29, 30, 31, 32, 33, 34] : List Nat).map fun i => V.bl (decide (j = i)))) := f6
    clear nq6 np6 f5 t5 n5 
    refine ⟨_, rfl, a, j, fs, rfl, hj, ke.same t6, by rw [List.length_map]; decide, fun q7 nq7 => ⟨p6, q7, _, _, rfl, rfl, same_new nq7 _ _ f6, upd_same, by rw [List.length_map, List.length_map]; decide, fun p7 np7 => ?_⟩⟩
    rw [← List.map_append]
    have f7 := upd_same (H := upd G6 q7 (.lst (([35, 36, 37, 38, 39] : List Nat).map fun i => V.bl (decide (j = i))))) (a := p7) (o := .lst ((([0, 1, 2, 3, 4, 5, 6, 7, 8, 9, 10, 11, 12, 13, 14, 15, 16, 17, 18, 19, 20, 21, 22, 23, 24, 25, 26, 27, 28, 29, 30, 31, 32, 33, 34] : List Nat) ++ [35, 36, 37, 38, 39]).map fun i => V.bl (decide (j = i))))
    have t7 : Same H (upd (upd G6 q7 (.lst (([35, 36, 37, 38, 39] : List Nat).map fun i => V.bl (decide (j = i))))) p7 (.lst ((([0, 1, 2, 3, 4, 5, 6, 7, 8, 9, 10, 11, 12, 13, 14, 15, 16, 17, 18, 19, 20, 21, 22, 23, 24, 25, 26, 27, 28, 29, 30, 31, 32, 33, 34] : List Nat) ++ [35, 36, 37, 38, 39]).map fun i => V.bl (decide (j = i))))) := fun b o z => same_new np7 b o (same_new nq7 b o (t6 b o z))
    have n7 : H p7 = none := none_back (fun b o z => same_new nq7 b o (t6 b o z)) np7
    generalize upd (upd G6 q7 (.lst (([35, 36, 37, 38, 39] : List Nat).map fun i => V.bl (decide (j = i))))) p7 (.lst ((([0, 1, 2, 3, 4, 5, 6, 7, 8, 9, 10, 11, 12, 13, 14, 15, 16, 17, 18, 19, 20, 21, 22, 23, 24, 25, 26, 27, 28, 29, 30, 31, 32, 33, 34] : List Nat) ++ [35, 36, 37, 38, 39]).map fun i => V.bl (decide (j = i)))) = G7 at f7 t7
    replace f7 : G7 p7 = some (.lst (([0, 1, 2, 3, 4, 5, 6, 7, 8, 9, 10, 11, 12, 13, 14, 15, 16, 17, 18, 19, 20, 21, 22, 23, 24, 25, 26, 27, 28, 29, 30, 31, 32, 33, 34, 35, 36, 37, 38, 39] : List Nat).map fun i => V.bl (decide (j = i)))) := f7
    clear nq7 np7 f6 t6 n6 
    refine ⟨_, rfl, a, j, fs, rfl, hj, ke.same t7, by rw [List.length_map]; decide, fun q8 nq8 => ⟨p7, q8, _, _, rfl, rfl, same_new nq8 _ _ f7, upd_same, by rw [List.length_map, List.length_map]; decide, fun p8 np8 => ?_⟩⟩
    rw [← List.map_append]
    have f8 := upd_same (H := upd G7 q8 (.lst (([40, 41, 42, 43, 44] : List Nat).map fun i => V.bl (decide (j = i))))) (a := p8) (o := .lst ((([0, 1, 2, 3, 4, 5, 6, 7, 8, 9, 10, 11, 12, 13, 14, 15, 16, 17, 18, 19, 20, 21, 22, 23, 24, 25, 26, 27, 28, 29, 30, 31, 32, 33, 34, 35, 36, 37, 38, 39] : List Nat) ++ [40, 41, 42, 43, 44]).map fun i => V.bl (decide (j = i))))
    have t8 : Same H (upd (upd G7 q8 (.lst (([40, 41, 42, 43, 44] : List Nat).map fun i => V.bl (decide (j = i))))) p8 (.lst ((([0, 1, 2, 3, 4, 5, 6, 7, 8, 9, 10, 11, 12, 13, 14, 15, 16, 17, 18, 19, 20, 21, 22, 23, 24, 25, 26, 27, 28, 29, 30, 31, 32, 33, 34, 35, 36, 37, 38, 39] : List Nat) ++ [40, 41, 42, 43, 44]).map fun i => V.bl (decide (j = i))))) := fun b o z => same_new np8 b o (same_new nq8 b o (t7 b o z))
    have n8 : H p8 = none := none_back (fun b o z => same_new nq8 b o (t7 b o z)) np8
    generalize upd (upd G7 q8 (.lst (([40, 41, 42, 43, 44] : List Nat).map fun i => V.bl (decide (j = i))))) p8 (.lst ((([0, 1, 2, 3, 4, 5, 6, 7, 8, 9, 10, 11, 12, 13, 14, 15, 16, 17, 18, 19, 20, 21, 22, 23, 24, 25, 26, 27, 28, 29, 30, 31, 32, 33, 34, 35, 36, 37, 38, 39] : List Nat) ++ [40, 41, 42, 43, 44]).map fun i => V.bl (decide (j = i)))) = G8 at f8 t8
    replace f8 : G8 p8 = some (.lst (([0, 1, 2, 3, 4, 5, 6, 7, 8, 9, 10, 11, 12, 13, 14, 15, 16, 17, 18, 19, 20, 21, 22, 23, 24, 25, 26, 27, 28, 29, 30, 31, 32, 33, 34, 35, 36, 37, 38, 39, 40, 41, 42, 43, 44] : List Nat).map fun i => V.bl (decide (j = i)))) := f8
    clear nq8 np8 f7 t7 n7 
    refine ⟨_, rfl, a, j, fs, rfl, hj, ke.same t8, by rw [List.length_map]; decide, fun q9 nq9 => ⟨p8, q9, _, _, rfl, rfl, same_new nq9 _ _ f8, upd_same, by rw [List.length_map, List.length_map]; decide, fun p9 np9 => ?_⟩⟩
    rw [← List.map_append]
    have f9 := upd_same (H := upd G8 q9 (.lst (([45, 46, 47, 48, 49] : List Nat).map fun i => V.bl (decide (j = i))))) (a := p9) (o := .lst ((([0, 1, 2, 3, 4, 5, 6, 7, 8, 9, 10, 11, 12, 13, 14, 15, 16, 17, 18, 19, 20, 21, 22, 23, 24, 25, 26, 27, 28, 29, 30, 31, 32, 33, 34, 35, 36, 37, 38, 39, 40, 41, 42, 43, 44] : List Nat) ++ [45, 46, 47, 48, 49]).map fun i => V.bl (decide (j = i))))
    have t9 : Same H (upd (upd G8 q9 (.lst (([45, 46, 47, 48, 49] : List Nat).map fun i => V.bl (decide (j = i))))) p9 (.lst ((([0, 1, 2, 3, 4, 5, 6, 7, 8, 9, 10, 11, 12, 13, 14, 15, 16, 17, 18, 19, 20, 21, 22, 23, 24, 25, 26, 27, 28, 29, 30, 31, 32, 33, 34, 35, 36, 37, 38, 39, 40, 41, 42, 43, 44] : List Nat) ++ [45, 46, 47, 48, 49]).map fun i => V.bl (decide (j = i))))) := fun b o z => same_new np9 b o (same_new nq9 b o (t8 b o z))
    have n9 : H p9 = none := none_back (fun b o z => same_new nq9 b o (t8 b o z)) np9
    generalize upd (upd G8 q9 (.lst (([45, 46, 47, 48, 49] : List Nat).map fun i => V.bl (decide (j = i))))) p9 (.lst ((([0, 1, 2, 3, 4, 5, 6, 7, 8, 9, 10, 11, 12, 13, 14, 15, 16, 17, 18, 19, 20, 21, 22, 23, 24, 25, 26, 27, 28, 29, 30, 31, 32, 33, 34, 35, 36, 37, 38, 39, 40, 41, 42, 43, 44] : List Nat) ++ [45, 46, 47, 48, 49]).map fun i => V.bl (decide (j = i)))) = G9 at f9 t9
    replace f9 : G9 p9 = some (.lst (([0, 1, 2, 3, 4, 5, 6, 7, 8, 9, 10, 11, 12, 13, 14, 15, 16, 17, 18, 19, 20, 21, 22, 23, 24, 25, 26, 27, 28, 29, 30, 31, 32, 33, 34, 35, 36, 37, 38, 39, 40, 41, 42, 43, 44, 45, 46, 47, 48, 49] : List Nat).map fun i => V.bl (decide (j = i)))) := f9
    clear nq9 np9 f8 t8 n8 
    refine ⟨_, rfl, a, j, fs, rfl, hj, ke.same t9, by rw [List.length_map]; decide, fun q10 nq10 => ⟨p9, q10, _, _, rfl, rfl, same_new nq10 _ _ f9, upd_same, by rw [List.length_map, List.length_map]; decide, fun p10 np10 => ?_⟩⟩
    rw [← List.map_append]
    have f10 := upd_same (H := upd G9 q10 (.lst (([50, 51, 52, 53, 54] : List Nat).map fun i => V.bl (decide (j = i))))) (a := p10) (o := .lst ((([0, 1, 2, 3, 4, 5, 6, 7, 8, 9, 10, 11, 12, 13, 14, 15, 16, 17, 18, 19, 20, 21, 22, 23, 24, 25, 26, 27, 28, 29, 30, 31, 32, 33, 34, 35, 36, 37, 38, 39, 40, 41, 42, 43, 44, 45, 46, 47, 48, 49] : List Nat) ++ [50, 51, 52, 53, 54]).map fun i => V.bl (decide (j = i))))
    have t10 : Same H (upd (upd G9 q10 (.lst (([50, 51, 52, 53, 54] : List Nat).map fun i => V.bl (decide (j = i))))) p10 (.lst ((([0, 1, 2, 3, 4, 5, 6, 7, 8, 9, 10, 11, 12, 13, 14, 15, 16, 17, 18, 19, 20, 21, 22, 23, 24, 25, 26, 27, 28, 29, 30, 31, 32, 33, 34, 35, 36, 37, 38, 39, 40, 41, 42, 43, 44, 45, 46, 47, 48, 49] : List Nat) ++ [50, 51, 52, 53, 54]).map fun i => V.bl (decide (j = i))))) := fun b o z => same_new np10 b o (same_new nq10 b o (t9 b o z))
    have n10 : H p10 = none := none_back (fun b o z => same_new nq10 b o (t9 b o z)) np10
    generalize upd (upd G9 q10 (.lst (([50, 51, 52, 53, 54] : List Nat).map fun i => V.bl (decide (j = i))))) p10 (.lst ((([0, 1, 2, 3, 4, 5, 6, 7, 8, 9, 10, 11, 12, 13, 14, 15, 16, 17, 18, 19, 20, 21, 22, 23, 24, 25, 26, 27, 28, 29, 30, 31, 32, 33, 34, 35, 36, 37, 38, 39, 40, 41, 42, 43, 44, 45, 46, 47, 48, 49] : List Nat) ++ [50, 51, 52, 53, 54]).map fun i => V.bl (decide (j = i)))) = G10 at f10 t10
    replace f10 : G10 p10 = some (.lst (([0, 1, 2, 3, 4, 5, 6, 7, 8, 9, 10, 11, 12, 13, 14, 15, 16, 17, 18, 19, 20, 21, 22, 23, 24, 25, 26, 27, 28, 29, 30, 31, 32, 33, 34, 35, 36, 37, 38, 39, 40, 41, 42, 43, 44, 45, 46, 47, 48, 49, 50, 51, 52, 53, 54] : List Nat).map fun i => V.bl (decide (j = i)))) := f10
    clear nq10 np10 f9 t9 n9 
    refine ⟨_, rfl, a, j, fs, rfl, hj, ke.same t10, by rw [List.length_map]; decide, fun q11 nq11 => ⟨p10, q11, _, _, rfl, rfl, same_new nq11 _ _ f10, upd_same, by rw [List.length_map, List.length_map]; decide, fun p11 np11 => ?_⟩⟩
    rw [← List.map_append]
    have f11 := upd_same (H := upd G10 q11 (.lst (([55, 56, 57, 58, 59] : List Nat).map fun i => V.bl (decide (j = i))))) (a := p11) (o := .lst ((([0, 1, 2, 3, 4, 5, 6, 7, 8, 9, 10, 11, 12, 13, 14, 15, 16, 17, 18, 19, 20, 21, 22, 23, 24, 25, 26, 27, 28, 29, 30, 31, 32, 33, 34, 35, 36, 37, 38, 39, 40, 41, 42, 43, 44, 45, 46, 47, 48, 49, 50, 51, 52, 53, 54] : List Nat) ++ [55, 56, 57, 58, 59]).map fun i => V.bl (decide (j = i))))
    have t11 : Same H (upd (upd G10 q11 (.lst (([55, 56, 57, 58, 59] : List Nat).map fun i => V.bl (decide (j = i))))) p11 (.lst ((([0, 1, 2, 3, 4, 5, 6, 7, 8, 9, 10, 11, 12, 13, 14, 15, 16, 17, 18, 19, 20, 21, 22, 23, 24, 25, 26, 27, 28, 29, 30, 31, 32, 33, 34, 35, 36, 37, 38, 39, 40, 41, 42, 43, 44, 45, 46, 47, 48, 49, 50, 51, 52, 53, 54] : List Nat) ++ [55, 56, 57, 58, 59]).map fun i => V.bl (decide (j = i))))) := fun b o z => same_new np11 b o (same_new nq11 b o (t10 b o z))
    have n11 : H p11 = none := none_back (fun b o z => same_new nq11 b o (t10 b o z)) np11
    generalize upd (upd G10 q11 (.lst (([55, 56, 57, 58, 59] : List Nat).map fun i => V.bl (decide (j = i))))) p11 (.lst ((([0, 1, 2, 3, 4, 5, 6, 7, 8, 9, 10, 11, 12, 13, 14, 15, 16, 17, 18, 19, 20, 21, 22, 23, 24, 25, 26, 27, 28, 29, 30, 31, 32, 33, 34, 35, 36, 37, 38, 39, 40, 41, 42, 43, 44, 45, 46, 47, 48, 49, 50, 51, 52, 53, 54] : List Nat) ++ [55, 56, 57, 58, 59]).map fun i => V.bl (decide (j = i)))) = G11 at f11 t11
    replace f11 : G11 p11 = some (.lst (([0, 1, 2, 3, 4, 5, 6, 7, 8, 9, 10, 11, 12, 13, 14, 15, 16, 17, 18, 19, 20, 21, 22, 23, 24, 25, 26, 27, 28, 29, 30, 31, 32, 33, 34, 35, 36, 37, 38, 39, 40, 41, 42, 43, 44, 45, 46, 47, 48, 49, 50, 51, 52, 53, 54, 55, 56, 57, 58, 59] : List Nat).map fun i => V.bl (decide (j = i)))) := f11
    clear nq11 np11 f10 t10 n10 
    refine ⟨_, rfl, a, j, fs, rfl, hj, ke.same t11, by rw [List.length_map]; decide, fun q12 nq12 => ⟨p11, q12, _, _, rfl, rfl, same_new nq12 _ _ f11, upd_same, by rw [List.length_map, List.length_map]; decide, fun p12 np12 => ?_⟩⟩
    rw [← List.map_append]
    have f12 := upd_same (H := upd G11 q12 (.lst (([60] : List Nat).map fun i => V.bl (decide (j = i))))) (a := p12) (o := .lst ((([0, 1, 2, 3, 4, 5, 6, 7, 8, 9, 10, 11, 12, 13, 14, 15, 16, 17, 18, 19, 20, 21, 22, 23, 24, 25, 26, 27, 28, 29, 30, 31, 32, 33, 34, 35, 36, 37, 38, 39, 40, 41, 42, 43, 44, 45, 46, 47, 48, 49, 50, 51, 52, 53, 54, 55, 56, 57, 58, 59] : List Nat) ++ [60]).map fun i => V.bl (decide (j = i))))
    have t12 : Same H (upd (upd G11 q12 (.lst (([60] : List Nat).map fun i => V.bl (decide (j = i))))) p12 (.lst ((([0, 1, 2, 3, 4, 5, 6, 7, 8, 9, 10, 11, 12, 13, 14, 15, 16, 17, 18, 19, 20, 21, 22, 23, 24, 25, 26, 27, 28, 29, 30, 31, 32, 33, 34, 35, 36, 37, 38, 39, 40, 41, 42, 43, 44, 45, 46, 47, 48, 49, 50, 51, 52, 53, 54, 55, 56, 57, 58, 59] : List Nat) ++ [60]).map fun i => V.bl (decide (j = i))))) := fun b o z => same_new np12 b o (same_new nq12 b o (t11 b o z))
    have n12 : H p12 = none := none_back (fun b o z => same_new nq12 b o (t11 b o z)) np12
    generalize upd (upd G11 q12 (.lst (([60] : List Nat).map fun i => V.bl (decide (j = i))))) p12 (.lst ((([0, 1, 2, 3, 4, 5, 6, 7, 8, 9, 10, 11, 12, 13, 14, 15, 16, 17, 18, 19, 20, 21, 22, 23, 24, 25, 26, 27, 28, 29, 30, 31, 32, 33, 34, 35, 36, 37, 38, 39, 40, 41, 42, 43, 44, 45, 46, 47, 48, 49, 50, 51, 52, 53, 54, 55, 56, 57, 58, 59] : List Nat) ++ [60]).map fun i => V.bl (decide (j = i)))) = G12 at f12 t12
    replace f12 : G12 p12 = some (.lst (([0, 1, 2, 3, 4, 5, 6, 7, 8, 9, 10, 11, 12, 13, 14, 15, 16, 17, 18, 19, 20, 21, 22, 23, 24, 25, 26, 27, 28, 29, 30, 31, 32, 33, 34, 35, 36, 37, 38, 39, 40, 41, 42, 43, 44, 45, 46, 47, 48, 49, 50, 51, 52, 53, 54, 55, 56, 57, 58, 59, 60] : List Nat).map fun i => V.bl (decide (j = i)))) := f12
    clear nq12 np12 f11 t11 n11 
    have al : ∀ i, i < 61 → ([0, 1, 2, 3, 4, 5, 6, 7, 8, 9, 10, 11, 12, 13, 14, 15, 16, 17, 18, 19, 20, 21, 22, 23, 24, 25, 26, 27, 28, 29, 30, 31, 32, 33, 34, 35, 36, 37, 38, 39, 40, 41, 42, 43, 44, 45, 46, 47, 48, 49, 50, 51, 52, 53, 54, 55, 56, 57, 58, 59, 60] : List Nat)[i]? = some i := by decide
    have ll : ([0, 1, 2, 3, 4, 5, 6, 7, 8, 9, 10, 11, 12, 13, 14, 15, 16, 17, 18, 19, 20, 21, 22, 23, 24, 25, 26, 27, 28, 29, 30, 31, 32, 33, 34, 35, 36, 37, 38, 39, 40, 41, 42, 43, 44, 45, 46, 47, 48, 49, 50, 51, 52, 53, 54, 55, 56, 57, 58, 59, 60] : List Nat).length = 61 := by decide
    generalize ([0, 1, 2, 3, 4, 5, 6, 7, 8, 9, 10, 11, 12, 13, 14, 15, 16, 17, 18, 19, 20, 21, 22, 23, 24, 25, 26, 27, 28, 29, 30, 31, 32, 33, 34, 35, 36, 37, 38, 39, 40, 41, 42, 43, 44, 45, 46, 47, 48, 49, 50, 51, 52, 53, 54, 55, 56, 57, 58, 59, 60] : List Nat) = all at f12 al ll
    exact lc_flags al ll hj f12 fun D H' s n h => k D H' (fun b o z => s b o (t12 b o z)) (none_back t12 n) h
end
end Kx
set_option Elab.async false
set_option linter.all false
set_option maxRecDepth 100000
set_option maxHeartbeats 2000000
namespace Kx
open PySem PySem.Spec PyProof.Rows L2 Sx Rp Dw NdefX
def rLn (K : PySem.W.Frag) : List V → Hp → VK → Prop := fun xs H Q => ∃ p ys, xs = [V.ref p] ∧ (SqL K H p ys ∨ SqT K H p ys) ∧ Q (.int ys.length) H
def someV (t l p : Addr) : List V := [.non, .int 0, .int (-7), .str "x", .str "", .ref t, .ref l, .ref p, .bl true, .int (10 ^ 20)]
theorem some_data {G : Hp} {t l p : Addr} (ht : G t = some (.tup [.int 1, .int 2])) (hl : G l = some (.lst [.int 3])) (hp : G p = some (.dK [((Sum.inr ("a" : Str) : Key), .int 4)])) {i : Nat} {y : V} (h : (someV t l p)[i]? = some y) : ∃ d, d ∈ tenD ∧ Dt G y d := by
  have m := List.mem_of_getElem? h
  simp only [someV, List.mem_cons, List.not_mem_nil, or_false] at m
  rcases m with rfl | rfl | rfl | rfl | rfl | rfl | rfl | rfl | rfl | rfl
  · exact ⟨_, by simp [tenD], .non⟩
  · exact ⟨.int 0, by simp [tenD], .int 0⟩
  · exact ⟨.int (-7), by simp [tenD], .int _⟩
  · exact ⟨.str "x", by simp [tenD], .str _⟩
  · exact ⟨.str "", by simp [tenD], .str _⟩
  · exact ⟨.tuple [.int 1, .int 2], by simp [tenD], .tup ht (.cons (.int 1) (.cons (.int 2) .nil))⟩
  · exact ⟨.list [.int 3], by simp [tenD], .lst hl (.cons (.int 3) .nil)⟩
  · exact ⟨.dict [(.str "a", .int 4)], by simp [tenD], .one hp (.int 4)⟩
  · exact ⟨.bool true, by simp [tenD], .bl true⟩
  · exact ⟨.int (10 ^ 20), by simp [tenD], .int _⟩
theorem Dr.same {H H' : Hp} {d wp cp : Addr} {n : Nat} (s : Same H H') (D : Dr H d wp cp n) : Dr H' d wp cp n := by
  obtain ⟨ws, cs, r, t, h, b⟩ := D
  exact ⟨ws, cs, r, t, ⟨s _ _ h.dc, s _ _ h.wl, s _ _ h.cl, h.cb, h.cn, h.wn, h.t0, h.nwc⟩, b⟩
theorem Dr.at {H : Hp} {d wp cp : Addr} {n : Nat} (D : Dr H d wp cp n) : (∃ o, H d = some o) ∧ ∃ o, H wp = some o := by
  obtain ⟨ws, cs, r, t, h, b⟩ := D
  exact ⟨⟨_, h.dc⟩, ⟨_, h.wl⟩⟩
/-- all but the draw's dict and its wide list -/
def rest2 (G : Hp) (d wp : Addr) : Hp := del (del G d) wp
theorem rest2_at {G : Hp} {d wp b : Addr} {o : HO} (h : G b = some o) (h1 : b ≠ d) (h2 : b ≠ wp) : rest2 G d wp b = some o := by
  unfold rest2
  rw [del_ne h2, del_ne h1]
  exact h
theorem rest2_of {G : Hp} {d wp b : Addr} {o : HO} (h : rest2 G d wp b = some o) : G b = some o ∧ b ≠ d ∧ b ≠ wp := by
  unfold rest2 at h
  by_cases h2 : b = wp
  · rw [h2, del_same] at h; cases h
  · rw [del_ne h2] at h
    by_cases h1 : b = d
    · rw [h1, del_same] at h; cases h
    · rw [del_ne h1] at h
      exact ⟨h, h1, h2⟩
theorem rest2_but {G G' : Hp} {d wp : Addr} (B : But d wp G G') : Same (rest2 G d wp) (rest2 G' d wp) := fun b o e => by
  obtain ⟨h, h1, h2⟩ := rest2_of e
  exact rest2_at (B b o h h1 h2) h1 h2
theorem rest2_le {G : Hp} {d wp : Addr} : Same (rest2 G d wp) G := fun b o e => (rest2_of e).1
/-- one int each, in lists of their own -/
def Ones (H : Hp) (xs : List V) (js : List Nat) : Prop := Paired (fun (v : V) (j : Nat) => ∃ q : Addr, v = .ref q ∧ H q = some (.lst [.int (j : Int)])) xs js
theorem Ones.same {H H' : Hp} (s : Same H H') : ∀ {xs : List V} {js : List Nat}, Ones H xs js → Ones H' xs js
  | _, _, .nil => .nil
  | _, _, .cons ⟨q, h1, h2⟩ t => .cons ⟨q, h1, s _ _ h2⟩ (Ones.same s t)
theorem Ones.snoc {H : Hp} {v : V} {j : Nat} (h : ∃ q, v = .ref q ∧ H q = some (.lst [.int (j : Int)])) : ∀ {xs : List V} {js : List Nat}, Ones H xs js → Ones H (xs ++ [v]) (js ++ [j])
  | _, _, .nil => .cons h .nil
  | _, _, .cons h' t => .cons h' (Ones.snoc h t)
theorem ErrsAt.snoc {cs : Nat → Addr} {H : Hp} {v : V} {j : Nat} (h : j < 61 ∧ ∃ a fs, v = .ref a ∧ KErr H a (cs j) fs) : ∀ {xs : List V} {js : List Nat}, ErrsAt cs H xs js → ErrsAt cs H (xs ++ [v]) (js ++ [j])
  | _, _, .nil => .cons h .nil
  | _, _, .cons h' t => .cons h' (ErrsAt.snoc h t)
/-- at the same place -/
theorem pair_get {α β : Type} {F : α → β → Prop} : ∀ {xs : List α} {ys : List β} {i : Nat} {x : α}, Paired F xs ys → xs[i]? = some x → ∃ y, ys[i]? = some y ∧ F x y
  | _, _, i, x, .nil, h => by simp at h
  | _, _, 0, x, .cons h t, e => by
    simp at e
    subst e
    exact ⟨_, rfl, h⟩
  | _, _, i + 1, x, .cons h t, e => by
    obtain ⟨y, h1, h2⟩ := pair_get t (show _ from by simpa using e)
    exact ⟨y, by simpa using h1, h2⟩
theorem take_get {α : Type} {ys : List α} {i : Nat} {y : α} (h : ys[i]? = some y) : ys.take (i + 1) = ys.take i ++ [y] := by
  rw [List.take_add_one, h]; rfl
section
variable {K : PySem.W.Frag} {cs : Nat → Addr} {G : Hp} {p : Addr} {xs : List V} {js : List Nat} {Q : V → Hp → Prop} {v0 v1 v2 v3 v4 v5 v6 v7 v8 v9 v10 v11 v12 : Option V}
theorem read_first (hp : G p = some (.lst xs)) (tl : Told cs G xs js) (hl : js.length ≤ 100) (k : ∀ D ys, G D = none → ErrsAt cs (upd G D (.lst ys)) ys js → Q (.ref D) (upd G D (.lst ys))) :
    tLc (iList K (tVar 5)) (gName 11) tYes (tOp (rIxT K) (tVar 11) (tC (V.int 0))) [11] [v0, v1, v2, v3, v4, some (.ref p), v6, v7, v8, v9, v10, v11, v12] G Q := by
  have len : xs.length = js.length := Paired.length tl
  refine ⟨_, rfl, p, rfl, ⟨_, SqL.of hp⟩, fun D nD => ?_⟩
  have sm : ∀ {o : HO}, Same G (upd G D o) := fun {o} => same_new nD
  refine lc_list (K := K) (a := p) (xs := xs) (fun i H' => ∃ acc : List V, H' = upd G D (.lst acc) ∧ acc.length = i ∧ ErrsAt cs G acc (js.take i)) ⟨[], rfl, rfl, .nil⟩ (fun i H' _ h => ?_) (fun i x H' hx h => ?_) (fun H' h => ?_)
  · obtain ⟨acc, rfl, _⟩ := h
    exact sm.seq (SqL.of hp)
  · obtain ⟨acc, rfl, al, ea⟩ := h
    have hi : i < xs.length := (List.getElem?_eq_some_iff.mp hx).1
    obtain ⟨j, hj, en⟩ := pair_get tl hx
    obtain ⟨t, e, m, d, fs, w1, w2, ds, rfl, ht, he, _⟩ := en.at_
    refine ⟨rfl, .ref t, rfl, t, [.ref e, .ref m, .ref d], 0, .ref e, rfl, rfl, SqT.of (sm _ _ ht), rfl, acc, upd_same, by rw [al, sizeLine_eq]; omega, acc ++ [.ref e], ?_, by rw [List.length_append, al]; rfl, ?_⟩
    · rw [upd_upd_same]
    · rw [take_get hj]
      exact ea.snoc ⟨en.lt, e, fs, rfl, he⟩
  · obtain ⟨acc, rfl, al, ea⟩ := h
    rw [len, List.take_length] at ea
    exact k D acc nD (ea.same sm)
theorem read_classes (hp : G p = some (.lst xs)) (el : ErrsAt cs G xs js) (hl : js.length ≤ 100) (k : ∀ D ys G', G D = none → Same G G' → G' D = some (.lst ys) → Ones G' ys js → Q (.ref D) G') :
    tLc (iList K (tVar 6)) (gName 8) tYes (tCall (spClasses cs) [] E0 (tCons (tVar 8) tNil)) [8] [v0, v1, v2, v3, v4, v5, some (.ref p), v7, v8, v9, v10, v11, v12] G Q := by
  have len : xs.length = js.length := Paired.length el
  refine ⟨_, rfl, p, rfl, ⟨_, SqL.of hp⟩, fun D nD => ?_⟩
  refine lc_list (K := K) (a := p) (xs := xs) (fun i H' => ∃ acc : List V, H' D = some (.lst acc) ∧ acc.length = i ∧ Same G H' ∧ Ones (del H' D) acc (js.take i)) ⟨[], upd_same, rfl, same_new nD, .nil⟩ (fun i H' _ h => ?_) (fun i x H' hx h => ?_) (fun H' h => ?_)
  · obtain ⟨acc, _, _, sm, _⟩ := h
    exact sm.seq (SqL.of hp)
  · obtain ⟨acc, hD, al, sm, on⟩ := h
    have hi : i < xs.length := (List.getElem?_eq_some_iff.mp hx).1
    obtain ⟨j, hj, lt, e, fs, rfl, ke⟩ := pair_get el hx
    refine ⟨rfl, .ref e, rfl, e, j, fs, rfl, lt, ke.same sm, fun q H2 s2 nq hq => ⟨acc, s2 _ _ hD, by rw [al, sizeLine_eq]; omega, acc ++ [.ref q], upd_same, by rw [List.length_append, al]; rfl, fun b o z => ?_, ?_⟩⟩
    · have nb : b ≠ D := fun z2 => by rw [z2, nD] at z; cases z
      rw [upd_ne nb]
      exact s2 b o (sm b o z)
    · rw [del_upd, take_get hj]
      have nqD : q ≠ D := ne_of_none2 nq hD
      exact (on.same (del_mono s2)).snoc ⟨q, rfl, by rw [del_ne nqD]; exact hq⟩
  · obtain ⟨acc, hD, al, sm, on⟩ := h
    rw [len, List.take_length] at on
    refine k D acc H' nD sm hD (on.same fun b o z => ?_)
    by_cases e : b = D
    · rw [e, del_same] at z; cases z
    · rw [del_ne e] at z; exact z
theorem read_heads (hp : G p = some (.lst xs)) (on : Ones G xs js) (hl : js.length ≤ 100) (k : ∀ D, G D = none → Q (.ref D) (upd G D (.lst ((js.map fun j : Nat => (j : Int)).map V.int)))) :
    tLc (iList K (tVar 7)) (gName 12) tYes (tOp (rIxL K) (tVar 12) (tC (V.int 0))) [12] [v0, v1, v2, v3, v4, v5, v6, some (.ref p), v8, v9, v10, v11, v12] G Q := by
  have len : xs.length = js.length := Paired.length on
  refine ⟨_, rfl, p, rfl, ⟨_, SqL.of hp⟩, fun D nD => ?_⟩
  have sm : ∀ {o : HO}, Same G (upd G D o) := fun {o} => same_new nD
  refine lc_list (K := K) (a := p) (xs := xs) (fun i H' => H' = upd G D (.lst (((js.take i).map fun j : Nat => (j : Int)).map V.int)) ∧ i ≤ js.length) ⟨rfl, Nat.zero_le _⟩ (fun i H' _ h => ?_) (fun i x H' hx h => ?_) (fun H' h => ?_)
  · rw [h.1]
    exact sm.seq (SqL.of hp)
  · obtain ⟨rfl, hi⟩ := h
    have hi : i < xs.length := (List.getElem?_eq_some_iff.mp hx).1
    obtain ⟨j, hj, q, rfl, hq⟩ := pair_get on hx
    refine ⟨rfl, .ref q, rfl, q, [.int (j : Int)], 0, .int j, rfl, rfl, SqL.of (sm _ _ hq), rfl, _, upd_same, by rw [List.length_map, List.length_map, List.length_take, sizeLine_eq]; omega, ?_, by omega⟩
    rw [upd_upd_same, take_get hj, List.map_append, List.map_append]
    rfl
  · obtain ⟨rfl, hi⟩ := h
    rw [len, List.take_length]
    exact k D nD
theorem read_lens (hp : G p = some (.lst xs)) (on : Ones G xs js) (k : ∀ D, G D = none → Q (.ref D) (upd G D (.lst []))) :
    tLc (iList K (tVar 7)) (gName 12) (tTest (tOp rNe (tCB (rLn K) (tCons (tVar 12) tNil)) (tC (V.int 1)))) (tC (V.int 1)) [12] [v0, v1, v2, v3, v4, v5, v6, some (.ref p), v8, v9, v10, v11, v12] G Q := by
  refine ⟨_, rfl, p, rfl, ⟨_, SqL.of hp⟩, fun D nD => ?_⟩
  have sm : ∀ {o : HO}, Same G (upd G D o) := fun {o} => same_new nD
  refine lc_list (K := K) (a := p) (xs := xs) (fun i H' => H' = upd G D (.lst [])) rfl (fun i H' _ h => ?_) (fun i x H' hx h => ?_) (fun H' h => ?_)
  · rw [h]
    exact sm.seq (SqL.of hp)
  · subst h
    obtain ⟨j, hj, q, rfl, hq⟩ := pair_get on hx
    refine ⟨rfl, .ref q, rfl, q, [.int (j : Int)], rfl, .inl (SqL.of (sm _ _ hq)), rfl, _, rfl, ?_⟩
    exact iteF' (show (!decide (V.int ((1 : Nat) : Int) = V.int 1)) = false by decide) rfl
  · subst h
    exact k D nD
end
end Kx
set_option Elab.async false
set_option linter.all false
set_option maxRecDepth 100000
set_option maxHeartbeats 2000000
namespace Kx
open PySem PySem.Spec PyProof.Rows L2 Sx Rp Dw NdefX
section
variable {P : Program} {w : World} {K : PySem.W.Frag} {mg : Str → Option Value} {base : Heap} {PE : Addr} {cs : Nat → Addr}
abbrev sLaw : Stmt := topS 71
abbrev NL : List Str := ["script", "draw", "some", "one", "other", "told", "errors_here", "classes", "error", "mine", "due", "entry", "found"]
theorem scLaw : FnScope NL ["script"] (defScope sLaw) := ⟨rfl, rfl, rfl, by decide +kernel, rfl, by decide +kernel, by decide +kernel⟩
/-- a def of the top that keeps its promise -/
structure DefOk (P : Program) (w : World) (K : PySem.W.Frag) (mg : Str → Option Value) (base : Heap) (x : Str) (k : Nat) (ps : List Str) (sp : Sp) : Prop where
  ex : ∃ f fd, mg x = some (.ref f) ∧ PySem.W.keepIn K (.ref f) = true ∧ FnOk P w K mg base CX0 k f fd ps sp ∧ Binds K fd ps []
theorem kit_pe (T : Cls61 K mg PE cs) {j : Nat} (lt : j < 61) : PySem.W.kitOne K (.ref (cs j)) (.ref PE) = some true := by
  unfold PySem.W.kitOne
  rw [if_neg (fun z => T.np j lt (Value.ref.inj (beq_iff_eq.mp z)))]
  show (if ((PySem.W.clsIn K PE).isSome && PySem.W.typeIn K (.ref PE) == some (.type "type")) = true then PySem.W.subIn K (.ref (cs j)) (.ref PE) else none) = _
  rw [if_pos (by rw [T.pc, T.pt]; rfl)]
  show PySem.W.mroIn K (cs j) (.ref PE) = _
  rw [(T.ok j lt).mro]
  exact congrArg some (by simp [tailOf, List.contains_cons])
theorem kit_ve (T : Cls61 K mg PE cs) {j : Nat} (lt : j < 61) : PySem.W.kitOne K (.ref (cs j)) (.type "ValueError") = some true := by
  unfold PySem.W.kitOne
  rw [if_neg (fun z => by cases (beq_iff_eq.mp z))]
  show (if PySem.W.kitMeta "ValueError" = true then PySem.W.subIn K (.ref (cs j)) (.type "ValueError") else none) = _
  rw [if_pos (by decide +kernel)]
  show PySem.W.mroIn K (cs j) (.type "ValueError") = _
  rw [(T.ok j lt).mro]
  exact congrArg some (by simp [tailOf, List.contains_cons, PySem.HandSPX.veTail])
theorem law_run {fa : Addr} {fd : FuncData} (F : Fun K "law" "law" sLaw fa fd) (hbf : ∀ (s : Shared) (u : Value), BindsTo s fd ⟨[u], []⟩ [(("script" : Str), u)]) (T : Cls61 K mg PE cs) (hs : ∃ mm, base.Ns sysModules mm)
    (B : DefOk P w K mg base "_law_begun" 1 ["script"] (spBegun K)) (Pk : DefOk P w K mg base "_law_pick" 3 ["draw", "some"] spPick) (To : DefOk P w K mg base "_law_told_errors" 3 ["one", "other"] (spTold cs)) (Pl : DefOk P w K mg base "_law_plain_errors" 1 [] (spPlain cs)) (Cl : DefOk P w K mg base "_law_classes" 1 ["error"] (spClasses cs))
    (ml : mg "len" = none) (mset : mg "set" = none) (mr : mg "repr" = none) (mi : mg "isinstance" = none) (mv : mg "ValueError" = none) {s : Shared} {H : Hp} {a : Addr} {ns : List Int}
    (e0 : Env0 P w K mg base callerA [] s H) (hS : SqL K H a (ns.map V.int)) (hn : ns.length ≤ 63) : codeAny (model P w) callerA (.call (.ref fa) ⟨[.ref a], []⟩) (CR CX0 [] P w H s (fun v _ => v = .bl true) E0) s := by
  obtain ⟨f1, g1, m1, k1, o1, b1⟩ := B
  obtain ⟨f2, g2, m2, k2, o2, b2⟩ := Pk
  obtain ⟨f3, g3, m3, k3, o3, b3⟩ := To
  obtain ⟨f4, g4, m4, k4, o4, b4⟩ := Pl
  obtain ⟨f5, g5, m5, k5, o5, b5⟩ := Cl
  obtain ⟨oc, od, kV, doc, pm, an, cdv, ct, osl, rfl, lk, hcd⟩ := F.ex
  have rm : ∀ env, Room 20 (callerA.deeper env) := fun env => ⟨rfl, by show callerA.depth + 1 + 3 * 20 + 5 < recursionLimit; decide, by show callerA.units + 3 + 16 * 20 + 200 < cLine; decide⟩
  refine Lw.run_at (k := 20) (CX := CX0) (N := NL) (ps := ["script"]) (us := [.ref a]) (vs := [.ref a]) lk hcd scLaw ⟨rfl, by decide, by decide⟩ e0 (hbf s (.ref a)) (.cons rfl .nil) rfl
    (PSs.nox (pss_cons (ps_set (i := 1) scLaw.nd rfl (.inl rfl) (pe_call o1 ((rm _).mono (by decide)) rfl m1 k1 b1 .nil pass0 (pa_cons (pv 0) pa_nil)))
    (pss_cons (ps_set (i := 2) scLaw.nd rfl (.inl rfl) (pe_lst (pa_cons pe_non (pa_cons pe_int (pa_cons (pe_un un_neg pe_int) (pa_cons pe_str (pa_cons pe_str (pa_cons (pe_tup (pa_cons pe_int (pa_cons pe_int pa_nil))) (pa_cons (pe_lst (pa_cons pe_int pa_nil)) (pa_cons (pe_disp (pps_cons pe_str pe_int pps_nil) (by rfl) (by rfl) (fun z => by cases z) (by decide)) (pa_cons pe_bl (pa_cons (pe_op op_pow pe_int pe_int) pa_nil))))))))))))
    (pss_cons (ps_par (by rfl) scLaw.nd (i := 3) (j := 4) rfl rfl (by decide) rfl rfl (pa_cons (pe_call o2 ((rm _).mono (by decide)) rfl m2 k2 b2 .nil pass0 (pa_cons (pv 1) (pa_cons (pv 2) pa_nil))) (pa_cons (pe_call o2 ((rm _).mono (by decide)) rfl m2 k2 b2 .nil pass0 (pa_cons (pv 1) (pa_cons (pv 2) pa_nil))) pa_nil)) (by rfl))
    (pss_cons (ps_set (i := 5) scLaw.nd rfl (.inl rfl) (pe_call o3 ((rm _).mono (by decide)) rfl m3 k3 b3 .nil pass0 (pa_cons (pv 3) (pa_cons (pv 4) pa_nil))))
    (pss_cons (ps_set (i := 6) scLaw.nd rfl (.inl rfl) (pe_op op_cat (pe_call0 o4 ((rm _).mono (by decide)) rfl m4 k4 b4 .nil pass0)
      (pe_lc (own := [("entry", 11)]) (g := gName 11) (tt := tYes) (te := tOp (rIxT K) (tVar 11) (tC (V.int 0))) (by rfl) scLaw.nd (pi_list (pv 5)) (blkOk_by (own := [("entry", 11)]) (N := NL) (sc := defScope sLaw) (by decide +kernel)) (fun _ _ _ _ _ => pg_name (i := 11) scLaw.nd rfl (Or.inl rfl)) (fun _ _ _ _ _ => pts_nil) (fun _ _ _ _ _ => pe_ix ix_tup (pv 11) pe_int (fun _ _ => rfl)))))
    (pss_cons (ps_setLc (i := 7) (own := [("error", 8)]) (g := gName 8) (by rfl) scLaw.nd rfl rfl (sw_true rfl rfl rfl (by decide +kernel)) (pi_list (pv 6)) (blkOk_by (own := [("error", 8)]) (N := NL) (sc := defScope sLaw) (by decide +kernel)) (fun _ _ _ _ _ => pg_name (i := 8) scLaw.nd rfl (Or.inl rfl)) (fun _ _ _ _ _ => pts_nil)
      (fun _ _ _ _ _ => pe_call o5 ((rm _).mono (by decide)) rfl m5 k5 b5 .nil pass0 (pa_cons (pv 8) pa_nil)))
    (pss_cons (ps_if (PW.pt (pw_or (pt_cmpR (op_neD (rm _).units) (pe_lc (own := [("found", 12)]) (g := gName 12) (tt := tTest (tOp rNe (tCB (rLn K) (tCons (tVar 12) tNil)) (tC (V.int 1)))) (by rfl) scLaw.nd (pi_list (pv 7)) (blkOk_by (own := [("found", 12)]) (N := NL) (sc := defScope sLaw) (by decide +kernel)) (fun _ _ _ _ _ => pg_name (i := 12) scLaw.nd rfl (Or.inl rfl))
          (fun _ _ _ _ _ => pts_one (pt_cmpR op_ne (pe_callB call_len_seq (by rfl) ml PySem.boot_len (pa_cons (pv 12) pa_nil)) pe_int (nomark _))) (fun _ _ _ _ _ => pe_int)) (pe_lst pa_nil) (nomark _))
        (pw_or1 (pt_cmpR op_ne (pe_lenSetI (by rfl) (by rfl) ml (by rfl) mset (pe_lc (own := [("found", 12)]) (g := gName 12) (tt := tYes) (te := tOp (rIxL K) (tVar 12) (tC (V.int 0))) (by rfl) scLaw.nd (pi_list (pv 7)) (blkOk_by (own := [("found", 12)]) (N := NL) (sc := defScope sLaw) (by decide +kernel)) (fun _ _ _ _ _ => pg_name (i := 12) scLaw.nd rfl (Or.inl rfl)) (fun _ _ _ _ _ => pts_nil) (fun _ _ _ _ _ => pe_ix ix_list (pv 12) pe_int (fun _ _ => rfl))))
          (pe_callB call_len_seq (by rfl) ml PySem.boot_len (pa_cons (pv 6) pa_nil)) (nomark _))))) (pss_one (ps_ret pe_bl)) pss_nil)
    (pss_cons (ps_for PassesOwn.never rfl (pi_list (pv 5)) (pg_tup rfl (pgs_cons (pg_name (i := 8) scLaw.nd rfl (Or.inl rfl)) (pgs_cons (pg_name (i := 9) scLaw.nd rfl (Or.inl rfl)) (pgs_cons (pg_name (i := 10) scLaw.nd rfl (Or.inl rfl)) pgs_nil))))
      (pss_one (ps_if (pt_cmpR op_ne (pe_callB (call_reprD rfl (by show callerA.units + 3 + 100 < cLine; decide) hs) (by rfl) mr (by decide +kernel) (pa_cons (pv 9) pa_nil)) (pe_callB (call_reprD rfl (by show callerA.units + 3 + 100 < cLine; decide) hs) (by rfl) mr (by decide +kernel) (pa_cons (pv 10) pa_nil)) (nomark _)) (pss_one (ps_ret pe_bl)) pss_nil)))
    (pss_cons (ps_for PassesOwn.never rfl (pi_list (pv 6)) (pg_name (i := 8) scLaw.nd rfl (Or.inl rfl))
      (pss_one (ps_if (PW.pt (pw_or (pt_not (pt_val (pe_callB call_isX (by rfl) mi (by decide +kernel) (pa_cons (pv 8) (pa_cons (pe_glob (v := .ref PE) (by rfl) T.pm rfl) pa_nil))))) (pw_or1 (pt_not (pt_val (pe_callB call_isX (by rfl) mi (by decide +kernel) (pa_cons (pv 8) (pa_cons (pe_bltn (v := .ty "ValueError") (by rfl) mv (by decide +kernel) rfl) pa_nil)))))))) (pss_one (ps_ret pe_bl)) pss_nil)))
    (pss_one (ps_ret pe_bl)))))))))))) ?_
  refine ⟨_, rfl, a, ns, rfl, hS, hn, fun d wp cp H1 nd nw nc D s1 => ?_⟩
  -- some
  refine ⟨_, rfl, (show 2 ≤ sizeLine by decide), fun t nt => ⟨(show 1 ≤ sizeLine by decide), fun l nl => fun p np => ⟨upd_same, [((Sum.inr ("a" : Str) : Key), .int 4)], rfl, (show 1 ≤ 15 by decide), _, _, rfl, rfl, ⟨by decide, by decide, by decide⟩, (show 10 ≤ sizeLine by decide), fun q nq => ?_⟩⟩⟩
  have mK : mergeK [] [((Sum.inr ("a" : Str) : Key), V.int 4)] = [((Sum.inr ("a" : Str) : Key), V.int 4)] := putK_new (kvs := ([] : List (Key × V))) _ rfl
  obtain ⟨⟨od1, hd1⟩, ow1, hw1⟩ := Dr.at D
  have h1 := same_new (o := .tup [.int 1, .int 2]) nt
  have h2 := same_new (o := .lst [.int 3]) nl
  have h3 : ∀ {o : HO}, Same (upd (upd H1 t (.tup [.int 1, .int 2])) l (.lst [.int 3])) (upd (upd (upd (upd H1 t (.tup [.int 1, .int 2])) l (.lst [.int 3])) p (.dK [])) p o) := fun {o} b u e => by rw [upd_upd_same]; exact same_new np b u e
  rw [mK] at nq ⊢
  have h4 := same_new (o := .lst (someV t l p)) nq
  have et := h4 _ _ (h3 _ _ (h2 _ _ (upd_same (H := H1) (a := t) (o := .tup [.int 1, .int 2]))))
  have el := h4 _ _ (h3 _ _ (upd_same (H := upd H1 t (.tup [.int 1, .int 2])) (a := l) (o := .lst [.int 3])))
  have ep := h4 _ _ (upd_same (H := upd (upd (upd H1 t (.tup [.int 1, .int 2])) l (.lst [.int 3])) p (.dK [])) (a := p) (o := .dK [((Sum.inr ("a" : Str) : Key), V.int 4)]))
  have eq : (upd (upd (upd (upd (upd H1 t (.tup [.int 1, .int 2])) l (.lst [.int 3])) p (.dK [])) p (.dK [((Sum.inr ("a" : Str) : Key), V.int 4)])) q (.lst (someV t l p))) q = some (.lst (someV t l p)) := upd_same
  have s2 : Same H1 (upd (upd (upd (upd (upd H1 t (.tup [.int 1, .int 2])) l (.lst [.int 3])) p (.dK [])) p (.dK [((Sum.inr ("a" : Str) : Key), V.int 4)])) q (.lst (someV t l p))) := fun b o e => h4 b o (h3 b o (h2 b o (h1 b o e)))
  have td : t ≠ d := ne_of_none2 nt hd1
  have tw : t ≠ wp := ne_of_none2 nt hw1
  have ld : l ≠ d := ne_of_none2 nl (h1 _ _ hd1)
  have lw : l ≠ wp := ne_of_none2 nl (h1 _ _ hw1)
  have pd : p ≠ d := ne_of_none2 np (h2 _ _ (h1 _ _ hd1))
  have pw : p ≠ wp := ne_of_none2 np (h2 _ _ (h1 _ _ hw1))
  have qd : q ≠ d := ne_of_none2 nq (h3 _ _ (h2 _ _ (h1 _ _ hd1)))
  have qw : q ≠ wp := ne_of_none2 nq (h3 _ _ (h2 _ _ (h1 _ _ hw1)))
  show tSeq _ _ _ _ (upd (upd (upd (upd (upd H1 t (.tup [.int 1, .int 2])) l (.lst [.int 3])) p (.dK [])) p (.dK [((Sum.inr ("a" : Str) : Key), V.int 4)])) q (.lst (someV t l p)))
  generalize upd (upd (upd (upd (upd H1 t (.tup [.int 1, .int 2])) l (.lst [.int 3])) p (.dK [])) p (.dK [((Sum.inr ("a" : Str) : Key), V.int 4)])) q (.lst (someV t l p)) = G at et el ep eq s2
  have DG := Dr.same s2 D
  have sd : ∀ (i : Nat) (y : V), (someV t l p)[i]? = some y → ∃ e, e ∈ tenD ∧ Dt (rest2 G d wp) y e := fun i y h => some_data (rest2_at et td tw) (rest2_at el ld lw) (rest2_at ep pd pw) h
  clear h1 h2 h3 h4 nt nl np nq
  -- one, other
  refine ⟨_, rfl, _, rfl, d, wp, cp, q, 999999998, someV t l p, rfl, DG, eq, qw, (show 0 < 10 by decide), (show 10 < 1000000 by decide), fun i1 y1 H2 hy1 D2 B2 => ⟨_, rfl, _, rfl, d, wp, cp, q, 999999997, someV t l p, rfl, D2, B2 _ _ eq qd qw, qw, (show 0 < 10 by decide), (show 10 < 1000000 by decide), fun i2 y2 H3 hy2 D3 B3 => ⟨_, _, rfl, ?_⟩⟩⟩
  obtain ⟨d1, m1', z1⟩ := sd _ _ hy1
  obtain ⟨d2, m2', z2⟩ := sd _ _ hy2
  have sr : Same (rest2 G d wp) H3 := fun b o e => rest2_le b o (rest2_but B3 b o (rest2_but B2 b o e))
  have z1 := z1.same sr
  have z2 := z2.same sr
  -- told
  refine ⟨_, rfl, _, rfl, y1, y2, d1, d2, rfl, z1, z2, m1', m2', fun pt xt H4 s4 npt hpt tl => ?_⟩
  clear z1 z2 sr sd B2 B3 D2 D3 DG et el ep eq
  -- errors_here
  refine ⟨rfl, fun pp xp H5 s5 npp hpp ep => ?_⟩
  refine read_first (s5 _ _ hpt) (tl.same s5) (by decide) (fun D ys nD ey => ?_)
  have sD := same_new (o := .lst ys) nD
  refine ⟨pp, D, _, _, rfl, rfl, sD _ _ hpp, upd_same, by rw [Paired.length ep, Paired.length ey]; decide, fun pe npe => ?_⟩
  have sE := same_new (o := .lst (xp ++ ys)) npe
  have he := upd_same (H := upd H5 D (.lst ys)) (a := pe) (o := .lst (xp ++ ys))
  have ea : ErrsAt cs (upd (upd H5 D (.lst ys)) pe (.lst (xp ++ ys))) (xp ++ ys) (plainJs ++ toldJs) := (ep.same fun b o e => sE b o (sD b o e)).append (ey.same sE)
  have ht6 := sE _ _ (sD _ _ (s5 _ _ hpt))
  have tl6 := tl.same fun b o e => sE b o (sD b o (s5 b o e))
  generalize xp ++ ys = xe at he ea ht6 tl6
  show tSeq _ _ _ _ (upd (upd H5 D (.lst ys)) pe (.lst xe))
  generalize upd (upd H5 D (.lst ys)) pe (.lst xe) = G6 at he ea ht6 tl6
  clear sD sE nD npe hpp ep ey s5 npp
  -- classes
  dsimp only [tSeq, tAsg, List.map]
  refine read_classes he ea (by decide) (fun D2 zs G7 nD2 s7 hD2 on => ?_)
  -- no class twice
  dsimp only [gName, tSeq, tIfS, tOr, tTest, tOp]
  refine read_lens hD2 on (fun D3 nD3 => ⟨Nat.zero_le _, fun D4 nD4 => ⟨.list [], .list [], .lst (SqL.of (same_new nD4 _ _ upd_same)) .nil, .lst (SqL.of upd_same) .nil, by decide +kernel, by decide +kernel, _, rfl, ?_⟩⟩)
  refine iteF' (by decide +kernel) ?_
  have s8 : Same G7 (upd (upd G7 D3 (.lst [])) D4 (.lst [])) := fun b o e => same_new nD4 b o (same_new nD3 b o e)
  generalize upd (upd G7 D3 (.lst [])) D4 (.lst []) = G8 at s8
  refine read_heads (s8 _ _ hD2) (on.same s8) (by decide) (fun D5 nD5 => ⟨D5, _, rfl, SqL.of upd_same, by decide, by decide, ?_⟩)
  have s9 := same_new (o := .lst (((plainJs ++ toldJs).map fun j : Nat => (j : Int)).map V.int)) nD5
  have he9 := s9 _ _ (s8 _ _ (s7 _ _ he))
  have ea9 := ea.same fun b o e => s9 b o (s8 b o (s7 b o e))
  have ht9 := s9 _ _ (s8 _ _ (s7 _ _ ht6))
  have tl9 := tl6.same fun b o e => s9 b o (s8 b o (s7 b o e))
  refine ⟨_, rfl, pe, xe, rfl, .inl (SqL.of he9), rfl, _, rfl, ?_⟩
  have l61 : xe.length = 61 := by rw [Paired.length ea]; decide
  rw [l61]
  refine iteF' (by decide) ?_
  generalize upd G8 D5 (.lst (((plainJs ++ toldJs).map fun j : Nat => (j : Int)).map V.int)) = G9 at he9 ea9 ht9 tl9
  -- the attributes
  dsimp only [tSeq, tFor, L2.start, List.set, List.append]
  refine ⟨_, rfl, pt, rfl, ⟨_, SqL.of ht9⟩, for_list (xs := xt) (fun _ σ H' => G9 = H' ∧ ∃ o8 o9 o10 : Option V, σ = [some (.ref a), some (.ref d), some (.ref q), some y1, some y2, some (.ref pt), some (.ref pe), some (.ref D2), o8, o9, o10, none, none]) ⟨rfl, none, none, none, rfl⟩ (fun i σ H' _ h => ?_) (fun i x σ H' hx h => ?_) (fun σ H' h => ?_)⟩
  · rw [← h.1]
    exact SqL.of ht9
  · obtain ⟨rfl, o8, o9, o10, rfl⟩ := h
    obtain ⟨j, hj, en⟩ := pair_get tl9 hx
    obtain ⟨t, e, m, d', fs, w1, w2, ds, rfl, htt, he', hm, hd', dm, dd, fi⟩ := en.at_
    refine ⟨t, _, rfl, SqT.of htt, rfl, ?_⟩
    refine ⟨_, _, rfl, _, _, rfl, _, _, rfl, rfl, _, rfl, m, .list ds, rfl, .lst hm dm, fi.1, fi.2.1, fi.2.2, _, rfl, d', .list ds, rfl, .lst hd' dd, fi.1, fi.2.1, fi.2.2, rfl, _, rfl, ?_⟩
    refine iteF' (by simp) ?_
    exact ⟨rfl, _, _, _, rfl⟩
  · obtain ⟨rfl, o8, o9, o10, rfl⟩ := h
    refine ⟨_, rfl, pe, rfl, ⟨_, SqL.of he9⟩, for_list (xs := xe) (fun _ σ H' => G9 = H' ∧ ∃ o8 : Option V, σ = [some (.ref a), some (.ref d), some (.ref q), some y1, some y2, some (.ref pt), some (.ref pe), some (.ref D2), o8, o9, o10, none, none]) ⟨rfl, o8, rfl⟩ (fun i σ H' _ h => ?_) (fun i x σ H' hx h => ?_) (fun σ H' h => ?_)⟩
    · rw [← h.1]
      exact SqL.of he9
    · obtain ⟨rfl, o8, rfl⟩ := h
      obtain ⟨j, hj, lt, e, fs, rfl, ke⟩ := pair_get ea9 hx
      refine ⟨_, rfl, e, cs j, fs, _, _, true, rfl, ke, (T.ok j lt).X, .own PE, kit_pe T lt, _, rfl, ?_⟩
      refine iteF' rfl ?_
      refine ⟨_, rfl, e, cs j, fs, _, _, true, rfl, ke, (T.ok j lt).X, .ty "ValueError", kit_ve T lt, _, rfl, ?_⟩
      refine iteF' rfl ?_
      exact ⟨rfl, _, rfl⟩
    · rfl
end
end Kx
set_option Elab.async false
set_option linter.all false
set_option maxRecDepth 100000
set_option maxHeartbeats 2000000
namespace Kx
open PySem PySem.Spec PyProof.Rows L2 Sx Rp Dw NdefX
/-! ### from what the head was seen to hold -/
theorem and2 {a b : Bool} (h : (a && b) = true) : a = true ∧ b = true := by simpa using h
section
variable {P : Program} {w : World} {K : PySem.W.Frag} {mg : Str → Option Value} {base h : Heap} {PE : Addr} {cs : Nat → Addr}
theorem fun_of {st : Stmt} {x : Str} (h1 : defB K x = true) (h2 : fwOf K (addrOf K x) = fwVal st x x []) : PySem.W.nsIn K mainGlobals x = some (some (.ref (addrOf K x))) ∧ ∃ fd, Fun K x x st (addrOf K x) fd := by
  unfold defB at h1
  obtain ⟨h1, h1'⟩ := and2 h1
  obtain ⟨hk, h1'⟩ := and2 h1'
  refine ⟨of_decide_eq_true h1, ?_⟩
  clear h1
  unfold fwOf fwVal at h2
  generalize addrOf K x = f at *
  cases e : K.lookup f with
  | none => rw [e] at h1'; cases h1'
  | some o =>
    obtain ⟨oc, od, dt, sl⟩ := o
    rw [e] at h1' h2
    cases dt with
    | func fd =>
      dsimp only at h1' h2
      obtain ⟨hc, hd⟩ := and2 h1'
      have hd := of_decide_eq_true hd
      obtain ⟨nm, qn, pr, bd, sc, gl, cl, df, kd, doc, pm, an, cd, ct, bi⟩ := fd
      dsimp only at hd h2 hc
      simp only [Option.some.injEq, Prod.mk.injEq] at h2
      obtain ⟨e1, e2, e3, e4, e5, e6, e7, e8⟩ := h2
      have e7 := List.map_eq_nil_iff.mp e7
      rw [e1, e2, e3, e4, e5, e6, e7, e8, hd] at e
      exact ⟨_, ⟨⟨oc, od, kd, doc, pm, an, cd, ct, sl, rfl, e, hc⟩, hk⟩⟩
    | _ => cases h1'
theorem ini_end {st : Stmt} {C : Addr} {qual : Str} {f cc c : Addr} {q : Str} {oc : Value} {od : Option Addr} {doc pm ct : Value} {sl : Array (Option Value)} (hf : P.main.file = ("/claim/cut.py" : Str)) (hi : PySem.W.findIn K (.ref C) "__init__" = some (some (.ref f))) (ht : PySem.W.typeIn K (.ref f) = some (.type "function")) (hs : PySem.W.ks_superIn K C C "__init__" = some (some (.builtin "ValueError.__init__")))
    (e : K.lookup f = some ⟨oc, od, .func ⟨"__init__", qual, defArgs st, .stmts (defBody st), defScope st, mainGlobals, [(q, cc)], .none, .none, doc, pm, none, .ref c, ct, builtinsNs⟩, sl⟩) (e7 : ([(q, cc)] : List (Str × Addr)).map (·.1) = (["__class__"] : List Str))
    (h1 : (PySem.W.codeIn K (.ref c) qual && ((match K.lookup cc with
      | some ⟨_, _, .cell (some v), _⟩ => decide (v = .ref C)
      | _ => false) && (match K.lookup c with
      | some ⟨_, _, .fields vs, _⟩ => (match (vs[2]? : Option Value) with
        | some (Value.str x _) => ("/claim/cut.py" : Str) == x
        | _ => false)
      | _ => false))) = true) : ∃ fI cc c fd, InitF P K st qual C fI cc c fd := by
  obtain ⟨hco, h1⟩ := and2 h1
  obtain ⟨hce, h1⟩ := and2 h1
  have e7 : q = ("__class__" : Str) := by simpa using e7
  subst e7
  have z1 : ∃ cl cld csl, K.lookup cc = some ⟨cl, cld, .cell (some (.ref C)), csl⟩ := by
    split at hce
    · rename_i hlc
      exact ⟨_, _, _, (of_decide_eq_true hce) ▸ hlc⟩
    · cases hce
  have z2 : ∃ ccl cdd vs ccs x tf, K.lookup c = some ⟨ccl, cdd, .fields vs, ccs⟩ ∧ vs[2]? = some (.str x tf) ∧ ((P.main.file : Str) == x) = true := by
    split at h1
    · rename_i hlf
      split at h1
      · rename_i hx
        exact ⟨_, _, _, _, _, _, hlf, hx, by rw [hf]; exact h1⟩
      · cases h1
    · cases h1
  exact ⟨f, cc, c, _, ⟨⟨oc, od, sl, doc, pm, ct, rfl, e⟩, hco, z1, z2, hi, ht, hs⟩⟩
theorem ini_of {st : Stmt} {C : Addr} {qual : Str} {ns : List Str} (hf : P.main.file = ("/claim/cut.py" : Str)) (h1 : iniB K C qual ns = true) (h2 : fwOf K (iniOf K C) = fwVal st "__init__" qual ["__class__"]) : (∃ fI cc c fd, InitF P K st qual C fI cc c fd) ∧ ∀ n, n ∈ ns → PySem.W.findIn K (.ref C) n = some none := by
  unfold iniB at h1
  obtain ⟨hi, h1⟩ := and2 h1
  obtain ⟨ht, h1⟩ := and2 h1
  obtain ⟨hs, h1⟩ := and2 h1
  obtain ⟨hn, h1⟩ := and2 h1
  refine ⟨?_, fun n m => of_decide_eq_true (List.all_eq_true.mp hn n m)⟩
  clear hn
  have hi := of_decide_eq_true hi
  have ht := of_decide_eq_true ht
  have hs := of_decide_eq_true hs
  unfold fwOf fwVal at h2
  generalize iniOf K C = f at *
  cases e : K.lookup f with
  | none => rw [e] at h1; cases h1
  | some o =>
    obtain ⟨oc, od, dt, sl⟩ := o
    rw [e] at h1 h2
    cases dt with
    | func fd =>
      dsimp only at h1 h2
      obtain ⟨nm, qn, pr, bd, sc, gl, cl, df, kd, doc, pm, an, cd, ct, bi⟩ := fd
      dsimp only at h1 h2
      obtain ⟨hd, h1⟩ := and2 h1
      obtain ⟨hkd, h1⟩ := and2 h1
      obtain ⟨han, h1⟩ := and2 h1
      have hd' := of_decide_eq_true hd
      have hkd' := of_decide_eq_true hkd
      have han' := of_decide_eq_true han
      simp only [Option.some.injEq, Prod.mk.injEq] at h2
      obtain ⟨e1, e2, e3, e4, e5, e6, e7, e8⟩ := h2
      obtain _ | ⟨⟨q, cc⟩, _ | ⟨_, _⟩⟩ := cl
      · simp at h1
      · cases cd with
        | ref c =>
          dsimp only at h1 e e7
          exact ini_end hf hi ht hs (by rw [e1, e2, e3, e4, e5, e6, e8, hd', hkd', han'] at e; exact e) e7 h1
        | _ => simp at h1
      · simp at h1
    | _ => cases h1
theorem bind_ini {st : Stmt} {C : Addr} {qual : Str} {fI cc c : Addr} {fd : FuncData} {ps : List Str} (I : InitF P K st qual C fI cc c fd) (hb : ∀ (doc pm ctv : Value) (us : List Value), us.length = ps.length → bindArgs ((⟨"__init__", qual, defArgs st, defBody st, defScope st, [("__class__", cc)], c⟩ : NF).fd doc pm ctv) ⟨us, []⟩ = pure (ps.zip us)) : Binds K fd ps [] := by
  obtain ⟨oc, od, osl, doc, pm, ctv, rfl, lk⟩ := I.lk
  exact .all (hb doc pm ctv)
theorem errNames_len : errNames.length = 61 := by decide +kernel
theorem getD_at {α : Type} {l : List α} {d : α} {i : Nat} (hi : i < l.length) : l.getD i d = l[i] := by simp [List.getD, List.getElem?_eq_getElem hi]
theorem nodup_at {α : Type} {l : List α} (n : l.Nodup) {i j : Nat} (hi : i < l.length) (hj : j < l.length) (e : l[i] = l[j]) : i = j := by
  have p := List.pairwise_iff_getElem.mp n
  rcases Nat.lt_trichotomy i j with z | z | z
  · exact absurd e (p i j hi hj z)
  · exact z
  · exact absurd e.symm (p j i hj hi z)
theorem name_mem {i : Nat} (hi : i < 61) : errNames.getD i "" ∈ errNames := by
  rw [getD_at (by rw [errNames_len]; exact hi)]
  exact List.getElem_mem _
theorem cls_of (X : K.In h) (G : h.Ns mainGlobals mg) (h1 : namesB K = true) (h2 : errsB K = true) (h3 : apartB K = true) (h4 : pageB K = true) (h5 : plainB K = true) : Cls61 K mg (peOf K) (csOf K) := by
  unfold pageB at h4
  obtain ⟨p1, p2⟩ := and2 h4
  obtain ⟨p2, p3⟩ := and2 p2
  unfold apartB at h3
  have nd := of_decide_eq_true h3
  rw [List.nodup_cons] at nd
  have len : (errNames.map (addrOf K)).length = 61 := by rw [List.length_map, errNames_len]
  have at_ : ∀ i (hi : i < 61), csOf K i = (errNames.map (addrOf K))[i]'(by rw [len]; exact hi) := fun i hi => by
    rw [List.getElem_map]
    show addrOf K (errNames.getD i "") = _
    rw [getD_at (by rw [errNames_len]; exact hi)]
  refine ⟨fun i hi => errB_ok (List.all_eq_true.mp h2 _ (name_mem hi)), fun i hi => PySem.W.mg_of X G (of_decide_eq_true (List.all_eq_true.mp h1 _ (name_mem hi))), fun i j hi hj ne e => ?_, fun i hi e => ?_, PySem.W.mg_of X G (of_decide_eq_true p1), p2, of_decide_eq_true p3, fun i hi ho => ?_⟩
  · rw [at_ i hi, at_ j hj] at e
    exact ne (nodup_at nd.2 _ _ e)
  · rw [at_ i hi] at e
    exact nd.1 (e ▸ List.getElem_mem _)
  · have z := List.all_eq_true.mp h5 i (List.mem_range.mpr hi)
    rw [ho] at z
    exact of_decide_eq_true (by simpa using z)
theorem free_of (X : K.In h) (G : h.Ns mainGlobals mg) (hF : freeB K = true) {x : Str} (m : x ∈ (["super", "len", "int", "abs", "repr", "isinstance", "enumerate", "set", "ValueError"] : List Str)) : mg x = none := PySem.W.mg_none_of X G (of_decide_eq_true (List.all_eq_true.mp hF x m))
theorem iok3 (T : Cls61 K mg PE cs) (ms : mg "super" = none) (ho : PySem.W.nsIn K cStatics "thirdparty.any" = some none) (ht : (P.main.scope.names.lookup ("super" : Str)).isSome = false) (I : (∃ fI cc c fd, InitF P K (sIn 3) "BadBits.__init__" (cs 3) fI cc c fd) ∧ ∀ n, n ∈ (["at"] : List Str) → PySem.W.findIn K (.ref (cs 3)) n = some none) : InitOk P w K mg base (cs 3) ["at"] := by
  obtain ⟨⟨fI, cc, c, fd, I0⟩, no⟩ := I
  exact ⟨⟨fI, fd, I0.ini, I0.ty, ok_in3 T I0 ms (no _ (by simp)) ho ht, bind_ini I0 (fun _ _ _ us hl => match us, hl with | [_, _], _ => rfl)⟩, no⟩
theorem iok8 (T : Cls61 K mg PE cs) (ms : mg "super" = none) (ho : PySem.W.nsIn K cStatics "thirdparty.any" = some none) (ht : (P.main.scope.names.lookup ("super" : Str)).isSome = false) (I : (∃ fI cc c fd, InitF P K (sIn 8) "BadDocuments.__init__" (cs 8) fI cc c fd) ∧ ∀ n, n ∈ (["at"] : List Str) → PySem.W.findIn K (.ref (cs 8)) n = some none) : InitOk P w K mg base (cs 8) ["at"] := by
  obtain ⟨⟨fI, cc, c, fd, I0⟩, no⟩ := I
  exact ⟨⟨fI, fd, I0.ini, I0.ty, ok_in8 T I0 ms (no _ (by simp)) ho ht, bind_ini I0 (fun _ _ _ us hl => match us, hl with | [_, _], _ => rfl)⟩, no⟩
theorem iok11 (T : Cls61 K mg PE cs) (ms : mg "super" = none) (ho : PySem.W.nsIn K cStatics "thirdparty.any" = some none) (ht : (P.main.scope.names.lookup ("super" : Str)).isSome = false) (I : (∃ fI cc c fd, InitF P K (sIn 11) "BadHistories.__init__" (cs 11) fI cc c fd) ∧ ∀ n, n ∈ (["at"] : List Str) → PySem.W.findIn K (.ref (cs 11)) n = some none) : InitOk P w K mg base (cs 11) ["at"] := by
  obtain ⟨⟨fI, cc, c, fd, I0⟩, no⟩ := I
  exact ⟨⟨fI, fd, I0.ini, I0.ty, ok_in11 T I0 ms (no _ (by simp)) ho ht, bind_ini I0 (fun _ _ _ us hl => match us, hl with | [_, _], _ => rfl)⟩, no⟩
theorem iok16 (T : Cls61 K mg PE cs) (ms : mg "super" = none) (ho : PySem.W.nsIn K cStatics "thirdparty.any" = some none) (ht : (P.main.scope.names.lookup ("super" : Str)).isSome = false) (I : (∃ fI cc c fd, InitF P K (sIn 16) "BadLaws.__init__" (cs 16) fI cc c fd) ∧ ∀ n, n ∈ (["at"] : List Str) → PySem.W.findIn K (.ref (cs 16)) n = some none) : InitOk P w K mg base (cs 16) ["at"] := by
  obtain ⟨⟨fI, cc, c, fd, I0⟩, no⟩ := I
  exact ⟨⟨fI, fd, I0.ini, I0.ty, ok_in16 T I0 ms (no _ (by simp)) ho ht, bind_ini I0 (fun _ _ _ us hl => match us, hl with | [_, _], _ => rfl)⟩, no⟩
theorem iok26 (T : Cls61 K mg PE cs) (ms : mg "super" = none) (ho : PySem.W.nsIn K cStatics "thirdparty.any" = some none) (ht : (P.main.scope.names.lookup ("super" : Str)).isSome = false) (I : (∃ fI cc c fd, InitF P K (sIn 26) "BadPaper.__init__" (cs 26) fI cc c fd) ∧ ∀ n, n ∈ (["word"] : List Str) → PySem.W.findIn K (.ref (cs 26)) n = some none) : InitOk P w K mg base (cs 26) ["word"] := by
  obtain ⟨⟨fI, cc, c, fd, I0⟩, no⟩ := I
  exact ⟨⟨fI, fd, I0.ini, I0.ty, ok_in26 T I0 ms (no _ (by simp)) ho ht, bind_ini I0 (fun _ _ _ us hl => match us, hl with | [_, _], _ => rfl)⟩, no⟩
theorem iok35 (T : Cls61 K mg PE cs) (ms : mg "super" = none) (ho : PySem.W.nsIn K cStatics "thirdparty.any" = some none) (ht : (P.main.scope.names.lookup ("super" : Str)).isSome = false) (I : (∃ fI cc c fd, InitF P K (sIn 35) "BadText.__init__" (cs 35) fI cc c fd) ∧ ∀ n, n ∈ (["line", "column", "wanted"] : List Str) → PySem.W.findIn K (.ref (cs 35)) n = some none) : InitOk P w K mg base (cs 35) ["line", "column", "wanted"] := by
  obtain ⟨⟨fI, cc, c, fd, I0⟩, no⟩ := I
  exact ⟨⟨fI, fd, I0.ini, I0.ty, ok_in35 T I0 ms (no _ (by simp)) (no _ (by simp)) (no _ (by simp)) ho ht, bind_ini I0 (fun _ _ _ us hl => match us, hl with | [_, _, _, _], _ => rfl)⟩, no⟩
theorem iok48 (T : Cls61 K mg PE cs) (ms : mg "super" = none) (ho : PySem.W.nsIn K cStatics "thirdparty.any" = some none) (ht : (P.main.scope.names.lookup ("super" : Str)).isSome = false) (I : (∃ fI cc c fd, InitF P K (sIn 48) "NotPossible.__init__" (cs 48) fI cc c fd) ∧ ∀ n, n ∈ (["at"] : List Str) → PySem.W.findIn K (.ref (cs 48)) n = some none) : InitOk P w K mg base (cs 48) ["at"] := by
  obtain ⟨⟨fI, cc, c, fd, I0⟩, no⟩ := I
  exact ⟨⟨fI, fd, I0.ini, I0.ty, ok_in48 T I0 ms (no _ (by simp)) ho ht, bind_ini I0 (fun _ _ _ us hl => match us, hl with | [_, _], _ => rfl)⟩, no⟩
theorem iok49 (T : Cls61 K mg PE cs) (ms : mg "super" = none) (ho : PySem.W.nsIn K cStatics "thirdparty.any" = some none) (ht : (P.main.scope.names.lookup ("super" : Str)).isSome = false) (I : (∃ fI cc c fd, InitF P K (sIn 49) "NotRight.__init__" (cs 49) fI cc c fd) ∧ ∀ n, n ∈ (["word"] : List Str) → PySem.W.findIn K (.ref (cs 49)) n = some none) : InitOk P w K mg base (cs 49) ["word"] := by
  obtain ⟨⟨fI, cc, c, fd, I0⟩, no⟩ := I
  exact ⟨⟨fI, fd, I0.ini, I0.ty, ok_in49 T I0 ms (no _ (by simp)) ho ht, bind_ini I0 (fun _ _ _ us hl => match us, hl with | [_, _], _ => rfl)⟩, no⟩
theorem iok50 (T : Cls61 K mg PE cs) (ms : mg "super" = none) (ho : PySem.W.nsIn K cStatics "thirdparty.any" = some none) (ht : (P.main.scope.names.lookup ("super" : Str)).isSome = false) (I : (∃ fI cc c fd, InitF P K (sIn 50) "NotTrue.__init__" (cs 50) fI cc c fd) ∧ ∀ n, n ∈ (["word"] : List Str) → PySem.W.findIn K (.ref (cs 50)) n = some none) : InitOk P w K mg base (cs 50) ["word"] := by
  obtain ⟨⟨fI, cc, c, fd, I0⟩, no⟩ := I
  exact ⟨⟨fI, fd, I0.ini, I0.ty, ok_in50 T I0 ms (no _ (by simp)) ho ht, bind_ini I0 (fun _ _ _ us hl => match us, hl with | [_, _], _ => rfl)⟩, no⟩
theorem iok54 (T : Cls61 K mg PE cs) (ms : mg "super" = none) (ho : PySem.W.nsIn K cStatics "thirdparty.any" = some none) (ht : (P.main.scope.names.lookup ("super" : Str)).isSome = false) (I : (∃ fI cc c fd, InitF P K (sIn 54) "OverAsks.__init__" (cs 54) fI cc c fd) ∧ ∀ n, n ∈ (["at"] : List Str) → PySem.W.findIn K (.ref (cs 54)) n = some none) : InitOk P w K mg base (cs 54) ["at"] := by
  obtain ⟨⟨fI, cc, c, fd, I0⟩, no⟩ := I
  exact ⟨⟨fI, fd, I0.ini, I0.ty, ok_in54 T I0 ms (no _ (by simp)) ho ht, bind_ini I0 (fun _ _ _ us hl => match us, hl with | [_, _], _ => rfl)⟩, no⟩
theorem iok55 (T : Cls61 K mg PE cs) (ms : mg "super" = none) (ho : PySem.W.nsIn K cStatics "thirdparty.any" = some none) (ht : (P.main.scope.names.lookup ("super" : Str)).isSome = false) (I : (∃ fI cc c fd, InitF P K (sIn 55) "Parted.__init__" (cs 55) fI cc c fd) ∧ ∀ n, n ∈ (["word"] : List Str) → PySem.W.findIn K (.ref (cs 55)) n = some none) : InitOk P w K mg base (cs 55) ["word"] := by
  obtain ⟨⟨fI, cc, c, fd, I0⟩, no⟩ := I
  exact ⟨⟨fI, fd, I0.ini, I0.ty, ok_in55 T I0 ms (no _ (by simp)) ho ht, bind_ini I0 (fun _ _ _ us hl => match us, hl with | [_, _], _ => rfl)⟩, no⟩
theorem iok56 (T : Cls61 K mg PE cs) (ms : mg "super" = none) (ho : PySem.W.nsIn K cStatics "thirdparty.any" = some none) (ht : (P.main.scope.names.lookup ("super" : Str)).isSome = false) (I : (∃ fI cc c fd, InitF P K (sIn 56) "SameName.__init__" (cs 56) fI cc c fd) ∧ ∀ n, n ∈ (["name"] : List Str) → PySem.W.findIn K (.ref (cs 56)) n = some none) : InitOk P w K mg base (cs 56) ["name"] := by
  obtain ⟨⟨fI, cc, c, fd, I0⟩, no⟩ := I
  exact ⟨⟨fI, fd, I0.ini, I0.ty, ok_in56 T I0 ms (no _ (by simp)) ho ht, bind_ini I0 (fun _ _ _ us hl => match us, hl with | [_, _], _ => rfl)⟩, no⟩
theorem iok59 (T : Cls61 K mg PE cs) (ms : mg "super" = none) (ho : PySem.W.nsIn K cStatics "thirdparty.any" = some none) (ht : (P.main.scope.names.lookup ("super" : Str)).isSome = false) (I : (∃ fI cc c fd, InitF P K (sIn 59) "TooShort.__init__" (cs 59) fI cc c fd) ∧ ∀ n, n ∈ (["program"] : List Str) → PySem.W.findIn K (.ref (cs 59)) n = some none) : InitOk P w K mg base (cs 59) ["program"] := by
  obtain ⟨⟨fI, cc, c, fd, I0⟩, no⟩ := I
  exact ⟨⟨fI, fd, I0.ini, I0.ty, ok_in59 T I0 ms (no _ (by simp)) ho ht, bind_ini I0 (fun _ _ _ us hl => match us, hl with | [_, _], _ => rfl)⟩, no⟩
theorem law_at (X : K.In h) (G : h.Ns mainGlobals mg) {fa : Addr} (hmg : mg "law" = some (.ref fa)) (hf : P.main.file = ("/claim/cut.py" : Str)) (ht : (P.main.scope.names.lookup ("super" : Str)).isSome = false) (e : obsK K = valK) : Lw.LawAt P w K mg fa := by
  obtain ⟨e1, e2⟩ := Prod.mk.inj e
  obtain ⟨e2, e3⟩ := Prod.mk.inj e2
  simp only [Prod.mk.injEq] at e1
  obtain ⟨h1, h2, h3, h4, h5, h6, h7, h8, h9⟩ := e1
  have T := cls_of X G h1 h2 h3 h4 h5
  have D := fun (i : Nat) (x : Str) (m : (i, x) ∈ defL) => List.all_eq_true.mp h8 _ m
  have I := fun (d : Nat × Str × List Str) (m : d ∈ iniL) => List.all_eq_true.mp h9 _ m
  simp only [defL, List.map_cons, List.map_nil, List.cons.injEq, and_true] at e2
  simp only [iniL, List.map_cons, List.map_nil, List.cons.injEq, and_true] at e3
  obtain ⟨d64, d65, d66, d67, d68, d69, d70, d71⟩ := e2
  obtain ⟨f3, f8, f11, f16, f26, f35, f48, f49, f50, f54, f55, f56, f59⟩ := e3
  have fr := fun {x : Str} => free_of (x := x) X G h6
  have ms : mg "super" = none := fr (by simp)
  have ml : mg "len" = none := fr (by simp)
  have mi : mg "int" = none := fr (by simp)
  have ma : mg "abs" = none := fr (by simp)
  have mr : mg "repr" = none := fr (by simp)
  have mis : mg "isinstance" = none := fr (by simp)
  have me : mg "enumerate" = none := fr (by simp)
  have mset : mg "set" = none := fr (by simp)
  have mv : mg "ValueError" = none := fr (by simp)
  have ho := of_decide_eq_true h7
  obtain ⟨n64, g64, F64⟩ := fun_of (D 64 "_law_begun" (by simp [defL])) d64
  obtain ⟨n65, g65, F65⟩ := fun_of (D 65 "_law_mixed" (by simp [defL])) d65
  obtain ⟨n66, g66, F66⟩ := fun_of (D 66 "_law_take" (by simp [defL])) d66
  obtain ⟨n67, g67, F67⟩ := fun_of (D 67 "_law_pick" (by simp [defL])) d67
  obtain ⟨n68, g68, F68⟩ := fun_of (D 68 "_law_plain_errors" (by simp [defL])) d68
  obtain ⟨n69, g69, F69⟩ := fun_of (D 69 "_law_told_errors" (by simp [defL])) d69
  obtain ⟨n70, g70, F70⟩ := fun_of (D 70 "_law_classes" (by simp [defL])) d70
  obtain ⟨n71, g71, F71⟩ := fun_of (D 71 "law" (by simp [defL])) d71
  have mg_ := fun {x : Str} {v : Value} => PySem.W.mg_of (n := x) (v := v) X G
  have z := hmg.symm.trans (mg_ n71)
  have z : fa = addrOf K "law" := by injection z with z; injection z
  subst z
  intro base s H a ns kb nb hsm e0 hS hn
  have i3 : InitOk P w K mg base (csOf K 3) ["at"] := iok3 T ms ho ht (ini_of hf (I (3, "BadBits", ["at"]) (by simp [iniL])) f3)
  have i8 : InitOk P w K mg base (csOf K 8) ["at"] := iok8 T ms ho ht (ini_of hf (I (8, "BadDocuments", ["at"]) (by simp [iniL])) f8)
  have i11 : InitOk P w K mg base (csOf K 11) ["at"] := iok11 T ms ho ht (ini_of hf (I (11, "BadHistories", ["at"]) (by simp [iniL])) f11)
  have i16 : InitOk P w K mg base (csOf K 16) ["at"] := iok16 T ms ho ht (ini_of hf (I (16, "BadLaws", ["at"]) (by simp [iniL])) f16)
  have i26 : InitOk P w K mg base (csOf K 26) ["word"] := iok26 T ms ho ht (ini_of hf (I (26, "BadPaper", ["word"]) (by simp [iniL])) f26)
  have i35 : InitOk P w K mg base (csOf K 35) ["line", "column", "wanted"] := iok35 T ms ho ht (ini_of hf (I (35, "BadText", ["line", "column", "wanted"]) (by simp [iniL])) f35)
  have i48 : InitOk P w K mg base (csOf K 48) ["at"] := iok48 T ms ho ht (ini_of hf (I (48, "NotPossible", ["at"]) (by simp [iniL])) f48)
  have i49 : InitOk P w K mg base (csOf K 49) ["word"] := iok49 T ms ho ht (ini_of hf (I (49, "NotRight", ["word"]) (by simp [iniL])) f49)
  have i50 : InitOk P w K mg base (csOf K 50) ["word"] := iok50 T ms ho ht (ini_of hf (I (50, "NotTrue", ["word"]) (by simp [iniL])) f50)
  have i54 : InitOk P w K mg base (csOf K 54) ["at"] := iok54 T ms ho ht (ini_of hf (I (54, "OverAsks", ["at"]) (by simp [iniL])) f54)
  have i55 : InitOk P w K mg base (csOf K 55) ["word"] := iok55 T ms ho ht (ini_of hf (I (55, "Parted", ["word"]) (by simp [iniL])) f55)
  have i56 : InitOk P w K mg base (csOf K 56) ["name"] := iok56 T ms ho ht (ini_of hf (I (56, "SameName", ["name"]) (by simp [iniL])) f56)
  have i59 : InitOk P w K mg base (csOf K 59) ["program"] := iok59 T ms ho ht (ini_of hf (I (59, "TooShort", ["program"]) (by simp [iniL])) f59)
  have o65 : FnOk P w K mg base CX0 1 _ g65 ["draw"] spMixed := ok_mixed F65 mi
  have o66 : FnOk P w K mg base CX0 2 _ g66 ["draw", "many"] spTake := ok_take F66 mi o65 (mg_ n65) F65.kp (F65.binds fun _ _ _ _ _ _ us hl => match us, hl with | [_], _ => rfl)
  have o67 : FnOk P w K mg base CX0 3 _ g67 ["draw", "some"] spPick := ok_pick F67 ml o66 (mg_ n66) F66.kp (F66.binds fun _ _ _ _ _ _ us hl => match us, hl with | [_, _], _ => rfl)
  have o64 : FnOk P w K mg base CX0 1 _ g64 ["script"] (spBegun K) := ok_begun F64 mi ma
  have o68 : FnOk P w K mg base CX0 1 _ g68 [] (spPlain (csOf K)) := ok_plain F68 T
  have o69 : FnOk P w K mg base CX0 3 _ g69 ["one", "other"] (spTold (csOf K)) := ok_told F69 T i3 i8 i11 i16 i26 i35 i48 i49 i50 i54 i55 i56 i59
  have o70 : FnOk P w K mg base CX0 1 _ g70 ["error"] (spClasses (csOf K)) := ok_classes F70 T mis me
  have hbf : ∀ (s : Shared) (u : Value), BindsTo s g71 ⟨[u], []⟩ [(("script" : Str), u)] := fun s u => by
    obtain ⟨oc, od, kV, doc, pm, an, cdv, ct, osl, rfl, lk, hcd⟩ := F71.ex
    exact BindsTo.of_eq rfl
  exact law_run F71 hbf T hsm ⟨_, g64, mg_ n64, F64.kp, o64, F64.binds fun _ _ _ _ _ _ us hl => match us, hl with | [_], _ => rfl⟩ ⟨_, g67, mg_ n67, F67.kp, o67, F67.binds fun _ _ _ _ _ _ us hl => match us, hl with | [_, _], _ => rfl⟩ ⟨_, g69, mg_ n69, F69.kp, o69, F69.binds fun _ _ _ _ _ _ us hl => match us, hl with | [_, _], _ => rfl⟩
    ⟨_, g68, mg_ n68, F68.kp, o68, F68.binds fun _ _ _ _ _ _ us hl => match us, hl with | [], _ => rfl⟩ ⟨_, g70, mg_ n70, F70.kp, o70, F70.binds fun _ _ _ _ _ _ us hl => match us, hl with | [_], _ => rfl⟩ ml mset mr mis mv e0 hS hn
end
end Kx
set_option Elab.async false
set_option linter.all false
open PySem PySem.W PySem.Calls PyProof.Rows
set_option maxRecDepth 100000
set_option maxHeartbeats 0
theorem PySem.Challenge.cw_saidandasked_k24_errors_made_and_bases_holds : PySem.Challenge.rw_saidandasked_k24_errors_made_and_bases.Holds := by
  w_on; o_law
  refine HandSHeadRun.head_any (r := OpenLaw.row PySem.Challenge.rw_saidandasked_k24_errors_made_and_bases) (q := view (OpenLaw.row PySem.Challenge.rw_saidandasked_k24_errors_made_and_bases).prog [71]) (H := Kx.hk) (ob := Kx.ob) (M := 40000) (loose := Kx.looseK) (d := HandSHeadRun.topDef (OpenLaw.row PySem.Challenge.rw_saidandasked_k24_errors_made_and_bases).prog 71) (kwd := []) Kx.ob_eq
    (by kernel_rfl) (fun s => by kernel_rfl) Kx.run (by kernel_rfl) (by kernel_rfl) (by kernel_rfl) (by rfl) (by first | assumption | decide +kernel) (by decide +kernel) ⟨rfl, rfl, rfl, rfl, rfl, by decide +kernel⟩ ?hw ?hc
  case hw => w_witness2
  case hc =>
    refine Lw.walk_hereE (l := PySem.Challenge.rw_saidandasked_k24_errors_made_and_bases) rfl (by kernel_rfl) (by decide +kernel) ?F
    intro w mg fa h Y G hmg0
    obtain ⟨K, KX, c⟩ := Y
    have hmg : mg ("law" : PySem.Str) = some (.ref fa) := by
      have e : (HandSHeadRun.topDef (OpenLaw.row PySem.Challenge.rw_saidandasked_k24_errors_made_and_bases).prog 71).name = ("law" : PySem.Str) := by kernel_rfl
      rw [← e]
      exact hmg0
    exact ⟨K, KX, Kx.law_at KX G hmg rfl (by rfl) c⟩
