import PyProof.Rows.All
import Wide.All
import OpenK.AllK
import Wide.FinOn
import PyProof.EqAt
import PyProof.EqKinds
import PyProof.TupleCall
import PyProof.AtCode
import KE.KFromBytes
import KE.KExcSuper
import KE.KIsAll
import KE.KTryMore
import HandS.ForMost
import HandS.Exc
import HandS.ExcOwn
import HandS.ExcInit
import HandS.ExcValue
import HandS.ExcField
import HandS.ExcIs
import HandS.Nested
import KE.KExcIs
import HandS.FStrTup
import HandS.FStr
import PyProof.ReprHeads
import PyProof.ReprHeadsEmpty
import HandS.Wide
import HandS.RaiseMore
import HandS.Style
import HandS.WordsExc
import PySem.Challenge.RW_seatedtwice_k18_errors
set_option Elab.async false
set_option linter.all false
set_option maxRecDepth 100000
set_option maxHeartbeats 4000000
/-! Own error classes whose __init__ says super().__init__(..): the body of such a def, at its own activation. -/
namespace XE
open PySem PySem.Spec PyProof.Rows L2 NdefX
open PySem.W (kxs_mw kxs_getMethod kxs_callWith KxsAt kxs_ValueError ks_superIn ks_superObj ks_ne check_bound_init excObj excTup exc_init_tree)
/-- a statement, a block, at the activation c -/
structure PSA (X : Cx) (c : Code) (st : Stmt) (t : TS) : Prop where
  run : ∀ (pins : List (Addr × Obj)) (s : Shared) (σ : L2.St) (H : Hp) (D : Ends), Inv X pins σ H s → t D σ H → PySem.wpAt (model X.prog X.w) X.A c (exec st X.env) (SP X pins D) X.xe s
structure PSsA (X : Cx) (c : Code) (st : List Stmt) (t : TS) : Prop where
  run : ∀ (pins : List (Addr × Obj)) (s : Shared) (σ : L2.St) (H : Hp) (D : Ends), Inv X pins σ H s → t D σ H → PySem.wpAt (model X.prog X.w) X.A c (execs st X.env) (SP X pins D) X.xe s
section
variable {X : Cx} {c : Code} {st : Stmt} {rest : List Stmt} {t u : TS}
theorem psA_of (h : PS X st t) : PSA X c st t := ⟨fun pins s σ H D I q => wpAt_of_wpAny (h.run pins s σ H D I q)⟩
theorem pssA_nil : PSsA X c [] tNext := ⟨fun _ _ σ H _ I h => wpAt_of_wpAny (wpAny_execs_nil ⟨σ, H, I, h⟩)⟩
theorem pssA_cons (h1 : PSA X c st t) (h2 : PSsA X c rest u) : PSsA X c (st :: rest) (tSeq t u) := by
  refine ⟨fun ps s0 σ H D I0 q0 => ks_wpAt_execs_cons (ks_wpAt_mono (h1.run ps s0 σ H { D with nx := u D } I0 q0) (fun f s1 q => ?_) fun _ _ x => x)⟩
  cases f with
  | next =>
    obtain ⟨σ', H', I', q⟩ := q
    exact h2.run ps s1 σ' H' D I' q
  | ret v => exact q
  | brk => exact q
  | cont => exact q
end
/-! ### the def by its body -/
section
variable {CX : CXT} {P : Program} {w : World} {K : PySem.W.Frag} {mg : Str → Option Value} {base : Heap} {N ps : List Str} {F : NF} {f cc C : Addr} {k : Nat} {sp : Sp}
theorem fn_ofC {oc kV doc pm ct cl : Value} {od an cld : Option Addr} {osl csl : Array (Option Value)}
    (lk : K.lookup f = some ⟨oc, od, .func (PySem.W.fnX F.name F.qual F.params F.body F.scope F.cl .none kV doc pm an (.ref F.c) ct), osl⟩) (hcl : F.cl = [(("__class__" : Str), cc)]) (hcd : PySem.W.codeIn K (.ref F.c) F.qual = true)
    (hcc : K.lookup cc = some ⟨cl, cld, .cell (some (.ref C)), csl⟩) (S : NScope N ps ["__class__"] F.scope) (len0 : ∀ vs H Q E, sp vs H Q E → vs.length = ps.length)
    (hbody : ∀ (A : Around) (outer : List Env) (s : Shared) (H : Hp) (vs : List V) (Q : VK) (E : XK), Room k (A.deeper (envF F f s.heap.objs.size)) → sp vs H Q E →
      ∃ t, PSsA (ncx CX P w K mg base N F f A outer s H E) (.func F.body (envF F f s.heap.objs.size)) F.body t ∧ t { nx := fun _ H' => Q .non H', rt := Q } (startF N vs [some (.ref C)]) H) :
    FnOk P w K mg base CX (k + 1) f (PySem.W.fnX F.name F.qual F.params F.body F.scope F.cl .none kV doc pm an (.ref F.c) ct) ps sp := by
  refine ⟨len0, fun A outer s H args args1 vs Q E hr env0 hb r asked => ?_⟩
  have many := len0 _ _ _ _ asked
  have inK : K.In s.heap := env0.mod.kin.keeps fun b o e => (env0.bs b o e).1
  have noLim : s.heap.NoLimit := env0.mod.nolimit.keeps fun b o e => (env0.bs b o e).1
  refine codeAny_call_function hr.depth (inK _ _ lk) rfl S.co S.gen rfl (PySem.W.codeRec_of inK hcd) (hb _ _ _ _ ?_)
  refine wpAny_newFunctionEnv S.nocell (fun ⟨n, _⟩ hy => S.par n (List.of_mem_zip hy).1) (fun h₁ names same => ⟨noLim.fresh _ same, ?_⟩) S.kind
  show codeAny _ _ (.func F.body (envF F f s.heap.objs.size)) _ _
  refine ks_codeAny_funcAt ?_
  have keepH : ∀ b o, s.heap.get? b = some o → h₁.get? b = some o := fun b o e => same.extBut b o (Nat.ne_of_lt (Heap.lt_size e)) (Heap.get?_push_of_some _ e)
  obtain ⟨t, walk, hq⟩ := hbody A outer s H vs Q E (hr.deeper _) asked
  have hcc' : s.heap.get? cc = some ⟨cl, cld, .cell (some (.ref C)), csl⟩ := inK _ _ hcc
  have hcn : H cc = none := by
    cases e : base.get? cc with
    | none =>
      have z := env0.mod.kin _ _ hcc
      rw [e] at z
      cases z
    | some o => exact (env0.bs _ _ e).2
  have lk1 : ∀ {y : Str} {c : Addr}, F.cl.lookup y = some c → y = "__class__" ∧ c = cc := fun {y c} e => by
    rw [hcl] at e
    have hy := PySem.mem_of_lookup e
    rcases List.mem_singleton.mp hy with z
    exact ⟨congrArg Prod.fst z, congrArg Prod.snd z⟩
  have C0 : CellsAt F.cl ["__class__"] [some (.ref C)] s.heap H := by
    refine ⟨rfl, fun y c e => ?_, fun x y c e1 e2 => ?_, fun i y hy => ?_⟩
    · obtain ⟨_, rfl⟩ := lk1 e
      exact ⟨hcn, _, _, hcc', rfl⟩
    · rw [(lk1 e1).1, (lk1 e2).1]
    · cases i with
      | zero =>
        cases hy
        refine ⟨cc, by rw [hcl]; simp [List.lookup], fun v hv => ?_⟩
        cases hv
        exact ⟨.ref C, rfl, _, hcc', rfl⟩
      | succ i => simp at hy
  have I : Inv (ncx CX P w K mg base N F f A outer s H E) [] (startF N vs [some (.ref C)]) H { s with heap := h₁, toks := s.toks + (ps.zip args1).length } := inv_startN S hr.hd env0 many r C0 names keepH
  refine ks_wpAt_mono (walk.run [] _ (startF N vs [some (.ref C)]) H _ I hq) (fun fl s' ends => ?_) fun e s' ends => ends
  have leave : ∀ {σ' : L2.St} {H' : Hp} {v : V} {u : Value}, Inv (ncx CX P w K mg base N F f A outer s H E) [] σ' H' s' → L2.RelV v u → Q v H' → CE outer P w H s Q u s' :=
    fun {σ' H' v u} J1 rel q => ⟨v, H', J1.os, J1.bare, J1.base, J1.hok, rel, q⟩
  cases fl with
  | ret u =>
    obtain ⟨v, σ', H', J1, rel, q⟩ := ends
    exact leave J1 rel q
  | next =>
    obtain ⟨σ', H', J1, q⟩ := ends
    exact leave (v := V.non) (u := Value.none) J1 rfl q
  | brk =>
    obtain ⟨_, _, _, q⟩ := ends
    exact False.elim q
  | cont =>
    obtain ⟨_, _, _, q⟩ := ends
    exact False.elim q
end
end XE
set_option linter.all false
set_option maxRecDepth 100000
set_option maxHeartbeats 4000000
namespace XE
open PySem PySem.Spec PyProof.Rows L2 NdefX
open PySem.W (kxs_mw kxs_getMethod kxs_callWith KxsAt kxs_ValueError ks_superIn ks_superObj ks_ne check_bound_init excObj excTup exc_init_tree)
/-- the object of an own error of the class at C -/
abbrev exObj (C t : Addr) (d : Option Addr) : Obj := { cls := .ref C, dict := d, data := .fields #[.ref t, .none, .none, .none, .bool false, .none] }
/-! ### ValueError.__init__, bound to the object, called -/
section
variable {prog : Program} {w : World} {A : Around} {E : Value → Shared → Prop} {hp : Heap} {gs : Array GenState} {dr : Drawn} {tk : Nat} {os : OsState}
variable {nm qn : Str} {C N : Addr} {bases mro : List Value} {hasD : Bool} {slots : List Str} {subs : List Value} {abs : Bool} {coll : Option Bool} {own : Option Addr} {k0 k1 k2 k3 k5 : Option Value}
theorem bound_wrapper : (Value.type "method-wrapper" == Value.type "method" || Value.type "method-wrapper" == Value.type "builtin_function_or_method" || Value.type "method-wrapper" == Value.type "method-wrapper") = true := by decide
theorem call_mw {u e t0 : Addr} {dv : Option Addr} {given : List Value} {Q : Value → Shared → Prop}
    (hC : hp.get? C = some (excClassObj nm qn C N bases mro hasD slots subs abs coll own k0 k1 k2 k3 k5 "ValueError.__new__")) (he : hp.get? e = some (exObj C t0 dv)) (hu : hp.get? u = some (kxs_mw "ValueError.__init__" e)) (few : given.length ≤ sizeLine)
    (hq : ∀ hp' t1, (∀ b o, b ≠ e → hp.get? b = some o → hp'.get? b = some o) → hp'.get? e = some (exObj C t1 dv) → Q .none ⟨hp', gs, dr, tk, os⟩) :
    wpAny (model prog w) A (call (.ref u) given) Q E ⟨hp, gs, dr, tk, os⟩ := by
  refine wpAny_call (codeAny_of_tree (show wpAny _ A.in1 (callAny (.ref u) ⟨given, []⟩) _ _ _ from ?_))
  simp only [callAny]
  refine wpAny_bind (wpAny_load hu ?_)
  simp only [kxs_mw, bound_wrapper, if_true]
  refine PySem.W.KFB.if_so (by decide) (wpAny_bind (check_bound_init F.excBase_ValueError.toExcCallFacts hC he rfl (wpAny_bind (wpAny_pure (wpAny_pure ⟨plainId_quiet F.excBase_ValueError.init.plain _, codeAny_builtin F.excBase_ValueError.initEntry ?_⟩)))))
  exact exc_init_tree (cls := .ref C) (t0 := t0) (dv := dv) (c2 := .none) (c3 := .none) (b4 := .bool false) he few fun hp' k e' _ => hq hp' _ k e'
end
/-- what the written part says of the def at f, the __init__ of the class at C -/
structure SupK (prog : Program) (K : PySem.W.Frag) (mg : Str → Option Value) (C f cda cc : Addr) : Prop where
  cls : OexC K C
  code : ∃ ccl cdd vs ccs file tf, K.lookup cda = some ⟨ccl, cdd, .fields vs, ccs⟩ ∧ vs[2]? = some (.str file tf) ∧ ((prog.main.file : Str) == file) = true
  cell : ∃ cl cld csl, K.lookup cc = some ⟨cl, cld, .cell (some (.ref C)), csl⟩
  fn : ∃ oc od fd osl ar, K.lookup f = some ⟨oc, od, .func fd, osl⟩ ∧ (fd.params.posonlyargs ++ fd.params.args).head? = some ar ∧ ar.arg = ("self" : Str)
  hsup : mg "super" = none
  thd : PySem.W.nsIn K cStatics "thirdparty.any" = some none
  sup : ks_superIn K C C "__init__" = some (some (.builtin "ValueError.__init__"))
  subVE : PySem.W.subIn K (.ref C) (.type "ValueError") = some true
  subC : PySem.W.mroIn K C (.ref C) = some true
  top : (prog.main.scope.names.lookup ("super" : Str)).isSome = false
theorem exo_get {P : Program} {w : World} {H : Hp} {h : Heap} {e C : Addr} {d : Option Addr} (hok : HOk P w H h) (he : H e = some (exo e C d)) : ∃ t1 : Addr, h.get? e = some (exObj C t1 d) := exo_at hok he
theorem upd_id {H : Hp} {a : Addr} {o : HO} (e : H a = some o) : upd H a o = H := by
  funext b
  by_cases hb : b = a
  · rw [hb, upd_same, e]
  · rw [upd_ne hb]
/-- super().__init__(..) of an own error: nothing of it is told -/
def tSup (C : Addr) (ta : TA) : TS := fun D σ H => ∃ a, σ[0]? = some (some (V.ref a)) ∧ (∃ od, H a = some (exo a C od)) ∧ 
  ta σ H fun vs H1 => (∃ od, H1 a = some (exo a C od)) ∧ vs.length ≤ 1000 ∧ D.nx σ H1
section
variable {X : Cx} {C f cda cc : Addr} {e : Expr} {es : List Expr} {ta : TA} {p0 p1 p2 pos pos' : Pos} {body : List Stmt}
theorem psA_sup {pl : Sem Bool} (T : SupK X.prog X.K X.mg C f cda cc) (hfu : X.env.func = some f) (hco : X.env.code = .ref cda) (hcl : X.env.cells.lookup ("__class__" : Str) = some cc) (hN : X.N[0]? = some ("self" : Str)) (ha : PA X (e :: es) ta)
    (hks : X.env.kindOf "super" = some .globalImplicit := by rfl) (hkc : X.env.kindOf "__class__" = some .free := by rfl) (hkse : X.env.scope.names.lookup ("self" : Str) = some .local := by rfl)
    (hi : interactive X.env = false := by rfl) (hs : swapsWith (.Call (.Attribute (.Call (.Name "super" p0) [] [] p1) "__init__" p2) (e :: es) [] pos) none pos'.line X.env = pure false := by rfl)
    (he : eval (.Call (.Attribute (.Call (.Name "super" p0) [] [] p1) "__init__" p2) (e :: es) [] pos) X.env = (do
      let ov ← attributeBase (.Call (.Name "super" p0) [] [] p1) "__init__" X.env (eval (.Call (.Name "super" p0) [] [] p1) X.env)
      standAt p2.atName
      let (f, first) ← holding [ov] (getMethod ov "__init__" pl)
      callWith pos f first (backTo pos (starEach (e :: es) X.env)) []) := by rfl)
    (hst : starEach (e :: es) X.env = (false, eval e X.env) :: starEach es X.env := by rfl) (hpl : (backTo pos (starEach es X.env)).any (·.1) = false := by rfl) :
    PSA X (.func body X.env) (.Expr (.Call (.Attribute (.Call (.Name "super" p0) [] [] p1) "__init__" p2) (e :: es) [] pos) pos') (tSup C ta) := by
  refine ⟨fun pins s σ H D I h => ?_⟩
  obtain ⟨a, ea, ⟨od, eo⟩, hq⟩ := h
  obtain ⟨nm, qn, Nn, bs, bm, sn, sub, ab, col, dd, k0, k1, k2, k3, k5, hC, hbm⟩ := T.cls.cls
  obtain ⟨ccl, cdd, vs, ccs, file, tf, hcda, hvs, hfile⟩ := T.code
  obtain ⟨cl, cld, csl, hcc⟩ := T.cell
  obtain ⟨oc, ofd, fd, osl, ar, hf, hp, har⟩ := T.fn
  have KX : X.K.In s.heap := I.kIn
  obtain ⟨t1, hx⟩ := exo_get I.hok eo
  obtain ⟨m, hns, hl⟩ := I.loc
  obtain ⟨mb, hb1, hb2⟩ := I.mod.blt
  obtain ⟨u0, ru0, lu0⟩ := hl 0 "self" (.ref a) hN ea (.inl hkse)
  obtain rfl : u0 = Value.ref a := ru0
  have hms : m "self" = some (.ref a) := by
    rcases lu0 with ⟨_, z⟩ | ⟨k, _⟩
    · exact z
    · have k' : X.env.scope.names.lookup ("self" : Str) = some .cell ∨ X.env.scope.names.lookup ("self" : Str) = some .free := k
      rw [hkse] at k'
      rcases k' with k' | k' <;> cases k'
  refine ks_wpAt_Expr_any ?_ hi hs
  refine ks_wpAt_MethodCall (pl := pl) ?_ he
  refine ks_wpAt_super_base (ar := ar) hks hkc (by decide) hfu (KX _ _ hf) rfl hp hco (KX _ _ hcda) rfl hvs hfile T.top ?_
  refine PySem.W.ks_loadName_global I.ok.kind hks (Calls.loadGlobal_builtin (by rw [I.ok.glob]; exact I.mod.glob.keeps I.bk) T.hsup (by rw [I.ok.blt]; exact hb1.keeps I.bk) ((hb2 "super" (by decide)).trans (by decide +kernel : bootBuiltins "super" = some (.type "super"))) ⟨rfl, ?_⟩)
  refine wpAny_loadName_free I.ok.kind hkc hcl ⟨_, KX _ _ hcc, rfl⟩ ?_
  rw [har]
  refine wpAny_loadName_local I.ok.kind hkse hns hms ?_
  have hD1 : s.heap.get? C = some (excClassObj nm qn C Nn bs bm true sn sub ab col dd k0 k1 k2 k3 k5 "ValueError.__new__") := KX _ _ hC
  have hcl : PySem.W.clsIn X.K C = some { name := nm, bases := bs, mro := .ref C :: bm, ns := Nn, qualname := qn, hasDict := true, slotNames := sn, subclasses := sub, abstract := ab, collection := col, hasDel := false } := by unfold PySem.W.clsIn; rw [hC] <;> rfl
  have hOn : s.heap.get? a = some (exObj C t1 od) := hx
  obtain ⟨hh, g, d, tk, os⟩ := s
  refine ks_wpAny_isType_cls hD1 rfl ⟨rfl, ?_⟩
  refine ks_wpAny_call_super hD1 rfl hOn rfl (fun c z => by cases z) (PySem.W.looks_mroIn KX T.subC) (fun h' hso k => ?_)
  have KX' : X.K.In h' := KX.keeps k
  have hOn' : h'.get? a = some (exObj C t1 od) := k _ _ hOn
  have hne : a ≠ C := fun z => by
    rw [z, hD1] at hOn
    cases hOn
  have hsup := T.sup
  unfold ks_superIn at hsup
  rw [hcl] at hsup
  have hTy : PySem.W.Looks (model X.prog X.w) h' (typeOf (.ref a)) (.ref C) := by
    exact (PySem.W.Looks.ld hOn').andThen .now
  refine kxs_getMethod kxs_ValueError hso (PySem.W.looks_opaque KX' T.thd) (l₀ := .ref C :: bm) ?_ rfl KX' hsup ?_ hne (by decide) ?_
  · exact fun A Q E s k q => wpAny_bind ((PySem.W.looks_clsIn KX' hcl) A _ E s k (wpAny_pure q))
  · exact hTy.andThen (PySem.W.looks_subIn KX' T.subVE)
  · have k2 : ∀ b o, hh.get? b = some o → (h'.push (kxs_mw "ValueError.__init__" a)).get? b = some o := fun b o e => Heap.get?_push_of_some _ (k b o e)
    have hu : (h'.push (kxs_mw "ValueError.__init__" a)).get? h'.objs.size = some (kxs_mw "ValueError.__init__" a) := Heap.get?_push_size _ rfl
    have sz : hh.objs.size ≤ h'.objs.size := Nat.le_of_lt (Heap.lt_size hso)
    have I2 : Inv X pins σ H ⟨h'.push (kxs_mw "ValueError.__init__" a), g, d, tk + 1, os⟩ := I.kept (t' := tk + 1) k2
    have fp : FpOk X pins H h'.objs.size := I.fpOk sz (I.hok.fresh sz)
    have I3 := I2.pinned (fp := [h'.objs.size]) (fun b hb => by
      rw [List.mem_singleton.mp hb]
      exact fp) (fun b hb => by
      rw [List.mem_singleton.mp hb]
      exact ⟨_, hu, fun v z => by cases z⟩)
    show wpAny _ _ (callWith pos (.ref h'.objs.size) [] (backTo pos (starEach (e :: es) X.env)) []) _ _ _
    have hr := ha.run pos _ _ σ H _ I3 hq
    rw [hst] at hr ⊢
    refine kxs_callWith (i := "ValueError.__init__") (x := a) (by show (false || (backTo pos (starEach es X.env)).any (·.1)) = false; rw [hpl]; rfl) ?_
    refine Calls.evalArgs_plain (thn hr fun us s4 z4 => ?_)
    obtain ⟨vs4, H4, I4, r4, ⟨od4, eo4⟩, hlen, q4⟩ := z4
    have hu4 : s4.heap.get? h'.objs.size = some (kxs_mw "ValueError.__init__" a) := (I4.pin (h'.objs.size, _) (List.mem_append_right _ (List.mem_append_right _ (mem_pinsAt (List.mem_singleton.mpr rfl) hu)))).1
    refine ⟨hu4, ?_⟩
    obtain ⟨t4, hx4⟩ := exo_get I4.hok eo4
    have I5 := I4.unpinned
    have lim : us.length ≤ sizeLine := by
      rw [← Paired.length r4, sizeLine_eq]
      omega
    obtain ⟨h4, g4, d4, tk4, os4⟩ := s4
    refine call_mw (C := C) (e := a) (I5.kIn _ _ hC) hx4 hu4 lim fun h5 t5 k5 hx5 => ?_
    have J := I5.write (t' := tk4) (x := a) (e := a) (o := exo a C od4) (by rw [eo4]; exact True.intro) (.inl rfl) k5 ⟨_, hx5⟩ (exo_ok hx5)
    rw [upd_id eo4] at J
    exact ⟨σ, H4, J, q4⟩
end
end XE
set_option linter.all false
set_option maxRecDepth 100000
set_option maxHeartbeats 4000000
namespace XE
open PySem PySem.Spec PyProof.Rows L2 NdefX
/-- what the class of an error must say, so that its instances are asked rightly -/
structure ExA (K : PySem.W.Frag) (C : Addr) : Prop where
  ga : PySem.W.findIn K (.ref C) "__getattribute__" = some (some (.builtin "BaseException.__getattribute__"))
  gg : PySem.W.findIn K (.ref C) "__getattr__" = some none
  sub : PySem.W.subIn K (.ref C) (.type "BaseException") = some true
  hd : PySem.W.hasDictIn K C = true
  ca : PySem.W.findIn K (.ref C) "__class__" = some (some (.builtin "object.__class__"))
  cn : PySem.W.specialIn K (.builtin "object.__class__") "__get__" = some (some (.builtin "getset_descriptor.__get__"))
  ct : PySem.W.takesIn K (.builtin "object.__class__") = some true
  cm : PySem.W.mroIn K C (.type "object") = some true
theorem ExA.cl {K : PySem.W.Frag} {C : Addr} (T : ExA K C) : (PySem.W.clsIn K C).isSome = true := by
  obtain ⟨cd, h, _⟩ := PySem.W.any_some T.hd
  rw [h]
  rfl
/-- an error of the class at C, its dict at d (where it has one), held as a value -/
def exv (C : Addr) (d : Option Addr) (a : Addr) : HO := .ext fun h => ∃ (oe : Obj) (vs : Array Value), h.get? a = some oe ∧ Zc (.ref C) d oe ∧ oe.data = .fields vs
theorem exv_ok {P : Program} {w : World} {H : Hp} {h : Heap} {a C : Addr} {d : Option Addr} {oe : Obj} {vs : Array Value} (e : h.get? a = some oe) (z : Zc (.ref C) d oe) (k : oe.data = .fields vs) : ObjOk P w H h a (exv C d a) :=
  ⟨⟨oe, vs, e, z, k⟩, ⟨oe, e⟩, fun _ _ ⟨o, us, q, r⟩ st => ⟨o, us, st o q, r⟩⟩
theorem exv_at {P : Program} {w : World} {H : Hp} {h : Heap} {a C : Addr} {d : Option Addr} (ok : HOk P w H h) (e : H a = some (exv C d a)) : ∃ (oe : Obj) (vs : Array Value), h.get? a = some oe ∧ Zc (.ref C) d oe ∧ oe.data = .fields vs := by
  have z : ObjOk P w H h a (exv C d a) := ok a _ e
  exact z.1
theorem inst_of {h : Heap} {a C : Addr} {d : Option Addr} {oe : Obj} {vs : Array Value} {od : Option Obj} (e : h.get? a = some oe) (z : Zc (.ref C) d oe) (k : oe.data = .fields vs) (hd : match d with | some dx => ∃ o, od = some o ∧ h.get? dx = some o | none => od = none) : PySem.W.InstAt h a oe C od := by
  obtain ⟨oc, dd, oda, osl⟩ := oe
  obtain ⟨z1, z2⟩ := z
  dsimp only at z1 z2 k
  subst z1 z2 k
  cases dd with
  | none =>
    subst hd
    exact ⟨e, rfl, rfl, trivial⟩
  | some dx =>
    obtain ⟨o, rfl, ho⟩ := hd
    exact ⟨e, rfl, rfl, ho⟩
/-- an error of the class at C stands at a -/
def ExAt (H : Hp) (a C : Addr) : Prop := H a = some (exv C none a) ∨ ∃ (d : Addr) (fs : List (Str × V)), H a = some (exv C (some d) a) ∧ H d = some (.xd fs)
theorem ExAt.same {H H' : Hp} {a C : Addr} (e : ExAt H a C) (s : Same H H') : ExAt H' a C := by
  rcases e with e | ⟨d, fs, e1, e2⟩
  · exact .inl (s _ _ e)
  · exact .inr ⟨d, fs, s _ _ e1, s _ _ e2⟩
/-- what makes an exception gives it as a value -/
theorem pe_of_mk {X : Cx} {e : Expr} {t : L2.St → Hp → XK → Prop} (h : PMk X e t) : PE X e (fun σ H Q => t σ H fun cls d H' => ∃ C, cls = .ref C ∧ ∀ a, H' a = none → Q (.ref a) (upd H' a (exv C d a))) := by
  refine ⟨fun ps s0 σ H Q I0 q0 => thn (h ps s0 σ H _ I0 q0) fun u s1 m => ?_⟩
  obtain ⟨a, oe, vs, sI, H', cls, d, rfl, J, keep, gone, he, hz, hd, _, na, os, bare, _, C, rfl, q⟩ := m
  have new : ObjOk X.prog X.w (upd H' a (exv C d a)) s1.heap a (exv C d a) := exv_ok he hz hd
  have J1 := J.call (h' := s1.heap) (g' := s1.gens) (t' := s1.toks) (d' := s1.drawn) (ch := []) (Un.laidN keep gone na) (J.hok.laidN keep na new) bare (fun b z => absurd z (by simp))
  obtain ⟨h1, g1, d1, t1, o1⟩ := s1
  obtain rfl : o1 = sI.os := os
  exact ⟨.ref a, _, J1, rfl, q a na⟩
section
variable {X : Cx} {pins : List (Addr × Obj)} {σ : L2.St} {H : Hp} {s : Shared} {a C : Addr}
theorem inst_at (I : Inv X pins σ H s) (e : ExAt H a C) : ∃ ox od, PySem.W.InstAt s.heap a ox C od := by
  rcases e with e | ⟨d, fs, e1, e2⟩
  · obtain ⟨oe, vs, h1, h2, h3⟩ := exv_at I.hok e
    exact ⟨oe, none, inst_of h1 h2 h3 rfl⟩
  · obtain ⟨oe, vs, h1, h2, h3⟩ := exv_at I.hok e1
    have hx : ObjOk X.prog X.w H s.heap d (.xd fs) := I.hok d _ e2
    obtain ⟨mA, hns, hr⟩ := hx
    obtain ⟨oD, _, _, hoD, _, _⟩ := hns.count (within_of hr)
    exact ⟨oe, some oD, inst_of h1 h2 h3 ⟨oD, rfl, hoD⟩⟩
/-- isinstance(e, c), e an error that is tracked -/
def rIsX (K : PySem.W.Frag) : List V → Hp → VK → Prop := fun xs H Q => ∃ (a C : Addr) (c : V) (cv : Value) (b : Bool), xs = [.ref a, c] ∧ ExAt H a C ∧ ExA K C ∧ (∀ u, L2.RelV c u → u = cv) ∧ PySem.W.kitOne K (.ref C) cv = some b ∧ Q (.bl b) H
theorem call_isX : CallR X (.builtin "isinstance") (rIsX X.K) := by
  intro pins s σ H xs us Q I r h
  obtain ⟨a, C, c, cv, b, rfl, ha, T, hcv, e, q⟩ := h
  cases r with
  | cons rx rr =>
    cases rr with
    | cons rt rr =>
      cases rr
      cases rx
      have ec := hcv _ rt
      subst ec
      obtain ⟨ox, od, J⟩ := inst_at I ha
      exact PySem.W.kia_one (PySem.W.kitx_exc T.cl T.ga T.gg T.sub T.ca T.cn T.ct T.cm) I.kIn J e (fun z => nomatch z) fun tk => ⟨.bl b, H, I.kept (t' := tk) fun _ _ z => z, rfl, q⟩
/-- e.f, e an error that is tracked: held as a value, or still in the making -/
def tExf (K : PySem.W.Frag) (f : Str) (te : TE) : TE := fun σ H Q => te σ H fun x H1 => ∃ (a C d : Addr) (fs : List (Str × V)) (v : V), x = .ref a ∧ ExA K C ∧ PySem.W.findIn K (.ref C) f = some none ∧
  ((H1 a = some (exo a C (some d)) ∧ H1 d = some (exd d fs)) ∨ (H1 a = some (exv C (some d) a) ∧ H1 d = some (.xd fs))) ∧ fs.lookup f = some v ∧ Q v H1
theorem pe_exf {e : Expr} {te : TE} {pos : Pos} {f : Str} (he : PE X e te) (hb : attributeBase e f X.env (eval e X.env) = eval e X.env := by rfl) : PE X (.Attribute e f pos) (tExf X.K f te) := by
  refine ⟨fun ps s0 σ H Q I0 q0 => attr_of hb (thn (he.run ps s0 σ H _ I0 q0) fun u s2 hh => ?_)⟩
  obtain ⟨x, H1, I1, rx, a, C, d, fs, v, ex, T, hno, hc, l, q⟩ := hh
  subst ex
  cases rx
  obtain ⟨oe, vs, h1, h2, h3, mA, hns, hr⟩ : ∃ oe vs, s2.heap.get? a = some oe ∧ Zc (.ref C) (some d) oe ∧ oe.data = .fields vs ∧ ∃ mA, s2.heap.Ns1 d mA ∧ ∀ g, RelO (fs.lookup g) (mA g) := by
    rcases hc with ⟨ea, ed⟩ | ⟨ea, ed⟩
    · obtain ⟨t, h⟩ := exo_get I1.hok ea
      exact ⟨_, _, h, ⟨rfl, rfl⟩, rfl, exd_at I1.hok ed⟩
    · obtain ⟨oe, vs, h1, h2, h3⟩ := exv_at I1.hok ea
      have hx : ObjOk X.prog X.w H1 s2.heap d (.xd fs) := I1.hok d _ ed
      exact ⟨oe, vs, h1, h2, h3, hx⟩
  obtain ⟨od, ho, hl⟩ := lookIn_ns hns
  obtain ⟨u, hu, ru⟩ := RelO.some_of (v := v) (o := mA f) (by rw [← l]; exact hr f)
  exact HandSPX.exc_get I1.kIn (inst_of h1 h2 h3 ⟨od, rfl, ho⟩) T.ga T.gg T.sub (PySem.W.findObj_own T.hd hno rfl (by rw [hl, hu])) (handed_of ru) ⟨v, H1, I1.tok _, ru, q⟩
/-- isinstance of the error that a suite holds -/
def rIsP (K : PySem.W.Frag) (C a : Addr) (d : Option Addr) : List V → Hp → VK → Prop := fun xs H Q => ∃ (c : V) (cv : Value) (b : Bool), xs = [.ref a, c] ∧ (∀ dd, d = some dd → ∃ fs, H dd = some (.xd fs)) ∧ (∀ u, L2.RelV c u → u = cv) ∧ PySem.W.kitOne K (.ref C) cv = some b ∧ Q (.bl b) H
theorem call_isP {oe : Obj} {pn : List (Addr × Obj)} {d : Option Addr} (T : ExA X.K C) (hz : Zc (.ref C) d oe) (hf : ∃ vs, oe.data = .fields vs) : CallR (X.suite a ((a, oe) :: pn)) (.builtin "isinstance") (rIsP X.K C a d) := by
  intro pins s σ H xs us Q I r h
  obtain ⟨c, cv, b, rfl, hdd, hcv, e, q⟩ := h
  cases r with
  | cons rx rr =>
    cases rr with
    | cons rt rr =>
      cases rr
      cases rx
      have ec := hcv _ rt
      subst ec
      obtain ⟨hget, _⟩ := I.pin (a, oe) (List.mem_append.mpr (.inl List.mem_cons_self))
      obtain ⟨vs, hv⟩ := hf
      obtain ⟨od, J⟩ : ∃ od, PySem.W.InstAt s.heap a oe C od := by
        cases d with
        | none => exact ⟨none, inst_of hget hz hv rfl⟩
        | some dd =>
          obtain ⟨fs, ed⟩ := hdd dd rfl
          have hx : ObjOk X.prog X.w H s.heap dd (.xd fs) := I.hok dd _ ed
          obtain ⟨mA, hns, hr⟩ := hx
          obtain ⟨oD, _, _, hoD, _, _⟩ := hns.count (within_of hr)
          exact ⟨some oD, inst_of hget hz hv ⟨oD, rfl, hoD⟩⟩
      exact PySem.W.kia_one (PySem.W.kitx_exc T.cl T.ga T.gg T.sub T.ca T.cn T.ct T.cm) I.kIn J e (fun z => nomatch z) fun tk => ⟨.bl b, H, I.kept (t' := tk) fun _ _ z => z, rfl, q⟩
end
section
variable {X : Cx}
/-- X(), an own exception class without own __init__, as a value -/
theorem pe_exc0 {C : Addr} {bmB : List Value} {B newId initId : String} {x : Str} {p pos : Pos} (F : ExcBaseFacts B newId initId bmB) (q : PySem.W.excIn X.K C bmB newId = true) (gC : X.mg x = some (.ref C)) (kC : PySem.W.keepIn X.K (.ref C) = true) (hg : Gl X x)
    (hdb : (x == ("__debug__" : Str)) = false := by decide) :
    PE X (.Call (.Name x p) [] [] pos) (fun σ H Q => ∀ a, H a = none → Q (.ref a) (upd H a (exv C none a))) := by
  refine ⟨fun pins s σ H Q I h => ?_⟩
  refine wpAny_Call_Name_kw (ld_glob I hg gC ?_ hdb)
  have I1 := I
  refine PySem.W.callWith_K0 I.kIn kC ?_
  show wpAny _ _ (call (.ref C) []) _ _ _
  obtain ⟨bm, N, nm, qn, bs, hdct, sn, sub, ab, col, dd, k0, k1, k2, k3, k5, mN, hC, hN, hni, T⟩ := exc_obj I1.kIn q
  refine wpAny_call_exc_subT F T hC hN hni (fun h' a hm => ?_) (by show 0 ≤ sizeLine; exact Nat.zero_le _)
  have hn : H a = none := I1.hok.gone hm.new
  obtain ⟨t, ht, _, _⟩ := hm.there
  exact ⟨.ref a, upd H a (exv C none a), I1.laidN hm.keeps hm.new hn (exv_ok ht ⟨rfl, rfl⟩ rfl), rfl, h a hn⟩
end
end XE
set_option linter.all false
set_option maxRecDepth 100000
set_option maxHeartbeats 4000000
namespace XE
open PySem PySem.Spec PyProof.Rows L2 NdefX
/-! ### {xs} in an f-string, xs a list of texts: some bounded text, whatever is under way -/
section
variable {prog : Program} {w : World} {A : Around} {E : Value → Shared → Prop} {s : Shared} {a : Addr} {oa : Obj} {na : Nat}
theorem repr_nth : ∀ {l : List Value} {ts : List Str} {i : Nat} {y : Value}, ReprAll prog w l ts → l[i]? = some y → ∃ t, ts[i]? = some t ∧ ReprIs prog w y t
  | _, _, i, y, .nil, h => by simp at h
  | _, _, 0, y, .cons h1 _, h => by
    cases h
    exact ⟨_, rfl, h1⟩
  | _, _, i + 1, y, .cons _ h2, h => repr_nth (i := i) h2 (by simpa using h)
theorem list_repr_two {M : Model} {Q : Fin → Shared → Prop} {x : Value} {l : List Value} (hget : s.heap.get? a = some oa) (hd : oa.data = .seq (x :: l).toArray na)
    (h0 : Q (.done (.ret (.str "[...]" s.toks))) { s with toks := s.toks + 1 })
    (h : wpAny M A (do again (.builtin "list.__repr__.loop" ⟨[.ref a, rawInt 0, ← newList [], rawInt 0], []⟩)) Q E s) : wpAny M A (Builtin.listReprAt 0 ⟨[.ref a], []⟩) Q E s := by
  intro Γ p hΓ
  have h1 := h Γ p hΓ
  unfold Builtin.listReprAt
  simp [slotArgs, Builtin.List.listItems, seqItems?, Sem.wp_load_of (h := hget), hd, stack]
  show Sem.wp M Γ (if (Γ.below.any _) = true then _ else _) _ _ p s
  split
  · simp [rule, retStr, ret]
    exact h0
  · exact h1
theorem list_text_any {Q : Value → Shared → Prop} {ts : List Str} {its : List Value} (hTy : s.TypeIs (.ref a) "list") (ha : s.heap.get? a = some oa) (hda : oa.data = .seq its.toArray na) (hT : ReprAll prog w its ts) (hsz : (listText ts).length ≤ sizeLine)
    (hQ : ∀ h' m u tk, (∀ b o, s.heap.get? b = some o → h'.get? b = some o) → m.length ≤ (listText ts).length + 5 → Q (.str m u) { s with heap := h', toks := tk }) :
    wpAny (model prog w) A (call (.builtin "list.__repr__") [.ref a]) Q E s := by
  cases its with
  | nil =>
    refine call_list_repr_empty hTy ha hda ?_
    exact hQ s.heap _ _ _ (fun _ _ e => e) (Nat.le_trans (by decide +kernel : (Str.ofString "[]").length ≤ 5) (Nat.le_add_left _ _))
  | cons x l =>
    have hlen : ts.length = (x :: l).toArray.size := by
      rw [hT.length_eq]
      simp
    refine wpAny_call (codeAny_call_builtin F.slot_list_repr.plain F.entry_list_repr (F.slot_list_repr.check _ _ _ _ _ _ _ _ hTy (F.args_list_repr_1 _) ?_))
    refine list_repr_two ha hda ?_ ?_
    · exact hQ s.heap _ _ _ (fun _ _ e => e) (Nat.le_trans (by decide +kernel : (Str.ofString "[...]").length ≤ 5) (Nat.le_add_left _ _))
    · refine wpAny_bind (m := newList []) (wpAny_newObj_type ?_)
      refine wpAny_pure ⟨F.quiet_list_repr_loop _, ?_⟩
      refine codeAny_list_repr_start (P := s.heap.objs.size) (Nat.ne_of_lt (Heap.lt_size ha)) hlen ?_ (Heap.get?_push_of_some _ ha) hda (Heap.get?_push_size _ rfl) (fun h' u tk hk => ?_) (by show 0 + (listText ts).length ≤ sizeLine; omega)
      · intro i y hy
        exact repr_nth hT (by simpa using hy)
      · exact hQ h' _ u tk (fun b o e => hk b o (Nat.ne_of_lt (Heap.lt_size e)) (Heap.get?_push_of_some _ e)) (Nat.le_add_right _ _)
/-- {xs} -/
theorem fmt_listT {Q : Value → Shared → Prop} {ts : List Str} {its : List Value} (hu : A.units + 2 < cLine) (ha : s.heap.get? a = some oa) (hc : oa.cls = .type "list") (hda : oa.data = .seq its.toArray na) (hT : ReprAll prog w its ts) (hsz : (listText ts).length ≤ sizeLine)
    (hQ : ∀ h' m u tk, (∀ b o, s.heap.get? b = some o → h'.get? b = some o) → m.length ≤ (listText ts).length + 5 → Q (.str m u) { s with heap := h', toks := tk }) : wpAny (model prog w) A (formatField (.ref a) Str.empty) Q E s :=
  wpAny_formatField_slot (fun _ _ => nofun) hu ⟨oa, ha, hc⟩ F.slot_list_format F.slot_list_str F.slot_list_repr.toG
    (list_text_any (s := { s with toks := s.toks + 1 }) ⟨oa, ha, hc⟩ ha hda hT hsz fun h' m u tk k hm => ⟨m, u, rfl, hQ h' m u tk k hm⟩)
end
theorem piled_sum : ∀ ts : List Str, piled ts = (ts.map (·.length)).sum + 2 * ts.length
  | [] => rfl
  | t :: ts => by
    rw [piled_cons, piled_sum ts, List.map_cons, List.sum_cons, List.length_cons]
    omega
theorem listText_le (ts : List Str) : (listText ts).length ≤ piled ts + 3 := by
  have z := listText_len_le ts
  rw [piled_sum]
  omega
section
variable {X : Cx}
/-- {xs}, xs a list of texts: some text, no longer than ten times its signs and a little -/
def tFmtL (K : PySem.W.Frag) (te : TE) : TE := fun σ H Q => te σ H fun x H1 => ∃ (a : Addr) (l : List Str), x = .ref a ∧ SqL K H1 a (l.map V.str) ∧ (∀ y ∈ l, ∀ c ∈ y.cps.toList, c < 16 ^ 8) ∧ fmtCost l + 8 ≤ sizeLine ∧ ∀ m : Str, m.length ≤ fmtCost l + 8 → Q (.str m) H1
theorem pe_fmtL {e : Expr} {te : TE} {pos : Pos} {k : Nat} (hr : Room k X.A) (he : PE X e te) : PE X (.FormattedValue e (-1) none pos) (tFmtL X.K te) := by
  refine ⟨fun pins s σ H Q I h => wpAny_FormattedValue_plain (thn (he.run pins s σ H _ I h) fun v s1 hv => ?_)⟩
  obtain ⟨x, H1, I1, r1, a, l, rfl, ht, hc, hz, q⟩ := hv
  cases r1
  obtain ⟨its, rv, hpl, _⟩ := I1.list ht
  have hp := fmt_piled l hc
  have htx := listText_le (l.map reprText)
  have hu := hr.units
  obtain ⟨o, n, ho, hcl, _, hd⟩ := hpl
  refine fmt_listT (ts := l.map reprText) (by omega) ho hcl hd (repr_all rv fun y hy => ?_) (by omega) fun h' m u tk k hm => ⟨.str m, H1, I1.kept k, ⟨u, rfl⟩, q m (by omega)⟩
  have h1 := StrLaws.reprText_len y (hc y hy)
  have h2 := fmtCost_mem hy
  omega
end
end XE
set_option linter.all false
set_option maxRecDepth 100000
set_option maxHeartbeats 4000000
namespace XE
open PySem PySem.Spec PyProof.Rows L2 NdefX
/-! ### an __init__ that captures its class, as it stands behind the top -/
abbrev nfOf (qual : Str) (st : Stmt) (cda cc : Addr) : NF := ⟨"__init__", qual, defArgs st, defBody st, defScope st, [(("__class__" : Str), cc)], cda⟩
structure FunC (K : PySem.W.Frag) (qual : Str) (st : Stmt) (f cda cc C : Addr) (fd : FuncData) : Prop where
  ex : ∃ (oc : Value) (od : Option Addr) (kV doc pm : Value) (an : Option Addr) (ct : Value) (osl : Array (Option Value)),
    fd = PySem.W.fnX "__init__" qual (defArgs st) (defBody st) (defScope st) [(("__class__" : Str), cc)] .none kV doc pm an (.ref cda) ct ∧ K.lookup f = some ⟨oc, od, .func fd, osl⟩
  cd : PySem.W.codeIn K (.ref cda) qual = true
  cell : ∃ cl cld csl, K.lookup cc = some ⟨cl, cld, .cell (some (.ref C)), csl⟩
section
variable {P : Program} {w : World} {K : PySem.W.Frag} {mg : Str → Option Value} {base : Heap}
theorem FunC.ok {qual : Str} {st : Stmt} {f cda cc C : Addr} {fd : FuncData} {N ps : List Str} {k : Nat} {sp : Sp} (F : FunC K qual st f cda cc C fd) (S : NScope N ps ["__class__"] (defScope st)) (len : ∀ vs H Q E, sp vs H Q E → vs.length = ps.length)
    (hbody : ∀ (A : Around) (outer : List Env) (s : Shared) (H : Hp) (vs : List V) (Q : VK) (E : XK), Room k (A.deeper (envF (nfOf qual st cda cc) f s.heap.objs.size)) → sp vs H Q E →
      ∃ t, PSsA (ncx CX0 P w K mg base N (nfOf qual st cda cc) f A outer s H E) (.func (defBody st) (ncx CX0 P w K mg base N (nfOf qual st cda cc) f A outer s H E).env) (defBody st) t ∧ t { nx := fun _ H' => Q .non H', rt := Q } (startF N vs [some (.ref C)]) H) :
    FnOk P w K mg base CX0 (k + 1) f fd ps sp := by
  obtain ⟨oc, od, kV, doc, pm, an, ct, osl, rfl, lk⟩ := F.ex
  obtain ⟨cl, cld, csl, hcc⟩ := F.cell
  exact fn_ofC (F := nfOf qual st cda cc) lk rfl F.cd hcc S len hbody
theorem FunC.binds {qual : Str} {st : Stmt} {f cda cc C : Addr} {fd : FuncData} {ps : List Str} (F : FunC K qual st f cda cc C fd)
    (h : ∀ (kV doc pm : Value) (an : Option Addr) (ct : Value) (us : List Value), us.length = ps.length → bindArgs (PySem.W.fnX "__init__" qual (defArgs st) (defBody st) (defScope st) [(("__class__" : Str), cc)] .none kV doc pm an (.ref cda) ct) ⟨us, []⟩ = pure (ps.zip us)) : Binds K fd ps [] := by
  obtain ⟨oc, od, kV, doc, pm, an, ct, osl, rfl, lk⟩ := F.ex
  exact .all (h kV doc pm an ct)
end
/-! ### f-strings, by a running bound of their signs -/
def FmtI (v : V) : Prop := ∃ i : Int, v = .int i ∧ i.natAbs.log2 < 1920
def FmtS (v : V) : Prop := ∃ y : Str, v = .str y ∧ (reprText y).length ≤ 2000
theorem fits5 {n : Nat} (h : n ≤ 100000) : n ≤ sizeLine := by
  rw [sizeLine_eq]
  omega
section
variable {ts : List TE} {acc : Str} {σ : L2.St} {H : Hp} {Q : Str → Hp → Prop} {n : Nat}
theorem js_c (m : Nat) {z : Str} (ha : acc.length ≤ n) (hz : z.length ≤ m) (hs : n + m ≤ 100000) (k : ∀ a' : Str, a'.length ≤ n + m → tJs ts a' σ H Q) : tJs (tC (.str z) :: ts) acc σ H Q := by
  have e : (acc ++ z).length ≤ n + m := by
    rw [strLen_append]
    omega
  exact ⟨z, rfl, fits5 (Nat.le_trans e hs), k _ e⟩
theorem js_i (i : Nat) {v : V} (ha : acc.length ≤ n) (hv : σ[i]? = some (some v)) (g : FmtI v) (hs : n + 2000 ≤ 100000) (k : ∀ a' : Str, a'.length ≤ n + 2000 → tJs ts a' σ H Q) : tJs (tFmt (tVar i) :: ts) acc σ H Q := by
  obtain ⟨j, rfl, hj⟩ := g
  have e : (acc ++ Str.ofString (toString j)).length ≤ n + 2000 := by
    have := int_text_len_1921 hj
    rw [strLen_append]
    omega
  exact ⟨_, hv, .inr ⟨j, rfl, hj, _, rfl, fits5 (Nat.le_trans e hs), k _ e⟩⟩
theorem js_s (i : Nat) {v : V} (ha : acc.length ≤ n) (hv : σ[i]? = some (some v)) (g : FmtS v) (hs : n + 2000 ≤ 100000) (k : ∀ a' : Str, a'.length ≤ n + 2000 → tJs ts a' σ H Q) : tJs (tFmtR (tVar i) :: ts) acc σ H Q := by
  obtain ⟨y, rfl, hy⟩ := g
  have e : (acc ++ reprText y).length ≤ n + 2000 := by
    rw [strLen_append]
    omega
  exact ⟨_, hv, .inl ⟨y, rfl, fits5 (Nat.le_trans hy (by omega)), _, rfl, fits5 (Nat.le_trans e hs), k _ e⟩⟩
theorem js_nil (k : ∀ a' : Str, Q a' H) : tJs [] acc σ H Q := k _
end
theorem str0 : (Str.empty : Str).length ≤ 0 := Nat.le_refl _
/-- __init__ of an error with the one field f: P is asked of what it is handed -/
def spErr (C : Addr) (f : Str) (P : V → Prop) : Sp := fun vs H Q _ => ∃ (a : Addr) (v : V), vs = [.ref a, v] ∧ H a = some (exo a C none) ∧ P v ∧ ∀ dx : Addr, H dx = none → dx ≠ a → Q .non (upd (upd H dx (exd dx [(f, v)])) a (exo a C (some dx)))
/-! ### an error of one field made as a value -/
/-- the class at C has an own __init__ that keeps sp -/
def Ini (P : Program) (w : World) (K : PySem.W.Frag) (mg : Str → Option Value) (base : Heap) (C : Addr) (ps : List Str) (sp : Sp) : Prop := ∃ (fI : Addr) (fd : FuncData),
  PySem.W.findIn K (.ref C) "__init__" = some (some (.ref fI)) ∧ PySem.W.typeIn K (.ref fI) = some (.type "function") ∧ FnOk P w K mg base CX0 1 fI fd ps sp ∧ Binds K fd ps []
section
variable {C : Addr} {fld : Str}
/-- what raising an error of one field asks -/
theorem rai_asks {P : V → Prop} {v : V} {H1 : Hp} {Q : XK} (hv : P v) (q : ∀ (d : Addr) (H' : Hp), Same H1 H' → H1 d = none → H' d = some (.xd [(fld, v)]) → Q (.ref C) (some d) H') :
    [v].length ≤ 1000 ∧ ∀ a, H1 a = none → spErr C fld P (.ref a :: ([v] ++ [])) (upd H1 a (exo a C none))
      (fun u H2 => u = .non ∧ ∃ (d : Addr) (fs : List (Str × V)), H2 a = some (exo a C (some d)) ∧ H2 d = some (exd d fs) ∧ H1 d = none ∧ Q (.ref C) (some d) (upd (del H2 a) d (.xd fs))) (fun _ _ _ => False) := by
  refine ⟨(by decide : 1 ≤ 1000), fun a ha => ⟨a, v, rfl, upd_same, hv, fun d hd hne => ⟨rfl, d, _, upd_same, (upd_ne hne).trans upd_same, ?_, ?_⟩⟩⟩
  · exact (upd_ne hne).symm.trans hd
  · have hd0 : H1 d = none := (upd_ne hne).symm.trans hd
    refine q d _ (fun b o e => ?_) hd0 upd_same
    rw [upd_ne (ne_of_none e hd0), del_ne (ne_of_none e ha), upd_ne (ne_of_none e ha), upd_ne (ne_of_none e hd0), upd_ne (ne_of_none e ha)]
    exact e
/-- what making one as a value asks -/
theorem err_asks {P : V → Prop} {v : V} {H1 : Hp} {Q : VK} (hv : P v) (q : ∀ (a d : Addr) (H' : Hp), Same H1 H' → H1 a = none → H' a = some (exv C (some d) a) → H' d = some (.xd [(fld, v)]) → Q (.ref a) H') :
    [v].length ≤ 1000 ∧ ∀ a, H1 a = none → spErr C fld P (.ref a :: ([v] ++ [])) (upd H1 a (exo a C none))
      (fun u H2 => u = .non ∧ ∃ (d : Addr) (fs : List (Str × V)), H2 a = some (exo a C (some d)) ∧ H2 d = some (exd d fs) ∧ H1 d = none ∧
        (fun (cls : Value) (d : Option Addr) (H' : Hp) => ∃ C, cls = .ref C ∧ ∀ a, H' a = none → Q (.ref a) (upd H' a (exv C d a))) (.ref C) (some d) (upd (del H2 a) d (.xd fs))) (fun _ _ _ => False) :=
  rai_asks (C := C) (fld := fld) (H1 := H1) (Q := fun (cls : Value) (d : Option Addr) (H' : Hp) => ∃ C, cls = .ref C ∧ ∀ a, H' a = none → Q (.ref a) (upd H' a (exv C d a))) hv fun d H' s hd e => ⟨C, rfl, fun a ha => q a d _ (fun b o z => (upd_ne (ne_of_none (s _ _ z) ha)).trans (s _ _ z)) (s.free ha) upd_same ((upd_ne (ne_of_none e ha)).trans e)⟩
end
/-- an argument list's reading, open to whatever follows from what it was read for -/
theorem pa_up {X : Cx} {es : List Expr} {ta : TA} (h : PA X es ta) : PA X es (fun σ H K => ∃ R : List V → Hp → Prop, ta σ H R ∧ ∀ vs H1, R vs H1 → K vs H1) := by
  refine ⟨fun pos ps s0 σ H K I0 hK => ?_⟩
  obtain ⟨R, hR, up⟩ := hK
  exact thn (h.run pos ps s0 σ H R I0 hR) fun us s1 ⟨vs, H1, J, r, z⟩ => ⟨vs, H1, J, r, up vs H1 z⟩
theorem pe_imp {X : Cx} {e : Expr} {t t' : TE} (h : PE X e t) (i : ∀ σ H Q, t' σ H Q → t σ H Q) : PE X e t' := ⟨fun ps s0 σ H Q I0 q => h.run ps s0 σ H Q I0 (i σ H Q q)⟩
def rErr (C : Addr) (f : Str) (P : V → Prop) : List V → Hp → VK → Prop
  | [v], H1, Q => P v ∧ ∀ (a d : Addr) (H' : Hp), Same H1 H' → H1 a = none → H' a = some (exv C (some d) a) → H' d = some (.xd [(f, v)]) → Q (.ref a) H'
  | _, _, _ => False
def rRai (C : Addr) (f : Str) (P : V → Prop) : List V → Hp → XK → Prop
  | [v], H1, Q => P v ∧ ∀ (d : Addr) (H' : Hp), Same H1 H' → H1 d = none → H' d = some (.xd [(f, v)]) → Q (.ref C) (some d) H'
  | _, _, _ => False
section
variable {X : Cx} {C : Addr} {f x : Str} {P : V → Prop} {e : Expr} {te : TE} {p pos : Pos} {k : Nat}
/-- X(e), of one field, as a value -/
theorem pe_err (I : Ini X.prog X.w X.K X.mg X.base C ["self", f] (spErr C f P)) (T : OexC X.K C) (hr : Room (k + 2) X.A) (hm : X.mg x = some (.ref C)) (ha : PE X e te) (hg : Gl X x := by rfl)
    (hdb : (x == ("__debug__" : Str)) = false := by decide) (hs : starEach [e] X.env = (false, eval e X.env) :: starEach [] X.env := by rfl) : PE X (.Call (.Name x p) [e] [] pos) (fun σ H Q => te σ H fun v H1 => rErr C f P [v] H1 Q) := by
  obtain ⟨fI, fd, i1, i2, i3, i4⟩ := I
  refine pe_imp (pe_of_mk (pmk_oex (dvs := []) T i1 i2 i3 (hr.mono (by omega)) i4 .nil pass0 hg hm (pa_up (pa_cons ha pa_nil hs)) hdb hs (by rfl))) fun σ H Q h => ⟨fun vs H1 => rErr C f P vs H1 Q, h, fun vs H1 hR => ?_⟩
  match vs, hR with
  | [v], ⟨hv, q⟩ => exact err_asks hv q
/-- X(e), of one field, raised -/
theorem pmk_err (I : Ini X.prog X.w X.K X.mg X.base C ["self", f] (spErr C f P)) (T : OexC X.K C) (hr : Room (k + 2) X.A) (hm : X.mg x = some (.ref C)) (ha : PE X e te) (hg : Gl X x := by rfl)
    (hdb : (x == ("__debug__" : Str)) = false := by decide) (hs : starEach [e] X.env = (false, eval e X.env) :: starEach [] X.env := by rfl) : PMk X (.Call (.Name x p) [e] [] pos) (fun σ H Q => te σ H fun v H1 => rRai C f P [v] H1 Q) := by
  obtain ⟨fI, fd, i1, i2, i3, i4⟩ := I
  intro ps s0 σ H Q I0 h
  refine pmk_oex (dvs := []) T i1 i2 i3 (hr.mono (by omega)) i4 .nil pass0 hg hm (pa_up (pa_cons ha pa_nil hs)) hdb hs (by rfl) ps s0 σ H Q I0 ⟨fun vs H1 => rRai C f P vs H1 Q, h, fun vs H1 hR => ?_⟩
  match vs, hR with
  | [v], ⟨hv, q⟩ => exact rai_asks hv q
end
end XE
set_option linter.all false
set_option maxRecDepth 100000
set_option maxHeartbeats 4000000
namespace K18
open PySem L2 NdefX XE
def top (i : Nat) : Stmt := PySem.Challenge.pw_seatedtwice_k18_errors.main.body.getD i (.Pass ⟨0, 0, 0, 0⟩)
abbrev sBadScene : Stmt := inClass (top 2) 0
theorem scBadScene : NScope ["self", "line", "__class__"] ["self", "line"] ["__class__"] (defScope sBadScene) := nscope_by (by decide +kernel)
theorem okBadScene {P : Program} {w : World} {K : PySem.W.Frag} {mg : Str → Option Value} {base : Heap} {f cda cc C : Addr} {fd : FuncData} (F : FunC K "BadScene.__init__" sBadScene f cda cc C fd) (T : SupK P K mg C f cda cc)
    (hno : PySem.W.findIn K (.ref C) "line" = some none) : FnOk P w K mg base CX0 1 f fd ["self", "line"] (spErr C "line" FmtI) := by
  refine F.ok scBadScene (fun vs H Q E h => by obtain ⟨a, v, rfl, _⟩ := h; rfl) (fun A outer s H vs Q E hr h => ?_)
  obtain ⟨a, v, rfl, ea, hv, q⟩ := h
  refine ⟨_, pssA_cons (psA_sup T rfl rfl rfl rfl (pa_cons (pe_joined (.cons pe_str (.cons (pe_fmt (pv 1)) (.cons pe_str .nil)))) pa_nil)) (pssA_cons (psA_of (ps_ost (pv 0) (pv 1))) pssA_nil), ?_⟩
  refine ⟨a, rfl, ⟨none, ea⟩, js_c 100 str0 (by decide +kernel) (by decide) fun a0 h0 => js_i 1 h0 rfl hv (by decide) fun a1 h1 => js_c 100 h1 (by decide +kernel) (by decide) fun a2 h2 => js_nil fun t => ⟨⟨none, ea⟩, (by decide : 1 ≤ 1000), ?_⟩⟩
  exact ⟨v, rfl, .ref a, rfl, a, C, rfl, T.cls, hno, .inl ⟨ea, q⟩⟩
abbrev sBadWorld : Stmt := inClass (top 3) 0
theorem scBadWorld : NScope ["self", "line", "__class__"] ["self", "line"] ["__class__"] (defScope sBadWorld) := nscope_by (by decide +kernel)
theorem okBadWorld {P : Program} {w : World} {K : PySem.W.Frag} {mg : Str → Option Value} {base : Heap} {f cda cc C : Addr} {fd : FuncData} (F : FunC K "BadWorld.__init__" sBadWorld f cda cc C fd) (T : SupK P K mg C f cda cc)
    (hno : PySem.W.findIn K (.ref C) "line" = some none) : FnOk P w K mg base CX0 1 f fd ["self", "line"] (spErr C "line" FmtI) := by
  refine F.ok scBadWorld (fun vs H Q E h => by obtain ⟨a, v, rfl, _⟩ := h; rfl) (fun A outer s H vs Q E hr h => ?_)
  obtain ⟨a, v, rfl, ea, hv, q⟩ := h
  refine ⟨_, pssA_cons (psA_sup T rfl rfl rfl rfl (pa_cons (pe_joined (.cons pe_str (.cons (pe_fmt (pv 1)) (.cons pe_str .nil)))) pa_nil)) (pssA_cons (psA_of (ps_ost (pv 0) (pv 1))) pssA_nil), ?_⟩
  refine ⟨a, rfl, ⟨none, ea⟩, js_c 100 str0 (by decide +kernel) (by decide) fun a0 h0 => js_i 1 h0 rfl hv (by decide) fun a1 h1 => js_c 100 h1 (by decide +kernel) (by decide) fun a2 h2 => js_nil fun t => ⟨⟨none, ea⟩, (by decide : 1 ≤ 1000), ?_⟩⟩
  exact ⟨v, rfl, .ref a, rfl, a, C, rfl, T.cls, hno, .inl ⟨ea, q⟩⟩
abbrev sBadScript : Stmt := inClass (top 4) 0
theorem scBadScript : NScope ["self", "line", "__class__"] ["self", "line"] ["__class__"] (defScope sBadScript) := nscope_by (by decide +kernel)
theorem okBadScript {P : Program} {w : World} {K : PySem.W.Frag} {mg : Str → Option Value} {base : Heap} {f cda cc C : Addr} {fd : FuncData} (F : FunC K "BadScript.__init__" sBadScript f cda cc C fd) (T : SupK P K mg C f cda cc)
    (hno : PySem.W.findIn K (.ref C) "line" = some none) : FnOk P w K mg base CX0 1 f fd ["self", "line"] (spErr C "line" FmtI) := by
  refine F.ok scBadScript (fun vs H Q E h => by obtain ⟨a, v, rfl, _⟩ := h; rfl) (fun A outer s H vs Q E hr h => ?_)
  obtain ⟨a, v, rfl, ea, hv, q⟩ := h
  refine ⟨_, pssA_cons (psA_sup T rfl rfl rfl rfl (pa_cons (pe_joined (.cons pe_str (.cons (pe_fmt (pv 1)) (.cons pe_str .nil)))) pa_nil)) (pssA_cons (psA_of (ps_ost (pv 0) (pv 1))) pssA_nil), ?_⟩
  refine ⟨a, rfl, ⟨none, ea⟩, js_c 100 str0 (by decide +kernel) (by decide) fun a0 h0 => js_i 1 h0 rfl hv (by decide) fun a1 h1 => js_c 100 h1 (by decide +kernel) (by decide) fun a2 h2 => js_nil fun t => ⟨⟨none, ea⟩, (by decide : 1 ≤ 1000), ?_⟩⟩
  exact ⟨v, rfl, .ref a, rfl, a, C, rfl, T.cls, hno, .inl ⟨ea, q⟩⟩
abbrev sBadSaying : Stmt := inClass (top 5) 0
theorem scBadSaying : NScope ["self", "index", "__class__"] ["self", "index"] ["__class__"] (defScope sBadSaying) := nscope_by (by decide +kernel)
theorem okBadSaying {P : Program} {w : World} {K : PySem.W.Frag} {mg : Str → Option Value} {base : Heap} {f cda cc C : Addr} {fd : FuncData} (F : FunC K "BadSaying.__init__" sBadSaying f cda cc C fd) (T : SupK P K mg C f cda cc)
    (hno : PySem.W.findIn K (.ref C) "index" = some none) : FnOk P w K mg base CX0 1 f fd ["self", "index"] (spErr C "index" FmtI) := by
  refine F.ok scBadSaying (fun vs H Q E h => by obtain ⟨a, v, rfl, _⟩ := h; rfl) (fun A outer s H vs Q E hr h => ?_)
  obtain ⟨a, v, rfl, ea, hv, q⟩ := h
  refine ⟨_, pssA_cons (psA_sup T rfl rfl rfl rfl (pa_cons (pe_joined (.cons pe_str (.cons (pe_fmt (pv 1)) (.cons pe_str .nil)))) pa_nil)) (pssA_cons (psA_of (ps_ost (pv 0) (pv 1))) pssA_nil), ?_⟩
  refine ⟨a, rfl, ⟨none, ea⟩, js_c 100 str0 (by decide +kernel) (by decide) fun a0 h0 => js_i 1 h0 rfl hv (by decide) fun a1 h1 => js_c 100 h1 (by decide +kernel) (by decide) fun a2 h2 => js_nil fun t => ⟨⟨none, ea⟩, (by decide : 1 ≤ 1000), ?_⟩⟩
  exact ⟨v, rfl, .ref a, rfl, a, C, rfl, T.cls, hno, .inl ⟨ea, q⟩⟩
abbrev sBadWalk : Stmt := inClass (top 6) 0
theorem scBadWalk : NScope ["self", "index", "__class__"] ["self", "index"] ["__class__"] (defScope sBadWalk) := nscope_by (by decide +kernel)
theorem okBadWalk {P : Program} {w : World} {K : PySem.W.Frag} {mg : Str → Option Value} {base : Heap} {f cda cc C : Addr} {fd : FuncData} (F : FunC K "BadWalk.__init__" sBadWalk f cda cc C fd) (T : SupK P K mg C f cda cc)
    (hno : PySem.W.findIn K (.ref C) "index" = some none) : FnOk P w K mg base CX0 1 f fd ["self", "index"] (spErr C "index" FmtI) := by
  refine F.ok scBadWalk (fun vs H Q E h => by obtain ⟨a, v, rfl, _⟩ := h; rfl) (fun A outer s H vs Q E hr h => ?_)
  obtain ⟨a, v, rfl, ea, hv, q⟩ := h
  refine ⟨_, pssA_cons (psA_sup T rfl rfl rfl rfl (pa_cons (pe_joined (.cons pe_str (.cons (pe_fmt (pv 1)) (.cons pe_str .nil)))) pa_nil)) (pssA_cons (psA_of (ps_ost (pv 0) (pv 1))) pssA_nil), ?_⟩
  refine ⟨a, rfl, ⟨none, ea⟩, js_c 100 str0 (by decide +kernel) (by decide) fun a0 h0 => js_i 1 h0 rfl hv (by decide) fun a1 h1 => js_c 100 h1 (by decide +kernel) (by decide) fun a2 h2 => js_nil fun t => ⟨⟨none, ea⟩, (by decide : 1 ≤ 1000), ?_⟩⟩
  exact ⟨v, rfl, .ref a, rfl, a, C, rfl, T.cls, hno, .inl ⟨ea, q⟩⟩
abbrev sNoThing : Stmt := inClass (top 7) 0
theorem scNoThing : NScope ["self", "name", "__class__"] ["self", "name"] ["__class__"] (defScope sNoThing) := nscope_by (by decide +kernel)
theorem okNoThing {P : Program} {w : World} {K : PySem.W.Frag} {mg : Str → Option Value} {base : Heap} {f cda cc C : Addr} {fd : FuncData} (F : FunC K "NoThing.__init__" sNoThing f cda cc C fd) (T : SupK P K mg C f cda cc)
    (hno : PySem.W.findIn K (.ref C) "name" = some none) : FnOk P w K mg base CX0 1 f fd ["self", "name"] (spErr C "name" FmtS) := by
  refine F.ok scNoThing (fun vs H Q E h => by obtain ⟨a, v, rfl, _⟩ := h; rfl) (fun A outer s H vs Q E hr h => ?_)
  obtain ⟨a, v, rfl, ea, hv, q⟩ := h
  refine ⟨_, pssA_cons (psA_sup T rfl rfl rfl rfl (pa_cons (pe_joined (.cons pe_str (.cons (pe_fmtR (pv 1)) .nil))) pa_nil)) (pssA_cons (psA_of (ps_ost (pv 0) (pv 1))) pssA_nil), ?_⟩
  refine ⟨a, rfl, ⟨none, ea⟩, js_c 100 str0 (by decide +kernel) (by decide) fun a0 h0 => js_s 1 h0 rfl hv (by decide) fun a1 h1 => js_nil fun t => ⟨⟨none, ea⟩, (by decide : 1 ≤ 1000), ?_⟩⟩
  exact ⟨v, rfl, .ref a, rfl, a, C, rfl, T.cls, hno, .inl ⟨ea, q⟩⟩
abbrev sNoRow : Stmt := inClass (top 8) 0
theorem scNoRow : NScope ["self", "name", "__class__"] ["self", "name"] ["__class__"] (defScope sNoRow) := nscope_by (by decide +kernel)
theorem okNoRow {P : Program} {w : World} {K : PySem.W.Frag} {mg : Str → Option Value} {base : Heap} {f cda cc C : Addr} {fd : FuncData} (F : FunC K "NoRow.__init__" sNoRow f cda cc C fd) (T : SupK P K mg C f cda cc)
    (hno : PySem.W.findIn K (.ref C) "name" = some none) : FnOk P w K mg base CX0 1 f fd ["self", "name"] (spErr C "name" FmtS) := by
  refine F.ok scNoRow (fun vs H Q E h => by obtain ⟨a, v, rfl, _⟩ := h; rfl) (fun A outer s H vs Q E hr h => ?_)
  obtain ⟨a, v, rfl, ea, hv, q⟩ := h
  refine ⟨_, pssA_cons (psA_sup T rfl rfl rfl rfl (pa_cons (pe_joined (.cons pe_str (.cons (pe_fmtR (pv 1)) .nil))) pa_nil)) (pssA_cons (psA_of (ps_ost (pv 0) (pv 1))) pssA_nil), ?_⟩
  refine ⟨a, rfl, ⟨none, ea⟩, js_c 100 str0 (by decide +kernel) (by decide) fun a0 h0 => js_s 1 h0 rfl hv (by decide) fun a1 h1 => js_nil fun t => ⟨⟨none, ea⟩, (by decide : 1 ≤ 1000), ?_⟩⟩
  exact ⟨v, rfl, .ref a, rfl, a, C, rfl, T.cls, hno, .inl ⟨ea, q⟩⟩
abbrev sNoMark : Stmt := inClass (top 9) 0
theorem scNoMark : NScope ["self", "name", "__class__"] ["self", "name"] ["__class__"] (defScope sNoMark) := nscope_by (by decide +kernel)
theorem okNoMark {P : Program} {w : World} {K : PySem.W.Frag} {mg : Str → Option Value} {base : Heap} {f cda cc C : Addr} {fd : FuncData} (F : FunC K "NoMark.__init__" sNoMark f cda cc C fd) (T : SupK P K mg C f cda cc)
    (hno : PySem.W.findIn K (.ref C) "name" = some none) : FnOk P w K mg base CX0 1 f fd ["self", "name"] (spErr C "name" FmtS) := by
  refine F.ok scNoMark (fun vs H Q E h => by obtain ⟨a, v, rfl, _⟩ := h; rfl) (fun A outer s H vs Q E hr h => ?_)
  obtain ⟨a, v, rfl, ea, hv, q⟩ := h
  refine ⟨_, pssA_cons (psA_sup T rfl rfl rfl rfl (pa_cons (pe_joined (.cons pe_str (.cons (pe_fmtR (pv 1)) .nil))) pa_nil)) (pssA_cons (psA_of (ps_ost (pv 0) (pv 1))) pssA_nil), ?_⟩
  refine ⟨a, rfl, ⟨none, ea⟩, js_c 100 str0 (by decide +kernel) (by decide) fun a0 h0 => js_s 1 h0 rfl hv (by decide) fun a1 h1 => js_nil fun t => ⟨⟨none, ea⟩, (by decide : 1 ≤ 1000), ?_⟩⟩
  exact ⟨v, rfl, .ref a, rfl, a, C, rfl, T.cls, hno, .inl ⟨ea, q⟩⟩
abbrev sBadInputs : Stmt := inClass (top 11) 0
theorem scBadInputs : NScope ["self", "index", "__class__"] ["self", "index"] ["__class__"] (defScope sBadInputs) := nscope_by (by decide +kernel)
theorem okBadInputs {P : Program} {w : World} {K : PySem.W.Frag} {mg : Str → Option Value} {base : Heap} {f cda cc C : Addr} {fd : FuncData} (F : FunC K "BadInputs.__init__" sBadInputs f cda cc C fd) (T : SupK P K mg C f cda cc)
    (hno : PySem.W.findIn K (.ref C) "index" = some none) : FnOk P w K mg base CX0 1 f fd ["self", "index"] (spErr C "index" FmtI) := by
  refine F.ok scBadInputs (fun vs H Q E h => by obtain ⟨a, v, rfl, _⟩ := h; rfl) (fun A outer s H vs Q E hr h => ?_)
  obtain ⟨a, v, rfl, ea, hv, q⟩ := h
  refine ⟨_, pssA_cons (psA_sup T rfl rfl rfl rfl (pa_cons (pe_joined (.cons pe_str (.cons (pe_fmt (pv 1)) (.cons pe_str .nil)))) pa_nil)) (pssA_cons (psA_of (ps_ost (pv 0) (pv 1))) pssA_nil), ?_⟩
  refine ⟨a, rfl, ⟨none, ea⟩, js_c 100 str0 (by decide +kernel) (by decide) fun a0 h0 => js_i 1 h0 rfl hv (by decide) fun a1 h1 => js_c 100 h1 (by decide +kernel) (by decide) fun a2 h2 => js_nil fun t => ⟨⟨none, ea⟩, (by decide : 1 ≤ 1000), ?_⟩⟩
  exact ⟨v, rfl, .ref a, rfl, a, C, rfl, T.cls, hno, .inl ⟨ea, q⟩⟩
abbrev sNotBare : Stmt := inClass (top 14) 0
theorem scNotBare : NScope ["self", "index", "__class__"] ["self", "index"] ["__class__"] (defScope sNotBare) := nscope_by (by decide +kernel)
theorem okNotBare {P : Program} {w : World} {K : PySem.W.Frag} {mg : Str → Option Value} {base : Heap} {f cda cc C : Addr} {fd : FuncData} (F : FunC K "NotBare.__init__" sNotBare f cda cc C fd) (T : SupK P K mg C f cda cc)
    (hno : PySem.W.findIn K (.ref C) "index" = some none) : FnOk P w K mg base CX0 1 f fd ["self", "index"] (spErr C "index" FmtI) := by
  refine F.ok scNotBare (fun vs H Q E h => by obtain ⟨a, v, rfl, _⟩ := h; rfl) (fun A outer s H vs Q E hr h => ?_)
  obtain ⟨a, v, rfl, ea, hv, q⟩ := h
  refine ⟨_, pssA_cons (psA_sup T rfl rfl rfl rfl (pa_cons (pe_joined (.cons pe_str (.cons (pe_fmt (pv 1)) (.cons pe_str .nil)))) pa_nil)) (pssA_cons (psA_of (ps_ost (pv 0) (pv 1))) pssA_nil), ?_⟩
  refine ⟨a, rfl, ⟨none, ea⟩, js_c 100 str0 (by decide +kernel) (by decide) fun a0 h0 => js_i 1 h0 rfl hv (by decide) fun a1 h1 => js_c 100 h1 (by decide +kernel) (by decide) fun a2 h2 => js_nil fun t => ⟨⟨none, ea⟩, (by decide : 1 ≤ 1000), ?_⟩⟩
  exact ⟨v, rfl, .ref a, rfl, a, C, rfl, T.cls, hno, .inl ⟨ea, q⟩⟩
abbrev sBadName : Stmt := inClass (top 15) 0
theorem scBadName : NScope ["self", "name", "__class__"] ["self", "name"] ["__class__"] (defScope sBadName) := nscope_by (by decide +kernel)
theorem okBadName {P : Program} {w : World} {K : PySem.W.Frag} {mg : Str → Option Value} {base : Heap} {f cda cc C : Addr} {fd : FuncData} (F : FunC K "BadName.__init__" sBadName f cda cc C fd) (T : SupK P K mg C f cda cc)
    (hno : PySem.W.findIn K (.ref C) "name" = some none) : FnOk P w K mg base CX0 1 f fd ["self", "name"] (spErr C "name" FmtS) := by
  refine F.ok scBadName (fun vs H Q E h => by obtain ⟨a, v, rfl, _⟩ := h; rfl) (fun A outer s H vs Q E hr h => ?_)
  obtain ⟨a, v, rfl, ea, hv, q⟩ := h
  refine ⟨_, pssA_cons (psA_sup T rfl rfl rfl rfl (pa_cons (pe_joined (.cons (pe_fmtR (pv 1)) (.cons pe_str .nil))) pa_nil)) (pssA_cons (psA_of (ps_ost (pv 0) (pv 1))) pssA_nil), ?_⟩
  refine ⟨a, rfl, ⟨none, ea⟩, js_s 1 str0 rfl hv (by decide) fun a0 h0 => js_c 100 h0 (by decide +kernel) (by decide) fun a1 h1 => js_nil fun t => ⟨⟨none, ea⟩, (by decide : 1 ≤ 1000), ?_⟩⟩
  exact ⟨v, rfl, .ref a, rfl, a, C, rfl, T.cls, hno, .inl ⟨ea, q⟩⟩
abbrev sNoButton : Stmt := inClass (top 16) 0
theorem scNoButton : NScope ["self", "name", "__class__"] ["self", "name"] ["__class__"] (defScope sNoButton) := nscope_by (by decide +kernel)
theorem okNoButton {P : Program} {w : World} {K : PySem.W.Frag} {mg : Str → Option Value} {base : Heap} {f cda cc C : Addr} {fd : FuncData} (F : FunC K "NoButton.__init__" sNoButton f cda cc C fd) (T : SupK P K mg C f cda cc)
    (hno : PySem.W.findIn K (.ref C) "name" = some none) : FnOk P w K mg base CX0 1 f fd ["self", "name"] (spErr C "name" FmtS) := by
  refine F.ok scNoButton (fun vs H Q E h => by obtain ⟨a, v, rfl, _⟩ := h; rfl) (fun A outer s H vs Q E hr h => ?_)
  obtain ⟨a, v, rfl, ea, hv, q⟩ := h
  refine ⟨_, pssA_cons (psA_sup T rfl rfl rfl rfl (pa_cons (pe_joined (.cons pe_str (.cons (pe_fmtR (pv 1)) .nil))) pa_nil)) (pssA_cons (psA_of (ps_ost (pv 0) (pv 1))) pssA_nil), ?_⟩
  refine ⟨a, rfl, ⟨none, ea⟩, js_c 100 str0 (by decide +kernel) (by decide) fun a0 h0 => js_s 1 h0 rfl hv (by decide) fun a1 h1 => js_nil fun t => ⟨⟨none, ea⟩, (by decide : 1 ≤ 1000), ?_⟩⟩
  exact ⟨v, rfl, .ref a, rfl, a, C, rfl, T.cls, hno, .inl ⟨ea, q⟩⟩
abbrev sTaken : Stmt := inClass (top 17) 0
theorem scTaken : NScope ["self", "name", "__class__"] ["self", "name"] ["__class__"] (defScope sTaken) := nscope_by (by decide +kernel)
theorem okTaken {P : Program} {w : World} {K : PySem.W.Frag} {mg : Str → Option Value} {base : Heap} {f cda cc C : Addr} {fd : FuncData} (F : FunC K "Taken.__init__" sTaken f cda cc C fd) (T : SupK P K mg C f cda cc)
    (hno : PySem.W.findIn K (.ref C) "name" = some none) : FnOk P w K mg base CX0 1 f fd ["self", "name"] (spErr C "name" FmtS) := by
  refine F.ok scTaken (fun vs H Q E h => by obtain ⟨a, v, rfl, _⟩ := h; rfl) (fun A outer s H vs Q E hr h => ?_)
  obtain ⟨a, v, rfl, ea, hv, q⟩ := h
  refine ⟨_, pssA_cons (psA_sup T rfl rfl rfl rfl (pa_cons (pe_joined (.cons pe_str (.cons (pe_fmtR (pv 1)) (.cons pe_str .nil)))) pa_nil)) (pssA_cons (psA_of (ps_ost (pv 0) (pv 1))) pssA_nil), ?_⟩
  refine ⟨a, rfl, ⟨none, ea⟩, js_c 100 str0 (by decide +kernel) (by decide) fun a0 h0 => js_s 1 h0 rfl hv (by decide) fun a1 h1 => js_c 100 h1 (by decide +kernel) (by decide) fun a2 h2 => js_nil fun t => ⟨⟨none, ea⟩, (by decide : 1 ≤ 1000), ?_⟩⟩
  exact ⟨v, rfl, .ref a, rfl, a, C, rfl, T.cls, hno, .inl ⟨ea, q⟩⟩
abbrev sNoGuard : Stmt := inClass (top 18) 0
theorem scNoGuard : NScope ["self", "name", "__class__"] ["self", "name"] ["__class__"] (defScope sNoGuard) := nscope_by (by decide +kernel)
theorem okNoGuard {P : Program} {w : World} {K : PySem.W.Frag} {mg : Str → Option Value} {base : Heap} {f cda cc C : Addr} {fd : FuncData} (F : FunC K "NoGuard.__init__" sNoGuard f cda cc C fd) (T : SupK P K mg C f cda cc)
    (hno : PySem.W.findIn K (.ref C) "name" = some none) : FnOk P w K mg base CX0 1 f fd ["self", "name"] (spErr C "name" FmtS) := by
  refine F.ok scNoGuard (fun vs H Q E h => by obtain ⟨a, v, rfl, _⟩ := h; rfl) (fun A outer s H vs Q E hr h => ?_)
  obtain ⟨a, v, rfl, ea, hv, q⟩ := h
  refine ⟨_, pssA_cons (psA_sup T rfl rfl rfl rfl (pa_cons (pe_joined (.cons pe_str (.cons (pe_fmtR (pv 1)) .nil))) pa_nil)) (pssA_cons (psA_of (ps_ost (pv 0) (pv 1))) pssA_nil), ?_⟩
  refine ⟨a, rfl, ⟨none, ea⟩, js_c 100 str0 (by decide +kernel) (by decide) fun a0 h0 => js_s 1 h0 rfl hv (by decide) fun a1 h1 => js_nil fun t => ⟨⟨none, ea⟩, (by decide : 1 ≤ 1000), ?_⟩⟩
  exact ⟨v, rfl, .ref a, rfl, a, C, rfl, T.cls, hno, .inl ⟨ea, q⟩⟩
abbrev sBarred : Stmt := inClass (top 19) 0
theorem scBarred : NScope ["self", "names", "__class__"] ["self", "names"] ["__class__"] (defScope sBarred) := nscope_by (by decide +kernel)
/-- __init__ of Barred: it keeps a new list of the names -/
def spBarred (K : PySem.W.Frag) (C : Addr) : Sp := fun vs H Q _ => ∃ (a l : Addr) (ys : List Str), vs = [.ref a, .ref l] ∧ SqL K H l (ys.map V.str) ∧ H a = some (exo a C none) ∧ (∀ y ∈ ys, ∀ c ∈ y.cps.toList, c < 16 ^ 8) ∧ fmtCost ys + 8 ≤ 50000 ∧
  ∀ m dx : Addr, H m = none → H dx = none → dx ≠ a → dx ≠ m → Q .non (upd (upd (upd H m (.lst (ys.map V.str))) dx (exd dx [(("names" : Str), .ref m)])) a (exo a C (some dx)))
theorem okBarred {P : Program} {w : World} {K : PySem.W.Frag} {mg : Str → Option Value} {base : Heap} {f cda cc C : Addr} {fd : FuncData} (F : FunC K "Barred.__init__" sBarred f cda cc C fd) (T : SupK P K mg C f cda cc) (TA : ExA K C) (ml : mg "list" = none)
    (hno : PySem.W.findIn K (.ref C) "names" = some none) : FnOk P w K mg base CX0 1 f fd ["self", "names"] (spBarred K C) := by
  refine F.ok scBarred (fun vs H Q E h => by obtain ⟨a, l, ys, rfl, _⟩ := h; rfl) (fun A outer s H vs Q E hr h => ?_)
  obtain ⟨a, l, ys, rfl, hS, ea, hc, hz, q⟩ := h
  refine ⟨_, pssA_cons (psA_of (ps_ost (pv 0) (pe_callTy call_list_of (by rfl) ml (by decide +kernel) (pa_cons (pv 1) pa_nil)))) (pssA_cons (psA_sup T rfl rfl rfl rfl (pa_cons (pe_joined (.cons pe_str (.cons (pe_fmtL hr (pe_exf (pv 0))) .nil))) pa_nil)) pssA_nil), ?_⟩
  refine ⟨_, rfl, l, _, rfl, .inl hS, fun m hm => ⟨_, rfl, a, C, rfl, T.cls, hno, .inl ⟨?_, fun dx hdx hne => ?_⟩⟩⟩
  · rw [upd_ne (ne_of_none ea hm)]
    exact ea
  have nm : m ≠ a := Ne.symm (ne_of_none ea hm)
  have ndm : dx ≠ m := fun z => by
    rw [z, upd_same] at hdx
    cases hdx
  have hdx0 : H dx = none := by
    rw [upd_ne ndm] at hdx
    exact hdx
  refine ⟨a, rfl, ⟨some dx, upd_same⟩, js_c 100 str0 (by decide +kernel) (by decide) fun a1 h1 => ?_⟩
  refine ⟨_, rfl, a, C, dx, _, .ref m, rfl, TA, hno, .inl ⟨upd_same, (upd_ne hne).trans upd_same⟩, (by simp [List.lookup]), m, ys, rfl, SqL.of ?_, hc, fits5 (by omega), fun t ht => ⟨t, rfl, ?_, js_nil fun t' => ?_⟩⟩
  · rw [upd_ne nm, upd_ne (Ne.symm ndm), upd_same]
  · rw [strLen_append]
    exact fits5 (by omega)
  · exact ⟨⟨some dx, upd_same⟩, (by decide : 1 ≤ 1000), q m dx hm hdx0 hne ndm⟩
end K18
set_option linter.all false
set_option maxRecDepth 100000
set_option maxHeartbeats 4000000
/-! The source of all draws: a dict of the cells, the turn, what is left of a large cell. What is drawn is told by its range alone. -/
namespace XP
open PySem L2
abbrev kC : Key := Sum.inr ("cells" : Str)
abbrev kT : Key := Sum.inr ("turn" : Str)
abbrev kL : Key := Sum.inr ("left" : Str)
theorem nCT : ¬ (kC = kT) := by decide +kernel
theorem nCL : ¬ (kC = kL) := by decide +kernel
theorem nTL : ¬ (kT = kL) := by decide +kernel
def kvs (c : Addr) (t l : Int) : List (Key × V) := [(kC, .ref c), (kT, .int t), (kL, .int l)]
theorem vC (c : Addr) (t l : Int) : valV (kvs c t l) kC = some (.ref c) := valV_pos rfl
theorem vT (c : Addr) (t l : Int) : valV (kvs c t l) kT = some (.int t) := (valV_neg nCT).trans (valV_pos rfl)
theorem vL (c : Addr) (t l : Int) : valV (kvs c t l) kL = some (.int l) := (valV_neg nCL).trans ((valV_neg nTL).trans (valV_pos rfl))
theorem pT (c : Addr) (t l u : Int) : putK (kvs c t l) kT (.int u) = kvs c u l := by
  have h1 : ¬ Str.ofString "cells" = Str.ofString "turn" := by decide +kernel
  have h2 : ¬ Str.ofString "left" = Str.ofString "turn" := by decide +kernel
  unfold putK kvs
  simp [h1, h2]
theorem pL (c : Addr) (t l u : Int) : putK (kvs c t l) kL (.int u) = kvs c t u := by
  have h1 : ¬ Str.ofString "cells" = Str.ofString "left" := by decide +kernel
  have h2 : ¬ Str.ofString "turn" = Str.ofString "left" := by decide +kernel
  unfold putK kvs
  simp [h1, h2]
/-- the pen at p, its cells at c; T: no more turns were taken -/
def Pen (H : Hp) (p c : Addr) (T : Nat) : Prop := ∃ (cs : List Int) (t l : Int), H p = some (.dK (kvs c t l)) ∧ H c = some (.lst (cs.map V.int)) ∧ cs.length ≤ 63 ∧ 0 ≤ t ∧ t ≤ (T : Int) ∧ 0 ≤ l
def But (p : Addr) (H H' : Hp) : Prop := ∀ b o, H b = some o → b ≠ p → H' b = some o
theorem But.refl (p : Addr) (H : Hp) : But p H H := fun _ _ h _ => h
theorem But.trans {p : Addr} {H H1 H2 : Hp} (a : But p H H1) (b : But p H1 H2) : But p H H2 := fun c o h n => b c o (a c o h n) n
theorem But.upd (p : Addr) (H : Hp) (o : HO) : But p H (upd H p o) := fun b u h n => (upd_ne n).trans h
theorem But.same {p : Addr} {H H' : Hp} (s : Same H H') : But p H H' := fun b o h _ => s b o h
theorem Same.new {H : Hp} {a : Addr} {o : HO} (h : H a = none) : Same H (upd H a o) := fun b u e => (upd_ne (ne_of_none e h)).trans e
theorem Pen.mono {H : Hp} {p c : Addr} {T U : Nat} (h : Pen H p c T) (le : T ≤ U) : Pen H p c U := by
  obtain ⟨cs, t, l, h1, h2, h3, h4, h5, h6⟩ := h
  exact ⟨cs, t, l, h1, h2, h3, h4, by omega, h6⟩
theorem Pen.same {H H' : Hp} {p c : Addr} {T : Nat} (h : Pen H p c T) (s : Same H H') : Pen H' p c T := by
  obtain ⟨cs, t, l, h1, h2, r⟩ := h
  exact ⟨cs, t, l, s _ _ h1, s _ _ h2, r⟩
theorem Pen.ne {H : Hp} {p c : Addr} {T : Nat} (h : Pen H p c T) : c ≠ p := by
  obtain ⟨cs, t, l, h1, h2, r⟩ := h
  exact ne_of h2 h1 (by intro z; cases z)
theorem Pen.at {H : Hp} {p c : Addr} {T : Nat} (h : Pen H p c T) : ∃ o, H p = some o := by
  obtain ⟨cs, t, l, h1, r⟩ := h
  exact ⟨_, h1⟩
theorem Pen.not {H : Hp} {p c a : Addr} {T : Nat} (h : Pen H p c T) (e : H a = none) : a ≠ p := by
  obtain ⟨o, h1⟩ := h.at
  exact Ne.symm (ne_of_none h1 e)
/-- a number below n is drawn -/
def spDraw : Sp := fun vs H Q _ => ∃ (p c : Addr) (T : Nat) (n : Int), vs = [.ref p, .int n] ∧ Pen H p c T ∧ T ≤ 1000000 ∧ 0 < n ∧ n.natAbs < 2 ^ 250 ∧
  ∀ (r : Int) (H' : Hp), 0 ≤ r → r < n → Pen H' p c (T + 1) → But p H H' → Q (.int r) H'
/-- a new pen over the script -/
def spBegun (K : PySem.W.Frag) : Sp := fun vs H Q _ => ∃ (a : Addr) (ns : List Int), vs = [.ref a] ∧ SqL K H a (ns.map V.int) ∧ ns.length ≤ 63 ∧
  ∀ (p c : Addr) (H' : Hp), H p = none → Pen H' p c 0 → Same H H' → Q (.ref p) H'
theorem eqv_nil_false {cs : List Int} (h : PyData.eqv (.list (cs.map PyData.int)) (.list []) = false) : cs ≠ [] := by
  intro z
  subst z
  revert h
  decide
theorem dp_ints {K : PySem.W.Frag} {H : Hp} : ∀ cs : List Int, DpAll K H (cs.map V.int) (cs.map PyData.int)
  | [] => .nil
  | n :: r => .cons (.int n) (dp_ints r)
theorem map_erase {α β : Type} (f : α → β) : ∀ (l : List α) (k : Nat), (l.map f).eraseIdx k = (l.eraseIdx k).map f
  | [], _ => by simp
  | _ :: _, 0 => by simp
  | x :: l, k + 1 => by simp [map_erase f l k]
theorem erase_perm {α : Type} : ∀ {l : List α} {k : Nat} (h : k < l.length), (l[k] :: l.eraseIdx k).Perm l
  | x :: l, 0, _ => by simp
  | x :: l, k + 1, h => by
    have q := erase_perm (l := l) (k := k) (by simpa using h)
    have e : ((x :: l)[k + 1] :: (x :: l).eraseIdx (k + 1)) = l[k]'(by simpa using h) :: x :: l.eraseIdx k := by simp
    rw [e]
    exact (List.Perm.swap x _ _).trans (q.cons x)
/-! ### repr of an int, of a text -/
def RepOf (v : V) (z : Str) : Prop := (∃ i : Int, v = .int i ∧ i.natAbs.log2 < 1920 ∧ z = Str.ofString (toString i)) ∨ ∃ y : Str, v = .str y ∧ (reprText y).length ≤ sizeLine ∧ z = reprText y
theorem call_repr {X : Cx} : CallR X (.builtin "repr") (fun xs H Q => ∃ v z, xs = [v] ∧ RepOf v z ∧ Q (.str z) H) := by
  intro pins s σ H xs us Q I r h
  obtain ⟨v, z, rfl, hz, q⟩ := h
  cases r with
  | cons r1 r2 =>
    cases r2
    rcases hz with ⟨i, rfl, hl, rfl⟩ | ⟨y, rfl, hl, rfl⟩
    · obtain ⟨t, rfl⟩ := r1
      exact PySem.P.repr_of_int hl ⟨.str _, H, I.tok _, ⟨_, rfl⟩, q⟩
    · obtain ⟨t, rfl⟩ := r1
      exact PySem.P.repr_of_str (h := ⟨.str _, H, I.tok _, ⟨_, rfl⟩, q⟩) hl
/-! ### lists of texts -/
def Txs (ys : List Str) : Prop := ∀ y ∈ ys, PyData.strOk y = true
theorem Txs.perm {xs ys : List Str} (h : Txs xs) (p : ys.Perm xs) : Txs ys := fun y hy => h y (p.mem_iff.mp hy)
theorem lay_strs : ∀ {ys : List Str}, Txs ys → PyData.canLayAll0 (ys.map PyData.str) = true
  | [], _ => rfl
  | y :: r, h => by
    have h1 := h y List.mem_cons_self
    have h2 := lay_strs (ys := r) fun z hz => h z (List.mem_cons_of_mem _ hz)
    simp [PyData.canLayAll0, PyData.canLay0, h1, h2]
theorem depth_strs : ∀ ys : List Str, PyData.depthAll (ys.map PyData.str) = 0
  | [] => rfl
  | _ :: r => by simp [PyData.depthAll, PyData.depth, depth_strs r]
theorem shaped_strs {ys : List Str} (h : Txs ys) : SeqAt.shaped (.list (ys.map PyData.str)) = true := by
  simp [SeqAt.shaped, PyData.canLay0, PyData.depth, lay_strs h, depth_strs]
theorem shaped_strsT {ys : List Str} (h : Txs ys) : SeqAt.shaped (.tuple (ys.map PyData.str)) = true := by
  simp [SeqAt.shaped, PyData.canLay0, PyData.depth, lay_strs h, depth_strs]
theorem dp_strs {K : PySem.W.Frag} {H : Hp} : ∀ ys : List Str, DpAll K H (ys.map V.str) (ys.map PyData.str)
  | [] => .nil
  | y :: r => .cons (.str y) (dp_strs r)
theorem eqv_strsAll : ∀ xs ys : List Str, PyData.eqvAll (xs.map PyData.str) (ys.map PyData.str) = decide (xs = ys)
  | [], [] => by simp [PyData.eqvAll]
  | [], _ :: _ => by simp [PyData.eqvAll]
  | _ :: _, [] => by simp [PyData.eqvAll]
  | x :: xs, y :: ys => by
    have h := eqv_strsAll xs ys
    rw [List.map_cons, List.map_cons]
    unfold PyData.eqvAll
    rw [h]
    by_cases h1 : x = y <;> by_cases h2 : xs = ys <;> simp [PyData.eqv, h1, h2]
theorem eqv_strs (xs ys : List Str) : PyData.eqv (.list (xs.map PyData.str)) (.list (ys.map PyData.str)) = decide (xs = ys) := by
  rw [← eqv_strsAll]
  simp [PyData.eqv]
theorem seq_in {k : Int} {n : Nat} (h0 : 0 ≤ k) (h : k < (n : Int)) : seqIndex? k n = some k.toNat := by
  have hn : ¬ k < 0 := by omega
  simp [seqIndex?, hn, h0, h]
theorem cut_take (xs : List V) {k : Int} (h : 0 ≤ k) : cutV xs none (some k) = xs.take k.toNat := by
  obtain ⟨n, rfl⟩ := Int.eq_ofNat_of_zero_le h
  unfold cutV
  rw [HT.sIx_nat, HT.sIx_none, List.drop_zero, Nat.sub_zero, Int.toNat_natCast]
  by_cases hn : n ≤ xs.length
  · rw [Nat.min_eq_left hn]
  · rw [Nat.min_eq_right (by omega), List.take_of_length_le (Nat.le_refl _), List.take_of_length_le (by omega)]
/-- a new list of the same texts in some order -/
def spShuf (K : PySem.W.Frag) : Sp := fun vs H Q _ => ∃ (p c a : Addr) (T : Nat) (ys : List Str), vs = [.ref p, .ref a] ∧ Pen H p c T ∧ T + ys.length ≤ 1000000 ∧ SqL K H a (ys.map V.str) ∧ ys.length ≤ 1000 ∧ Txs ys ∧
  ∀ (r : Addr) (zs : List Str) (H' : Hp), zs.Perm ys → H r = none → H' r = some (.lst (zs.map V.str)) → Pen H' p c (T + ys.length) → But p H H' → Q (.ref r) H'
def names : List Str := ["p", "q", "x", "y", "zz", "date", "rows", "abcdefghijkl", "marks", "out", "nextone"]
/-- the first m of the names in some order -/
def spNames : Sp := fun vs H Q _ => ∃ (p c : Addr) (T : Nat) (m : Int), vs = [.ref p, .int m] ∧ Pen H p c T ∧ T + 11 ≤ 1000000 ∧ 0 ≤ m ∧ m ≤ 11 ∧
  ∀ (r : Addr) (zs : List Str) (H' : Hp), zs.Perm names → H r = none → H' r = some (.lst ((zs.take m.toNat).map V.str)) → Pen H' p c (T + 11) → But p H H' → Q (.ref r) H'
theorem names_ok : Txs names := by
  unfold Txs
  decide +kernel
theorem Pen.seq {K : PySem.W.Frag} {H H' : Hp} {p c a : Addr} {T : Nat} {xs : List V} (P : Pen H p c T) (b : But p H H') (h : SqL K H a xs) : SqL K H' a xs := by
  obtain ⟨cs, t, l, hp, _⟩ := P
  rcases h with (h | ⟨o, h⟩) | h
  · exact .inl (.inl (b _ _ h (ne_of h hp (by intro z; cases z))))
  · exact .inl (.inr ⟨o, b _ _ h (ne_of h hp (by intro z; cases z))⟩)
  · exact .inr h
end XP
set_option linter.all false
set_option maxRecDepth 100000
set_option maxHeartbeats 4000000
namespace K18
open PySem L2 NdefX XE
abbrev sBegun : Stmt := top 22
abbrev sDraw : Stmt := top 23
section
variable {P : Program} {w : World} {K : PySem.W.Frag} {mg : Str → Option Value} {base : Heap}
theorem scBegun : FnScope ["script"] ["script"] (defScope sBegun) := ⟨rfl, rfl, rfl, by decide +kernel, rfl, by decide +kernel, by decide +kernel⟩
theorem okBegun {f : Addr} {fd : FuncData} (F : Fun K "_law_begun_pen" "_law_begun_pen" sBegun f fd) (ml : mg "list" = none) : FnOk P w K mg base CX0 1 f fd ["script"] (XP.spBegun K) := by
  refine F.ok scBegun (fun vs H Q E h => by obtain ⟨a, ns, rfl, _⟩ := h; rfl) (fun cdv A outer s H vs Q E hr h => ?_)
  obtain ⟨a, ns, rfl, hS, hl, k⟩ := h
  refine ⟨_, pss_one (ps_ret (pe_disp (pps_cons pe_str (pe_callTy call_list_of (by rfl) ml (by decide +kernel) (pa_cons (pe_slice sl_list (pv 0) po_none (po_some pe_int)) pa_nil)) (pps_cons pe_str pe_int (pps_cons pe_str pe_int pps_nil))) (by rfl) (by rfl) (fun z => by cases z) (by decide))), ?_⟩
  intro p hp
  have s1 : Same H (upd H p (.dK [])) := XP.Same.new hp
  refine ⟨_, rfl, 63, rfl, a, _, rfl, s1.seq hS, fun b hb => ⟨b, _, rfl, .inl (SqL.of upd_same), fun c hc => ?_⟩⟩
  have npb : p ≠ b := ne_of_none upd_same hb
  have hc1 := hc
  have ncb : c ≠ b := fun z => by
    rw [z, upd_same] at hc
    cases hc
  rw [upd_ne ncb] at hc
  have npc : p ≠ c := ne_of_none upd_same hc
  have hcut : ∃ cs : List Int, cutV (ns.map V.int) none (some 63) = cs.map V.int ∧ cs.length ≤ 63 := by
    refine ⟨(ns.drop _).take _, by unfold cutV; rw [← List.map_drop, ← List.map_take], ?_⟩
    rw [List.length_take, List.length_drop]
    omega
  obtain ⟨cs, ecs, lcs⟩ := hcut
  refine ⟨?_, XP.kvs c 0 0, rfl, (show 3 ≤ 15 by decide), ?_⟩
  · rw [upd_ne npc, upd_ne npb, upd_same]
  have em : mergeK [] (XP.kvs c 0 0) = XP.kvs c 0 0 := by
    have h1 : ¬ Str.ofString "cells" = Str.ofString "turn" := by decide +kernel
    have h2 : ¬ Str.ofString "cells" = Str.ofString "left" := by decide +kernel
    have h3 : ¬ Str.ofString "turn" = Str.ofString "left" := by decide +kernel
    simp [mergeK, XP.kvs, putK, h1, h2, h3]
  rw [em]
  refine k p c _ hp ⟨cs, 0, 0, upd_same, ?_, lcs, Int.le_refl 0, Int.le_refl 0, Int.le_refl 0⟩ fun d o e => ?_
  · rw [upd_ne (Ne.symm npc), upd_same, ecs]
  · have ndp := ne_of_none e hp
    have e1 : upd H p (.dK []) d = some o := (upd_ne ndp).trans e
    rw [upd_ne ndp, upd_ne (ne_of_none e1 hc), upd_ne (ne_of_none e1 hb)]
    exact e1
theorem scDraw : FnScope ["pen", "span", "digit", "turn", "cell", "mixed"] ["pen", "span"] (defScope sDraw) := ⟨rfl, rfl, rfl, by decide +kernel, rfl, by decide +kernel, by decide +kernel⟩
theorem okDraw {f : Addr} {fd : FuncData} (F : Fun K "_law_draw" "_law_draw" sDraw f fd) (mi : mg "int" = none) (ml : mg "len" = none) (ma : mg "abs" = none) : FnOk P w K mg base CX0 1 f fd ["pen", "span"] XP.spDraw := by
  refine F.ok scDraw (fun vs H Q E h => by obtain ⟨p, c, T, n, rfl, _⟩ := h; rfl) (fun cdv A outer s H vs Q E hr h => ?_)
  obtain ⟨p, c, T, n, rfl, ⟨cs, t, l, hp, hc, hcs, ht, htT, hl⟩, hT, hn, hn2, k⟩ := h
  have hu := hu_of hr
  have ncp : c ≠ p := ne_of hc hp (by intro z; cases z)
  have nz : n ≠ 0 := by omega
  have gL : ∀ {H : Hp} {u v : Int}, H p = some (.dK (XP.kvs c u v)) → DGet H p (V.str "left") (some (.int v)) := fun {H u v} e => by
    have z := DGet.k (k := XP.kL) e
    rw [XP.vL] at z
    exact z
  have gT : ∀ {H : Hp} {u v : Int}, H p = some (.dK (XP.kvs c u v)) → DGet H p (V.str "turn") (some (.int u)) := fun {H u v} e => by
    have z := DGet.k (k := XP.kT) e
    rw [XP.vT] at z
    exact z
  have gC : ∀ {H : Hp} {u v : Int}, H p = some (.dK (XP.kvs c u v)) → DGet H p (V.str "cells") (some (.ref c)) := fun {H u v} e => by
    have z := DGet.k (k := XP.kC) e
    rw [XP.vC] at z
    exact z
  have low : ∀ x : Int, 0 ≤ x.fmod n ∧ x.fmod n < n := fun x => by
    rw [Int.fmod_eq_emod_of_nonneg x (by omega)]
    exact ⟨Int.emod_nonneg x nz, Int.emod_lt_of_pos x hn⟩
  have sz3 : ∀ u v : Int, (XP.kvs c u v).length < sizeLine := fun u v => small1000 (show 3 ≤ 1000 by decide)
  refine ⟨_, pss_cons (ps_if (pt_cmpR op_gt (pe_dget hu (pv 0) pe_str (fun _ _ => rfl)) pe_int (nomark _))
      (pss_cons (ps_set (i := 2) scDraw.nd rfl (Or.inl rfl) (pe_op op_modN (pe_callTy call_int1 (by rfl) mi (by decide +kernel) (pa_cons (pe_dget hu (pv 0) pe_str (fun _ _ => rfl)) pa_nil)) (pv 1)))
      (pss_cons (ps_dput hu (pv 0) pe_str (pe_op op_fdivW (pe_dget hu (pv 0) pe_str (fun _ _ => rfl)) (pv 1)) rfl)
      (pss_one (ps_ret (pv 2))))) pss_nil)
    (pss_cons (ps_set (i := 3) scDraw.nd rfl (Or.inl rfl) (pe_dget hu (pv 0) pe_str (fun _ _ => rfl)))
    (pss_cons (ps_dput hu (pv 0) pe_str (pe_op op_add (pv 3) pe_int) rfl)
    (pss_cons (ps_set (i := 4) scDraw.nd rfl (Or.inl rfl) (pe_op op_add (pe_op op_mul pe_int (pv 3)) pe_int))
    (pss_cons (ps_if (pt_cmpR (op_neD hr.units) (pe_dget hu (pv 0) pe_str (fun _ _ => rfl)) (pe_lst pa_nil) (nomark _))
      (pss_one (ps_set (i := 4) scDraw.nd rfl (Or.inl rfl) (pe_ix ix_list (pe_dget hu (pv 0) pe_str (fun _ _ => rfl)) (pe_op op_modN (pe_callTy call_int1 (by rfl) mi (by decide +kernel) (pa_cons (pv 3) pa_nil)) (pe_callB call_len_seq (by rfl) ml PySem.boot_len (pa_cons (pe_dget hu (pv 0) pe_str (fun _ _ => rfl)) pa_nil))) (fun _ _ => rfl)))) pss_nil)
    (pss_cons (ps_if (PW.pt (pw_and (pt_cmpR op_lt (pv 3) (pe_callB call_len_seq (by rfl) ml PySem.boot_len (pa_cons (pe_dget hu (pv 0) pe_str (fun _ _ => rfl)) pa_nil)) (nomark _)) (pw_and1 (pt_cmpR op_ge (pe_callB call_abs (by rfl) ma (by decide +kernel) (pa_cons (pv 4) pa_nil)) (pe_op op_pow pe_int pe_int) (nomark _)))))
      (pss_cons (ps_dput hu (pv 0) pe_str (pe_op op_fdivW (pe_op op_sub (pe_callB call_abs (by rfl) ma (by decide +kernel) (pa_cons (pv 4) pa_nil)) (pe_op op_pow pe_int pe_int)) (pv 1)) rfl)
      (pss_one (ps_ret (pe_op op_modN (pe_callTy call_int1 (by rfl) mi (by decide +kernel) (pa_cons (pe_op op_sub (pe_callB call_abs (by rfl) ma (by decide +kernel) (pa_cons (pv 4) pa_nil)) (pe_op op_pow pe_int pe_int)) pa_nil)) (pv 1))))) pss_nil)
    (pss_cons (ps_set (i := 5) scDraw.nd rfl (Or.inl rfl) (pe_op op_mul (pe_op op_modN (pe_callTy call_int1 (by rfl) mi (by decide +kernel) (pa_cons (pv 4) pa_nil)) pe_int) pe_int))
    (pss_cons (ps_set (i := 5) scDraw.nd rfl (Or.inl rfl) (pe_op op_modN (pe_callTy call_int1 (by rfl) mi (by decide +kernel) (pa_cons (pe_op op_add (pe_op op_add (pv 5) (pe_op op_mul (pv 3) (pe_op op_add (pe_op op_mul (pv 3) pe_int) pe_int))) pe_int) pa_nil)) pe_int))
    (pss_cons (ps_set (i := 5) scDraw.nd rfl (Or.inl rfl) (pe_op op_modN (pe_callTy call_int1 (by rfl) mi (by decide +kernel) (pa_cons (pe_op op_mul (pv 5) (pe_op op_add (pv 5) pe_int)) pa_nil)) pe_int))
    (pss_cons (ps_set (i := 5) scDraw.nd rfl (Or.inl rfl) (pe_op op_modN (pe_callTy call_int1 (by rfl) mi (by decide +kernel) (pa_cons (pe_op op_add (pe_op op_add (pe_op op_mul (pv 5) (pv 5)) (pe_op op_mul pe_int (pv 5))) (pe_op op_mul pe_int (pv 3))) pa_nil)) pe_int))
    (pss_one (ps_ret (pe_op op_modN (pe_callTy call_int1 (by rfl) mi (by decide +kernel) (pa_cons (pe_op op_fdivN (pe_op op_modN (pe_callTy call_int1 (by rfl) mi (by decide +kernel) (pa_cons (pe_op op_mul (pv 5) (pe_op op_add (pv 5) pe_int)) pa_nil)) pe_int) pe_int) pa_nil)) (pv 1))))))))))))), ?_⟩
  -- if pen['left'] > 0
  refine ⟨_, rfl, p, _, rfl, gL hp, _, _, rfl, rfl, _, rfl, ?_⟩
  refine ite2 (fun hl0 => ?_) (fun hl0 => ?_)
  · refine ⟨_, rfl, p, _, rfl, gL hp, .inl ⟨l, rfl, _, rfl, _, _, rfl, rfl, nz, ?_⟩⟩
    refine ⟨_, rfl, p, _, rfl, gL hp, _, rfl, _, _, rfl, rfl, wide_div hn hn2 (by decide) (by decide), _, rfl, p, _, rfl, DPut.k (k := XP.kL) hp (sz3 _ _), ?_⟩
    rw [XP.pL]
    refine ⟨_, rfl, k _ _ (low l).1 (low l).2 ⟨cs, t, l / n, upd_same, ?_, hcs, ht, by omega, Int.ediv_nonneg hl (by omega)⟩ (XP.But.upd _ _ _)⟩
    rw [upd_ne ncp]
    exact hc
  -- turn = pen['turn']; pen['turn'] = turn + 1; cell = 61 * turn + 13
  refine ⟨_, rfl, p, _, rfl, gT hp, ?_⟩
  refine ⟨_, rfl, _, _, rfl, rfl, _, rfl, p, _, rfl, DPut.k (k := XP.kT) hp (sz3 _ _), ?_⟩
  rw [XP.pT]
  have hp1 : upd H p (.dK (XP.kvs c (t + 1) l)) p = some (.dK (XP.kvs c (t + 1) l)) := upd_same
  have hc1 : upd H p (.dK (XP.kvs c (t + 1) l)) c = some (.lst (cs.map V.int)) := (upd_ne ncp).trans hc
  have b1 : XP.But p H (upd H p (.dK (XP.kvs c (t + 1) l))) := XP.But.upd _ _ _
  generalize upd H p (.dK (XP.kvs c (t + 1) l)) = H1 at hp1 hc1 b1 ⊢
  refine ⟨_, rfl, _, _, rfl, rfl, .inl ⟨by decide, by decide⟩, _, _, rfl, rfl, ?_⟩
  show gName 4 (V.int (61 * t + 13)) _ _ _
  generalize (61 * t + 13 : Int) = cell
  have rng : ∀ x m : Int, 0 < m → 0 ≤ x.fmod m ∧ x.fmod m < m := fun x m hm => by
    rw [Int.fmod_eq_emod_of_nonneg x (by omega)]
    exact ⟨Int.emod_nonneg x (by omega), Int.emod_lt_of_pos x hm⟩
  -- if pen['cells'] != []
  refine ⟨_, rfl, p, _, rfl, gC hp1, Nat.zero_le _, fun b hb => ⟨.list (cs.map PyData.int), .list [], .lst (SqL.of ?_) (XP.dp_ints cs), .lst (SqL.of upd_same) .nil, PySem.W.ke_shaped_ints cs, by decide, _, rfl, ?_⟩⟩
  · rw [upd_ne (ne_of_none hc1 hb)]
    exact hc1
  have hp2 : upd H1 b (.lst []) p = some (.dK (XP.kvs c (t + 1) l)) := (upd_ne (ne_of_none hp1 hb)).trans hp1
  have hc2 : upd H1 b (.lst []) c = some (.lst (cs.map V.int)) := (upd_ne (ne_of_none hc1 hb)).trans hc1
  have b2 : XP.But p H (upd H1 b (.lst [])) := b1.trans (XP.But.same (XP.Same.new hb))
  generalize upd H1 b (.lst []) = H2 at hp2 hc2 b2 ⊢
  refine ite2 (fun hq => ?brA) (fun hq => ?brB)
  case' brA =>
    have hne : cs ≠ [] := by
      intro z
      subst z
      revert hq
      decide
    have hlen : 0 < cs.length := List.length_pos_iff.mpr hne
    have hr2 := rng t (cs.length : Int) (by omega)
    have hj : (t.fmod (cs.length : Int)).toNat < cs.length := by omega
    have hat : atI (cs.map V.int) (t.fmod (cs.length : Int)) = some (.int cs[(t.fmod (cs.length : Int)).toNat]) := by
      have z : atI (cs.map V.int) (((t.fmod (cs.length : Int)).toNat : Nat) : Int) = some (.int cs[(t.fmod (cs.length : Int)).toNat]) := atI_nat (by rw [List.getElem?_map, List.getElem?_eq_getElem hj] <;> rfl)
      rwa [show (((t.fmod (cs.length : Int)).toNat : Nat) : Int) = t.fmod (cs.length : Int) by omega] at z
    refine ⟨_, rfl, p, _, rfl, gC hp2, _, rfl, .inl ⟨t, rfl, _, rfl, p, _, rfl, gC hp2, c, _, rfl, .inl (SqL.of hc2), _, _, rfl, rfl, (by rw [List.length_map]; omega), c, _, _, _, rfl, rfl, SqL.of hc2, (by rw [List.length_map]; exact hat), ?_⟩⟩
    generalize cs[(t.fmod (cs.length : Int)).toNat] = cell
  all_goals
    -- if turn < len(pen['cells']) and abs(cell) >= 10 ** 18
    refine ⟨_, rfl, _, rfl, p, _, rfl, gC hp2, c, _, rfl, .inl (SqL.of hc2), _, _, rfl, rfl, _, rfl, ?_⟩
    refine ite2 (fun h1 => ?_) (fun h1 => ?_)
    refine ⟨_, rfl, cell, rfl, _, _, rfl, rfl, ⟨by decide, by decide, by decide⟩, _, _, rfl, rfl, _, rfl, ?_⟩
    refine ite2 (fun h2 => ?_) (fun h2 => ?_)
    have h3 := of_decide_eq_true h2
    refine ⟨_, rfl, cell, rfl, _, _, rfl, rfl, ⟨by decide, by decide, by decide⟩, _, _, rfl, rfl, _, rfl, _, _, rfl, rfl, wide_div hn hn2 (by decide) (by decide), _, rfl, p, _, rfl, DPut.k (k := XP.kL) hp2 (sz3 _ _), ?_⟩
    rw [XP.pL]
    refine ⟨_, rfl, cell, rfl, _, _, rfl, rfl, ⟨by decide, by decide, by decide⟩, _, _, rfl, rfl, .inl ⟨_, rfl, _, rfl, _, _, rfl, rfl, nz, ?_⟩⟩
    refine k _ _ (low _).1 (low _).2 ⟨cs, t + 1, _, upd_same, (upd_ne ncp).trans hc2, hcs, by omega, by omega, Int.ediv_nonneg (by omega) (by omega)⟩ (b2.trans (XP.But.upd _ _ _))
    all_goals
      have m1 := rng cell 4294967087 (by decide)
      refine ⟨_, rfl, .inl ⟨cell, rfl, _, _, rfl, rfl, (show (4294967087 : Int) ≠ 0 by decide), _, _, rfl, rfl, .inl ⟨by omega, by omega⟩, ?_⟩⟩
      show gName 5 (V.int (cell.fmod 4294967087 * 48611)) _ _ _
      generalize cell.fmod 4294967087 * 48611 = x1
      have m2 := rng (x1 + t * (t * 27919 + 10601) + 41) 4294967029 (by decide)
      refine ⟨_, rfl, _, rfl, _, rfl, _, _, rfl, rfl, .inl ⟨by omega, by omega⟩, _, _, rfl, rfl, _, _, rfl, rfl, .inl ⟨by omega, by omega⟩, _, _, rfl, rfl, _, _, rfl, rfl, .inl ⟨_, rfl, _, _, rfl, rfl, (show (4294967029 : Int) ≠ 0 by decide), ?_⟩⟩
      show gName 5 (V.int ((x1 + t * (t * 27919 + 10601) + 41).fmod 4294967029)) _ _ _
      generalize (x1 + t * (t * 27919 + 10601) + 41).fmod 4294967029 = x2 at m2 ⊢
      have m3 := rng (x2 * (x2 + 75013)) 4294966997 (by decide)
      refine ⟨_, rfl, _, rfl, _, _, rfl, rfl, _, _, rfl, rfl, .inl ⟨by omega, by omega⟩, .inl ⟨_, rfl, _, _, rfl, rfl, (show (4294966997 : Int) ≠ 0 by decide), ?_⟩⟩
      show gName 5 (V.int ((x2 * (x2 + 75013)).fmod 4294966997)) _ _ _
      generalize (x2 * (x2 + 75013)).fmod 4294966997 = x3 at m3 ⊢
      have m4 := rng (x3 * x3 + 30427 * x3 + 19 * t) 4294966981 (by decide)
      refine ⟨_, rfl, _, rfl, _, _, rfl, rfl, .inl ⟨by omega, by omega⟩, _, rfl, _, _, rfl, rfl, .inl ⟨by decide, by decide⟩, _, _, rfl, rfl, _, rfl, _, _, rfl, rfl, .inl ⟨by decide, by decide⟩, _, _, rfl, rfl, .inl ⟨_, rfl, _, _, rfl, rfl, (show (4294966981 : Int) ≠ 0 by decide), ?_⟩⟩
      show gName 5 (V.int ((x3 * x3 + 30427 * x3 + 19 * t).fmod 4294966981)) _ _ _
      generalize (x3 * x3 + 30427 * x3 + 19 * t).fmod 4294966981 = x4 at m4 ⊢
      refine ⟨_, rfl, _, rfl, _, _, rfl, rfl, _, _, rfl, rfl, .inl ⟨by omega, by omega⟩, .inl ⟨_, rfl, _, _, rfl, rfl, (show (4294966943 : Int) ≠ 0 by decide), _, _, rfl, rfl, (show (64 : Int) ≠ 0 ∧ (64 : Int).natAbs < 1073741824 by decide), .inl ⟨_, rfl, _, rfl, _, _, rfl, rfl, nz, ?_⟩⟩⟩
      exact k _ _ (low _).1 (low _).2 ⟨cs, t + 1, l, hp2, hc2, hcs, by omega, by omega, hl⟩ b2
end
end K18
set_option linter.all false
set_option maxRecDepth 100000
set_option maxHeartbeats 4000000
namespace K18
open PySem L2 NdefX XE
abbrev sShuf : Stmt := top 24
abbrev sNames : Stmt := top 25
section
variable {P : Program} {w : World} {K : PySem.W.Frag} {mg : Str → Option Value} {base : Heap}
theorem scShuf : FnScope ["pen", "items", "left", "found"] ["pen", "items"] (defScope sShuf) := ⟨rfl, rfl, rfl, by decide +kernel, rfl, by decide +kernel, by decide +kernel⟩
theorem okShuf {f fD : Addr} {fd fdD : FuncData} (F : Fun K "_law_shuffled" "_law_shuffled" sShuf f fd) (ml : mg "len" = none) (mL : mg "list" = none) (GD : FnOk P w K mg base CX0 1 fD fdD ["pen", "span"] XP.spDraw) (bD : Binds K fdD ["pen", "span"] []) (kD : PySem.W.keepIn K (.ref fD) = true)
    (mD : mg "_law_draw" = some (.ref fD)) : FnOk P w K mg base CX0 2 f fd ["pen", "items"] (XP.spShuf K) := by
  refine F.ok scShuf (fun vs H Q E h => by obtain ⟨p, c, a, T, ys, rfl, _⟩ := h; rfl) (fun cdv A outer s H vs Q E hr h => ?_)
  obtain ⟨p, c, a, T, ys, rfl, hP, hT, hS, hy, hx, k⟩ := h
  refine ⟨_, pss_cons (ps_par (i := 2) (j := 3) rfl scShuf.nd rfl rfl (by decide) rfl rfl (pa_cons (pe_callTy call_list_of (by rfl) mL (by decide +kernel) (pa_cons (pv 1) pa_nil)) (pa_cons (pe_lst pa_nil) pa_nil)) (by rfl))
    (pss_cons (ps_while PassesOwn.never (pt_cmpR (op_neD hr.units) (pv 2) (pe_lst pa_nil) (nomark _))
      (pss_one (ps_expr (pe_bm PySem.F.plainAttrs_list PySem.F.slot_list_append PySem.F.type_list_append mt_append (pv 3)
        (pa_cons (pe_bm PySem.F.plainAttrs_list PySem.F.slot_list_pop PySem.F.type_list_pop mt_popAt (pv 2) (pa_cons (pe_call GD hr rfl mD kD bD .nil pass0 (pa_cons (pv 0) (pa_cons (pe_callB call_len_seq (by rfl) ml PySem.boot_len (pa_cons (pv 2) pa_nil)) pa_nil))) pa_nil)) pa_nil)))))
    (pss_one (ps_ret (pv 3)))), ?_⟩
  refine ⟨_, rfl, a, _, rfl, .inl (hP.seq (XP.But.refl p H) hS), fun lf hlf => ?_⟩
  refine ⟨Nat.zero_le _, fun fd' hfd => ⟨_, _, rfl, ?_⟩⟩
  have nlf : fd' ≠ lf := fun z => by
    rw [z, upd_same] at hfd
    cases hfd
  have hfd0 : H fd' = none := by
    rw [upd_ne nlf] at hfd
    exact hfd
  have s0 : Same H (upd (upd H lf (.lst (ys.map V.str))) fd' (.lst [])) := fun b o e => by
    rw [upd_ne (ne_of_none e hfd0), upd_ne (ne_of_none e hlf)]
    exact e
  -- while left != []
  refine ⟨fun m σ H1 => ∃ ls fs : List Str, σ = [some (.ref p), some (.ref a), some (.ref lf), some (.ref fd')] ∧ m = ls.length ∧ H1 lf = some (.lst (ls.map V.str)) ∧ H1 fd' = some (.lst (fs.map V.str)) ∧ (fs ++ ls).Perm ys ∧ XP.Pen H1 p c (T + fs.length) ∧ XP.But p H H1,
    ⟨ys.length, ys, [], rfl, rfl, by rw [upd_ne (Ne.symm nlf), upd_same], upd_same, List.Perm.refl _, hP.same s0, XP.But.same s0⟩, ?_⟩
  rintro m σ H1 ⟨ls, fs, rfl, rfl, h1, h2, hpm, hP1, hb1⟩
  have hlen := hpm.length_eq
  rw [List.length_append] at hlen
  have hxl : XP.Txs ls := fun y hy => hx y (hpm.mem_iff.mp (List.mem_append_right _ hy))
  refine ⟨_, rfl, Nat.zero_le _, fun b hb => ⟨.list (ls.map PyData.str), .list ([].map PyData.str), .lst (SqL.of ((XP.Same.new hb) _ _ h1)) (XP.dp_strs ls), .lst (SqL.of upd_same) .nil, XP.shaped_strs hxl, by decide, _, rfl, ?_⟩⟩
  rw [XP.eqv_strs]
  have s1 : Same H1 (upd H1 b (.lst [])) := XP.Same.new hb
  have h1' := s1 _ _ h1
  have h2' := s1 _ _ h2
  have hP1' := hP1.same s1
  have hb1' := hb1.trans (XP.But.same s1)
  generalize upd H1 b (.lst []) = H2 at h1' h2' hP1' hb1' ⊢
  by_cases hne : ls = []
  · subst hne
    refine iteNS rfl ?_
    rw [List.append_nil] at hpm
    rw [List.length_nil, Nat.add_zero] at hlen
    refine ⟨_, rfl, k fd' fs H2 hpm hfd0 h2' ?_ hb1'⟩
    rw [← hlen]
    exact hP1'
  · have hpos : 0 < ls.length := List.length_pos_iff.mpr hne
    rw [decide_eq_false hne]
    refine iteT ⟨_, fun σ' H' hN => ⟨ls.length - 1, by omega, hN⟩, ?_⟩
    refine ⟨_, rfl, .inl ⟨rfl, _, SqL.of h2'⟩, _, rfl, .inl ⟨rfl, _, SqL.of h1'⟩, ?_⟩
    refine ⟨_, rfl, _, rfl, lf, _, rfl, .inl (SqL.of h1'), p, c, T + fs.length, _, rfl, hP1', by omega, (by rw [List.length_map]; omega), ?_, fun r H3 r0 rn hP3 hb3 => ?_⟩
    · rw [List.length_map]
      show ((ls.length : Nat) : Int).natAbs < 2 ^ 250
      have : (2 : Nat) ^ 250 > 1000 := by decide
      omega
    rw [List.length_map] at rn
    obtain ⟨q1, hq1⟩ := hP.at
    have nlp : lf ≠ p := Ne.symm (ne_of_none hq1 hlf)
    have nfp : fd' ≠ p := Ne.symm (ne_of_none hq1 hfd0)
    have h31 := hb3 _ _ h1' nlp
    have h32 := hb3 _ _ h2' nfp
    have hk : r.toNat < ls.length := by omega
    refine ⟨lf, _, r, r.toNat, .str ls[r.toNat], rfl, rfl, h31, by omega, by omega, by rw [List.length_map]; exact XP.seq_in r0 rn, by rw [List.getElem?_map, List.getElem?_eq_getElem hk] <;> rfl, ?_⟩
    refine ⟨fd', _, _, rfl, rfl, (upd_ne nlf).trans h32, ?_, ?_⟩
    · rw [List.length_map]
      exact small1000 (by omega)
    refine ⟨ls.eraseIdx r.toNat, fs ++ [ls[r.toNat]], rfl, ?_, ?_, ?_, ?_, ?_, ?_⟩
    · rw [List.length_eraseIdx, if_pos hk]
    · rw [upd_ne (Ne.symm nlf), upd_same, XP.map_erase]
    · rw [upd_same, List.map_append]
      rfl
    · refine List.Perm.trans ?_ hpm
      rw [List.append_assoc]
      refine List.Perm.append_left fs ?_
      exact XP.erase_perm hk
    · rw [List.length_append, List.length_singleton]
      obtain ⟨cs, t, l, a1, a2, a3⟩ := hP3
      have ncl : c ≠ lf := fun z => by
        obtain ⟨cs0, t0, l0, b1, b2, _⟩ := hP
        rw [z, hlf] at b2
        cases b2
      have ncf : c ≠ fd' := fun z => by
        obtain ⟨cs0, t0, l0, b1, b2, _⟩ := hP
        rw [z, hfd0] at b2
        cases b2
      exact ⟨cs, t, l, by rw [upd_ne (Ne.symm nfp), upd_ne (Ne.symm nlp)]; exact a1, by rw [upd_ne ncf, upd_ne ncl]; exact a2, a3⟩
    · intro d o e hd
      rw [upd_ne (ne_of_none e hfd0), upd_ne (ne_of_none e hlf)]
      exact hb3 _ _ (hb1' d o e hd) hd
end
end K18
set_option linter.all false
set_option maxRecDepth 100000
set_option maxHeartbeats 4000000
namespace K18
open PySem L2 NdefX XE
section
variable {P : Program} {w : World} {K : PySem.W.Frag} {mg : Str → Option Value} {base : Heap}
theorem scNames : FnScope ["pen", "many", "names"] ["pen", "many"] (defScope sNames) := ⟨rfl, rfl, rfl, by decide +kernel, rfl, by decide +kernel, by decide +kernel⟩
theorem okNames {f fS : Addr} {fd fdS : FuncData} (F : Fun K "_law_new_names" "_law_new_names" sNames f fd) (GS : FnOk P w K mg base CX0 2 fS fdS ["pen", "items"] (XP.spShuf K)) (bS : Binds K fdS ["pen", "items"] []) (kS : PySem.W.keepIn K (.ref fS) = true)
    (mS : mg "_law_shuffled" = some (.ref fS)) : FnOk P w K mg base CX0 3 f fd ["pen", "many"] XP.spNames := by
  refine F.ok scNames (fun vs H Q E h => by obtain ⟨p, c, T, m, rfl, _⟩ := h; rfl) (fun cdv A outer s H vs Q E hr h => ?_)
  obtain ⟨p, c, T, m, rfl, hP, hT, m0, m11, k⟩ := h
  refine ⟨_, pss_cons (ps_set (i := 2) scNames.nd rfl (Or.inl rfl) (pe_lst (pa_cons pe_str (pa_cons pe_str (pa_cons pe_str (pa_cons pe_str (pa_cons pe_str (pa_cons pe_str (pa_cons pe_str (pa_cons pe_str (pa_cons pe_str (pa_cons pe_str (pa_cons pe_str pa_nil)))))))))))))
    (pss_one (ps_ret (pe_slice sl_list (pe_call GS hr rfl mS kS bS .nil pass0 (pa_cons (pv 0) (pa_cons (pv 2) pa_nil))) po_none (po_some (pv 1))))), ?_⟩
  refine ⟨(by show 11 ≤ sizeLine; decide), fun l hl => ?_⟩
  have s1 : Same H (upd H l (.lst (XP.names.map V.str))) := XP.Same.new hl
  have hP1 := hP.same s1
  refine ⟨_, rfl, _, rfl, p, c, l, T, XP.names, rfl, hP1, (show T + 11 ≤ 1000000 from hT), SqL.of upd_same, (by decide), XP.names_ok, fun r zs H2 hz r0 hr2 hP2 hb2 => ?_⟩
  refine ⟨_, rfl, m, rfl, r, _, rfl, SqL.of hr2, fun q hq => ?_⟩
  rw [XP.cut_take _ m0, ← List.map_take]
  have hb : XP.But p H H2 := (XP.But.same s1).trans hb2
  have n0 : H q = none := by
    cases e : H q with
    | none => rfl
    | some o =>
      by_cases z : q = p
      · obtain ⟨o2, e2⟩ := hP2.at
        rw [z, e2] at hq
        cases hq
      · rw [hb q o e z] at hq
        cases hq
  exact k q zs _ hz n0 upd_same (hP2.same (XP.Same.new hq)) (hb.trans (XP.But.same (XP.Same.new hq)))
end
end K18
set_option linter.all false
set_option maxRecDepth 100000
set_option maxHeartbeats 4000000
namespace K18
open PySem L2 NdefX XE
/-! ### the classes of the errors -/
structure Cs where
  BadInputs : Addr
  BadName : Addr
  BadSaying : Addr
  BadScene : Addr
  BadScript : Addr
  BadWalk : Addr
  BadWorld : Addr
  Barred : Addr
  NoButton : Addr
  NoGuard : Addr
  NoLots : Addr
  NoMark : Addr
  NoRow : Addr
  NoThing : Addr
  NotBare : Addr
  NothingToUndo : Addr
  OtherScene : Addr
  Taken : Addr
  Unlike : Addr
def Cs.all (c : Cs) : List Addr := [c.BadInputs, c.BadName, c.BadSaying, c.BadScene, c.BadScript, c.BadWalk, c.BadWorld, c.Barred, c.NoButton, c.NoGuard, c.NoLots, c.NoMark, c.NoRow, c.NoThing, c.NotBare, c.NothingToUndo, c.OtherScene, c.Taken, c.Unlike]
/-- what the top has written of them; S: the base of all -/
structure Txt (K : PySem.W.Frag) (mg : Str → Option Value) (c : Cs) (S : Addr) : Prop where
  mBadInputs : mg "BadInputs" = some (.ref c.BadInputs)
  mBadName : mg "BadName" = some (.ref c.BadName)
  mBadSaying : mg "BadSaying" = some (.ref c.BadSaying)
  mBadScene : mg "BadScene" = some (.ref c.BadScene)
  mBadScript : mg "BadScript" = some (.ref c.BadScript)
  mBadWalk : mg "BadWalk" = some (.ref c.BadWalk)
  mBadWorld : mg "BadWorld" = some (.ref c.BadWorld)
  mBarred : mg "Barred" = some (.ref c.Barred)
  mNoButton : mg "NoButton" = some (.ref c.NoButton)
  mNoGuard : mg "NoGuard" = some (.ref c.NoGuard)
  mNoLots : mg "NoLots" = some (.ref c.NoLots)
  mNoMark : mg "NoMark" = some (.ref c.NoMark)
  mNoRow : mg "NoRow" = some (.ref c.NoRow)
  mNoThing : mg "NoThing" = some (.ref c.NoThing)
  mNotBare : mg "NotBare" = some (.ref c.NotBare)
  mNothingToUndo : mg "NothingToUndo" = some (.ref c.NothingToUndo)
  mOtherScene : mg "OtherScene" = some (.ref c.OtherScene)
  mTaken : mg "Taken" = some (.ref c.Taken)
  mUnlike : mg "Unlike" = some (.ref c.Unlike)
  mS : mg "SeatError" = some (.ref S)
  mV : mg "ValueError" = none
  mis : mg "isinstance" = none
  mint : mg "int" = none
  mrepr : mg "repr" = none
  mlist : mg "list" = none
  mlen : mg "len" = none
  mrange : mg "range" = none
  nBadInputs : PySem.W.findIn K (.ref c.BadInputs) "index" = some none
  nBadName : PySem.W.findIn K (.ref c.BadName) "name" = some none
  nBadSaying : PySem.W.findIn K (.ref c.BadSaying) "index" = some none
  nBadScene : PySem.W.findIn K (.ref c.BadScene) "line" = some none
  nBadScript : PySem.W.findIn K (.ref c.BadScript) "line" = some none
  nBadWalk : PySem.W.findIn K (.ref c.BadWalk) "index" = some none
  nBadWorld : PySem.W.findIn K (.ref c.BadWorld) "line" = some none
  nBarred : PySem.W.findIn K (.ref c.Barred) "names" = some none
  nNoButton : PySem.W.findIn K (.ref c.NoButton) "name" = some none
  nNoGuard : PySem.W.findIn K (.ref c.NoGuard) "name" = some none
  nNoMark : PySem.W.findIn K (.ref c.NoMark) "name" = some none
  nNoRow : PySem.W.findIn K (.ref c.NoRow) "name" = some none
  nNoThing : PySem.W.findIn K (.ref c.NoThing) "name" = some none
  nNotBare : PySem.W.findIn K (.ref c.NotBare) "index" = some none
  nTaken : PySem.W.findIn K (.ref c.Taken) "name" = some none
  kit : ∀ C ∈ c.all, ∀ D ∈ c.all, PySem.W.kitOne K (.ref C) (.ref D) = some (decide (C = D))
  kitS : ∀ C ∈ c.all, PySem.W.kitOne K (.ref C) (.ref S) = some true
  kitV : ∀ C ∈ c.all, PySem.W.kitOne K (.ref C) (.type "ValueError") = some true
  exA : ∀ C ∈ c.all, ExA K C
  oex : ∀ C ∈ c.all, OexC K C
  nd : c.all.Nodup
theorem inBadInputs (c : Cs) : c.BadInputs ∈ c.all := by simp [Cs.all]
theorem inBadName (c : Cs) : c.BadName ∈ c.all := by simp [Cs.all]
theorem inBadSaying (c : Cs) : c.BadSaying ∈ c.all := by simp [Cs.all]
theorem inBadScene (c : Cs) : c.BadScene ∈ c.all := by simp [Cs.all]
theorem inBadScript (c : Cs) : c.BadScript ∈ c.all := by simp [Cs.all]
theorem inBadWalk (c : Cs) : c.BadWalk ∈ c.all := by simp [Cs.all]
theorem inBadWorld (c : Cs) : c.BadWorld ∈ c.all := by simp [Cs.all]
theorem inBarred (c : Cs) : c.Barred ∈ c.all := by simp [Cs.all]
theorem inNoButton (c : Cs) : c.NoButton ∈ c.all := by simp [Cs.all]
theorem inNoGuard (c : Cs) : c.NoGuard ∈ c.all := by simp [Cs.all]
theorem inNoLots (c : Cs) : c.NoLots ∈ c.all := by simp [Cs.all]
theorem inNoMark (c : Cs) : c.NoMark ∈ c.all := by simp [Cs.all]
theorem inNoRow (c : Cs) : c.NoRow ∈ c.all := by simp [Cs.all]
theorem inNoThing (c : Cs) : c.NoThing ∈ c.all := by simp [Cs.all]
theorem inNotBare (c : Cs) : c.NotBare ∈ c.all := by simp [Cs.all]
theorem inNothingToUndo (c : Cs) : c.NothingToUndo ∈ c.all := by simp [Cs.all]
theorem inOtherScene (c : Cs) : c.OtherScene ∈ c.all := by simp [Cs.all]
theorem inTaken (c : Cs) : c.Taken ∈ c.all := by simp [Cs.all]
theorem inUnlike (c : Cs) : c.Unlike ∈ c.all := by simp [Cs.all]
theorem sum_one {C : Addr} : ∀ {l : List Addr}, l.Nodup → C ∈ l → (l.map fun D => (if decide (C = D) = true then (1 : Int) else 0)).sum = 1
  | D :: l, nd, h => by
    have h0 : ∀ l : List Addr, C ∉ l → (l.map fun D => (if decide (C = D) = true then (1 : Int) else 0)).sum = 0 := by
      intro l
      induction l with
      | nil => intro _; rfl
      | cons x l ih =>
        intro hx
        have h1 : ¬ C = x := fun z => hx (by rw [z]; exact List.mem_cons_self)
        have h2 : C ∉ l := fun z => hx (List.mem_cons_of_mem _ z)
        rw [List.map_cons, List.sum_cons, ih h2, if_neg (by simp [h1])]
        rfl
    obtain ⟨n1, n2⟩ := List.nodup_cons.mp nd
    rw [List.map_cons, List.sum_cons]
    by_cases e : C = D
    · subst e
      rw [if_pos (by simp), h0 l n1]
      rfl
    · rw [if_neg (by simp [e])]
      rcases List.mem_cons.mp h with z | z
      · exact absurd z e
      · rw [sum_one n2 z]
        rfl
abbrev sClasses : Stmt := top 26
abbrev sIsOne : Stmt := top 27
section
variable {P : Program} {w : World} {K : PySem.W.Frag} {mg : Str → Option Value} {base : Heap} {c : Cs} {S : Addr}
theorem scClasses : FnScope ["e", "one"] ["e"] (defScope sClasses) := ⟨rfl, rfl, rfl, by decide +kernel, rfl, by decide +kernel, by decide +kernel⟩
/-- an error is of one class alone -/
def spClasses (c : Cs) : Sp := fun vs H Q _ => ∃ a C, vs = [.ref a] ∧ ExAt H a C ∧ C ∈ c.all ∧ Q (.int 1) H
set_option maxHeartbeats 16000000 in
theorem okClasses {f : Addr} {fd : FuncData} (F : Fun K "_law_classes" "_law_classes" sClasses f fd) (T : Txt K mg c S) : FnOk P w K mg base CX0 1 f fd ["e"] (spClasses c) := by
  refine F.ok scClasses (fun vs H Q E h => by obtain ⟨a, C, rfl, _⟩ := h; rfl) (fun cdv A outer s H vs Q E hr h => ?_)
  obtain ⟨a, C, rfl, he, hC, q⟩ := h
  refine ⟨_, (pss_cons (ps_set (i := 1) scClasses.nd rfl (Or.inl rfl) (pe_op op_add (pe_op op_add (pe_callTy call_int1 (by rfl) T.mint (by decide +kernel) (pa_cons (pe_callB call_isX (by rfl) T.mis (by decide +kernel) (pa_cons (pv 0) (pa_cons (pe_glob (v := .ref c.BadInputs) (by rfl) T.mBadInputs rfl) pa_nil))) pa_nil)) (pe_callTy call_int1 (by rfl) T.mint (by decide +kernel) (pa_cons (pe_callB call_isX (by rfl) T.mis (by decide +kernel) (pa_cons (pv 0) (pa_cons (pe_glob (v := .ref c.BadName) (by rfl) T.mBadName rfl) pa_nil))) pa_nil))) (pe_callTy call_int1 (by rfl) T.mint (by decide +kernel) (pa_cons (pe_callB call_isX (by rfl) T.mis (by decide +kernel) (pa_cons (pv 0) (pa_cons (pe_glob (v := .ref c.BadSaying) (by rfl) T.mBadSaying rfl) pa_nil))) pa_nil))))
      (pss_cons (ps_set (i := 1) scClasses.nd rfl (Or.inl rfl) (pe_op op_add (pe_op op_add (pe_op op_add (pv 1) (pe_callTy call_int1 (by rfl) T.mint (by decide +kernel) (pa_cons (pe_callB call_isX (by rfl) T.mis (by decide +kernel) (pa_cons (pv 0) (pa_cons (pe_glob (v := .ref c.BadScene) (by rfl) T.mBadScene rfl) pa_nil))) pa_nil))) (pe_callTy call_int1 (by rfl) T.mint (by decide +kernel) (pa_cons (pe_callB call_isX (by rfl) T.mis (by decide +kernel) (pa_cons (pv 0) (pa_cons (pe_glob (v := .ref c.BadScript) (by rfl) T.mBadScript rfl) pa_nil))) pa_nil))) (pe_callTy call_int1 (by rfl) T.mint (by decide +kernel) (pa_cons (pe_callB call_isX (by rfl) T.mis (by decide +kernel) (pa_cons (pv 0) (pa_cons (pe_glob (v := .ref c.BadWalk) (by rfl) T.mBadWalk rfl) pa_nil))) pa_nil))))
      (pss_cons (ps_set (i := 1) scClasses.nd rfl (Or.inl rfl) (pe_op op_add (pe_op op_add (pe_op op_add (pv 1) (pe_callTy call_int1 (by rfl) T.mint (by decide +kernel) (pa_cons (pe_callB call_isX (by rfl) T.mis (by decide +kernel) (pa_cons (pv 0) (pa_cons (pe_glob (v := .ref c.BadWorld) (by rfl) T.mBadWorld rfl) pa_nil))) pa_nil))) (pe_callTy call_int1 (by rfl) T.mint (by decide +kernel) (pa_cons (pe_callB call_isX (by rfl) T.mis (by decide +kernel) (pa_cons (pv 0) (pa_cons (pe_glob (v := .ref c.Barred) (by rfl) T.mBarred rfl) pa_nil))) pa_nil))) (pe_callTy call_int1 (by rfl) T.mint (by decide +kernel) (pa_cons (pe_callB call_isX (by rfl) T.mis (by decide +kernel) (pa_cons (pv 0) (pa_cons (pe_glob (v := .ref c.NoButton) (by rfl) T.mNoButton rfl) pa_nil))) pa_nil))))
      (pss_cons (ps_set (i := 1) scClasses.nd rfl (Or.inl rfl) (pe_op op_add (pe_op op_add (pe_op op_add (pv 1) (pe_callTy call_int1 (by rfl) T.mint (by decide +kernel) (pa_cons (pe_callB call_isX (by rfl) T.mis (by decide +kernel) (pa_cons (pv 0) (pa_cons (pe_glob (v := .ref c.NoGuard) (by rfl) T.mNoGuard rfl) pa_nil))) pa_nil))) (pe_callTy call_int1 (by rfl) T.mint (by decide +kernel) (pa_cons (pe_callB call_isX (by rfl) T.mis (by decide +kernel) (pa_cons (pv 0) (pa_cons (pe_glob (v := .ref c.NoLots) (by rfl) T.mNoLots rfl) pa_nil))) pa_nil))) (pe_callTy call_int1 (by rfl) T.mint (by decide +kernel) (pa_cons (pe_callB call_isX (by rfl) T.mis (by decide +kernel) (pa_cons (pv 0) (pa_cons (pe_glob (v := .ref c.NoMark) (by rfl) T.mNoMark rfl) pa_nil))) pa_nil))))
      (pss_cons (ps_set (i := 1) scClasses.nd rfl (Or.inl rfl) (pe_op op_add (pe_op op_add (pe_op op_add (pv 1) (pe_callTy call_int1 (by rfl) T.mint (by decide +kernel) (pa_cons (pe_callB call_isX (by rfl) T.mis (by decide +kernel) (pa_cons (pv 0) (pa_cons (pe_glob (v := .ref c.NoRow) (by rfl) T.mNoRow rfl) pa_nil))) pa_nil))) (pe_callTy call_int1 (by rfl) T.mint (by decide +kernel) (pa_cons (pe_callB call_isX (by rfl) T.mis (by decide +kernel) (pa_cons (pv 0) (pa_cons (pe_glob (v := .ref c.NoThing) (by rfl) T.mNoThing rfl) pa_nil))) pa_nil))) (pe_callTy call_int1 (by rfl) T.mint (by decide +kernel) (pa_cons (pe_callB call_isX (by rfl) T.mis (by decide +kernel) (pa_cons (pv 0) (pa_cons (pe_glob (v := .ref c.NotBare) (by rfl) T.mNotBare rfl) pa_nil))) pa_nil))))
      (pss_cons (ps_set (i := 1) scClasses.nd rfl (Or.inl rfl) (pe_op op_add (pe_op op_add (pe_op op_add (pv 1) (pe_callTy call_int1 (by rfl) T.mint (by decide +kernel) (pa_cons (pe_callB call_isX (by rfl) T.mis (by decide +kernel) (pa_cons (pv 0) (pa_cons (pe_glob (v := .ref c.NothingToUndo) (by rfl) T.mNothingToUndo rfl) pa_nil))) pa_nil))) (pe_callTy call_int1 (by rfl) T.mint (by decide +kernel) (pa_cons (pe_callB call_isX (by rfl) T.mis (by decide +kernel) (pa_cons (pv 0) (pa_cons (pe_glob (v := .ref c.OtherScene) (by rfl) T.mOtherScene rfl) pa_nil))) pa_nil))) (pe_callTy call_int1 (by rfl) T.mint (by decide +kernel) (pa_cons (pe_callB call_isX (by rfl) T.mis (by decide +kernel) (pa_cons (pv 0) (pa_cons (pe_glob (v := .ref c.Taken) (by rfl) T.mTaken rfl) pa_nil))) pa_nil))))
      (pss_one (ps_ret (pe_op op_add (pv 1) (pe_callTy call_int1 (by rfl) T.mint (by decide +kernel) (pa_cons (pe_callB call_isX (by rfl) T.mis (by decide +kernel) (pa_cons (pv 0) (pa_cons (pe_glob (v := .ref c.Unlike) (by rfl) T.mUnlike rfl) pa_nil))) pa_nil))))))))))), ?_⟩
  refine ⟨_, rfl, a, C, .ref c.BadInputs, .ref c.BadInputs, decide (C = c.BadInputs), rfl, he, T.exA C hC, (fun u z => z), T.kit C hC _ (inBadInputs c), .inr ⟨_, rfl, _, rfl, a, C, .ref c.BadName, .ref c.BadName, decide (C = c.BadName), rfl, he, T.exA C hC, (fun u z => z), T.kit C hC _ (inBadName c), .inr ⟨_, rfl, _, _, rfl, rfl, _, rfl, a, C, .ref c.BadSaying, .ref c.BadSaying, decide (C = c.BadSaying), rfl, he, T.exA C hC, (fun u z => z), T.kit C hC _ (inBadSaying c), .inr ⟨_, rfl, _, _, rfl, rfl, ?_⟩⟩⟩⟩
  refine ⟨_, rfl, _, rfl, a, C, .ref c.BadScene, .ref c.BadScene, decide (C = c.BadScene), rfl, he, T.exA C hC, (fun u z => z), T.kit C hC _ (inBadScene c), .inr ⟨_, rfl, _, _, rfl, rfl, _, rfl, a, C, .ref c.BadScript, .ref c.BadScript, decide (C = c.BadScript), rfl, he, T.exA C hC, (fun u z => z), T.kit C hC _ (inBadScript c), .inr ⟨_, rfl, _, _, rfl, rfl, _, rfl, a, C, .ref c.BadWalk, .ref c.BadWalk, decide (C = c.BadWalk), rfl, he, T.exA C hC, (fun u z => z), T.kit C hC _ (inBadWalk c), .inr ⟨_, rfl, _, _, rfl, rfl, ?_⟩⟩⟩⟩
  refine ⟨_, rfl, _, rfl, a, C, .ref c.BadWorld, .ref c.BadWorld, decide (C = c.BadWorld), rfl, he, T.exA C hC, (fun u z => z), T.kit C hC _ (inBadWorld c), .inr ⟨_, rfl, _, _, rfl, rfl, _, rfl, a, C, .ref c.Barred, .ref c.Barred, decide (C = c.Barred), rfl, he, T.exA C hC, (fun u z => z), T.kit C hC _ (inBarred c), .inr ⟨_, rfl, _, _, rfl, rfl, _, rfl, a, C, .ref c.NoButton, .ref c.NoButton, decide (C = c.NoButton), rfl, he, T.exA C hC, (fun u z => z), T.kit C hC _ (inNoButton c), .inr ⟨_, rfl, _, _, rfl, rfl, ?_⟩⟩⟩⟩
  refine ⟨_, rfl, _, rfl, a, C, .ref c.NoGuard, .ref c.NoGuard, decide (C = c.NoGuard), rfl, he, T.exA C hC, (fun u z => z), T.kit C hC _ (inNoGuard c), .inr ⟨_, rfl, _, _, rfl, rfl, _, rfl, a, C, .ref c.NoLots, .ref c.NoLots, decide (C = c.NoLots), rfl, he, T.exA C hC, (fun u z => z), T.kit C hC _ (inNoLots c), .inr ⟨_, rfl, _, _, rfl, rfl, _, rfl, a, C, .ref c.NoMark, .ref c.NoMark, decide (C = c.NoMark), rfl, he, T.exA C hC, (fun u z => z), T.kit C hC _ (inNoMark c), .inr ⟨_, rfl, _, _, rfl, rfl, ?_⟩⟩⟩⟩
  refine ⟨_, rfl, _, rfl, a, C, .ref c.NoRow, .ref c.NoRow, decide (C = c.NoRow), rfl, he, T.exA C hC, (fun u z => z), T.kit C hC _ (inNoRow c), .inr ⟨_, rfl, _, _, rfl, rfl, _, rfl, a, C, .ref c.NoThing, .ref c.NoThing, decide (C = c.NoThing), rfl, he, T.exA C hC, (fun u z => z), T.kit C hC _ (inNoThing c), .inr ⟨_, rfl, _, _, rfl, rfl, _, rfl, a, C, .ref c.NotBare, .ref c.NotBare, decide (C = c.NotBare), rfl, he, T.exA C hC, (fun u z => z), T.kit C hC _ (inNotBare c), .inr ⟨_, rfl, _, _, rfl, rfl, ?_⟩⟩⟩⟩
  refine ⟨_, rfl, _, rfl, a, C, .ref c.NothingToUndo, .ref c.NothingToUndo, decide (C = c.NothingToUndo), rfl, he, T.exA C hC, (fun u z => z), T.kit C hC _ (inNothingToUndo c), .inr ⟨_, rfl, _, _, rfl, rfl, _, rfl, a, C, .ref c.OtherScene, .ref c.OtherScene, decide (C = c.OtherScene), rfl, he, T.exA C hC, (fun u z => z), T.kit C hC _ (inOtherScene c), .inr ⟨_, rfl, _, _, rfl, rfl, _, rfl, a, C, .ref c.Taken, .ref c.Taken, decide (C = c.Taken), rfl, he, T.exA C hC, (fun u z => z), T.kit C hC _ (inTaken c), .inr ⟨_, rfl, _, _, rfl, rfl, ?_⟩⟩⟩⟩
  refine ⟨_, rfl, _, rfl, a, C, .ref c.Unlike, .ref c.Unlike, decide (C = c.Unlike), rfl, he, T.exA C hC, (fun u z => z), T.kit C hC _ (inUnlike c), .inr ⟨_, rfl, _, _, rfl, rfl, ?_⟩⟩
  have hs := sum_one T.nd hC
  simp only [Cs.all, List.map_cons, List.map_nil, List.sum_cons, List.sum_nil] at hs
  have e : ∀ z : Int, z = 1 → Q (.int z) H := fun z hz => by
    rw [hz]
    exact q
  refine e _ ?_
  omega
theorem scIsOne : FnScope ["e", "kind"] ["e", "kind"] (defScope sIsOne) := ⟨rfl, rfl, rfl, by decide +kernel, rfl, by decide +kernel, by decide +kernel⟩
def spIsOne (c : Cs) : Sp := fun vs H Q _ => ∃ a C, vs = [.ref a, .bl true] ∧ ExAt H a C ∧ C ∈ c.all ∧ Q (.bl true) H
theorem okIsOne {f fC : Addr} {fd fdC : FuncData} (F : Fun K "_law_is_one" "_law_is_one" sIsOne f fd) (T : Txt K mg c S) (GC : FnOk P w K mg base CX0 1 fC fdC ["e"] (spClasses c)) (bC : Binds K fdC ["e"] []) (kC : PySem.W.keepIn K (.ref fC) = true) (mC : mg "_law_classes" = some (.ref fC)) :
    FnOk P w K mg base CX0 2 f fd ["e", "kind"] (spIsOne c) := by
  refine F.ok scIsOne (fun vs H Q E h => by obtain ⟨a, C, rfl, _⟩ := h; rfl) (fun cdv A outer s H vs Q E hr h => ?_)
  obtain ⟨a, C, rfl, he, hC, q⟩ := h
  refine ⟨_, pss_one (ps_ret (pe_and (pv 1) (pe_and (pe_callB call_isX (by rfl) T.mis (by decide +kernel) (pa_cons (pv 0) (pa_cons (pe_glob (v := .ref S) (by rfl) T.mS rfl) pa_nil)))
    (pe_and (pe_callB call_isX (by rfl) T.mis (by decide +kernel) (pa_cons (pv 0) (pa_cons (pe_bltn (v := .ty "ValueError") (by rfl) T.mV (by decide +kernel) rfl) pa_nil)))
      (pe_one (pe_cmpR op_eq (pe_call GC hr rfl mC kC bC .nil pass0 (pa_cons (pv 0) pa_nil)) pe_int (nomark _))))))), ?_⟩
  refine ⟨.bl true, rfl, true, rfl, iteT ⟨_, rfl, a, C, .ref S, .ref S, true, rfl, he, T.exA C hC, (fun u z => z), T.kitS C hC, true, rfl, iteT ?_⟩⟩
  refine ⟨_, rfl, a, C, .ty "ValueError", .type "ValueError", true, rfl, he, T.exA C hC, (fun u z => z), T.kitV C hC, true, rfl, iteT ?_⟩
  refine ⟨_, rfl, a, C, rfl, he, hC, rfl, ?_⟩
  exact q
end
end K18
set_option linter.all false
set_option maxRecDepth 100000
set_option maxHeartbeats 4000000
namespace K18
open PySem L2 NdefX XE 
abbrev sNumbered : Stmt := top 28
abbrev sNamed : Stmt := top 29
structure Inis (P : Program) (w : World) (K : PySem.W.Frag) (mg : Str → Option Value) (base : Heap) (c : Cs) : Prop where
  BadInputs : Ini P w K mg base c.BadInputs ["self", "index"] (spErr c.BadInputs "index" FmtI)
  BadName : Ini P w K mg base c.BadName ["self", "name"] (spErr c.BadName "name" FmtS)
  BadSaying : Ini P w K mg base c.BadSaying ["self", "index"] (spErr c.BadSaying "index" FmtI)
  BadScene : Ini P w K mg base c.BadScene ["self", "line"] (spErr c.BadScene "line" FmtI)
  BadScript : Ini P w K mg base c.BadScript ["self", "line"] (spErr c.BadScript "line" FmtI)
  BadWalk : Ini P w K mg base c.BadWalk ["self", "index"] (spErr c.BadWalk "index" FmtI)
  BadWorld : Ini P w K mg base c.BadWorld ["self", "line"] (spErr c.BadWorld "line" FmtI)
  Barred : Ini P w K mg base c.Barred ["self", "names"] (spBarred K c.Barred)
  NoButton : Ini P w K mg base c.NoButton ["self", "name"] (spErr c.NoButton "name" FmtS)
  NoGuard : Ini P w K mg base c.NoGuard ["self", "name"] (spErr c.NoGuard "name" FmtS)
  NoMark : Ini P w K mg base c.NoMark ["self", "name"] (spErr c.NoMark "name" FmtS)
  NoRow : Ini P w K mg base c.NoRow ["self", "name"] (spErr c.NoRow "name" FmtS)
  NoThing : Ini P w K mg base c.NoThing ["self", "name"] (spErr c.NoThing "name" FmtS)
  NotBare : Ini P w K mg base c.NotBare ["self", "index"] (spErr c.NotBare "index" FmtI)
  Taken : Ini P w K mg base c.Taken ["self", "name"] (spErr c.Taken "name" FmtS)
/-- a new list of tuples: an error made with v, its field, that it is of its class -/
def spMade (c : Cs) (G : V → Prop) : Sp := fun vs H Q _ => ∃ v, vs = [v] ∧ G v ∧ ∀ (r : Addr) (ts : List Addr) (H' : Hp), Same H H' → H' r = some (.lst (ts.map V.ref)) → ts.length ≤ 7 →
  (∀ t ∈ ts, ∃ e C, H' t = some (.tup [.ref e, v, .bl true]) ∧ ExAt H' e C ∧ C ∈ c.all) → Q (.ref r) H'
section
variable {P : Program} {w : World} {K : PySem.W.Frag} {mg : Str → Option Value} {base : Heap} {c : Cs} {S : Addr}
theorem kit_self (T : Txt K mg c S) {C : Addr} (h : C ∈ c.all) : PySem.W.kitOne K (.ref C) (.ref C) = some true := by
  rw [T.kit C h C h, decide_eq_true rfl]
theorem scNumbered : FnScope ["number", "one", "two", "three", "four", "five", "six", "seven", "found"] ["number"] (defScope sNumbered) := ⟨rfl, rfl, rfl, by decide +kernel, rfl, by decide +kernel, by decide +kernel⟩
set_option maxHeartbeats 16000000 in
theorem okNumbered {f : Addr} {fd : FuncData} (F : Fun K "_law_numbered" "_law_numbered" sNumbered f fd) (T : Txt K mg c S) (I : Inis P w K mg base c) : FnOk P w K mg base CX0 3 f fd ["number"] (spMade c FmtI) := by
  refine F.ok scNumbered (fun vs H Q E h => by obtain ⟨v, rfl, _⟩ := h; rfl) (fun cdv A outer s H vs Q E hr h => ?_)
  obtain ⟨v, rfl, hv, q⟩ := h
  refine ⟨_, (pss_cons (ps_par3 (i := 1) (j := 2) (l := 3) rfl scNumbered.nd rfl rfl rfl (by decide) (by decide) (by decide) rfl rfl rfl (pa_cons (pe_err I.BadScene (T.oex _ (inBadScene c)) hr T.mBadScene (pv 0)) (pa_cons (pe_err I.BadWorld (T.oex _ (inBadWorld c)) hr T.mBadWorld (pv 0)) (pa_cons (pe_err I.BadScript (T.oex _ (inBadScript c)) hr T.mBadScript (pv 0)) pa_nil))) (by rfl))
    (pss_cons (ps_par (i := 4) (j := 5) rfl scNumbered.nd rfl rfl (by decide) rfl rfl (pa_cons (pe_err I.BadSaying (T.oex _ (inBadSaying c)) hr T.mBadSaying (pv 0)) (pa_cons (pe_err I.BadWalk (T.oex _ (inBadWalk c)) hr T.mBadWalk (pv 0)) pa_nil)) (by rfl))
    (pss_cons (ps_par (i := 6) (j := 7) rfl scNumbered.nd rfl rfl (by decide) rfl rfl (pa_cons (pe_err I.BadInputs (T.oex _ (inBadInputs c)) hr T.mBadInputs (pv 0)) (pa_cons (pe_err I.NotBare (T.oex _ (inNotBare c)) hr T.mNotBare (pv 0)) pa_nil)) (by rfl))
    (pss_cons (ps_set (i := 8) scNumbered.nd rfl (Or.inl rfl) (pe_lst (pa_cons (pe_tup (pa_cons (pv 1) (pa_cons (pe_exf (pv 1)) (pa_cons (pe_callB call_isX (by rfl) T.mis (by decide +kernel) (pa_cons (pv 1) (pa_cons (pe_glob (v := .ref c.BadScene) (by rfl) T.mBadScene rfl) pa_nil))) pa_nil)))) (pa_cons (pe_tup (pa_cons (pv 2) (pa_cons (pe_exf (pv 2)) (pa_cons (pe_callB call_isX (by rfl) T.mis (by decide +kernel) (pa_cons (pv 2) (pa_cons (pe_glob (v := .ref c.BadWorld) (by rfl) T.mBadWorld rfl) pa_nil))) pa_nil)))) pa_nil))))
    (pss_cons (ps_set (i := 8) scNumbered.nd rfl (Or.inl rfl) (pe_op op_cat (pv 8) (pe_lst (pa_cons (pe_tup (pa_cons (pv 3) (pa_cons (pe_exf (pv 3)) (pa_cons (pe_callB call_isX (by rfl) T.mis (by decide +kernel) (pa_cons (pv 3) (pa_cons (pe_glob (v := .ref c.BadScript) (by rfl) T.mBadScript rfl) pa_nil))) pa_nil)))) (pa_cons (pe_tup (pa_cons (pv 4) (pa_cons (pe_exf (pv 4)) (pa_cons (pe_callB call_isX (by rfl) T.mis (by decide +kernel) (pa_cons (pv 4) (pa_cons (pe_glob (v := .ref c.BadSaying) (by rfl) T.mBadSaying rfl) pa_nil))) pa_nil)))) pa_nil)))))
    (pss_cons (ps_set (i := 8) scNumbered.nd rfl (Or.inl rfl) (pe_op op_cat (pv 8) (pe_lst (pa_cons (pe_tup (pa_cons (pv 5) (pa_cons (pe_exf (pv 5)) (pa_cons (pe_callB call_isX (by rfl) T.mis (by decide +kernel) (pa_cons (pv 5) (pa_cons (pe_glob (v := .ref c.BadWalk) (by rfl) T.mBadWalk rfl) pa_nil))) pa_nil)))) (pa_cons (pe_tup (pa_cons (pv 6) (pa_cons (pe_exf (pv 6)) (pa_cons (pe_callB call_isX (by rfl) T.mis (by decide +kernel) (pa_cons (pv 6) (pa_cons (pe_glob (v := .ref c.BadInputs) (by rfl) T.mBadInputs rfl) pa_nil))) pa_nil)))) pa_nil)))))
    (pss_one (ps_ret (pe_op op_cat (pv 8) (pe_lst (pa_cons (pe_tup (pa_cons (pv 7) (pa_cons (pe_exf (pv 7)) (pa_cons (pe_callB call_isX (by rfl) T.mis (by decide +kernel) (pa_cons (pv 7) (pa_cons (pe_glob (v := .ref c.NotBare) (by rfl) T.mNotBare rfl) pa_nil))) pa_nil)))) pa_nil))))))))))), ?_⟩
  refine ⟨_, rfl, hv, fun a1 d1 H1 s1 _ e1 f1 => ⟨_, rfl, hv, fun a2 d2 H2 s2 _ e2 f2 => ⟨_, rfl, hv, fun a3 d3 H3 s3 _ e3 f3 => ⟨_, _, _, rfl, ?_⟩⟩⟩⟩
  refine ⟨_, rfl, hv, fun a4 d4 H4 s4 _ e4 f4 => ⟨_, rfl, hv, fun a5 d5 H5 s5 _ e5 f5 => ⟨_, _, rfl, ?_⟩⟩⟩
  refine ⟨_, rfl, hv, fun a6 d6 H6 s6 _ e6 f6 => ⟨_, rfl, hv, fun a7 d7 H7 s7 _ e7 f7 => ⟨_, _, rfl, ?_⟩⟩⟩
  have E1 := s7 _ _ ( s6 _ _ ( s5 _ _ ( s4 _ _ ( s3 _ _ ( s2 _ _ (e1))))))
  have F1 := s7 _ _ ( s6 _ _ ( s5 _ _ ( s4 _ _ ( s3 _ _ ( s2 _ _ (f1))))))
  have E2 := s7 _ _ ( s6 _ _ ( s5 _ _ ( s4 _ _ ( s3 _ _ (e2)))))
  have F2 := s7 _ _ ( s6 _ _ ( s5 _ _ ( s4 _ _ ( s3 _ _ (f2)))))
  have E3 := s7 _ _ ( s6 _ _ ( s5 _ _ ( s4 _ _ (e3))))
  have F3 := s7 _ _ ( s6 _ _ ( s5 _ _ ( s4 _ _ (f3))))
  have E4 := s7 _ _ ( s6 _ _ ( s5 _ _ (e4)))
  have F4 := s7 _ _ ( s6 _ _ ( s5 _ _ (f4)))
  have E5 := s7 _ _ ( s6 _ _ (e5))
  have F5 := s7 _ _ ( s6 _ _ (f5))
  have E6 := s7 _ _ (e6)
  have F6 := s7 _ _ (f6)
  have E7 := e7
  have F7 := f7
  have sA : Same H H7 := ((((((s1.trans s2).trans s3).trans s4).trans s5).trans s6).trans s7)
  clear s1 s2 s3 s4 s5 s6 s7 e1 f1 e2 f2 e3 f3 e4 f4 e5 f5 e6 f6 e7 f7
  refine ⟨_, rfl, _, rfl, a1, c.BadScene, d1, _, v, rfl, T.exA _ (inBadScene c), T.nBadScene, .inr ⟨E1, F1⟩, (by simp [List.lookup]), _, rfl, a1, c.BadScene, .ref c.BadScene, .ref c.BadScene, true, rfl, .inr ⟨d1, _, E1, F1⟩, T.exA _ (inBadScene c), (fun u z => z), kit_self T (inBadScene c), (by show 3 ≤ sizeLine; decide), fun t1 ht1 => ?_⟩
  have sN : Same H7 (upd H7 t1 (.tup [.ref a1, v, .bl true])) := XP.Same.new ht1
  have E1 := sN _ _ E1
  have E2 := sN _ _ E2
  have E3 := sN _ _ E3
  have E4 := sN _ _ E4
  have E5 := sN _ _ E5
  have E6 := sN _ _ E6
  have E7 := sN _ _ E7
  have F1 := sN _ _ F1
  have F2 := sN _ _ F2
  have F3 := sN _ _ F3
  have F4 := sN _ _ F4
  have F5 := sN _ _ F5
  have F6 := sN _ _ F6
  have F7 := sN _ _ F7
  have sA := sA.trans sN
  have T1 : upd H7 t1 (.tup [.ref a1, v, .bl true]) t1 = some (.tup [.ref a1, v, .bl true]) := upd_same
  clear sN
  generalize upd H7 t1 (.tup [.ref a1, v, .bl true]) = H8 at E1 E2 E3 E4 E5 E6 E7 F1 F2 F3 F4 F5 F6 F7 sA T1 ⊢
  refine ⟨_, rfl, _, rfl, a2, c.BadWorld, d2, _, v, rfl, T.exA _ (inBadWorld c), T.nBadWorld, .inr ⟨E2, F2⟩, (by simp [List.lookup]), _, rfl, a2, c.BadWorld, .ref c.BadWorld, .ref c.BadWorld, true, rfl, .inr ⟨d2, _, E2, F2⟩, T.exA _ (inBadWorld c), (fun u z => z), kit_self T (inBadWorld c), (by show 3 ≤ sizeLine; decide), fun t2 ht2 => ?_⟩
  have sN : Same H8 (upd H8 t2 (.tup [.ref a2, v, .bl true])) := XP.Same.new ht2
  have E1 := sN _ _ E1
  have E2 := sN _ _ E2
  have E3 := sN _ _ E3
  have E4 := sN _ _ E4
  have E5 := sN _ _ E5
  have E6 := sN _ _ E6
  have E7 := sN _ _ E7
  have F1 := sN _ _ F1
  have F2 := sN _ _ F2
  have F3 := sN _ _ F3
  have F4 := sN _ _ F4
  have F5 := sN _ _ F5
  have F6 := sN _ _ F6
  have F7 := sN _ _ F7
  have T1 := sN _ _ T1
  have sA := sA.trans sN
  have T2 : upd H8 t2 (.tup [.ref a2, v, .bl true]) t2 = some (.tup [.ref a2, v, .bl true]) := upd_same
  clear sN
  generalize upd H8 t2 (.tup [.ref a2, v, .bl true]) = H9 at E1 E2 E3 E4 E5 E6 E7 F1 F2 F3 F4 F5 F6 F7 T1 sA T2 ⊢
  refine ⟨(by show 2 ≤ sizeLine; decide), fun l0 hl0 => ?_⟩
  have sN : Same H9 (upd H9 l0 (.lst [.ref t1, .ref t2])) := XP.Same.new hl0
  have E1 := sN _ _ E1
  have E2 := sN _ _ E2
  have E3 := sN _ _ E3
  have E4 := sN _ _ E4
  have E5 := sN _ _ E5
  have E6 := sN _ _ E6
  have E7 := sN _ _ E7
  have F1 := sN _ _ F1
  have F2 := sN _ _ F2
  have F3 := sN _ _ F3
  have F4 := sN _ _ F4
  have F5 := sN _ _ F5
  have F6 := sN _ _ F6
  have F7 := sN _ _ F7
  have T1 := sN _ _ T1
  have T2 := sN _ _ T2
  have sA := sA.trans sN
  have L0 : upd H9 l0 (.lst [.ref t1, .ref t2]) l0 = some (.lst [.ref t1, .ref t2]) := upd_same
  clear sN
  generalize upd H9 l0 (.lst [.ref t1, .ref t2]) = H10 at E1 E2 E3 E4 E5 E6 E7 F1 F2 F3 F4 F5 F6 F7 T1 T2 sA L0 ⊢
  refine ⟨_, rfl, _, rfl, _, rfl, a3, c.BadScript, d3, _, v, rfl, T.exA _ (inBadScript c), T.nBadScript, .inr ⟨E3, F3⟩, (by simp [List.lookup]), _, rfl, a3, c.BadScript, .ref c.BadScript, .ref c.BadScript, true, rfl, .inr ⟨d3, _, E3, F3⟩, T.exA _ (inBadScript c), (fun u z => z), kit_self T (inBadScript c), (by show 3 ≤ sizeLine; decide), fun t3 ht3 => ?_⟩
  have sN : Same H10 (upd H10 t3 (.tup [.ref a3, v, .bl true])) := XP.Same.new ht3
  have E1 := sN _ _ E1
  have E2 := sN _ _ E2
  have E3 := sN _ _ E3
  have E4 := sN _ _ E4
  have E5 := sN _ _ E5
  have E6 := sN _ _ E6
  have E7 := sN _ _ E7
  have F1 := sN _ _ F1
  have F2 := sN _ _ F2
  have F3 := sN _ _ F3
  have F4 := sN _ _ F4
  have F5 := sN _ _ F5
  have F6 := sN _ _ F6
  have F7 := sN _ _ F7
  have T1 := sN _ _ T1
  have T2 := sN _ _ T2
  have L0 := sN _ _ L0
  have sA := sA.trans sN
  have T3 : upd H10 t3 (.tup [.ref a3, v, .bl true]) t3 = some (.tup [.ref a3, v, .bl true]) := upd_same
  clear sN
  generalize upd H10 t3 (.tup [.ref a3, v, .bl true]) = H11 at E1 E2 E3 E4 E5 E6 E7 F1 F2 F3 F4 F5 F6 F7 T1 T2 L0 sA T3 ⊢
  refine ⟨_, rfl, _, rfl, a4, c.BadSaying, d4, _, v, rfl, T.exA _ (inBadSaying c), T.nBadSaying, .inr ⟨E4, F4⟩, (by simp [List.lookup]), _, rfl, a4, c.BadSaying, .ref c.BadSaying, .ref c.BadSaying, true, rfl, .inr ⟨d4, _, E4, F4⟩, T.exA _ (inBadSaying c), (fun u z => z), kit_self T (inBadSaying c), (by show 3 ≤ sizeLine; decide), fun t4 ht4 => ?_⟩
  have sN : Same H11 (upd H11 t4 (.tup [.ref a4, v, .bl true])) := XP.Same.new ht4
  have E1 := sN _ _ E1
  have E2 := sN _ _ E2
  have E3 := sN _ _ E3
  have E4 := sN _ _ E4
  have E5 := sN _ _ E5
  have E6 := sN _ _ E6
  have E7 := sN _ _ E7
  have F1 := sN _ _ F1
  have F2 := sN _ _ F2
  have F3 := sN _ _ F3
  have F4 := sN _ _ F4
  have F5 := sN _ _ F5
  have F6 := sN _ _ F6
  have F7 := sN _ _ F7
  have T1 := sN _ _ T1
  have T2 := sN _ _ T2
  have L0 := sN _ _ L0
  have T3 := sN _ _ T3
  have sA := sA.trans sN
  have T4 : upd H11 t4 (.tup [.ref a4, v, .bl true]) t4 = some (.tup [.ref a4, v, .bl true]) := upd_same
  clear sN
  generalize upd H11 t4 (.tup [.ref a4, v, .bl true]) = H12 at E1 E2 E3 E4 E5 E6 E7 F1 F2 F3 F4 F5 F6 F7 T1 T2 L0 T3 sA T4 ⊢
  refine ⟨(by show 2 ≤ sizeLine; decide), fun l1 hl1 => ?_⟩
  have sN : Same H12 (upd H12 l1 (.lst [.ref t3, .ref t4])) := XP.Same.new hl1
  have E1 := sN _ _ E1
  have E2 := sN _ _ E2
  have E3 := sN _ _ E3
  have E4 := sN _ _ E4
  have E5 := sN _ _ E5
  have E6 := sN _ _ E6
  have E7 := sN _ _ E7
  have F1 := sN _ _ F1
  have F2 := sN _ _ F2
  have F3 := sN _ _ F3
  have F4 := sN _ _ F4
  have F5 := sN _ _ F5
  have F6 := sN _ _ F6
  have F7 := sN _ _ F7
  have T1 := sN _ _ T1
  have T2 := sN _ _ T2
  have L0 := sN _ _ L0
  have T3 := sN _ _ T3
  have T4 := sN _ _ T4
  have sA := sA.trans sN
  have L1 : upd H12 l1 (.lst [.ref t3, .ref t4]) l1 = some (.lst [.ref t3, .ref t4]) := upd_same
  clear sN
  generalize upd H12 l1 (.lst [.ref t3, .ref t4]) = H13 at E1 E2 E3 E4 E5 E6 E7 F1 F2 F3 F4 F5 F6 F7 T1 T2 L0 T3 T4 sA L1 ⊢
  refine ⟨l0, l1, _, _, rfl, rfl, L0, L1, (by show 4 ≤ sizeLine; decide), fun m1 hm1 => ?_⟩
  have sN : Same H13 (upd H13 m1 (.lst ([.ref t1, .ref t2] ++ [.ref t3, .ref t4]))) := XP.Same.new hm1
  have E1 := sN _ _ E1
  have E2 := sN _ _ E2
  have E3 := sN _ _ E3
  have E4 := sN _ _ E4
  have E5 := sN _ _ E5
  have E6 := sN _ _ E6
  have E7 := sN _ _ E7
  have F1 := sN _ _ F1
  have F2 := sN _ _ F2
  have F3 := sN _ _ F3
  have F4 := sN _ _ F4
  have F5 := sN _ _ F5
  have F6 := sN _ _ F6
  have F7 := sN _ _ F7
  have T1 := sN _ _ T1
  have T2 := sN _ _ T2
  have L0 := sN _ _ L0
  have T3 := sN _ _ T3
  have T4 := sN _ _ T4
  have L1 := sN _ _ L1
  have sA := sA.trans sN
  have M1 : upd H13 m1 (.lst ([.ref t1, .ref t2] ++ [.ref t3, .ref t4])) m1 = some (.lst ([.ref t1, .ref t2] ++ [.ref t3, .ref t4])) := upd_same
  clear sN
  generalize upd H13 m1 (.lst ([.ref t1, .ref t2] ++ [.ref t3, .ref t4])) = H14 at E1 E2 E3 E4 E5 E6 E7 F1 F2 F3 F4 F5 F6 F7 T1 T2 L0 T3 T4 L1 sA M1 ⊢
  refine ⟨_, rfl, _, rfl, _, rfl, a5, c.BadWalk, d5, _, v, rfl, T.exA _ (inBadWalk c), T.nBadWalk, .inr ⟨E5, F5⟩, (by simp [List.lookup]), _, rfl, a5, c.BadWalk, .ref c.BadWalk, .ref c.BadWalk, true, rfl, .inr ⟨d5, _, E5, F5⟩, T.exA _ (inBadWalk c), (fun u z => z), kit_self T (inBadWalk c), (by show 3 ≤ sizeLine; decide), fun t5 ht5 => ?_⟩
  have sN : Same H14 (upd H14 t5 (.tup [.ref a5, v, .bl true])) := XP.Same.new ht5
  have E1 := sN _ _ E1
  have E2 := sN _ _ E2
  have E3 := sN _ _ E3
  have E4 := sN _ _ E4
  have E5 := sN _ _ E5
  have E6 := sN _ _ E6
  have E7 := sN _ _ E7
  have F1 := sN _ _ F1
  have F2 := sN _ _ F2
  have F3 := sN _ _ F3
  have F4 := sN _ _ F4
  have F5 := sN _ _ F5
  have F6 := sN _ _ F6
  have F7 := sN _ _ F7
  have T1 := sN _ _ T1
  have T2 := sN _ _ T2
  have L0 := sN _ _ L0
  have T3 := sN _ _ T3
  have T4 := sN _ _ T4
  have L1 := sN _ _ L1
  have M1 := sN _ _ M1
  have sA := sA.trans sN
  have T5 : upd H14 t5 (.tup [.ref a5, v, .bl true]) t5 = some (.tup [.ref a5, v, .bl true]) := upd_same
  clear sN
  generalize upd H14 t5 (.tup [.ref a5, v, .bl true]) = H15 at E1 E2 E3 E4 E5 E6 E7 F1 F2 F3 F4 F5 F6 F7 T1 T2 L0 T3 T4 L1 M1 sA T5 ⊢
  refine ⟨_, rfl, _, rfl, a6, c.BadInputs, d6, _, v, rfl, T.exA _ (inBadInputs c), T.nBadInputs, .inr ⟨E6, F6⟩, (by simp [List.lookup]), _, rfl, a6, c.BadInputs, .ref c.BadInputs, .ref c.BadInputs, true, rfl, .inr ⟨d6, _, E6, F6⟩, T.exA _ (inBadInputs c), (fun u z => z), kit_self T (inBadInputs c), (by show 3 ≤ sizeLine; decide), fun t6 ht6 => ?_⟩
  have sN : Same H15 (upd H15 t6 (.tup [.ref a6, v, .bl true])) := XP.Same.new ht6
  have E1 := sN _ _ E1
  have E2 := sN _ _ E2
  have E3 := sN _ _ E3
  have E4 := sN _ _ E4
  have E5 := sN _ _ E5
  have E6 := sN _ _ E6
  have E7 := sN _ _ E7
  have F1 := sN _ _ F1
  have F2 := sN _ _ F2
  have F3 := sN _ _ F3
  have F4 := sN _ _ F4
  have F5 := sN _ _ F5
  have F6 := sN _ _ F6
  have F7 := sN _ _ F7
  have T1 := sN _ _ T1
  have T2 := sN _ _ T2
  have L0 := sN _ _ L0
  have T3 := sN _ _ T3
  have T4 := sN _ _ T4
  have L1 := sN _ _ L1
  have M1 := sN _ _ M1
  have T5 := sN _ _ T5
  have sA := sA.trans sN
  have T6 : upd H15 t6 (.tup [.ref a6, v, .bl true]) t6 = some (.tup [.ref a6, v, .bl true]) := upd_same
  clear sN
  generalize upd H15 t6 (.tup [.ref a6, v, .bl true]) = H16 at E1 E2 E3 E4 E5 E6 E7 F1 F2 F3 F4 F5 F6 F7 T1 T2 L0 T3 T4 L1 M1 T5 sA T6 ⊢
  refine ⟨(by show 2 ≤ sizeLine; decide), fun l2 hl2 => ?_⟩
  have sN : Same H16 (upd H16 l2 (.lst [.ref t5, .ref t6])) := XP.Same.new hl2
  have E1 := sN _ _ E1
  have E2 := sN _ _ E2
  have E3 := sN _ _ E3
  have E4 := sN _ _ E4
  have E5 := sN _ _ E5
  have E6 := sN _ _ E6
  have E7 := sN _ _ E7
  have F1 := sN _ _ F1
  have F2 := sN _ _ F2
  have F3 := sN _ _ F3
  have F4 := sN _ _ F4
  have F5 := sN _ _ F5
  have F6 := sN _ _ F6
  have F7 := sN _ _ F7
  have T1 := sN _ _ T1
  have T2 := sN _ _ T2
  have L0 := sN _ _ L0
  have T3 := sN _ _ T3
  have T4 := sN _ _ T4
  have L1 := sN _ _ L1
  have M1 := sN _ _ M1
  have T5 := sN _ _ T5
  have T6 := sN _ _ T6
  have sA := sA.trans sN
  have L2 : upd H16 l2 (.lst [.ref t5, .ref t6]) l2 = some (.lst [.ref t5, .ref t6]) := upd_same
  clear sN
  generalize upd H16 l2 (.lst [.ref t5, .ref t6]) = H17 at E1 E2 E3 E4 E5 E6 E7 F1 F2 F3 F4 F5 F6 F7 T1 T2 L0 T3 T4 L1 M1 T5 T6 sA L2 ⊢
  refine ⟨m1, l2, _, _, rfl, rfl, M1, L2, (by show 6 ≤ sizeLine; decide), fun m2 hm2 => ?_⟩
  have sN : Same H17 (upd H17 m2 (.lst ([.ref t1, .ref t2] ++ [.ref t3, .ref t4] ++ [.ref t5, .ref t6]))) := XP.Same.new hm2
  have E1 := sN _ _ E1
  have E2 := sN _ _ E2
  have E3 := sN _ _ E3
  have E4 := sN _ _ E4
  have E5 := sN _ _ E5
  have E6 := sN _ _ E6
  have E7 := sN _ _ E7
  have F1 := sN _ _ F1
  have F2 := sN _ _ F2
  have F3 := sN _ _ F3
  have F4 := sN _ _ F4
  have F5 := sN _ _ F5
  have F6 := sN _ _ F6
  have F7 := sN _ _ F7
  have T1 := sN _ _ T1
  have T2 := sN _ _ T2
  have L0 := sN _ _ L0
  have T3 := sN _ _ T3
  have T4 := sN _ _ T4
  have L1 := sN _ _ L1
  have M1 := sN _ _ M1
  have T5 := sN _ _ T5
  have T6 := sN _ _ T6
  have L2 := sN _ _ L2
  have sA := sA.trans sN
  have M2 : upd H17 m2 (.lst ([.ref t1, .ref t2] ++ [.ref t3, .ref t4] ++ [.ref t5, .ref t6])) m2 = some (.lst ([.ref t1, .ref t2] ++ [.ref t3, .ref t4] ++ [.ref t5, .ref t6])) := upd_same
  clear sN
  generalize upd H17 m2 (.lst ([.ref t1, .ref t2] ++ [.ref t3, .ref t4] ++ [.ref t5, .ref t6])) = H18 at E1 E2 E3 E4 E5 E6 E7 F1 F2 F3 F4 F5 F6 F7 T1 T2 L0 T3 T4 L1 M1 T5 T6 L2 sA M2 ⊢
  refine ⟨_, rfl, _, rfl, _, rfl, a7, c.NotBare, d7, _, v, rfl, T.exA _ (inNotBare c), T.nNotBare, .inr ⟨E7, F7⟩, (by simp [List.lookup]), _, rfl, a7, c.NotBare, .ref c.NotBare, .ref c.NotBare, true, rfl, .inr ⟨d7, _, E7, F7⟩, T.exA _ (inNotBare c), (fun u z => z), kit_self T (inNotBare c), (by show 3 ≤ sizeLine; decide), fun t7 ht7 => ?_⟩
  have sN : Same H18 (upd H18 t7 (.tup [.ref a7, v, .bl true])) := XP.Same.new ht7
  have E1 := sN _ _ E1
  have E2 := sN _ _ E2
  have E3 := sN _ _ E3
  have E4 := sN _ _ E4
  have E5 := sN _ _ E5
  have E6 := sN _ _ E6
  have E7 := sN _ _ E7
  have F1 := sN _ _ F1
  have F2 := sN _ _ F2
  have F3 := sN _ _ F3
  have F4 := sN _ _ F4
  have F5 := sN _ _ F5
  have F6 := sN _ _ F6
  have F7 := sN _ _ F7
  have T1 := sN _ _ T1
  have T2 := sN _ _ T2
  have L0 := sN _ _ L0
  have T3 := sN _ _ T3
  have T4 := sN _ _ T4
  have L1 := sN _ _ L1
  have M1 := sN _ _ M1
  have T5 := sN _ _ T5
  have T6 := sN _ _ T6
  have L2 := sN _ _ L2
  have M2 := sN _ _ M2
  have sA := sA.trans sN
  have T7 : upd H18 t7 (.tup [.ref a7, v, .bl true]) t7 = some (.tup [.ref a7, v, .bl true]) := upd_same
  clear sN
  generalize upd H18 t7 (.tup [.ref a7, v, .bl true]) = H19 at E1 E2 E3 E4 E5 E6 E7 F1 F2 F3 F4 F5 F6 F7 T1 T2 L0 T3 T4 L1 M1 T5 T6 L2 M2 sA T7 ⊢
  refine ⟨(by show 1 ≤ sizeLine; decide), fun l3 hl3 => ?_⟩
  have sN : Same H19 (upd H19 l3 (.lst [.ref t7])) := XP.Same.new hl3
  have E1 := sN _ _ E1
  have E2 := sN _ _ E2
  have E3 := sN _ _ E3
  have E4 := sN _ _ E4
  have E5 := sN _ _ E5
  have E6 := sN _ _ E6
  have E7 := sN _ _ E7
  have F1 := sN _ _ F1
  have F2 := sN _ _ F2
  have F3 := sN _ _ F3
  have F4 := sN _ _ F4
  have F5 := sN _ _ F5
  have F6 := sN _ _ F6
  have F7 := sN _ _ F7
  have T1 := sN _ _ T1
  have T2 := sN _ _ T2
  have L0 := sN _ _ L0
  have T3 := sN _ _ T3
  have T4 := sN _ _ T4
  have L1 := sN _ _ L1
  have M1 := sN _ _ M1
  have T5 := sN _ _ T5
  have T6 := sN _ _ T6
  have L2 := sN _ _ L2
  have M2 := sN _ _ M2
  have T7 := sN _ _ T7
  have sA := sA.trans sN
  have L3 : upd H19 l3 (.lst [.ref t7]) l3 = some (.lst [.ref t7]) := upd_same
  clear sN
  generalize upd H19 l3 (.lst [.ref t7]) = H20 at E1 E2 E3 E4 E5 E6 E7 F1 F2 F3 F4 F5 F6 F7 T1 T2 L0 T3 T4 L1 M1 T5 T6 L2 M2 T7 sA L3 ⊢
  refine ⟨m2, l3, _, _, rfl, rfl, M2, L3, (by show 7 ≤ sizeLine; decide), fun m3 hm3 => ?_⟩
  have sN : Same H20 (upd H20 m3 (.lst ([.ref t1, .ref t2] ++ [.ref t3, .ref t4] ++ [.ref t5, .ref t6] ++ [.ref t7]))) := XP.Same.new hm3
  have E1 := sN _ _ E1
  have E2 := sN _ _ E2
  have E3 := sN _ _ E3
  have E4 := sN _ _ E4
  have E5 := sN _ _ E5
  have E6 := sN _ _ E6
  have E7 := sN _ _ E7
  have F1 := sN _ _ F1
  have F2 := sN _ _ F2
  have F3 := sN _ _ F3
  have F4 := sN _ _ F4
  have F5 := sN _ _ F5
  have F6 := sN _ _ F6
  have F7 := sN _ _ F7
  have T1 := sN _ _ T1
  have T2 := sN _ _ T2
  have L0 := sN _ _ L0
  have T3 := sN _ _ T3
  have T4 := sN _ _ T4
  have L1 := sN _ _ L1
  have M1 := sN _ _ M1
  have T5 := sN _ _ T5
  have T6 := sN _ _ T6
  have L2 := sN _ _ L2
  have M2 := sN _ _ M2
  have T7 := sN _ _ T7
  have L3 := sN _ _ L3
  have sA := sA.trans sN
  have M3 : upd H20 m3 (.lst ([.ref t1, .ref t2] ++ [.ref t3, .ref t4] ++ [.ref t5, .ref t6] ++ [.ref t7])) m3 = some (.lst ([.ref t1, .ref t2] ++ [.ref t3, .ref t4] ++ [.ref t5, .ref t6] ++ [.ref t7])) := upd_same
  clear sN
  generalize upd H20 m3 (.lst ([.ref t1, .ref t2] ++ [.ref t3, .ref t4] ++ [.ref t5, .ref t6] ++ [.ref t7])) = H21 at E1 E2 E3 E4 E5 E6 E7 F1 F2 F3 F4 F5 F6 F7 T1 T2 L0 T3 T4 L1 M1 T5 T6 L2 M2 T7 L3 sA M3 ⊢
  refine q m3 [t1, t2, t3, t4, t5, t6, t7] H21 sA M3 (Nat.le_refl 7) (fun t ht => ?_)
  simp only [List.mem_cons, List.not_mem_nil, or_false] at ht
  rcases ht with rfl | rfl | rfl | rfl | rfl | rfl | rfl
  · exact ⟨a1, c.BadScene, T1, .inr ⟨d1, _, E1, F1⟩, inBadScene c⟩
  · exact ⟨a2, c.BadWorld, T2, .inr ⟨d2, _, E2, F2⟩, inBadWorld c⟩
  · exact ⟨a3, c.BadScript, T3, .inr ⟨d3, _, E3, F3⟩, inBadScript c⟩
  · exact ⟨a4, c.BadSaying, T4, .inr ⟨d4, _, E4, F4⟩, inBadSaying c⟩
  · exact ⟨a5, c.BadWalk, T5, .inr ⟨d5, _, E5, F5⟩, inBadWalk c⟩
  · exact ⟨a6, c.BadInputs, T6, .inr ⟨d6, _, E6, F6⟩, inBadInputs c⟩
  · exact ⟨a7, c.NotBare, T7, .inr ⟨d7, _, E7, F7⟩, inNotBare c⟩
theorem scNamed : FnScope ["text", "one", "two", "three", "four", "five", "six", "seven", "found"] ["text"] (defScope sNamed) := ⟨rfl, rfl, rfl, by decide +kernel, rfl, by decide +kernel, by decide +kernel⟩
set_option maxHeartbeats 16000000 in
theorem okNamed {f : Addr} {fd : FuncData} (F : Fun K "_law_named" "_law_named" sNamed f fd) (T : Txt K mg c S) (I : Inis P w K mg base c) : FnOk P w K mg base CX0 3 f fd ["text"] (spMade c FmtS) := by
  refine F.ok scNamed (fun vs H Q E h => by obtain ⟨v, rfl, _⟩ := h; rfl) (fun cdv A outer s H vs Q E hr h => ?_)
  obtain ⟨v, rfl, hv, q⟩ := h
  refine ⟨_, (pss_cons (ps_par (i := 1) (j := 2) rfl scNamed.nd rfl rfl (by decide) rfl rfl (pa_cons (pe_err I.NoThing (T.oex _ (inNoThing c)) hr T.mNoThing (pv 0)) (pa_cons (pe_err I.NoRow (T.oex _ (inNoRow c)) hr T.mNoRow (pv 0)) pa_nil)) (by rfl))
    (pss_cons (ps_par (i := 3) (j := 4) rfl scNamed.nd rfl rfl (by decide) rfl rfl (pa_cons (pe_err I.NoMark (T.oex _ (inNoMark c)) hr T.mNoMark (pv 0)) (pa_cons (pe_err I.BadName (T.oex _ (inBadName c)) hr T.mBadName (pv 0)) pa_nil)) (by rfl))
    (pss_cons (ps_par3 (i := 5) (j := 6) (l := 7) rfl scNamed.nd rfl rfl rfl (by decide) (by decide) (by decide) rfl rfl rfl (pa_cons (pe_err I.NoButton (T.oex _ (inNoButton c)) hr T.mNoButton (pv 0)) (pa_cons (pe_err I.Taken (T.oex _ (inTaken c)) hr T.mTaken (pv 0)) (pa_cons (pe_err I.NoGuard (T.oex _ (inNoGuard c)) hr T.mNoGuard (pv 0)) pa_nil))) (by rfl))
    (pss_cons (ps_set (i := 8) scNamed.nd rfl (Or.inl rfl) (pe_lst (pa_cons (pe_tup (pa_cons (pv 1) (pa_cons (pe_exf (pv 1)) (pa_cons (pe_callB call_isX (by rfl) T.mis (by decide +kernel) (pa_cons (pv 1) (pa_cons (pe_glob (v := .ref c.NoThing) (by rfl) T.mNoThing rfl) pa_nil))) pa_nil)))) (pa_cons (pe_tup (pa_cons (pv 2) (pa_cons (pe_exf (pv 2)) (pa_cons (pe_callB call_isX (by rfl) T.mis (by decide +kernel) (pa_cons (pv 2) (pa_cons (pe_glob (v := .ref c.NoRow) (by rfl) T.mNoRow rfl) pa_nil))) pa_nil)))) pa_nil))))
    (pss_cons (ps_set (i := 8) scNamed.nd rfl (Or.inl rfl) (pe_op op_cat (pv 8) (pe_lst (pa_cons (pe_tup (pa_cons (pv 3) (pa_cons (pe_exf (pv 3)) (pa_cons (pe_callB call_isX (by rfl) T.mis (by decide +kernel) (pa_cons (pv 3) (pa_cons (pe_glob (v := .ref c.NoMark) (by rfl) T.mNoMark rfl) pa_nil))) pa_nil)))) (pa_cons (pe_tup (pa_cons (pv 4) (pa_cons (pe_exf (pv 4)) (pa_cons (pe_callB call_isX (by rfl) T.mis (by decide +kernel) (pa_cons (pv 4) (pa_cons (pe_glob (v := .ref c.BadName) (by rfl) T.mBadName rfl) pa_nil))) pa_nil)))) pa_nil)))))
    (pss_cons (ps_set (i := 8) scNamed.nd rfl (Or.inl rfl) (pe_op op_cat (pv 8) (pe_lst (pa_cons (pe_tup (pa_cons (pv 5) (pa_cons (pe_exf (pv 5)) (pa_cons (pe_callB call_isX (by rfl) T.mis (by decide +kernel) (pa_cons (pv 5) (pa_cons (pe_glob (v := .ref c.NoButton) (by rfl) T.mNoButton rfl) pa_nil))) pa_nil)))) (pa_cons (pe_tup (pa_cons (pv 6) (pa_cons (pe_exf (pv 6)) (pa_cons (pe_callB call_isX (by rfl) T.mis (by decide +kernel) (pa_cons (pv 6) (pa_cons (pe_glob (v := .ref c.Taken) (by rfl) T.mTaken rfl) pa_nil))) pa_nil)))) pa_nil)))))
    (pss_one (ps_ret (pe_op op_cat (pv 8) (pe_lst (pa_cons (pe_tup (pa_cons (pv 7) (pa_cons (pe_exf (pv 7)) (pa_cons (pe_callB call_isX (by rfl) T.mis (by decide +kernel) (pa_cons (pv 7) (pa_cons (pe_glob (v := .ref c.NoGuard) (by rfl) T.mNoGuard rfl) pa_nil))) pa_nil)))) pa_nil))))))))))), ?_⟩
  refine ⟨_, rfl, hv, fun a1 d1 H1 s1 _ e1 f1 => ⟨_, rfl, hv, fun a2 d2 H2 s2 _ e2 f2 => ⟨_, _, rfl, ?_⟩⟩⟩
  refine ⟨_, rfl, hv, fun a3 d3 H3 s3 _ e3 f3 => ⟨_, rfl, hv, fun a4 d4 H4 s4 _ e4 f4 => ⟨_, _, rfl, ?_⟩⟩⟩
  refine ⟨_, rfl, hv, fun a5 d5 H5 s5 _ e5 f5 => ⟨_, rfl, hv, fun a6 d6 H6 s6 _ e6 f6 => ⟨_, rfl, hv, fun a7 d7 H7 s7 _ e7 f7 => ⟨_, _, _, rfl, ?_⟩⟩⟩⟩
  have E1 := s7 _ _ ( s6 _ _ ( s5 _ _ ( s4 _ _ ( s3 _ _ ( s2 _ _ (e1))))))
  have F1 := s7 _ _ ( s6 _ _ ( s5 _ _ ( s4 _ _ ( s3 _ _ ( s2 _ _ (f1))))))
  have E2 := s7 _ _ ( s6 _ _ ( s5 _ _ ( s4 _ _ ( s3 _ _ (e2)))))
  have F2 := s7 _ _ ( s6 _ _ ( s5 _ _ ( s4 _ _ ( s3 _ _ (f2)))))
  have E3 := s7 _ _ ( s6 _ _ ( s5 _ _ ( s4 _ _ (e3))))
  have F3 := s7 _ _ ( s6 _ _ ( s5 _ _ ( s4 _ _ (f3))))
  have E4 := s7 _ _ ( s6 _ _ ( s5 _ _ (e4)))
  have F4 := s7 _ _ ( s6 _ _ ( s5 _ _ (f4)))
  have E5 := s7 _ _ ( s6 _ _ (e5))
  have F5 := s7 _ _ ( s6 _ _ (f5))
  have E6 := s7 _ _ (e6)
  have F6 := s7 _ _ (f6)
  have E7 := e7
  have F7 := f7
  have sA : Same H H7 := ((((((s1.trans s2).trans s3).trans s4).trans s5).trans s6).trans s7)
  clear s1 s2 s3 s4 s5 s6 s7 e1 f1 e2 f2 e3 f3 e4 f4 e5 f5 e6 f6 e7 f7
  refine ⟨_, rfl, _, rfl, a1, c.NoThing, d1, _, v, rfl, T.exA _ (inNoThing c), T.nNoThing, .inr ⟨E1, F1⟩, (by simp [List.lookup]), _, rfl, a1, c.NoThing, .ref c.NoThing, .ref c.NoThing, true, rfl, .inr ⟨d1, _, E1, F1⟩, T.exA _ (inNoThing c), (fun u z => z), kit_self T (inNoThing c), (by show 3 ≤ sizeLine; decide), fun t1 ht1 => ?_⟩
  have sN : Same H7 (upd H7 t1 (.tup [.ref a1, v, .bl true])) := XP.Same.new ht1
  have E1 := sN _ _ E1
  have E2 := sN _ _ E2
  have E3 := sN _ _ E3
  have E4 := sN _ _ E4
  have E5 := sN _ _ E5
  have E6 := sN _ _ E6
  have E7 := sN _ _ E7
  have F1 := sN _ _ F1
  have F2 := sN _ _ F2
  have F3 := sN _ _ F3
  have F4 := sN _ _ F4
  have F5 := sN _ _ F5
  have F6 := sN _ _ F6
  have F7 := sN _ _ F7
  have sA := sA.trans sN
  have T1 : upd H7 t1 (.tup [.ref a1, v, .bl true]) t1 = some (.tup [.ref a1, v, .bl true]) := upd_same
  clear sN
  generalize upd H7 t1 (.tup [.ref a1, v, .bl true]) = H8 at E1 E2 E3 E4 E5 E6 E7 F1 F2 F3 F4 F5 F6 F7 sA T1 ⊢
  refine ⟨_, rfl, _, rfl, a2, c.NoRow, d2, _, v, rfl, T.exA _ (inNoRow c), T.nNoRow, .inr ⟨E2, F2⟩, (by simp [List.lookup]), _, rfl, a2, c.NoRow, .ref c.NoRow, .ref c.NoRow, true, rfl, .inr ⟨d2, _, E2, F2⟩, T.exA _ (inNoRow c), (fun u z => z), kit_self T (inNoRow c), (by show 3 ≤ sizeLine; decide), fun t2 ht2 => ?_⟩
  have sN : Same H8 (upd H8 t2 (.tup [.ref a2, v, .bl true])) := XP.Same.new ht2
  have E1 := sN _ _ E1
  have E2 := sN _ _ E2
  have E3 := sN _ _ E3
  have E4 := sN _ _ E4
  have E5 := sN _ _ E5
  have E6 := sN _ _ E6
  have E7 := sN _ _ E7
  have F1 := sN _ _ F1
  have F2 := sN _ _ F2
  have F3 := sN _ _ F3
  have F4 := sN _ _ F4
  have F5 := sN _ _ F5
  have F6 := sN _ _ F6
  have F7 := sN _ _ F7
  have T1 := sN _ _ T1
  have sA := sA.trans sN
  have T2 : upd H8 t2 (.tup [.ref a2, v, .bl true]) t2 = some (.tup [.ref a2, v, .bl true]) := upd_same
  clear sN
  generalize upd H8 t2 (.tup [.ref a2, v, .bl true]) = H9 at E1 E2 E3 E4 E5 E6 E7 F1 F2 F3 F4 F5 F6 F7 T1 sA T2 ⊢
  refine ⟨(by show 2 ≤ sizeLine; decide), fun l0 hl0 => ?_⟩
  have sN : Same H9 (upd H9 l0 (.lst [.ref t1, .ref t2])) := XP.Same.new hl0
  have E1 := sN _ _ E1
  have E2 := sN _ _ E2
  have E3 := sN _ _ E3
  have E4 := sN _ _ E4
  have E5 := sN _ _ E5
  have E6 := sN _ _ E6
  have E7 := sN _ _ E7
  have F1 := sN _ _ F1
  have F2 := sN _ _ F2
  have F3 := sN _ _ F3
  have F4 := sN _ _ F4
  have F5 := sN _ _ F5
  have F6 := sN _ _ F6
  have F7 := sN _ _ F7
  have T1 := sN _ _ T1
  have T2 := sN _ _ T2
  have sA := sA.trans sN
  have L0 : upd H9 l0 (.lst [.ref t1, .ref t2]) l0 = some (.lst [.ref t1, .ref t2]) := upd_same
  clear sN
  generalize upd H9 l0 (.lst [.ref t1, .ref t2]) = H10 at E1 E2 E3 E4 E5 E6 E7 F1 F2 F3 F4 F5 F6 F7 T1 T2 sA L0 ⊢
  refine ⟨_, rfl, _, rfl, _, rfl, a3, c.NoMark, d3, _, v, rfl, T.exA _ (inNoMark c), T.nNoMark, .inr ⟨E3, F3⟩, (by simp [List.lookup]), _, rfl, a3, c.NoMark, .ref c.NoMark, .ref c.NoMark, true, rfl, .inr ⟨d3, _, E3, F3⟩, T.exA _ (inNoMark c), (fun u z => z), kit_self T (inNoMark c), (by show 3 ≤ sizeLine; decide), fun t3 ht3 => ?_⟩
  have sN : Same H10 (upd H10 t3 (.tup [.ref a3, v, .bl true])) := XP.Same.new ht3
  have E1 := sN _ _ E1
  have E2 := sN _ _ E2
  have E3 := sN _ _ E3
  have E4 := sN _ _ E4
  have E5 := sN _ _ E5
  have E6 := sN _ _ E6
  have E7 := sN _ _ E7
  have F1 := sN _ _ F1
  have F2 := sN _ _ F2
  have F3 := sN _ _ F3
  have F4 := sN _ _ F4
  have F5 := sN _ _ F5
  have F6 := sN _ _ F6
  have F7 := sN _ _ F7
  have T1 := sN _ _ T1
  have T2 := sN _ _ T2
  have L0 := sN _ _ L0
  have sA := sA.trans sN
  have T3 : upd H10 t3 (.tup [.ref a3, v, .bl true]) t3 = some (.tup [.ref a3, v, .bl true]) := upd_same
  clear sN
  generalize upd H10 t3 (.tup [.ref a3, v, .bl true]) = H11 at E1 E2 E3 E4 E5 E6 E7 F1 F2 F3 F4 F5 F6 F7 T1 T2 L0 sA T3 ⊢
  refine ⟨_, rfl, _, rfl, a4, c.BadName, d4, _, v, rfl, T.exA _ (inBadName c), T.nBadName, .inr ⟨E4, F4⟩, (by simp [List.lookup]), _, rfl, a4, c.BadName, .ref c.BadName, .ref c.BadName, true, rfl, .inr ⟨d4, _, E4, F4⟩, T.exA _ (inBadName c), (fun u z => z), kit_self T (inBadName c), (by show 3 ≤ sizeLine; decide), fun t4 ht4 => ?_⟩
  have sN : Same H11 (upd H11 t4 (.tup [.ref a4, v, .bl true])) := XP.Same.new ht4
  have E1 := sN _ _ E1
  have E2 := sN _ _ E2
  have E3 := sN _ _ E3
  have E4 := sN _ _ E4
  have E5 := sN _ _ E5
  have E6 := sN _ _ E6
  have E7 := sN _ _ E7
  have F1 := sN _ _ F1
  have F2 := sN _ _ F2
  have F3 := sN _ _ F3
  have F4 := sN _ _ F4
  have F5 := sN _ _ F5
  have F6 := sN _ _ F6
  have F7 := sN _ _ F7
  have T1 := sN _ _ T1
  have T2 := sN _ _ T2
  have L0 := sN _ _ L0
  have T3 := sN _ _ T3
  have sA := sA.trans sN
  have T4 : upd H11 t4 (.tup [.ref a4, v, .bl true]) t4 = some (.tup [.ref a4, v, .bl true]) := upd_same
  clear sN
  generalize upd H11 t4 (.tup [.ref a4, v, .bl true]) = H12 at E1 E2 E3 E4 E5 E6 E7 F1 F2 F3 F4 F5 F6 F7 T1 T2 L0 T3 sA T4 ⊢
  refine ⟨(by show 2 ≤ sizeLine; decide), fun l1 hl1 => ?_⟩
  have sN : Same H12 (upd H12 l1 (.lst [.ref t3, .ref t4])) := XP.Same.new hl1
  have E1 := sN _ _ E1
  have E2 := sN _ _ E2
  have E3 := sN _ _ E3
  have E4 := sN _ _ E4
  have E5 := sN _ _ E5
  have E6 := sN _ _ E6
  have E7 := sN _ _ E7
  have F1 := sN _ _ F1
  have F2 := sN _ _ F2
  have F3 := sN _ _ F3
  have F4 := sN _ _ F4
  have F5 := sN _ _ F5
  have F6 := sN _ _ F6
  have F7 := sN _ _ F7
  have T1 := sN _ _ T1
  have T2 := sN _ _ T2
  have L0 := sN _ _ L0
  have T3 := sN _ _ T3
  have T4 := sN _ _ T4
  have sA := sA.trans sN
  have L1 : upd H12 l1 (.lst [.ref t3, .ref t4]) l1 = some (.lst [.ref t3, .ref t4]) := upd_same
  clear sN
  generalize upd H12 l1 (.lst [.ref t3, .ref t4]) = H13 at E1 E2 E3 E4 E5 E6 E7 F1 F2 F3 F4 F5 F6 F7 T1 T2 L0 T3 T4 sA L1 ⊢
  refine ⟨l0, l1, _, _, rfl, rfl, L0, L1, (by show 4 ≤ sizeLine; decide), fun m1 hm1 => ?_⟩
  have sN : Same H13 (upd H13 m1 (.lst ([.ref t1, .ref t2] ++ [.ref t3, .ref t4]))) := XP.Same.new hm1
  have E1 := sN _ _ E1
  have E2 := sN _ _ E2
  have E3 := sN _ _ E3
  have E4 := sN _ _ E4
  have E5 := sN _ _ E5
  have E6 := sN _ _ E6
  have E7 := sN _ _ E7
  have F1 := sN _ _ F1
  have F2 := sN _ _ F2
  have F3 := sN _ _ F3
  have F4 := sN _ _ F4
  have F5 := sN _ _ F5
  have F6 := sN _ _ F6
  have F7 := sN _ _ F7
  have T1 := sN _ _ T1
  have T2 := sN _ _ T2
  have L0 := sN _ _ L0
  have T3 := sN _ _ T3
  have T4 := sN _ _ T4
  have L1 := sN _ _ L1
  have sA := sA.trans sN
  have M1 : upd H13 m1 (.lst ([.ref t1, .ref t2] ++ [.ref t3, .ref t4])) m1 = some (.lst ([.ref t1, .ref t2] ++ [.ref t3, .ref t4])) := upd_same
  clear sN
  generalize upd H13 m1 (.lst ([.ref t1, .ref t2] ++ [.ref t3, .ref t4])) = H14 at E1 E2 E3 E4 E5 E6 E7 F1 F2 F3 F4 F5 F6 F7 T1 T2 L0 T3 T4 L1 sA M1 ⊢
  refine ⟨_, rfl, _, rfl, _, rfl, a5, c.NoButton, d5, _, v, rfl, T.exA _ (inNoButton c), T.nNoButton, .inr ⟨E5, F5⟩, (by simp [List.lookup]), _, rfl, a5, c.NoButton, .ref c.NoButton, .ref c.NoButton, true, rfl, .inr ⟨d5, _, E5, F5⟩, T.exA _ (inNoButton c), (fun u z => z), kit_self T (inNoButton c), (by show 3 ≤ sizeLine; decide), fun t5 ht5 => ?_⟩
  have sN : Same H14 (upd H14 t5 (.tup [.ref a5, v, .bl true])) := XP.Same.new ht5
  have E1 := sN _ _ E1
  have E2 := sN _ _ E2
  have E3 := sN _ _ E3
  have E4 := sN _ _ E4
  have E5 := sN _ _ E5
  have E6 := sN _ _ E6
  have E7 := sN _ _ E7
  have F1 := sN _ _ F1
  have F2 := sN _ _ F2
  have F3 := sN _ _ F3
  have F4 := sN _ _ F4
  have F5 := sN _ _ F5
  have F6 := sN _ _ F6
  have F7 := sN _ _ F7
  have T1 := sN _ _ T1
  have T2 := sN _ _ T2
  have L0 := sN _ _ L0
  have T3 := sN _ _ T3
  have T4 := sN _ _ T4
  have L1 := sN _ _ L1
  have M1 := sN _ _ M1
  have sA := sA.trans sN
  have T5 : upd H14 t5 (.tup [.ref a5, v, .bl true]) t5 = some (.tup [.ref a5, v, .bl true]) := upd_same
  clear sN
  generalize upd H14 t5 (.tup [.ref a5, v, .bl true]) = H15 at E1 E2 E3 E4 E5 E6 E7 F1 F2 F3 F4 F5 F6 F7 T1 T2 L0 T3 T4 L1 M1 sA T5 ⊢
  refine ⟨_, rfl, _, rfl, a6, c.Taken, d6, _, v, rfl, T.exA _ (inTaken c), T.nTaken, .inr ⟨E6, F6⟩, (by simp [List.lookup]), _, rfl, a6, c.Taken, .ref c.Taken, .ref c.Taken, true, rfl, .inr ⟨d6, _, E6, F6⟩, T.exA _ (inTaken c), (fun u z => z), kit_self T (inTaken c), (by show 3 ≤ sizeLine; decide), fun t6 ht6 => ?_⟩
  have sN : Same H15 (upd H15 t6 (.tup [.ref a6, v, .bl true])) := XP.Same.new ht6
  have E1 := sN _ _ E1
  have E2 := sN _ _ E2
  have E3 := sN _ _ E3
  have E4 := sN _ _ E4
  have E5 := sN _ _ E5
  have E6 := sN _ _ E6
  have E7 := sN _ _ E7
  have F1 := sN _ _ F1
  have F2 := sN _ _ F2
  have F3 := sN _ _ F3
  have F4 := sN _ _ F4
  have F5 := sN _ _ F5
  have F6 := sN _ _ F6
  have F7 := sN _ _ F7
  have T1 := sN _ _ T1
  have T2 := sN _ _ T2
  have L0 := sN _ _ L0
  have T3 := sN _ _ T3
  have T4 := sN _ _ T4
  have L1 := sN _ _ L1
  have M1 := sN _ _ M1
  have T5 := sN _ _ T5
  have sA := sA.trans sN
  have T6 : upd H15 t6 (.tup [.ref a6, v, .bl true]) t6 = some (.tup [.ref a6, v, .bl true]) := upd_same
  clear sN
  generalize upd H15 t6 (.tup [.ref a6, v, .bl true]) = H16 at E1 E2 E3 E4 E5 E6 E7 F1 F2 F3 F4 F5 F6 F7 T1 T2 L0 T3 T4 L1 M1 T5 sA T6 ⊢
  refine ⟨(by show 2 ≤ sizeLine; decide), fun l2 hl2 => ?_⟩
  have sN : Same H16 (upd H16 l2 (.lst [.ref t5, .ref t6])) := XP.Same.new hl2
  have E1 := sN _ _ E1
  have E2 := sN _ _ E2
  have E3 := sN _ _ E3
  have E4 := sN _ _ E4
  have E5 := sN _ _ E5
  have E6 := sN _ _ E6
  have E7 := sN _ _ E7
  have F1 := sN _ _ F1
  have F2 := sN _ _ F2
  have F3 := sN _ _ F3
  have F4 := sN _ _ F4
  have F5 := sN _ _ F5
  have F6 := sN _ _ F6
  have F7 := sN _ _ F7
  have T1 := sN _ _ T1
  have T2 := sN _ _ T2
  have L0 := sN _ _ L0
  have T3 := sN _ _ T3
  have T4 := sN _ _ T4
  have L1 := sN _ _ L1
  have M1 := sN _ _ M1
  have T5 := sN _ _ T5
  have T6 := sN _ _ T6
  have sA := sA.trans sN
  have L2 : upd H16 l2 (.lst [.ref t5, .ref t6]) l2 = some (.lst [.ref t5, .ref t6]) := upd_same
  clear sN
  generalize upd H16 l2 (.lst [.ref t5, .ref t6]) = H17 at E1 E2 E3 E4 E5 E6 E7 F1 F2 F3 F4 F5 F6 F7 T1 T2 L0 T3 T4 L1 M1 T5 T6 sA L2 ⊢
  refine ⟨m1, l2, _, _, rfl, rfl, M1, L2, (by show 6 ≤ sizeLine; decide), fun m2 hm2 => ?_⟩
  have sN : Same H17 (upd H17 m2 (.lst ([.ref t1, .ref t2] ++ [.ref t3, .ref t4] ++ [.ref t5, .ref t6]))) := XP.Same.new hm2
  have E1 := sN _ _ E1
  have E2 := sN _ _ E2
  have E3 := sN _ _ E3
  have E4 := sN _ _ E4
  have E5 := sN _ _ E5
  have E6 := sN _ _ E6
  have E7 := sN _ _ E7
  have F1 := sN _ _ F1
  have F2 := sN _ _ F2
  have F3 := sN _ _ F3
  have F4 := sN _ _ F4
  have F5 := sN _ _ F5
  have F6 := sN _ _ F6
  have F7 := sN _ _ F7
  have T1 := sN _ _ T1
  have T2 := sN _ _ T2
  have L0 := sN _ _ L0
  have T3 := sN _ _ T3
  have T4 := sN _ _ T4
  have L1 := sN _ _ L1
  have M1 := sN _ _ M1
  have T5 := sN _ _ T5
  have T6 := sN _ _ T6
  have L2 := sN _ _ L2
  have sA := sA.trans sN
  have M2 : upd H17 m2 (.lst ([.ref t1, .ref t2] ++ [.ref t3, .ref t4] ++ [.ref t5, .ref t6])) m2 = some (.lst ([.ref t1, .ref t2] ++ [.ref t3, .ref t4] ++ [.ref t5, .ref t6])) := upd_same
  clear sN
  generalize upd H17 m2 (.lst ([.ref t1, .ref t2] ++ [.ref t3, .ref t4] ++ [.ref t5, .ref t6])) = H18 at E1 E2 E3 E4 E5 E6 E7 F1 F2 F3 F4 F5 F6 F7 T1 T2 L0 T3 T4 L1 M1 T5 T6 L2 sA M2 ⊢
  refine ⟨_, rfl, _, rfl, _, rfl, a7, c.NoGuard, d7, _, v, rfl, T.exA _ (inNoGuard c), T.nNoGuard, .inr ⟨E7, F7⟩, (by simp [List.lookup]), _, rfl, a7, c.NoGuard, .ref c.NoGuard, .ref c.NoGuard, true, rfl, .inr ⟨d7, _, E7, F7⟩, T.exA _ (inNoGuard c), (fun u z => z), kit_self T (inNoGuard c), (by show 3 ≤ sizeLine; decide), fun t7 ht7 => ?_⟩
  have sN : Same H18 (upd H18 t7 (.tup [.ref a7, v, .bl true])) := XP.Same.new ht7
  have E1 := sN _ _ E1
  have E2 := sN _ _ E2
  have E3 := sN _ _ E3
  have E4 := sN _ _ E4
  have E5 := sN _ _ E5
  have E6 := sN _ _ E6
  have E7 := sN _ _ E7
  have F1 := sN _ _ F1
  have F2 := sN _ _ F2
  have F3 := sN _ _ F3
  have F4 := sN _ _ F4
  have F5 := sN _ _ F5
  have F6 := sN _ _ F6
  have F7 := sN _ _ F7
  have T1 := sN _ _ T1
  have T2 := sN _ _ T2
  have L0 := sN _ _ L0
  have T3 := sN _ _ T3
  have T4 := sN _ _ T4
  have L1 := sN _ _ L1
  have M1 := sN _ _ M1
  have T5 := sN _ _ T5
  have T6 := sN _ _ T6
  have L2 := sN _ _ L2
  have M2 := sN _ _ M2
  have sA := sA.trans sN
  have T7 : upd H18 t7 (.tup [.ref a7, v, .bl true]) t7 = some (.tup [.ref a7, v, .bl true]) := upd_same
  clear sN
  generalize upd H18 t7 (.tup [.ref a7, v, .bl true]) = H19 at E1 E2 E3 E4 E5 E6 E7 F1 F2 F3 F4 F5 F6 F7 T1 T2 L0 T3 T4 L1 M1 T5 T6 L2 M2 sA T7 ⊢
  refine ⟨(by show 1 ≤ sizeLine; decide), fun l3 hl3 => ?_⟩
  have sN : Same H19 (upd H19 l3 (.lst [.ref t7])) := XP.Same.new hl3
  have E1 := sN _ _ E1
  have E2 := sN _ _ E2
  have E3 := sN _ _ E3
  have E4 := sN _ _ E4
  have E5 := sN _ _ E5
  have E6 := sN _ _ E6
  have E7 := sN _ _ E7
  have F1 := sN _ _ F1
  have F2 := sN _ _ F2
  have F3 := sN _ _ F3
  have F4 := sN _ _ F4
  have F5 := sN _ _ F5
  have F6 := sN _ _ F6
  have F7 := sN _ _ F7
  have T1 := sN _ _ T1
  have T2 := sN _ _ T2
  have L0 := sN _ _ L0
  have T3 := sN _ _ T3
  have T4 := sN _ _ T4
  have L1 := sN _ _ L1
  have M1 := sN _ _ M1
  have T5 := sN _ _ T5
  have T6 := sN _ _ T6
  have L2 := sN _ _ L2
  have M2 := sN _ _ M2
  have T7 := sN _ _ T7
  have sA := sA.trans sN
  have L3 : upd H19 l3 (.lst [.ref t7]) l3 = some (.lst [.ref t7]) := upd_same
  clear sN
  generalize upd H19 l3 (.lst [.ref t7]) = H20 at E1 E2 E3 E4 E5 E6 E7 F1 F2 F3 F4 F5 F6 F7 T1 T2 L0 T3 T4 L1 M1 T5 T6 L2 M2 T7 sA L3 ⊢
  refine ⟨m2, l3, _, _, rfl, rfl, M2, L3, (by show 7 ≤ sizeLine; decide), fun m3 hm3 => ?_⟩
  have sN : Same H20 (upd H20 m3 (.lst ([.ref t1, .ref t2] ++ [.ref t3, .ref t4] ++ [.ref t5, .ref t6] ++ [.ref t7]))) := XP.Same.new hm3
  have E1 := sN _ _ E1
  have E2 := sN _ _ E2
  have E3 := sN _ _ E3
  have E4 := sN _ _ E4
  have E5 := sN _ _ E5
  have E6 := sN _ _ E6
  have E7 := sN _ _ E7
  have F1 := sN _ _ F1
  have F2 := sN _ _ F2
  have F3 := sN _ _ F3
  have F4 := sN _ _ F4
  have F5 := sN _ _ F5
  have F6 := sN _ _ F6
  have F7 := sN _ _ F7
  have T1 := sN _ _ T1
  have T2 := sN _ _ T2
  have L0 := sN _ _ L0
  have T3 := sN _ _ T3
  have T4 := sN _ _ T4
  have L1 := sN _ _ L1
  have M1 := sN _ _ M1
  have T5 := sN _ _ T5
  have T6 := sN _ _ T6
  have L2 := sN _ _ L2
  have M2 := sN _ _ M2
  have T7 := sN _ _ T7
  have L3 := sN _ _ L3
  have sA := sA.trans sN
  have M3 : upd H20 m3 (.lst ([.ref t1, .ref t2] ++ [.ref t3, .ref t4] ++ [.ref t5, .ref t6] ++ [.ref t7])) m3 = some (.lst ([.ref t1, .ref t2] ++ [.ref t3, .ref t4] ++ [.ref t5, .ref t6] ++ [.ref t7])) := upd_same
  clear sN
  generalize upd H20 m3 (.lst ([.ref t1, .ref t2] ++ [.ref t3, .ref t4] ++ [.ref t5, .ref t6] ++ [.ref t7])) = H21 at E1 E2 E3 E4 E5 E6 E7 F1 F2 F3 F4 F5 F6 F7 T1 T2 L0 T3 T4 L1 M1 T5 T6 L2 M2 T7 L3 sA M3 ⊢
  refine q m3 [t1, t2, t3, t4, t5, t6, t7] H21 sA M3 (Nat.le_refl 7) (fun t ht => ?_)
  simp only [List.mem_cons, List.not_mem_nil, or_false] at ht
  rcases ht with rfl | rfl | rfl | rfl | rfl | rfl | rfl
  · exact ⟨a1, c.NoThing, T1, .inr ⟨d1, _, E1, F1⟩, inNoThing c⟩
  · exact ⟨a2, c.NoRow, T2, .inr ⟨d2, _, E2, F2⟩, inNoRow c⟩
  · exact ⟨a3, c.NoMark, T3, .inr ⟨d3, _, E3, F3⟩, inNoMark c⟩
  · exact ⟨a4, c.BadName, T4, .inr ⟨d4, _, E4, F4⟩, inBadName c⟩
  · exact ⟨a5, c.NoButton, T5, .inr ⟨d5, _, E5, F5⟩, inNoButton c⟩
  · exact ⟨a6, c.Taken, T6, .inr ⟨d6, _, E6, F6⟩, inTaken c⟩
  · exact ⟨a7, c.NoGuard, T7, .inr ⟨d7, _, E7, F7⟩, inNoGuard c⟩
end
end K18
set_option linter.all false
set_option maxRecDepth 100000
set_option maxHeartbeats 4000000
namespace K18
open PySem L2 NdefX XE 
abbrev sOthers : Stmt := top 30
abbrev sLaw : Stmt := top 31
/-! ### Barred, as a value -/
theorem bar_asks {K : PySem.W.Frag} {C l : Addr} {ys : List Str} {H1 : Hp} {Q : VK} (hS : SqL K H1 l (ys.map V.str)) (hc : ∀ y ∈ ys, ∀ c ∈ y.cps.toList, c < 16 ^ 8) (hz : fmtCost ys + 8 ≤ 50000)
    (q : ∀ (a d m : Addr) (H' : Hp), Same H1 H' → H' a = some (exv C (some d) a) → H' d = some (.xd [(("names" : Str), .ref m)]) → H' m = some (.lst (ys.map V.str)) → Q (.ref a) H') :
    [V.ref l].length ≤ 1000 ∧ ∀ a, H1 a = none → spBarred K C (.ref a :: ([V.ref l] ++ [])) (upd H1 a (exo a C none))
      (fun u H2 => u = .non ∧ ∃ (d : Addr) (fs : List (Str × V)), H2 a = some (exo a C (some d)) ∧ H2 d = some (exd d fs) ∧ H1 d = none ∧
        (fun (cls : Value) (d : Option Addr) (H' : Hp) => ∃ C, cls = .ref C ∧ ∀ a, H' a = none → Q (.ref a) (upd H' a (exv C d a))) (.ref C) (some d) (upd (del H2 a) d (.xd fs))) (fun _ _ _ => False) := by
  refine ⟨(by decide : 1 ≤ 1000), fun a ha => ⟨a, l, ys, rfl, (XP.Same.new ha).seq hS, upd_same, hc, hz, fun m d hm hd hne hdm => ⟨rfl, d, _, upd_same, (upd_ne hne).trans upd_same, ?_, C, rfl, fun a' ha' => ?_⟩⟩⟩
  · exact (upd_ne hne).symm.trans hd
  · have nma : m ≠ a := fun z => by
      rw [z, upd_same] at hm
      cases hm
    have hm0 : H1 m = none := (upd_ne nma).symm.trans hm
    have hd0 : H1 d = none := (upd_ne hne).symm.trans hd
    have g1 : ∀ b, b ≠ d → b ≠ a → b ≠ m → upd (del (upd (upd (upd (upd H1 a (exo a C none)) m (.lst (ys.map V.str))) d (exd d [(("names" : Str), .ref m)])) a (exo a C (some d))) a) d (.xd [(("names" : Str), .ref m)]) b = H1 b := fun b b1 b2 b3 => by
      rw [upd_ne b1, del_ne b2, upd_ne b2, upd_ne b1, upd_ne b3, upd_ne b2]
    have nd : a' ≠ d := fun z => by
      rw [z, upd_same] at ha'
      cases ha'
    have nm : a' ≠ m := fun z => by
      rw [z, upd_ne (Ne.symm hdm), del_ne nma, upd_ne nma, upd_ne (Ne.symm hdm), upd_same] at ha'
      cases ha'
    refine q a' d m _ (fun b o e => ?_) upd_same ((upd_ne (Ne.symm nd)).trans upd_same) ?_
    · have nb : b ≠ a' := fun z => by
        by_cases z2 : a' = a
        · rw [z, z2, ha] at e
          cases e
        · rw [← z, g1 b (ne_of_none e hd0) (ne_of_none e ha) (ne_of_none e hm0), e] at ha'
          cases ha'
      rw [upd_ne nb, g1 b (ne_of_none e hd0) (ne_of_none e ha) (ne_of_none e hm0)]
      exact e
    · rw [upd_ne (Ne.symm nm), upd_ne (Ne.symm hdm), del_ne nma, upd_ne nma, upd_ne (Ne.symm hdm), upd_same]
def rBar (K : PySem.W.Frag) (C : Addr) : List V → Hp → VK → Prop
  | [.ref l], H1, Q => ∃ ys : List Str, SqL K H1 l (ys.map V.str) ∧ (∀ y ∈ ys, ∀ c ∈ y.cps.toList, c < 16 ^ 8) ∧ fmtCost ys + 8 ≤ 50000 ∧
      ∀ (a d m : Addr) (H' : Hp), Same H1 H' → H' a = some (exv C (some d) a) → H' d = some (.xd [(("names" : Str), .ref m)]) → H' m = some (.lst (ys.map V.str)) → Q (.ref a) H'
  | _, _, _ => False
theorem pe_bar {X : Cx} {C : Addr} {x : Str} {e : Expr} {te : TE} {p pos : Pos} {k : Nat} (I : Ini X.prog X.w X.K X.mg X.base C ["self", "names"] (spBarred X.K C)) (T : OexC X.K C) (hr : Room (k + 2) X.A) (hm : X.mg x = some (.ref C)) (ha : PE X e te) (hg : Gl X x := by rfl)
    (hdb : (x == ("__debug__" : Str)) = false := by decide) (hs : starEach [e] X.env = (false, eval e X.env) :: starEach [] X.env := by rfl) : PE X (.Call (.Name x p) [e] [] pos) (fun σ H Q => te σ H fun v H1 => rBar X.K C [v] H1 Q) := by
  obtain ⟨fI, fd, i1, i2, i3, i4⟩ := I
  refine pe_imp (pe_of_mk (pmk_oex (dvs := []) T i1 i2 i3 (hr.mono (by omega)) i4 .nil pass0 hg hm (pa_up (pa_cons ha pa_nil hs)) hdb hs (by rfl))) fun σ H Q h => ⟨fun vs H1 => rBar X.K C vs H1 Q, h, fun vs H1 hR => ?_⟩
  match vs, hR with
  | [.ref l], ⟨ys, h1, h2, h3, q⟩ => exact bar_asks h1 h2 h3 q
theorem cost_le : ∀ {l : List Str}, (∀ y ∈ l, y.length ≤ 12) → fmtCost l ≤ 124 * l.length
  | [], _ => Nat.zero_le _
  | y :: r, h => by
    have h1 := h y List.mem_cons_self
    have h2 := cost_le (l := r) fun z hz => h z (List.mem_cons_of_mem _ hz)
    rw [fmtCost_cons, List.length_cons]
    omega
theorem names_short : ∀ y ∈ XP.names, y.length ≤ 12 ∧ (reprText y).length ≤ 2000 := by decide +kernel
theorem ok_cps {y : Str} (h : PyData.strOk y = true) : ∀ c ∈ y.cps.toList, c < 16 ^ 8 := fun c hc => by
  have z := Array.all_eq_true_iff_forall_mem.mp h c (Array.mem_toList_iff.mp hc)
  have z2 := of_decide_eq_true z
  have : (16 : Nat) ^ 8 > 0x110000 := by decide
  omega
section
variable {P : Program} {w : World} {K : PySem.W.Frag} {mg : Str → Option Value} {base : Heap} {c : Cs} {S : Addr}
theorem scOthers : FnScope ["pen", "names", "one", "two", "three", "four", "five", "good"] ["pen"] (defScope sOthers) := ⟨rfl, rfl, rfl, by decide +kernel, rfl, by decide +kernel, by decide +kernel⟩
def spOthers : Sp := fun vs H Q _ => ∃ p cc T, vs = [.ref p] ∧ XP.Pen H p cc T ∧ T + 12 ≤ 1000000 ∧ ∀ H', XP.Pen H' p cc (T + 12) → XP.But p H H' → Q (.bl true) H'
/-- the classes without an own __init__ -/
structure Noi (K : PySem.W.Frag) (c : Cs) : Prop where
  NoLots : PySem.W.excIn K c.NoLots [.type "ValueError", .type "Exception", .type "BaseException", .type "object"] "ValueError.__new__" = true
  NothingToUndo : PySem.W.excIn K c.NothingToUndo [.type "ValueError", .type "Exception", .type "BaseException", .type "object"] "ValueError.__new__" = true
  OtherScene : PySem.W.excIn K c.OtherScene [.type "ValueError", .type "Exception", .type "BaseException", .type "object"] "ValueError.__new__" = true
  Unlike : PySem.W.excIn K c.Unlike [.type "ValueError", .type "Exception", .type "BaseException", .type "object"] "ValueError.__new__" = true
theorem okOthers {f fN fD fI : Addr} {fd fdN fdD fdI : FuncData} (F : Fun K "_law_others_right" "_law_others_right" sOthers f fd) (T : Txt K mg c S) (I : Inis P w K mg base c) (N : Noi K c)
    (GN : FnOk P w K mg base CX0 3 fN fdN ["pen", "many"] XP.spNames) (bN : Binds K fdN ["pen", "many"] []) (kN : PySem.W.keepIn K (.ref fN) = true) (mN : mg "_law_new_names" = some (.ref fN))
    (GD : FnOk P w K mg base CX0 1 fD fdD ["pen", "span"] XP.spDraw) (bD : Binds K fdD ["pen", "span"] []) (kD : PySem.W.keepIn K (.ref fD) = true) (mD : mg "_law_draw" = some (.ref fD))
    (GI : FnOk P w K mg base CX0 2 fI fdI ["e", "kind"] (spIsOne c)) (bI : Binds K fdI ["e", "kind"] []) (kI : PySem.W.keepIn K (.ref fI) = true) (mI : mg "_law_is_one" = some (.ref fI)) :
    FnOk P w K mg base CX0 4 f fd ["pen"] spOthers := by
  refine F.ok scOthers (fun vs H Q E h => by obtain ⟨p, cc, T, rfl, _⟩ := h; rfl) (fun cdv A outer s H vs Q E hr h => ?_)
  obtain ⟨p, cc, T0, rfl, hP, hT, q⟩ := h
  have hr1 : Room 1 _ := hr.mono (by decide)
  have hr2 : Room 2 _ := hr.mono (by decide)
  have kx : ∀ {n : Addr}, n ∈ c.all → PySem.W.keepIn K (.ref n) = true := fun h => (T.oex _ h).kC
  refine ⟨_, pss_cons (ps_set (i := 1) scOthers.nd rfl (Or.inl rfl) (pe_call GN hr rfl mN kN bN .nil pass0 (pa_cons (pv 0) (pa_cons (pe_call GD hr1 rfl mD kD bD .nil pass0 (pa_cons (pv 0) (pa_cons pe_int pa_nil))) pa_nil))))
    (pss_cons (ps_par3 (i := 2) (j := 3) (l := 4) rfl scOthers.nd rfl rfl rfl (by decide) (by decide) (by decide) rfl rfl rfl
      (pa_cons (pe_bar I.Barred (T.oex _ (inBarred c)) hr2 T.mBarred (pe_callTy call_list_of (by rfl) T.mlist (by decide +kernel) (pa_cons (pv 1) pa_nil)))
      (pa_cons (pe_exc0 PySem.F.excBase_ValueError N.NoLots T.mNoLots (kx (inNoLots c)) (by rfl)) (pa_cons (pe_exc0 PySem.F.excBase_ValueError N.OtherScene T.mOtherScene (kx (inOtherScene c)) (by rfl)) pa_nil))) (by rfl))
    (pss_cons (ps_par (i := 5) (j := 6) rfl scOthers.nd rfl rfl (by decide) rfl rfl
      (pa_cons (pe_exc0 PySem.F.excBase_ValueError N.Unlike T.mUnlike (kx (inUnlike c)) (by rfl)) (pa_cons (pe_exc0 PySem.F.excBase_ValueError N.NothingToUndo T.mNothingToUndo (kx (inNothingToUndo c)) (by rfl)) pa_nil)) (by rfl))
    (pss_cons (ps_set (i := 7) scOthers.nd rfl (Or.inl rfl) (pe_and (pe_cmpR (op_eqD hr.units) (pe_exf (pv 2)) (pv 1) (nomark _)) (pe_one (pe_call GI hr2 rfl mI kI bI .nil pass0 (pa_cons (pv 2) (pa_cons (pe_callB call_isX (by rfl) T.mis (by decide +kernel) (pa_cons (pv 2) (pa_cons (pe_glob (v := .ref c.Barred) (by rfl) T.mBarred rfl) pa_nil))) pa_nil))))))
    (pss_cons (ps_set (i := 7) scOthers.nd rfl (Or.inl rfl) (pe_and (pv 7) (pe_and (pe_call GI hr2 rfl mI kI bI .nil pass0 (pa_cons (pv 3) (pa_cons (pe_callB call_isX (by rfl) T.mis (by decide +kernel) (pa_cons (pv 3) (pa_cons (pe_glob (v := .ref c.NoLots) (by rfl) T.mNoLots rfl) pa_nil))) pa_nil)))
      (pe_one (pe_call GI hr2 rfl mI kI bI .nil pass0 (pa_cons (pv 4) (pa_cons (pe_callB call_isX (by rfl) T.mis (by decide +kernel) (pa_cons (pv 4) (pa_cons (pe_glob (v := .ref c.OtherScene) (by rfl) T.mOtherScene rfl) pa_nil))) pa_nil)))))))
    (pss_one (ps_ret (pe_and (pv 7) (pe_and (pe_call GI hr2 rfl mI kI bI .nil pass0 (pa_cons (pv 5) (pa_cons (pe_callB call_isX (by rfl) T.mis (by decide +kernel) (pa_cons (pv 5) (pa_cons (pe_glob (v := .ref c.Unlike) (by rfl) T.mUnlike rfl) pa_nil))) pa_nil)))
      (pe_one (pe_call GI hr2 rfl mI kI bI .nil pass0 (pa_cons (pv 6) (pa_cons (pe_callB call_isX (by rfl) T.mis (by decide +kernel) (pa_cons (pv 6) (pa_cons (pe_glob (v := .ref c.NothingToUndo) (by rfl) T.mNothingToUndo rfl) pa_nil))) pa_nil)))))))))))), ?_⟩
  refine ⟨_, rfl, _, rfl, p, cc, T0, 6, rfl, hP, by omega, by decide, by decide, fun m H1 m0 m6 hP1 hb1 => ?_⟩
  refine ⟨p, cc, T0 + 1, m, rfl, hP1, by omega, m0, by omega, fun r zs H2 hz r0 hr2' hP2 hb2 => ?_⟩
  have hys : ∀ y ∈ zs.take m.toNat, y ∈ XP.names := fun y hy => hz.mem_iff.mp (List.mem_of_mem_take hy)
  have hlen : (zs.take m.toNat).length ≤ 11 := by
    rw [List.length_take, hz.length_eq]
    exact Nat.le_trans (Nat.min_le_right _ _) (by decide)
  have hok : XP.Txs (zs.take m.toNat) := fun y hy => XP.names_ok y (hys y hy)
  have hcost := cost_le fun y hy => (names_short y (hys y hy)).1
  generalize zs.take m.toNat = ys at hys hlen hok hcost hr2'
  have hb02 := hb1.trans hb2
  have rp : r ≠ p := fun z => by
    obtain ⟨o, e⟩ := hP1.at
    rw [← z, r0] at e
    cases e
  refine ⟨_, rfl, r, _, rfl, .inl (SqL.of hr2'), fun l hl => ⟨ys, SqL.of upd_same, fun y hy => ok_cps (hok y hy), by omega, fun a1 d1 k1 H3 s3 e1 f1 g1 => ?_⟩⟩
  have s3' := (XP.Same.new hl).trans s3
  refine fun a2 h2 => fun a3 h3 => ⟨_, _, _, rfl, fun a4 h4 => fun a5 h5 => ⟨_, _, rfl, ?_⟩⟩
  have s4 := XP.Same.new (o := exv c.NoLots none a2) h2
  have s5 := XP.Same.new (o := exv c.OtherScene none a3) h3
  have s6 := XP.Same.new (o := exv c.Unlike none a4) h4
  have s7 := XP.Same.new (o := exv c.NothingToUndo none a5) h5
  have x2 : ExAt (upd (upd (upd (upd H3 a2 (exv c.NoLots none a2)) a3 (exv c.OtherScene none a3)) a4 (exv c.Unlike none a4)) a5 (exv c.NothingToUndo none a5)) a2 c.NoLots := .inl (s7 _ _ (s6 _ _ (s5 _ _ upd_same)))
  have x3 : ExAt (upd (upd (upd (upd H3 a2 (exv c.NoLots none a2)) a3 (exv c.OtherScene none a3)) a4 (exv c.Unlike none a4)) a5 (exv c.NothingToUndo none a5)) a3 c.OtherScene := .inl (s7 _ _ (s6 _ _ upd_same))
  have x4 : ExAt (upd (upd (upd (upd H3 a2 (exv c.NoLots none a2)) a3 (exv c.OtherScene none a3)) a4 (exv c.Unlike none a4)) a5 (exv c.NothingToUndo none a5)) a4 c.Unlike := .inl (s7 _ _ upd_same)
  have x5 : ExAt (upd (upd (upd (upd H3 a2 (exv c.NoLots none a2)) a3 (exv c.OtherScene none a3)) a4 (exv c.Unlike none a4)) a5 (exv c.NothingToUndo none a5)) a5 c.NothingToUndo := .inl upd_same
  have s37 : Same H3 _ := ((s4.trans s5).trans s6).trans s7
  generalize upd (upd (upd (upd H3 a2 (exv c.NoLots none a2)) a3 (exv c.OtherScene none a3)) a4 (exv c.Unlike none a4)) a5 (exv c.NothingToUndo none a5) = H7 at x2 x3 x4 x5 s37 ⊢
  have e1' := s37 _ _ e1
  have f1' := s37 _ _ f1
  have g1' := s37 _ _ g1
  have r1' : H7 r = some (.lst (ys.map V.str)) := s37 _ _ (s3' _ _ hr2')
  have x1 : ExAt H7 a1 c.Barred := .inr ⟨d1, _, e1', f1'⟩
  have hP7 : XP.Pen H7 p cc (T0 + 12) := (hP2.same (s3'.trans s37)).mono (by omega)
  have hb7 : XP.But p H H7 := hb02.trans (XP.But.same (s3'.trans s37))
  have self : ∀ {C : Addr}, C ∈ c.all → PySem.W.kitOne K (.ref C) (.ref C) = some true := fun h => kit_self T h
  refine ⟨_, rfl, a1, c.Barred, d1, _, .ref k1, rfl, T.exA _ (inBarred c), T.nBarred, .inr ⟨e1', f1'⟩, (by simp [List.lookup]), _, rfl, .list (ys.map PyData.str), .list (ys.map PyData.str), .lst (SqL.of g1') (XP.dp_strs ys), .lst (SqL.of r1') (XP.dp_strs ys), XP.shaped_strs hok, XP.shaped_strs hok, ?_⟩
  rw [XP.eqv_strs, decide_eq_true rfl]
  refine ⟨true, rfl, iteT ⟨_, rfl, _, rfl, a1, c.Barred, .ref c.Barred, .ref c.Barred, true, rfl, x1, T.exA _ (inBarred c), (fun u z => z), self (inBarred c), a1, c.Barred, rfl, x1, inBarred c, ?_⟩⟩
  refine ⟨_, rfl, true, rfl, iteT ⟨_, rfl, _, rfl, a2, c.NoLots, .ref c.NoLots, .ref c.NoLots, true, rfl, x2, T.exA _ (inNoLots c), (fun u z => z), self (inNoLots c), a2, c.NoLots, rfl, x2, inNoLots c, true, rfl, iteT
    ⟨_, rfl, _, rfl, a3, c.OtherScene, .ref c.OtherScene, .ref c.OtherScene, true, rfl, x3, T.exA _ (inOtherScene c), (fun u z => z), self (inOtherScene c), a3, c.OtherScene, rfl, x3, inOtherScene c, ?_⟩⟩⟩
  refine ⟨_, rfl, true, rfl, iteT ⟨_, rfl, _, rfl, a4, c.Unlike, .ref c.Unlike, .ref c.Unlike, true, rfl, x4, T.exA _ (inUnlike c), (fun u z => z), self (inUnlike c), a4, c.Unlike, rfl, x4, inUnlike c, true, rfl, iteT
    ⟨_, rfl, _, rfl, a5, c.NothingToUndo, .ref c.NothingToUndo, .ref c.NothingToUndo, true, rfl, x5, T.exA _ (inNothingToUndo c), (fun u z => z), self (inNothingToUndo c), a5, c.NothingToUndo, rfl, x5, inNothingToUndo c, ?_⟩⟩⟩
  exact q H7 hP7 hb7
end
end K18
set_option linter.all false
set_option maxRecDepth 100000
set_option maxHeartbeats 4000000
namespace K18
open PySem L2 NdefX XE 
section
variable {P : Program} {w : World} {K : PySem.W.Frag} {mg : Str → Option Value} {base : Heap} {c : Cs} {S : Addr}
theorem scLaw : FnScope ["script", "pen", "turn", "number", "text", "e", "field", "kind"] ["script"] (defScope sLaw) := ⟨rfl, rfl, rfl, by decide +kernel, rfl, by decide +kernel, by decide +kernel⟩
def spLaw (K : PySem.W.Frag) : Sp := fun vs H Q _ => ∃ (a : Addr) (ns : List Int), vs = [.ref a] ∧ SqL K H a (ns.map V.int) ∧ ns.length ≤ 63 ∧ ∀ H', Q (.bl true) H'
theorem rep_int {v : V} (h : FmtI v) : ∃ z, XP.RepOf v z := by
  obtain ⟨i, rfl, h⟩ := h
  exact ⟨_, .inl ⟨i, rfl, h, rfl⟩⟩
theorem rep_str {v : V} (h : FmtS v) : ∃ z, XP.RepOf v z := by
  obtain ⟨y, rfl, h⟩ := h
  exact ⟨_, .inr ⟨y, rfl, fits5 (by omega), rfl⟩⟩
set_option maxHeartbeats 16000000 in
theorem okLaw {f fB fN fD fI fO fU fM : Addr} {fd fdB fdN fdD fdI fdO fdU fdM : FuncData} (F : Fun K "law" "law" sLaw f fd) (T : Txt K mg c S)
    (GB : FnOk P w K mg base CX0 1 fB fdB ["script"] (XP.spBegun K)) (bB : Binds K fdB ["script"] []) (kB : PySem.W.keepIn K (.ref fB) = true) (mB : mg "_law_begun_pen" = some (.ref fB))
    (GN : FnOk P w K mg base CX0 3 fN fdN ["pen", "many"] XP.spNames) (bN : Binds K fdN ["pen", "many"] []) (kN : PySem.W.keepIn K (.ref fN) = true) (mN : mg "_law_new_names" = some (.ref fN))
    (GD : FnOk P w K mg base CX0 1 fD fdD ["pen", "span"] XP.spDraw) (bD : Binds K fdD ["pen", "span"] []) (kD : PySem.W.keepIn K (.ref fD) = true) (mD : mg "_law_draw" = some (.ref fD))
    (GI : FnOk P w K mg base CX0 2 fI fdI ["e", "kind"] (spIsOne c)) (bI : Binds K fdI ["e", "kind"] []) (kI : PySem.W.keepIn K (.ref fI) = true) (mI : mg "_law_is_one" = some (.ref fI))
    (GO : FnOk P w K mg base CX0 4 fO fdO ["pen"] spOthers) (bO : Binds K fdO ["pen"] []) (kO : PySem.W.keepIn K (.ref fO) = true) (mO : mg "_law_others_right" = some (.ref fO))
    (GU : FnOk P w K mg base CX0 3 fU fdU ["number"] (spMade c FmtI)) (bU : Binds K fdU ["number"] []) (kU : PySem.W.keepIn K (.ref fU) = true) (mU : mg "_law_numbered" = some (.ref fU))
    (GM : FnOk P w K mg base CX0 3 fM fdM ["text"] (spMade c FmtS)) (bM : Binds K fdM ["text"] []) (kM : PySem.W.keepIn K (.ref fM) = true) (mM : mg "_law_named" = some (.ref fM)) :
    FnOk P w K mg base CX0 5 f fd ["script"] (spLaw K) := by
  refine F.ok scLaw (fun vs H Q E h => by obtain ⟨a, ns, rfl, _⟩ := h; rfl) (fun cdv A outer s H vs Q E hr h => ?_)
  obtain ⟨a, ns, rfl, hS, hl, q⟩ := h
  have hr1 : Room 1 _ := hr.mono (by decide)
  have hr2 : Room 2 _ := hr.mono (by decide)
  have hr3 : Room 3 _ := hr.mono (by decide)
  have rp : bootBuiltins "repr" = some (.builtin "repr") := by decide +kernel
  refine ⟨_, pss_cons (ps_set (i := 1) scLaw.nd rfl (Or.inl rfl) (pe_call GB hr1 rfl mB kB bB .nil pass0 (pa_cons (pv 0) pa_nil)))
    (pss_cons (ps_for PassesOwn.never rfl (pi_range1 rfl T.mrange (pa_cons pe_int pa_nil)) (pg_name (i := 2) scLaw.nd rfl (Or.inl rfl))
      (pss_cons (ps_par (i := 3) (j := 4) rfl scLaw.nd rfl rfl (by decide) rfl rfl
        (pa_cons (pe_op op_sub (pe_call GD hr1 rfl mD kD bD .nil pass0 (pa_cons (pv 1) (pa_cons (pe_op op_pow pe_int pe_int) pa_nil))) (pv 2))
        (pa_cons (pe_ix ix_list (pe_call GN hr3 rfl mN kN bN .nil pass0 (pa_cons (pv 1) (pa_cons pe_int pa_nil))) pe_int (fun _ _ => rfl)) pa_nil)) (by rfl))
      (pss_cons (ps_for PassesOwn.never rfl (pi_list (pe_call GU hr3 rfl mU kU bU .nil pass0 (pa_cons (pv 3) pa_nil))) (pg_tup rfl (pgs_cons (pg_name (i := 5) scLaw.nd rfl (Or.inl rfl)) (pgs_cons (pg_name (i := 6) scLaw.nd rfl (Or.inl rfl)) (pgs_cons (pg_name (i := 7) scLaw.nd rfl (Or.inl rfl)) pgs_nil))))
        (pss_one (ps_if (PW.pt (pw_or (pt_cmpR op_ne (pe_callB XP.call_repr (by rfl) T.mrepr rp (pa_cons (pv 6) pa_nil)) (pe_callB XP.call_repr (by rfl) T.mrepr rp (pa_cons (pv 3) pa_nil)) (nomark _))
          (pw_or1 (pt_not (pt_val (pe_call GI hr2 rfl mI kI bI .nil pass0 (pa_cons (pv 5) (pa_cons (pv 7) pa_nil)))))))) (pss_one (ps_ret pe_bl)) pss_nil)))
      (pss_cons (ps_for PassesOwn.never rfl (pi_list (pe_call GM hr3 rfl mM kM bM .nil pass0 (pa_cons (pv 4) pa_nil))) (pg_tup rfl (pgs_cons (pg_name (i := 5) scLaw.nd rfl (Or.inl rfl)) (pgs_cons (pg_name (i := 6) scLaw.nd rfl (Or.inl rfl)) (pgs_cons (pg_name (i := 7) scLaw.nd rfl (Or.inl rfl)) pgs_nil))))
        (pss_one (ps_if (PW.pt (pw_or (pt_cmpR op_ne (pe_callB XP.call_repr (by rfl) T.mrepr rp (pa_cons (pv 6) pa_nil)) (pe_callB XP.call_repr (by rfl) T.mrepr rp (pa_cons (pv 4) pa_nil)) (nomark _))
          (pw_or1 (pt_not (pt_val (pe_call GI hr2 rfl mI kI bI .nil pass0 (pa_cons (pv 5) (pa_cons (pv 7) pa_nil)))))))) (pss_one (ps_ret pe_bl)) pss_nil)))
      (pss_one (ps_if (pt_not (pt_val (pe_call GO hr rfl mO kO bO .nil pass0 (pa_cons (pv 1) pa_nil)))) (pss_one (ps_ret pe_bl)) pss_nil))))))
    (pss_one (ps_ret pe_bl))), ?_⟩
  refine ⟨_, rfl, a, ns, rfl, hS, hl, fun p cc H1 p0 hP1 s1 => ?_⟩
  refine ⟨3, rfl, by decide, by decide, for_range (n := 3) (fun i σ H' => ∃ x2 x3 x4 x5 x6 x7 : Option V, σ = [some (.ref a), some (.ref p), x2, x3, x4, x5, x6, x7] ∧ XP.Pen H' p cc (24 * i))
    ⟨_, _, _, _, _, _, rfl, hP1⟩ ?_ ?_⟩
  · rintro i σ H' hi ⟨x2, x3, x4, x5, x6, x7, rfl, hP⟩
    -- number, text
    refine ⟨_, rfl, _, _, rfl, rfl, ⟨by decide, by decide, by decide⟩, p, cc, 24 * i, _, rfl, hP, by omega, by decide, by decide, fun r H2 r0 rn hP2 hb2 => ?_⟩
    refine ⟨_, rfl, _, _, rfl, rfl, _, rfl, p, cc, 24 * i + 1, 1, rfl, hP2, by omega, by decide, by decide, fun l zs H3 hz l0 hl3 hP3 hb3 => ?_⟩
    have hlen := hz.length_eq
    obtain ⟨y, zs', rfl⟩ : ∃ y zs', zs = y :: zs' := by
      cases zs with
      | nil =>
        have z : (0 : Nat) = 11 := hlen
        cases z
      | cons y zs' => exact ⟨y, zs', rfl⟩
    have hy : y ∈ XP.names := hz.mem_iff.mp List.mem_cons_self
    have hl3' : H3 l = some (.lst [.str y]) := hl3
    refine ⟨l, _, _, _, rfl, rfl, SqL.of hl3', (show atI [V.str y] ((0 : Nat) : Int) = some (V.str y) from atI_nat (j := 0) rfl), _, _, rfl, ?_⟩
    have gN : FmtI (.int (r - (0 + (i : Int)))) := by
      refine ⟨_, rfl, ?_⟩
      have b : (r - (0 + (i : Int))).natAbs < 2 ^ 252 := by
        have e1 : (10 : Int) ^ (60 : Int).toNat < 2 ^ 250 := by decide
        have e2 : r < 2 ^ 250 := by
          have := rn
          omega
        have e3 : (2 : Int) ^ 250 + 3 < 2 ^ 252 := by decide
        have e4 : ((2 ^ 252 : Nat) : Int) = (2 : Int) ^ 252 := by decide
        omega
      exact Nat.lt_of_lt_of_le (PySem.Flt.log2_lt_of (by decide) b) (by decide)
    have gS : FmtS (.str y) := ⟨y, rfl, (names_short y hy).2⟩
    obtain ⟨zn, hzn⟩ := rep_int gN
    obtain ⟨zy, hzy⟩ := rep_str gS
    -- the numbered ones
    refine ⟨_, rfl, .int (r - (0 + (i : Int))), rfl, gN, fun r4 ts H4 s4 hr4 _ hts => ⟨r4, rfl, ⟨_, SqL.of hr4⟩, for_list (K := K) (a := r4) (xs := ts.map V.ref) (fun j σ H' => (∃ x5 x6 x7 : Option V, σ = [some (.ref a), some (.ref p), some (.int (0 + (i : Int))), some (.int (r - (0 + (i : Int)))), some (.str y), x5, x6, x7]) ∧ H' = H4)
      ⟨⟨x5, x6, x7, rfl⟩, rfl⟩ (fun j σ H' _ ⟨_, e⟩ => by rw [e]; exact SqL.of hr4) ?_ ?_⟩⟩
    · rintro j x σ H' hj ⟨⟨x5, x6, x7, rfl⟩, rfl⟩
      rw [List.getElem?_map] at hj
      obtain ⟨t, ht, rfl⟩ := Option.map_eq_some_iff.mp hj
      obtain ⟨e, C, h1, h2, h3⟩ := hts t (List.mem_of_getElem? ht)
      refine ⟨t, _, rfl, SqT.of h1, rfl, _, _, rfl, _, _, rfl, _, _, rfl, rfl, ?_⟩
      refine ⟨_, rfl, _, zn, rfl, hzn, _, rfl, _, zn, rfl, hzn, rfl, _, rfl, iteNS rfl ⟨_, rfl, _, rfl, e, C, rfl, h2, h3, true, rfl, iteF ?_⟩⟩
      exact ⟨⟨_, _, _, rfl⟩, rfl⟩
    rintro σ H' ⟨⟨x5, x6, x7, rfl⟩, rfl⟩
    -- the named ones
    refine ⟨_, rfl, .str y, rfl, gS, fun r5 us H5 s5 hr5 _ hus => ⟨r5, rfl, ⟨_, SqL.of hr5⟩, for_list (K := K) (a := r5) (xs := us.map V.ref) (fun j σ H'' => (∃ x5 x6 x7 : Option V, σ = [some (.ref a), some (.ref p), some (.int (0 + (i : Int))), some (.int (r - (0 + (i : Int)))), some (.str y), x5, x6, x7]) ∧ H'' = H5)
      ⟨⟨x5, x6, x7, rfl⟩, rfl⟩ (fun j σ H'' _ ⟨_, e⟩ => by rw [e]; exact SqL.of hr5) ?_ ?_⟩⟩
    · rintro j x σ H'' hj ⟨⟨x5, x6, x7, rfl⟩, rfl⟩
      rw [List.getElem?_map] at hj
      obtain ⟨t, ht, rfl⟩ := Option.map_eq_some_iff.mp hj
      obtain ⟨e, C, h1, h2, h3⟩ := hus t (List.mem_of_getElem? ht)
      refine ⟨t, _, rfl, SqT.of h1, rfl, _, _, rfl, _, _, rfl, _, _, rfl, rfl, ?_⟩
      refine ⟨_, rfl, _, zy, rfl, hzy, _, rfl, _, zy, rfl, hzy, rfl, _, rfl, iteNS rfl ⟨_, rfl, _, rfl, e, C, rfl, h2, h3, true, rfl, iteF ?_⟩⟩
      exact ⟨⟨_, _, _, rfl⟩, rfl⟩
    rintro σ H'' ⟨⟨x5, x6, x7, rfl⟩, rfl⟩
    refine ⟨_, rfl, p, cc, 24 * i + 12, rfl, (hP3.same s4).same s5, by omega, fun H6 hP6 hb6 => ⟨true, rfl, iteF ?_⟩⟩
    exact ⟨_, _, _, _, _, _, rfl, hP6.mono (by omega)⟩
  · rintro σ H' ⟨x2, x3, x4, x5, x6, x7, rfl, hP⟩
    exact q H'
end
end K18
set_option linter.all false
set_option maxRecDepth 100000
set_option maxHeartbeats 4000000
namespace XE
open PySem PySem.Spec PyProof.Rows L2 NdefX
/-! ### the classes' facts, by one look each -/
def b1 (K : PySem.W.Frag) (C : Addr) : Bool := decide (PySem.W.findIn K (.ref C) "__setattr__" = some (some (.builtin "object.__setattr__"))) && decide (PySem.W.subIn K (.ref C) (.type "BaseException") = some true) && decide (PySem.W.typeIn K (.ref C) = some (.type "type")) && PySem.W.keepIn K (.ref C)
def b2 (K : PySem.W.Frag) (C : Addr) : Bool := decide (PySem.W.findIn K (.ref C) "__getattribute__" = some (some (.builtin "BaseException.__getattribute__"))) && decide (PySem.W.findIn K (.ref C) "__getattr__" = some none) && PySem.W.hasDictIn K C && decide (PySem.W.findIn K (.ref C) "__class__" = some (some (.builtin "object.__class__"))) && decide (PySem.W.mroIn K C (.type "object") = some true)
def b0 (K : PySem.W.Frag) : Bool := decide (PySem.W.specialIn K (.builtin "object.__class__") "__get__" = some (some (.builtin "getset_descriptor.__get__"))) && decide (PySem.W.takesIn K (.builtin "object.__class__") = some true) && decide (PySem.W.nsIn K cStatics "thirdparty.any" = some none)
def b3 (K : PySem.W.Frag) (C : Addr) : Bool := decide (PySem.W.ks_superIn K C C "__init__" = some (some (.builtin "ValueError.__init__"))) && decide (PySem.W.subIn K (.ref C) (.type "ValueError") = some true) && decide (PySem.W.mroIn K C (.ref C) = some true)
def b4 (K : PySem.W.Frag) (C f cda : Addr) (fld qual : Str) : Bool := decide (PySem.W.findIn K (.ref C) fld = some none) && decide (PySem.W.findIn K (.ref C) "__init__" = some (some (.ref f))) && decide (PySem.W.typeIn K (.ref f) = some (.type "function")) && PySem.W.codeIn K (.ref cda) qual
/-- the class at C as the top made it -/
def ClsAt (K : PySem.W.Frag) (C : Addr) : Prop := ∃ nm q N bs bm sn sub ab col dd k0 k1 k2 k3 k5, K.lookup C = some (excClassObj nm q C N bs bm true sn sub ab col dd k0 k1 k2 k3 k5 "ValueError.__new__") ∧ PySem.HandSPX.refsVE bm = true
variable {K : PySem.W.Frag} {C f cda cc : Addr} {fld qual : Str}
theorem oex_of (h : b1 K C = true) (c : ClsAt K C) : OexC K C := by
  unfold b1 at h
  simp only [Bool.and_eq_true, decide_eq_true_eq] at h
  obtain ⟨⟨⟨h1, h2⟩, h3⟩, h4⟩ := h
  exact ⟨c, h1, h2, h3, h4⟩
theorem exA_of (h0 : b0 K = true) (h1 : b1 K C = true) (h : b2 K C = true) : ExA K C := by
  unfold b0 at h0
  unfold b1 at h1
  unfold b2 at h
  simp only [Bool.and_eq_true, decide_eq_true_eq] at h0 h1 h
  obtain ⟨⟨z1, z2⟩, _⟩ := h0
  obtain ⟨⟨⟨_, y2⟩, _⟩, _⟩ := h1
  obtain ⟨⟨⟨⟨x1, x2⟩, x3⟩, x4⟩, x5⟩ := h
  exact ⟨x1, x2, y2, x3, x4, z1, z2, x5⟩
/-- the objects that the class's own __init__ rests on -/
structure InAt (P : Program) (K : PySem.W.Frag) (st : Stmt) (qual : Str) (C f cda cc : Addr) (fd : FuncData) : Prop where
  fn : ∃ (oc : Value) (od : Option Addr) (kV doc pm : Value) (an : Option Addr) (ct : Value) (osl : Array (Option Value)), fd = PySem.W.fnX "__init__" qual (defArgs st) (defBody st) (defScope st) [(("__class__" : Str), cc)] .none kV doc pm an (.ref cda) ct ∧ K.lookup f = some ⟨oc, od, .func fd, osl⟩
  ar : ∃ ar, ((defArgs st).posonlyargs ++ (defArgs st).args).head? = some ar ∧ ar.arg = ("self" : Str)
  code : ∃ ccl cdd vs ccs file tf, K.lookup cda = some ⟨ccl, cdd, .fields vs, ccs⟩ ∧ vs[2]? = some (.str file tf) ∧ ((P.main.file : Str) == file) = true
  cell : ∃ cl cld csl, K.lookup cc = some ⟨cl, cld, .cell (some (.ref C)), csl⟩
theorem sup_of {P : Program} {mg : Str → Option Value} {st : Stmt} {fd : FuncData} (h0 : b0 K = true) (h1 : b1 K C = true) (h3 : b3 K C = true) (c : ClsAt K C) (I : InAt P K st qual C f cda cc fd) (hs : mg "super" = none) (ht : (P.main.scope.names.lookup ("super" : Str)).isSome = false) : SupK P K mg C f cda cc := by
  unfold b0 at h0
  unfold b3 at h3
  simp only [Bool.and_eq_true, decide_eq_true_eq] at h0 h3
  obtain ⟨_, z3⟩ := h0
  obtain ⟨⟨y1, y2⟩, y3⟩ := h3
  obtain ⟨oc, od, kV, doc, pm, an, ct, osl, rfl, l⟩ := I.fn
  obtain ⟨ar, a1, a2⟩ := I.ar
  exact ⟨oex_of h1 c, I.code, I.cell, ⟨oc, od, _, osl, ar, l, a1, a2⟩, hs, z3, y1, y2, y3, ht⟩
theorem func_of {P : Program} {st : Stmt} {fd : FuncData} (h4 : b4 K C f cda fld qual = true) (I : InAt P K st qual C f cda cc fd) : FunC K qual st f cda cc C fd ∧ PySem.W.findIn K (.ref C) fld = some none ∧ PySem.W.findIn K (.ref C) "__init__" = some (some (.ref f)) ∧ PySem.W.typeIn K (.ref f) = some (.type "function") := by
  unfold b4 at h4
  simp only [Bool.and_eq_true, decide_eq_true_eq] at h4
  obtain ⟨⟨⟨x1, x2⟩, x3⟩, x4⟩ := h4
  exact ⟨⟨I.fn, x4, I.cell⟩, x1, x2, x3⟩
end XE
set_option linter.all false
set_option maxRecDepth 100000
set_option maxHeartbeats 4000000
namespace K18
open PySem L2 NdefX XE 
def kitB (K : PySem.W.Frag) (S : Addr) (l : List Addr) : Bool := l.all fun C => (l.all fun D => decide (PySem.W.kitOne K (.ref C) (.ref D) = some (decide (C = D)))) && decide (PySem.W.kitOne K (.ref C) (.ref S) = some true) && decide (PySem.W.subIn K (.ref C) (.type "ValueError") = some true)
theorem kit_meta : PySem.W.kitMeta "ValueError" = true := by decide +kernel
theorem kit_ve {K : PySem.W.Frag} {C : Addr} (h : PySem.W.subIn K (.ref C) (.type "ValueError") = some true) : PySem.W.kitOne K (.ref C) (.type "ValueError") = some true := by
  unfold PySem.W.kitOne
  rw [if_neg (by simp)]
  show (if PySem.W.kitMeta "ValueError" = true then PySem.W.subIn K (.ref C) (.type "ValueError") else none) = some true
  rw [if_pos kit_meta]
  exact h
theorem all_list {c : Cs} {p : Addr → Prop} (hBadInputs : p c.BadInputs) (hBadName : p c.BadName) (hBadSaying : p c.BadSaying) (hBadScene : p c.BadScene) (hBadScript : p c.BadScript) (hBadWalk : p c.BadWalk) (hBadWorld : p c.BadWorld) (hBarred : p c.Barred) (hNoButton : p c.NoButton) (hNoGuard : p c.NoGuard) (hNoLots : p c.NoLots) (hNoMark : p c.NoMark) (hNoRow : p c.NoRow) (hNoThing : p c.NoThing) (hNotBare : p c.NotBare) (hNothingToUndo : p c.NothingToUndo) (hOtherScene : p c.OtherScene) (hTaken : p c.Taken) (hUnlike : p c.Unlike) : ∀ C ∈ c.all, p C := by
  intro C h
  simp only [Cs.all, List.mem_cons, List.not_mem_nil, or_false] at h
  rcases h with rfl | rfl | rfl | rfl | rfl | rfl | rfl | rfl | rfl | rfl | rfl | rfl | rfl | rfl | rfl | rfl | rfl | rfl | rfl
  · exact hBadInputs
  · exact hBadName
  · exact hBadSaying
  · exact hBadScene
  · exact hBadScript
  · exact hBadWalk
  · exact hBadWorld
  · exact hBarred
  · exact hNoButton
  · exact hNoGuard
  · exact hNoLots
  · exact hNoMark
  · exact hNoRow
  · exact hNoThing
  · exact hNotBare
  · exact hNothingToUndo
  · exact hOtherScene
  · exact hTaken
  · exact hUnlike
set_option maxHeartbeats 16000000 in
theorem all_mk {l : PySem.W.OpenLaw} {w : World} {K : PySem.W.Frag} {h : Heap} {mg : Str → Option Value} {fa : Addr} (X : K.In h) (G : h.Ns mainGlobals mg) (hfa : mg "law" = some (.ref fa))
    {S : Addr} {c : Cs} {fBadInputs cdaBadInputs ccBadInputs fBadName cdaBadName ccBadName fBadSaying cdaBadSaying ccBadSaying fBadScene cdaBadScene ccBadScene fBadScript cdaBadScript ccBadScript fBadWalk cdaBadWalk ccBadWalk fBadWorld cdaBadWorld ccBadWorld fBarred cdaBarred ccBarred fNoButton cdaNoButton ccNoButton fNoGuard cdaNoGuard ccNoGuard fNoMark cdaNoMark ccNoMark fNoRow cdaNoRow ccNoRow fNoThing cdaNoThing ccNoThing fNotBare cdaNotBare ccNotBare fTaken cdaTaken ccTaken : Addr} {fdBadInputs fdBadName fdBadSaying fdBadScene fdBadScript fdBadWalk fdBadWorld fdBarred fdNoButton fdNoGuard fdNoMark fdNoRow fdNoThing fdNotBare fdTaken : FuncData}
    {fBegun fDraw fShuf fNames fClasses fIsOne fNumbered fNamed fOthers fLaw : Addr}
    {odBegun anBegun : Option Addr} {slBegun : Array (Option Value)} {ocBegun kVBegun dcBegun pmBegun cdBegun ctBegun : Value}
    {odDraw anDraw : Option Addr} {slDraw : Array (Option Value)} {ocDraw kVDraw dcDraw pmDraw cdDraw ctDraw : Value}
    {odShuf anShuf : Option Addr} {slShuf : Array (Option Value)} {ocShuf kVShuf dcShuf pmShuf cdShuf ctShuf : Value}
    {odNames anNames : Option Addr} {slNames : Array (Option Value)} {ocNames kVNames dcNames pmNames cdNames ctNames : Value}
    {odClasses anClasses : Option Addr} {slClasses : Array (Option Value)} {ocClasses kVClasses dcClasses pmClasses cdClasses ctClasses : Value}
    {odIsOne anIsOne : Option Addr} {slIsOne : Array (Option Value)} {ocIsOne kVIsOne dcIsOne pmIsOne cdIsOne ctIsOne : Value}
    {odNumbered anNumbered : Option Addr} {slNumbered : Array (Option Value)} {ocNumbered kVNumbered dcNumbered pmNumbered cdNumbered ctNumbered : Value}
    {odNamed anNamed : Option Addr} {slNamed : Array (Option Value)} {ocNamed kVNamed dcNamed pmNamed cdNamed ctNamed : Value}
    {odOthers anOthers : Option Addr} {slOthers : Array (Option Value)} {ocOthers kVOthers dcOthers pmOthers cdOthers ctOthers : Value}
    {odLaw anLaw : Option Addr} {slLaw : Array (Option Value)} {ocLaw kVLaw dcLaw pmLaw cdLaw ctLaw : Value}
    (aBadInputs : PySem.W.nsIn K mainGlobals "BadInputs" = some (some (.ref c.BadInputs))) (xBadInputs : ClsAt K c.BadInputs) (p1BadInputs : b1 K c.BadInputs = true) (p2BadInputs : b2 K c.BadInputs = true)
    (aBadName : PySem.W.nsIn K mainGlobals "BadName" = some (some (.ref c.BadName))) (xBadName : ClsAt K c.BadName) (p1BadName : b1 K c.BadName = true) (p2BadName : b2 K c.BadName = true)
    (aBadSaying : PySem.W.nsIn K mainGlobals "BadSaying" = some (some (.ref c.BadSaying))) (xBadSaying : ClsAt K c.BadSaying) (p1BadSaying : b1 K c.BadSaying = true) (p2BadSaying : b2 K c.BadSaying = true)
    (aBadScene : PySem.W.nsIn K mainGlobals "BadScene" = some (some (.ref c.BadScene))) (xBadScene : ClsAt K c.BadScene) (p1BadScene : b1 K c.BadScene = true) (p2BadScene : b2 K c.BadScene = true)
    (aBadScript : PySem.W.nsIn K mainGlobals "BadScript" = some (some (.ref c.BadScript))) (xBadScript : ClsAt K c.BadScript) (p1BadScript : b1 K c.BadScript = true) (p2BadScript : b2 K c.BadScript = true)
    (aBadWalk : PySem.W.nsIn K mainGlobals "BadWalk" = some (some (.ref c.BadWalk))) (xBadWalk : ClsAt K c.BadWalk) (p1BadWalk : b1 K c.BadWalk = true) (p2BadWalk : b2 K c.BadWalk = true)
    (aBadWorld : PySem.W.nsIn K mainGlobals "BadWorld" = some (some (.ref c.BadWorld))) (xBadWorld : ClsAt K c.BadWorld) (p1BadWorld : b1 K c.BadWorld = true) (p2BadWorld : b2 K c.BadWorld = true)
    (aBarred : PySem.W.nsIn K mainGlobals "Barred" = some (some (.ref c.Barred))) (xBarred : ClsAt K c.Barred) (p1Barred : b1 K c.Barred = true) (p2Barred : b2 K c.Barred = true)
    (aNoButton : PySem.W.nsIn K mainGlobals "NoButton" = some (some (.ref c.NoButton))) (xNoButton : ClsAt K c.NoButton) (p1NoButton : b1 K c.NoButton = true) (p2NoButton : b2 K c.NoButton = true)
    (aNoGuard : PySem.W.nsIn K mainGlobals "NoGuard" = some (some (.ref c.NoGuard))) (xNoGuard : ClsAt K c.NoGuard) (p1NoGuard : b1 K c.NoGuard = true) (p2NoGuard : b2 K c.NoGuard = true)
    (aNoLots : PySem.W.nsIn K mainGlobals "NoLots" = some (some (.ref c.NoLots))) (xNoLots : ClsAt K c.NoLots) (p1NoLots : b1 K c.NoLots = true) (p2NoLots : b2 K c.NoLots = true)
    (aNoMark : PySem.W.nsIn K mainGlobals "NoMark" = some (some (.ref c.NoMark))) (xNoMark : ClsAt K c.NoMark) (p1NoMark : b1 K c.NoMark = true) (p2NoMark : b2 K c.NoMark = true)
    (aNoRow : PySem.W.nsIn K mainGlobals "NoRow" = some (some (.ref c.NoRow))) (xNoRow : ClsAt K c.NoRow) (p1NoRow : b1 K c.NoRow = true) (p2NoRow : b2 K c.NoRow = true)
    (aNoThing : PySem.W.nsIn K mainGlobals "NoThing" = some (some (.ref c.NoThing))) (xNoThing : ClsAt K c.NoThing) (p1NoThing : b1 K c.NoThing = true) (p2NoThing : b2 K c.NoThing = true)
    (aNotBare : PySem.W.nsIn K mainGlobals "NotBare" = some (some (.ref c.NotBare))) (xNotBare : ClsAt K c.NotBare) (p1NotBare : b1 K c.NotBare = true) (p2NotBare : b2 K c.NotBare = true)
    (aNothingToUndo : PySem.W.nsIn K mainGlobals "NothingToUndo" = some (some (.ref c.NothingToUndo))) (xNothingToUndo : ClsAt K c.NothingToUndo) (p1NothingToUndo : b1 K c.NothingToUndo = true) (p2NothingToUndo : b2 K c.NothingToUndo = true)
    (aOtherScene : PySem.W.nsIn K mainGlobals "OtherScene" = some (some (.ref c.OtherScene))) (xOtherScene : ClsAt K c.OtherScene) (p1OtherScene : b1 K c.OtherScene = true) (p2OtherScene : b2 K c.OtherScene = true)
    (aTaken : PySem.W.nsIn K mainGlobals "Taken" = some (some (.ref c.Taken))) (xTaken : ClsAt K c.Taken) (p1Taken : b1 K c.Taken = true) (p2Taken : b2 K c.Taken = true)
    (aUnlike : PySem.W.nsIn K mainGlobals "Unlike" = some (some (.ref c.Unlike))) (xUnlike : ClsAt K c.Unlike) (p1Unlike : b1 K c.Unlike = true) (p2Unlike : b2 K c.Unlike = true)
    (_jBadInputs : PySem.W.findIn K (.ref c.BadInputs) "__init__" = some (some (.ref fBadInputs))) (iBadInputs : InAt l.prog K sBadInputs "BadInputs.__init__" c.BadInputs fBadInputs cdaBadInputs ccBadInputs fdBadInputs) (p3BadInputs : b3 K c.BadInputs = true) (p4BadInputs : b4 K c.BadInputs fBadInputs cdaBadInputs "index" "BadInputs.__init__" = true)
    (_jBadName : PySem.W.findIn K (.ref c.BadName) "__init__" = some (some (.ref fBadName))) (iBadName : InAt l.prog K sBadName "BadName.__init__" c.BadName fBadName cdaBadName ccBadName fdBadName) (p3BadName : b3 K c.BadName = true) (p4BadName : b4 K c.BadName fBadName cdaBadName "name" "BadName.__init__" = true)
    (_jBadSaying : PySem.W.findIn K (.ref c.BadSaying) "__init__" = some (some (.ref fBadSaying))) (iBadSaying : InAt l.prog K sBadSaying "BadSaying.__init__" c.BadSaying fBadSaying cdaBadSaying ccBadSaying fdBadSaying) (p3BadSaying : b3 K c.BadSaying = true) (p4BadSaying : b4 K c.BadSaying fBadSaying cdaBadSaying "index" "BadSaying.__init__" = true)
    (_jBadScene : PySem.W.findIn K (.ref c.BadScene) "__init__" = some (some (.ref fBadScene))) (iBadScene : InAt l.prog K sBadScene "BadScene.__init__" c.BadScene fBadScene cdaBadScene ccBadScene fdBadScene) (p3BadScene : b3 K c.BadScene = true) (p4BadScene : b4 K c.BadScene fBadScene cdaBadScene "line" "BadScene.__init__" = true)
    (_jBadScript : PySem.W.findIn K (.ref c.BadScript) "__init__" = some (some (.ref fBadScript))) (iBadScript : InAt l.prog K sBadScript "BadScript.__init__" c.BadScript fBadScript cdaBadScript ccBadScript fdBadScript) (p3BadScript : b3 K c.BadScript = true) (p4BadScript : b4 K c.BadScript fBadScript cdaBadScript "line" "BadScript.__init__" = true)
    (_jBadWalk : PySem.W.findIn K (.ref c.BadWalk) "__init__" = some (some (.ref fBadWalk))) (iBadWalk : InAt l.prog K sBadWalk "BadWalk.__init__" c.BadWalk fBadWalk cdaBadWalk ccBadWalk fdBadWalk) (p3BadWalk : b3 K c.BadWalk = true) (p4BadWalk : b4 K c.BadWalk fBadWalk cdaBadWalk "index" "BadWalk.__init__" = true)
    (_jBadWorld : PySem.W.findIn K (.ref c.BadWorld) "__init__" = some (some (.ref fBadWorld))) (iBadWorld : InAt l.prog K sBadWorld "BadWorld.__init__" c.BadWorld fBadWorld cdaBadWorld ccBadWorld fdBadWorld) (p3BadWorld : b3 K c.BadWorld = true) (p4BadWorld : b4 K c.BadWorld fBadWorld cdaBadWorld "line" "BadWorld.__init__" = true)
    (_jBarred : PySem.W.findIn K (.ref c.Barred) "__init__" = some (some (.ref fBarred))) (iBarred : InAt l.prog K sBarred "Barred.__init__" c.Barred fBarred cdaBarred ccBarred fdBarred) (p3Barred : b3 K c.Barred = true) (p4Barred : b4 K c.Barred fBarred cdaBarred "names" "Barred.__init__" = true)
    (_jNoButton : PySem.W.findIn K (.ref c.NoButton) "__init__" = some (some (.ref fNoButton))) (iNoButton : InAt l.prog K sNoButton "NoButton.__init__" c.NoButton fNoButton cdaNoButton ccNoButton fdNoButton) (p3NoButton : b3 K c.NoButton = true) (p4NoButton : b4 K c.NoButton fNoButton cdaNoButton "name" "NoButton.__init__" = true)
    (_jNoGuard : PySem.W.findIn K (.ref c.NoGuard) "__init__" = some (some (.ref fNoGuard))) (iNoGuard : InAt l.prog K sNoGuard "NoGuard.__init__" c.NoGuard fNoGuard cdaNoGuard ccNoGuard fdNoGuard) (p3NoGuard : b3 K c.NoGuard = true) (p4NoGuard : b4 K c.NoGuard fNoGuard cdaNoGuard "name" "NoGuard.__init__" = true)
    (_jNoMark : PySem.W.findIn K (.ref c.NoMark) "__init__" = some (some (.ref fNoMark))) (iNoMark : InAt l.prog K sNoMark "NoMark.__init__" c.NoMark fNoMark cdaNoMark ccNoMark fdNoMark) (p3NoMark : b3 K c.NoMark = true) (p4NoMark : b4 K c.NoMark fNoMark cdaNoMark "name" "NoMark.__init__" = true)
    (_jNoRow : PySem.W.findIn K (.ref c.NoRow) "__init__" = some (some (.ref fNoRow))) (iNoRow : InAt l.prog K sNoRow "NoRow.__init__" c.NoRow fNoRow cdaNoRow ccNoRow fdNoRow) (p3NoRow : b3 K c.NoRow = true) (p4NoRow : b4 K c.NoRow fNoRow cdaNoRow "name" "NoRow.__init__" = true)
    (_jNoThing : PySem.W.findIn K (.ref c.NoThing) "__init__" = some (some (.ref fNoThing))) (iNoThing : InAt l.prog K sNoThing "NoThing.__init__" c.NoThing fNoThing cdaNoThing ccNoThing fdNoThing) (p3NoThing : b3 K c.NoThing = true) (p4NoThing : b4 K c.NoThing fNoThing cdaNoThing "name" "NoThing.__init__" = true)
    (_jNotBare : PySem.W.findIn K (.ref c.NotBare) "__init__" = some (some (.ref fNotBare))) (iNotBare : InAt l.prog K sNotBare "NotBare.__init__" c.NotBare fNotBare cdaNotBare ccNotBare fdNotBare) (p3NotBare : b3 K c.NotBare = true) (p4NotBare : b4 K c.NotBare fNotBare cdaNotBare "index" "NotBare.__init__" = true)
    (_jTaken : PySem.W.findIn K (.ref c.Taken) "__init__" = some (some (.ref fTaken))) (iTaken : InAt l.prog K sTaken "Taken.__init__" c.Taken fTaken cdaTaken ccTaken fdTaken) (p3Taken : b3 K c.Taken = true) (p4Taken : b4 K c.Taken fTaken cdaTaken "name" "Taken.__init__" = true)
    (eNoLots : PySem.W.excIn K c.NoLots [.type "ValueError", .type "Exception", .type "BaseException", .type "object"] "ValueError.__new__" = true)
    (eNothingToUndo : PySem.W.excIn K c.NothingToUndo [.type "ValueError", .type "Exception", .type "BaseException", .type "object"] "ValueError.__new__" = true)
    (eOtherScene : PySem.W.excIn K c.OtherScene [.type "ValueError", .type "Exception", .type "BaseException", .type "object"] "ValueError.__new__" = true)
    (eUnlike : PySem.W.excIn K c.Unlike [.type "ValueError", .type "Exception", .type "BaseException", .type "object"] "ValueError.__new__" = true)
    (aS : PySem.W.nsIn K mainGlobals "SeatError" = some (some (.ref S))) (p0 : b0 K = true) (pk : kitB K S c.all = true) (pn : c.all.Nodup) (ht : (l.prog.main.scope.names.lookup ("super" : Str)).isSome = false)
    (zValueError : PySem.W.nsIn K mainGlobals "ValueError" = some none)
    (zisinstance : PySem.W.nsIn K mainGlobals "isinstance" = some none)
    (zint : PySem.W.nsIn K mainGlobals "int" = some none)
    (zrepr : PySem.W.nsIn K mainGlobals "repr" = some none)
    (zlist : PySem.W.nsIn K mainGlobals "list" = some none)
    (zlen : PySem.W.nsIn K mainGlobals "len" = some none)
    (zabs : PySem.W.nsIn K mainGlobals "abs" = some none)
    (zrange : PySem.W.nsIn K mainGlobals "range" = some none)
    (zsuper : PySem.W.nsIn K mainGlobals "super" = some none)
    (aBegun : PySem.W.nsIn K mainGlobals "_law_begun_pen" = some (some (.ref fBegun))) (lBegun : K.lookup fBegun = some ⟨ocBegun, odBegun, .func (PySem.W.fnOf "_law_begun_pen" "_law_begun_pen" (defArgs sBegun) (defBody sBegun) (defScope sBegun) .none kVBegun dcBegun pmBegun anBegun cdBegun ctBegun), slBegun⟩) (cBegun : PySem.W.codeIn K cdBegun "_law_begun_pen" = true) (kBegun : PySem.W.keepIn K (.ref fBegun) = true)
    (aDraw : PySem.W.nsIn K mainGlobals "_law_draw" = some (some (.ref fDraw))) (lDraw : K.lookup fDraw = some ⟨ocDraw, odDraw, .func (PySem.W.fnOf "_law_draw" "_law_draw" (defArgs sDraw) (defBody sDraw) (defScope sDraw) .none kVDraw dcDraw pmDraw anDraw cdDraw ctDraw), slDraw⟩) (cDraw : PySem.W.codeIn K cdDraw "_law_draw" = true) (kDraw : PySem.W.keepIn K (.ref fDraw) = true)
    (aShuf : PySem.W.nsIn K mainGlobals "_law_shuffled" = some (some (.ref fShuf))) (lShuf : K.lookup fShuf = some ⟨ocShuf, odShuf, .func (PySem.W.fnOf "_law_shuffled" "_law_shuffled" (defArgs sShuf) (defBody sShuf) (defScope sShuf) .none kVShuf dcShuf pmShuf anShuf cdShuf ctShuf), slShuf⟩) (cShuf : PySem.W.codeIn K cdShuf "_law_shuffled" = true) (kShuf : PySem.W.keepIn K (.ref fShuf) = true)
    (aNames : PySem.W.nsIn K mainGlobals "_law_new_names" = some (some (.ref fNames))) (lNames : K.lookup fNames = some ⟨ocNames, odNames, .func (PySem.W.fnOf "_law_new_names" "_law_new_names" (defArgs sNames) (defBody sNames) (defScope sNames) .none kVNames dcNames pmNames anNames cdNames ctNames), slNames⟩) (cNames : PySem.W.codeIn K cdNames "_law_new_names" = true) (kNames : PySem.W.keepIn K (.ref fNames) = true)
    (aClasses : PySem.W.nsIn K mainGlobals "_law_classes" = some (some (.ref fClasses))) (lClasses : K.lookup fClasses = some ⟨ocClasses, odClasses, .func (PySem.W.fnOf "_law_classes" "_law_classes" (defArgs sClasses) (defBody sClasses) (defScope sClasses) .none kVClasses dcClasses pmClasses anClasses cdClasses ctClasses), slClasses⟩) (cClasses : PySem.W.codeIn K cdClasses "_law_classes" = true) (kClasses : PySem.W.keepIn K (.ref fClasses) = true)
    (aIsOne : PySem.W.nsIn K mainGlobals "_law_is_one" = some (some (.ref fIsOne))) (lIsOne : K.lookup fIsOne = some ⟨ocIsOne, odIsOne, .func (PySem.W.fnOf "_law_is_one" "_law_is_one" (defArgs sIsOne) (defBody sIsOne) (defScope sIsOne) .none kVIsOne dcIsOne pmIsOne anIsOne cdIsOne ctIsOne), slIsOne⟩) (cIsOne : PySem.W.codeIn K cdIsOne "_law_is_one" = true) (kIsOne : PySem.W.keepIn K (.ref fIsOne) = true)
    (aNumbered : PySem.W.nsIn K mainGlobals "_law_numbered" = some (some (.ref fNumbered))) (lNumbered : K.lookup fNumbered = some ⟨ocNumbered, odNumbered, .func (PySem.W.fnOf "_law_numbered" "_law_numbered" (defArgs sNumbered) (defBody sNumbered) (defScope sNumbered) .none kVNumbered dcNumbered pmNumbered anNumbered cdNumbered ctNumbered), slNumbered⟩) (cNumbered : PySem.W.codeIn K cdNumbered "_law_numbered" = true) (kNumbered : PySem.W.keepIn K (.ref fNumbered) = true)
    (aNamed : PySem.W.nsIn K mainGlobals "_law_named" = some (some (.ref fNamed))) (lNamed : K.lookup fNamed = some ⟨ocNamed, odNamed, .func (PySem.W.fnOf "_law_named" "_law_named" (defArgs sNamed) (defBody sNamed) (defScope sNamed) .none kVNamed dcNamed pmNamed anNamed cdNamed ctNamed), slNamed⟩) (cNamed : PySem.W.codeIn K cdNamed "_law_named" = true) (kNamed : PySem.W.keepIn K (.ref fNamed) = true)
    (aOthers : PySem.W.nsIn K mainGlobals "_law_others_right" = some (some (.ref fOthers))) (lOthers : K.lookup fOthers = some ⟨ocOthers, odOthers, .func (PySem.W.fnOf "_law_others_right" "_law_others_right" (defArgs sOthers) (defBody sOthers) (defScope sOthers) .none kVOthers dcOthers pmOthers anOthers cdOthers ctOthers), slOthers⟩) (cOthers : PySem.W.codeIn K cdOthers "_law_others_right" = true) (kOthers : PySem.W.keepIn K (.ref fOthers) = true)
    (aLaw : PySem.W.nsIn K mainGlobals "law" = some (some (.ref fLaw))) (lLaw : K.lookup fLaw = some ⟨ocLaw, odLaw, .func (PySem.W.fnOf "law" "law" (defArgs sLaw) (defBody sLaw) (defScope sLaw) .none kVLaw dcLaw pmLaw anLaw cdLaw ctLaw), slLaw⟩) (cLaw : PySem.W.codeIn K cdLaw "law" = true) (kLaw : PySem.W.keepIn K (.ref fLaw) = true) :
    ∃ fd : FuncData, (∀ (s : Shared) (v : Value), BindsTo s fd ⟨[v], []⟩ [("script", v)]) ∧ ∀ base : Heap, K.In base → base.Ns mainGlobals mg → FnOk l.prog w K mg base CX0 5 fa fd ["script"] (spLaw K) := by
  have e := hfa.symm.trans (PySem.W.mg_of X G aLaw)
  cases e
  have kit : ∀ C ∈ c.all, (∀ D ∈ c.all, PySem.W.kitOne K (.ref C) (.ref D) = some (decide (C = D))) ∧ PySem.W.kitOne K (.ref C) (.ref S) = some true ∧ PySem.W.subIn K (.ref C) (.type "ValueError") = some true := fun C hC => by
    have z := List.all_eq_true.mp pk C hC
    simp only [Bool.and_eq_true, decide_eq_true_eq, List.all_eq_true] at z
    exact ⟨z.1.1, z.1.2, z.2⟩
  have hsup := PySem.W.mg_none_of X G zsuper
  obtain ⟨uBadInputs, nBadInputs, jBadInputs, tBadInputs⟩ := func_of p4BadInputs iBadInputs
  obtain ⟨uBadName, nBadName, jBadName, tBadName⟩ := func_of p4BadName iBadName
  obtain ⟨uBadSaying, nBadSaying, jBadSaying, tBadSaying⟩ := func_of p4BadSaying iBadSaying
  obtain ⟨uBadScene, nBadScene, jBadScene, tBadScene⟩ := func_of p4BadScene iBadScene
  obtain ⟨uBadScript, nBadScript, jBadScript, tBadScript⟩ := func_of p4BadScript iBadScript
  obtain ⟨uBadWalk, nBadWalk, jBadWalk, tBadWalk⟩ := func_of p4BadWalk iBadWalk
  obtain ⟨uBadWorld, nBadWorld, jBadWorld, tBadWorld⟩ := func_of p4BadWorld iBadWorld
  obtain ⟨uBarred, nBarred, jBarred, tBarred⟩ := func_of p4Barred iBarred
  obtain ⟨uNoButton, nNoButton, jNoButton, tNoButton⟩ := func_of p4NoButton iNoButton
  obtain ⟨uNoGuard, nNoGuard, jNoGuard, tNoGuard⟩ := func_of p4NoGuard iNoGuard
  obtain ⟨uNoMark, nNoMark, jNoMark, tNoMark⟩ := func_of p4NoMark iNoMark
  obtain ⟨uNoRow, nNoRow, jNoRow, tNoRow⟩ := func_of p4NoRow iNoRow
  obtain ⟨uNoThing, nNoThing, jNoThing, tNoThing⟩ := func_of p4NoThing iNoThing
  obtain ⟨uNotBare, nNotBare, jNotBare, tNotBare⟩ := func_of p4NotBare iNotBare
  obtain ⟨uTaken, nTaken, jTaken, tTaken⟩ := func_of p4Taken iTaken
  have T : Txt K mg c S := {
    mBadInputs := PySem.W.mg_of X G aBadInputs
    mBadName := PySem.W.mg_of X G aBadName
    mBadSaying := PySem.W.mg_of X G aBadSaying
    mBadScene := PySem.W.mg_of X G aBadScene
    mBadScript := PySem.W.mg_of X G aBadScript
    mBadWalk := PySem.W.mg_of X G aBadWalk
    mBadWorld := PySem.W.mg_of X G aBadWorld
    mBarred := PySem.W.mg_of X G aBarred
    mNoButton := PySem.W.mg_of X G aNoButton
    mNoGuard := PySem.W.mg_of X G aNoGuard
    mNoLots := PySem.W.mg_of X G aNoLots
    mNoMark := PySem.W.mg_of X G aNoMark
    mNoRow := PySem.W.mg_of X G aNoRow
    mNoThing := PySem.W.mg_of X G aNoThing
    mNotBare := PySem.W.mg_of X G aNotBare
    mNothingToUndo := PySem.W.mg_of X G aNothingToUndo
    mOtherScene := PySem.W.mg_of X G aOtherScene
    mTaken := PySem.W.mg_of X G aTaken
    mUnlike := PySem.W.mg_of X G aUnlike
    mS := PySem.W.mg_of X G aS
    mV := PySem.W.mg_none_of X G zValueError
    mis := PySem.W.mg_none_of X G zisinstance
    mint := PySem.W.mg_none_of X G zint
    mrepr := PySem.W.mg_none_of X G zrepr
    mlist := PySem.W.mg_none_of X G zlist
    mlen := PySem.W.mg_none_of X G zlen
    mrange := PySem.W.mg_none_of X G zrange
    nBadInputs := nBadInputs
    nBadName := nBadName
    nBadSaying := nBadSaying
    nBadScene := nBadScene
    nBadScript := nBadScript
    nBadWalk := nBadWalk
    nBadWorld := nBadWorld
    nBarred := nBarred
    nNoButton := nNoButton
    nNoGuard := nNoGuard
    nNoMark := nNoMark
    nNoRow := nNoRow
    nNoThing := nNoThing
    nNotBare := nNotBare
    nTaken := nTaken
    kit := fun C hC => (kit C hC).1
    kitS := fun C hC => (kit C hC).2.1
    kitV := fun C hC => kit_ve (kit C hC).2.2
    exA := all_list (exA_of p0 p1BadInputs p2BadInputs) (exA_of p0 p1BadName p2BadName) (exA_of p0 p1BadSaying p2BadSaying) (exA_of p0 p1BadScene p2BadScene) (exA_of p0 p1BadScript p2BadScript) (exA_of p0 p1BadWalk p2BadWalk) (exA_of p0 p1BadWorld p2BadWorld) (exA_of p0 p1Barred p2Barred) (exA_of p0 p1NoButton p2NoButton) (exA_of p0 p1NoGuard p2NoGuard) (exA_of p0 p1NoLots p2NoLots) (exA_of p0 p1NoMark p2NoMark) (exA_of p0 p1NoRow p2NoRow) (exA_of p0 p1NoThing p2NoThing) (exA_of p0 p1NotBare p2NotBare) (exA_of p0 p1NothingToUndo p2NothingToUndo) (exA_of p0 p1OtherScene p2OtherScene) (exA_of p0 p1Taken p2Taken) (exA_of p0 p1Unlike p2Unlike)
    oex := all_list (oex_of p1BadInputs xBadInputs) (oex_of p1BadName xBadName) (oex_of p1BadSaying xBadSaying) (oex_of p1BadScene xBadScene) (oex_of p1BadScript xBadScript) (oex_of p1BadWalk xBadWalk) (oex_of p1BadWorld xBadWorld) (oex_of p1Barred xBarred) (oex_of p1NoButton xNoButton) (oex_of p1NoGuard xNoGuard) (oex_of p1NoLots xNoLots) (oex_of p1NoMark xNoMark) (oex_of p1NoRow xNoRow) (oex_of p1NoThing xNoThing) (oex_of p1NotBare xNotBare) (oex_of p1NothingToUndo xNothingToUndo) (oex_of p1OtherScene xOtherScene) (oex_of p1Taken xTaken) (oex_of p1Unlike xUnlike)
    nd := pn }
  have SBadInputs : SupK l.prog K mg c.BadInputs fBadInputs cdaBadInputs ccBadInputs := sup_of p0 p1BadInputs p3BadInputs xBadInputs iBadInputs hsup ht
  have SBadName : SupK l.prog K mg c.BadName fBadName cdaBadName ccBadName := sup_of p0 p1BadName p3BadName xBadName iBadName hsup ht
  have SBadSaying : SupK l.prog K mg c.BadSaying fBadSaying cdaBadSaying ccBadSaying := sup_of p0 p1BadSaying p3BadSaying xBadSaying iBadSaying hsup ht
  have SBadScene : SupK l.prog K mg c.BadScene fBadScene cdaBadScene ccBadScene := sup_of p0 p1BadScene p3BadScene xBadScene iBadScene hsup ht
  have SBadScript : SupK l.prog K mg c.BadScript fBadScript cdaBadScript ccBadScript := sup_of p0 p1BadScript p3BadScript xBadScript iBadScript hsup ht
  have SBadWalk : SupK l.prog K mg c.BadWalk fBadWalk cdaBadWalk ccBadWalk := sup_of p0 p1BadWalk p3BadWalk xBadWalk iBadWalk hsup ht
  have SBadWorld : SupK l.prog K mg c.BadWorld fBadWorld cdaBadWorld ccBadWorld := sup_of p0 p1BadWorld p3BadWorld xBadWorld iBadWorld hsup ht
  have SBarred : SupK l.prog K mg c.Barred fBarred cdaBarred ccBarred := sup_of p0 p1Barred p3Barred xBarred iBarred hsup ht
  have SNoButton : SupK l.prog K mg c.NoButton fNoButton cdaNoButton ccNoButton := sup_of p0 p1NoButton p3NoButton xNoButton iNoButton hsup ht
  have SNoGuard : SupK l.prog K mg c.NoGuard fNoGuard cdaNoGuard ccNoGuard := sup_of p0 p1NoGuard p3NoGuard xNoGuard iNoGuard hsup ht
  have SNoMark : SupK l.prog K mg c.NoMark fNoMark cdaNoMark ccNoMark := sup_of p0 p1NoMark p3NoMark xNoMark iNoMark hsup ht
  have SNoRow : SupK l.prog K mg c.NoRow fNoRow cdaNoRow ccNoRow := sup_of p0 p1NoRow p3NoRow xNoRow iNoRow hsup ht
  have SNoThing : SupK l.prog K mg c.NoThing fNoThing cdaNoThing ccNoThing := sup_of p0 p1NoThing p3NoThing xNoThing iNoThing hsup ht
  have SNotBare : SupK l.prog K mg c.NotBare fNotBare cdaNotBare ccNotBare := sup_of p0 p1NotBare p3NotBare xNotBare iNotBare hsup ht
  have STaken : SupK l.prog K mg c.Taken fTaken cdaTaken ccTaken := sup_of p0 p1Taken p3Taken xTaken iTaken hsup ht
  have N : Noi K c := ⟨eNoLots, eNothingToUndo, eOtherScene, eUnlike⟩
  have FBegun := fun_mk (st := sBegun) lBegun cBegun kBegun
  have bBegun := FBegun.binds (ps := ["script"]) fun _ _ _ _ _ _ us hl => match us, hl with | [_], _ => rfl
  have mBegun := PySem.W.mg_of X G aBegun
  have FDraw := fun_mk (st := sDraw) lDraw cDraw kDraw
  have bDraw := FDraw.binds (ps := ["pen", "span"]) fun _ _ _ _ _ _ us hl => match us, hl with | [_, _], _ => rfl
  have mDraw := PySem.W.mg_of X G aDraw
  have FShuf := fun_mk (st := sShuf) lShuf cShuf kShuf
  have bShuf := FShuf.binds (ps := ["pen", "items"]) fun _ _ _ _ _ _ us hl => match us, hl with | [_, _], _ => rfl
  have mShuf := PySem.W.mg_of X G aShuf
  have FNames := fun_mk (st := sNames) lNames cNames kNames
  have bNames := FNames.binds (ps := ["pen", "many"]) fun _ _ _ _ _ _ us hl => match us, hl with | [_, _], _ => rfl
  have mNames := PySem.W.mg_of X G aNames
  have FClasses := fun_mk (st := sClasses) lClasses cClasses kClasses
  have bClasses := FClasses.binds (ps := ["e"]) fun _ _ _ _ _ _ us hl => match us, hl with | [_], _ => rfl
  have mClasses := PySem.W.mg_of X G aClasses
  have FIsOne := fun_mk (st := sIsOne) lIsOne cIsOne kIsOne
  have bIsOne := FIsOne.binds (ps := ["e", "kind"]) fun _ _ _ _ _ _ us hl => match us, hl with | [_, _], _ => rfl
  have mIsOne := PySem.W.mg_of X G aIsOne
  have FNumbered := fun_mk (st := sNumbered) lNumbered cNumbered kNumbered
  have bNumbered := FNumbered.binds (ps := ["number"]) fun _ _ _ _ _ _ us hl => match us, hl with | [_], _ => rfl
  have mNumbered := PySem.W.mg_of X G aNumbered
  have FNamed := fun_mk (st := sNamed) lNamed cNamed kNamed
  have bNamed := FNamed.binds (ps := ["text"]) fun _ _ _ _ _ _ us hl => match us, hl with | [_], _ => rfl
  have mNamed := PySem.W.mg_of X G aNamed
  have FOthers := fun_mk (st := sOthers) lOthers cOthers kOthers
  have bOthers := FOthers.binds (ps := ["pen"]) fun _ _ _ _ _ _ us hl => match us, hl with | [_], _ => rfl
  have mOthers := PySem.W.mg_of X G aOthers
  have FLaw := fun_mk (st := sLaw) lLaw cLaw kLaw
  have mLaw := PySem.W.mg_of X G aLaw
  have mlen := PySem.W.mg_none_of X G zlen
  have mlist := PySem.W.mg_none_of X G zlist
  have mint := PySem.W.mg_none_of X G zint
  have mabs := PySem.W.mg_none_of X G zabs
  refine ⟨PySem.W.fnOf "law" "law" (defArgs sLaw) (defBody sLaw) (defScope sLaw) .none kVLaw dcLaw pmLaw anLaw cdLaw ctLaw, fun s v => .of_eq rfl, fun base _ _ => ?_⟩
  have I : Inis l.prog w K mg base c := {
    BadInputs := ⟨fBadInputs, fdBadInputs, jBadInputs, tBadInputs, (okBadInputs uBadInputs SBadInputs nBadInputs), uBadInputs.binds fun _ _ _ _ _ us hl => match us, hl with | [_, _], _ => rfl⟩
    BadName := ⟨fBadName, fdBadName, jBadName, tBadName, (okBadName uBadName SBadName nBadName), uBadName.binds fun _ _ _ _ _ us hl => match us, hl with | [_, _], _ => rfl⟩
    BadSaying := ⟨fBadSaying, fdBadSaying, jBadSaying, tBadSaying, (okBadSaying uBadSaying SBadSaying nBadSaying), uBadSaying.binds fun _ _ _ _ _ us hl => match us, hl with | [_, _], _ => rfl⟩
    BadScene := ⟨fBadScene, fdBadScene, jBadScene, tBadScene, (okBadScene uBadScene SBadScene nBadScene), uBadScene.binds fun _ _ _ _ _ us hl => match us, hl with | [_, _], _ => rfl⟩
    BadScript := ⟨fBadScript, fdBadScript, jBadScript, tBadScript, (okBadScript uBadScript SBadScript nBadScript), uBadScript.binds fun _ _ _ _ _ us hl => match us, hl with | [_, _], _ => rfl⟩
    BadWalk := ⟨fBadWalk, fdBadWalk, jBadWalk, tBadWalk, (okBadWalk uBadWalk SBadWalk nBadWalk), uBadWalk.binds fun _ _ _ _ _ us hl => match us, hl with | [_, _], _ => rfl⟩
    BadWorld := ⟨fBadWorld, fdBadWorld, jBadWorld, tBadWorld, (okBadWorld uBadWorld SBadWorld nBadWorld), uBadWorld.binds fun _ _ _ _ _ us hl => match us, hl with | [_, _], _ => rfl⟩
    Barred := ⟨fBarred, fdBarred, jBarred, tBarred, (okBarred uBarred SBarred (T.exA _ (inBarred c)) mlist nBarred), uBarred.binds fun _ _ _ _ _ us hl => match us, hl with | [_, _], _ => rfl⟩
    NoButton := ⟨fNoButton, fdNoButton, jNoButton, tNoButton, (okNoButton uNoButton SNoButton nNoButton), uNoButton.binds fun _ _ _ _ _ us hl => match us, hl with | [_, _], _ => rfl⟩
    NoGuard := ⟨fNoGuard, fdNoGuard, jNoGuard, tNoGuard, (okNoGuard uNoGuard SNoGuard nNoGuard), uNoGuard.binds fun _ _ _ _ _ us hl => match us, hl with | [_, _], _ => rfl⟩
    NoMark := ⟨fNoMark, fdNoMark, jNoMark, tNoMark, (okNoMark uNoMark SNoMark nNoMark), uNoMark.binds fun _ _ _ _ _ us hl => match us, hl with | [_, _], _ => rfl⟩
    NoRow := ⟨fNoRow, fdNoRow, jNoRow, tNoRow, (okNoRow uNoRow SNoRow nNoRow), uNoRow.binds fun _ _ _ _ _ us hl => match us, hl with | [_, _], _ => rfl⟩
    NoThing := ⟨fNoThing, fdNoThing, jNoThing, tNoThing, (okNoThing uNoThing SNoThing nNoThing), uNoThing.binds fun _ _ _ _ _ us hl => match us, hl with | [_, _], _ => rfl⟩
    NotBare := ⟨fNotBare, fdNotBare, jNotBare, tNotBare, (okNotBare uNotBare SNotBare nNotBare), uNotBare.binds fun _ _ _ _ _ us hl => match us, hl with | [_, _], _ => rfl⟩
    Taken := ⟨fTaken, fdTaken, jTaken, tTaken, (okTaken uTaken STaken nTaken), uTaken.binds fun _ _ _ _ _ us hl => match us, hl with | [_, _], _ => rfl⟩ }
  have GB : FnOk l.prog w K mg base CX0 1 _ _ ["script"] (XP.spBegun K) := okBegun FBegun mlist
  have GD : FnOk l.prog w K mg base CX0 1 _ _ ["pen", "span"] XP.spDraw := okDraw FDraw mint mlen mabs
  have GS : FnOk l.prog w K mg base CX0 2 _ _ ["pen", "items"] (XP.spShuf K) := okShuf FShuf mlen mlist GD bDraw kDraw mDraw
  have GN : FnOk l.prog w K mg base CX0 3 _ _ ["pen", "many"] XP.spNames := okNames FNames GS bShuf kShuf mShuf
  have GC : FnOk l.prog w K mg base CX0 1 _ _ ["e"] (spClasses c) := okClasses FClasses T
  have GI : FnOk l.prog w K mg base CX0 2 _ _ ["e", "kind"] (spIsOne c) := okIsOne FIsOne T GC bClasses kClasses mClasses
  have GU : FnOk l.prog w K mg base CX0 3 _ _ ["number"] (spMade c FmtI) := okNumbered FNumbered T I
  have GM : FnOk l.prog w K mg base CX0 3 _ _ ["text"] (spMade c FmtS) := okNamed FNamed T I
  have GO : FnOk l.prog w K mg base CX0 4 _ _ ["pen"] spOthers := okOthers FOthers T I N GN bNames kNames mNames GD bDraw kDraw mDraw GI bIsOne kIsOne mIsOne
  exact okLaw FLaw T GB bBegun kBegun mBegun GN bNames kNames mNames GD bDraw kDraw mDraw GI bIsOne kIsOne mIsOne GO bOthers kOthers mOthers GU bNumbered kNumbered mNumbered GM bNamed kNamed mNamed
theorem all_mk2 {l : PySem.W.OpenLaw} {w : World} {K : PySem.W.Frag} {h : Heap} {mg : Str → Option Value} {fa : Addr} (X : K.In h) (G : h.Ns mainGlobals mg) (hfa : mg "law" = some (.ref fa))
    {S : Addr} {cBadInputs cBadName cBadSaying cBadScene cBadScript cBadWalk cBadWorld cBarred cNoButton cNoGuard cNoLots cNoMark cNoRow cNoThing cNotBare cNothingToUndo cOtherScene cTaken cUnlike : Addr} {fBadInputs cdaBadInputs ccBadInputs fBadName cdaBadName ccBadName fBadSaying cdaBadSaying ccBadSaying fBadScene cdaBadScene ccBadScene fBadScript cdaBadScript ccBadScript fBadWalk cdaBadWalk ccBadWalk fBadWorld cdaBadWorld ccBadWorld fBarred cdaBarred ccBarred fNoButton cdaNoButton ccNoButton fNoGuard cdaNoGuard ccNoGuard fNoMark cdaNoMark ccNoMark fNoRow cdaNoRow ccNoRow fNoThing cdaNoThing ccNoThing fNotBare cdaNotBare ccNotBare fTaken cdaTaken ccTaken : Addr} {fdBadInputs fdBadName fdBadSaying fdBadScene fdBadScript fdBadWalk fdBadWorld fdBarred fdNoButton fdNoGuard fdNoMark fdNoRow fdNoThing fdNotBare fdTaken : FuncData}
    {fBegun fDraw fShuf fNames fClasses fIsOne fNumbered fNamed fOthers fLaw : Addr}
    {odBegun anBegun : Option Addr} {slBegun : Array (Option Value)} {ocBegun kVBegun dcBegun pmBegun cdBegun ctBegun : Value}
    {odDraw anDraw : Option Addr} {slDraw : Array (Option Value)} {ocDraw kVDraw dcDraw pmDraw cdDraw ctDraw : Value}
    {odShuf anShuf : Option Addr} {slShuf : Array (Option Value)} {ocShuf kVShuf dcShuf pmShuf cdShuf ctShuf : Value}
    {odNames anNames : Option Addr} {slNames : Array (Option Value)} {ocNames kVNames dcNames pmNames cdNames ctNames : Value}
    {odClasses anClasses : Option Addr} {slClasses : Array (Option Value)} {ocClasses kVClasses dcClasses pmClasses cdClasses ctClasses : Value}
    {odIsOne anIsOne : Option Addr} {slIsOne : Array (Option Value)} {ocIsOne kVIsOne dcIsOne pmIsOne cdIsOne ctIsOne : Value}
    {odNumbered anNumbered : Option Addr} {slNumbered : Array (Option Value)} {ocNumbered kVNumbered dcNumbered pmNumbered cdNumbered ctNumbered : Value}
    {odNamed anNamed : Option Addr} {slNamed : Array (Option Value)} {ocNamed kVNamed dcNamed pmNamed cdNamed ctNamed : Value}
    {odOthers anOthers : Option Addr} {slOthers : Array (Option Value)} {ocOthers kVOthers dcOthers pmOthers cdOthers ctOthers : Value}
    {odLaw anLaw : Option Addr} {slLaw : Array (Option Value)} {ocLaw kVLaw dcLaw pmLaw cdLaw ctLaw : Value}
    (aBadInputs : PySem.W.nsIn K mainGlobals "BadInputs" = some (some (.ref cBadInputs))) (xBadInputs : ClsAt K cBadInputs) (p1BadInputs : b1 K cBadInputs = true) (p2BadInputs : b2 K cBadInputs = true)
    (aBadName : PySem.W.nsIn K mainGlobals "BadName" = some (some (.ref cBadName))) (xBadName : ClsAt K cBadName) (p1BadName : b1 K cBadName = true) (p2BadName : b2 K cBadName = true)
    (aBadSaying : PySem.W.nsIn K mainGlobals "BadSaying" = some (some (.ref cBadSaying))) (xBadSaying : ClsAt K cBadSaying) (p1BadSaying : b1 K cBadSaying = true) (p2BadSaying : b2 K cBadSaying = true)
    (aBadScene : PySem.W.nsIn K mainGlobals "BadScene" = some (some (.ref cBadScene))) (xBadScene : ClsAt K cBadScene) (p1BadScene : b1 K cBadScene = true) (p2BadScene : b2 K cBadScene = true)
    (aBadScript : PySem.W.nsIn K mainGlobals "BadScript" = some (some (.ref cBadScript))) (xBadScript : ClsAt K cBadScript) (p1BadScript : b1 K cBadScript = true) (p2BadScript : b2 K cBadScript = true)
    (aBadWalk : PySem.W.nsIn K mainGlobals "BadWalk" = some (some (.ref cBadWalk))) (xBadWalk : ClsAt K cBadWalk) (p1BadWalk : b1 K cBadWalk = true) (p2BadWalk : b2 K cBadWalk = true)
    (aBadWorld : PySem.W.nsIn K mainGlobals "BadWorld" = some (some (.ref cBadWorld))) (xBadWorld : ClsAt K cBadWorld) (p1BadWorld : b1 K cBadWorld = true) (p2BadWorld : b2 K cBadWorld = true)
    (aBarred : PySem.W.nsIn K mainGlobals "Barred" = some (some (.ref cBarred))) (xBarred : ClsAt K cBarred) (p1Barred : b1 K cBarred = true) (p2Barred : b2 K cBarred = true)
    (aNoButton : PySem.W.nsIn K mainGlobals "NoButton" = some (some (.ref cNoButton))) (xNoButton : ClsAt K cNoButton) (p1NoButton : b1 K cNoButton = true) (p2NoButton : b2 K cNoButton = true)
    (aNoGuard : PySem.W.nsIn K mainGlobals "NoGuard" = some (some (.ref cNoGuard))) (xNoGuard : ClsAt K cNoGuard) (p1NoGuard : b1 K cNoGuard = true) (p2NoGuard : b2 K cNoGuard = true)
    (aNoLots : PySem.W.nsIn K mainGlobals "NoLots" = some (some (.ref cNoLots))) (xNoLots : ClsAt K cNoLots) (p1NoLots : b1 K cNoLots = true) (p2NoLots : b2 K cNoLots = true)
    (aNoMark : PySem.W.nsIn K mainGlobals "NoMark" = some (some (.ref cNoMark))) (xNoMark : ClsAt K cNoMark) (p1NoMark : b1 K cNoMark = true) (p2NoMark : b2 K cNoMark = true)
    (aNoRow : PySem.W.nsIn K mainGlobals "NoRow" = some (some (.ref cNoRow))) (xNoRow : ClsAt K cNoRow) (p1NoRow : b1 K cNoRow = true) (p2NoRow : b2 K cNoRow = true)
    (aNoThing : PySem.W.nsIn K mainGlobals "NoThing" = some (some (.ref cNoThing))) (xNoThing : ClsAt K cNoThing) (p1NoThing : b1 K cNoThing = true) (p2NoThing : b2 K cNoThing = true)
    (aNotBare : PySem.W.nsIn K mainGlobals "NotBare" = some (some (.ref cNotBare))) (xNotBare : ClsAt K cNotBare) (p1NotBare : b1 K cNotBare = true) (p2NotBare : b2 K cNotBare = true)
    (aNothingToUndo : PySem.W.nsIn K mainGlobals "NothingToUndo" = some (some (.ref cNothingToUndo))) (xNothingToUndo : ClsAt K cNothingToUndo) (p1NothingToUndo : b1 K cNothingToUndo = true) (p2NothingToUndo : b2 K cNothingToUndo = true)
    (aOtherScene : PySem.W.nsIn K mainGlobals "OtherScene" = some (some (.ref cOtherScene))) (xOtherScene : ClsAt K cOtherScene) (p1OtherScene : b1 K cOtherScene = true) (p2OtherScene : b2 K cOtherScene = true)
    (aTaken : PySem.W.nsIn K mainGlobals "Taken" = some (some (.ref cTaken))) (xTaken : ClsAt K cTaken) (p1Taken : b1 K cTaken = true) (p2Taken : b2 K cTaken = true)
    (aUnlike : PySem.W.nsIn K mainGlobals "Unlike" = some (some (.ref cUnlike))) (xUnlike : ClsAt K cUnlike) (p1Unlike : b1 K cUnlike = true) (p2Unlike : b2 K cUnlike = true)
    (_jBadInputs : PySem.W.findIn K (.ref cBadInputs) "__init__" = some (some (.ref fBadInputs))) (iBadInputs : InAt l.prog K sBadInputs "BadInputs.__init__" cBadInputs fBadInputs cdaBadInputs ccBadInputs fdBadInputs) (p3BadInputs : b3 K cBadInputs = true) (p4BadInputs : b4 K cBadInputs fBadInputs cdaBadInputs "index" "BadInputs.__init__" = true)
    (_jBadName : PySem.W.findIn K (.ref cBadName) "__init__" = some (some (.ref fBadName))) (iBadName : InAt l.prog K sBadName "BadName.__init__" cBadName fBadName cdaBadName ccBadName fdBadName) (p3BadName : b3 K cBadName = true) (p4BadName : b4 K cBadName fBadName cdaBadName "name" "BadName.__init__" = true)
    (_jBadSaying : PySem.W.findIn K (.ref cBadSaying) "__init__" = some (some (.ref fBadSaying))) (iBadSaying : InAt l.prog K sBadSaying "BadSaying.__init__" cBadSaying fBadSaying cdaBadSaying ccBadSaying fdBadSaying) (p3BadSaying : b3 K cBadSaying = true) (p4BadSaying : b4 K cBadSaying fBadSaying cdaBadSaying "index" "BadSaying.__init__" = true)
    (_jBadScene : PySem.W.findIn K (.ref cBadScene) "__init__" = some (some (.ref fBadScene))) (iBadScene : InAt l.prog K sBadScene "BadScene.__init__" cBadScene fBadScene cdaBadScene ccBadScene fdBadScene) (p3BadScene : b3 K cBadScene = true) (p4BadScene : b4 K cBadScene fBadScene cdaBadScene "line" "BadScene.__init__" = true)
    (_jBadScript : PySem.W.findIn K (.ref cBadScript) "__init__" = some (some (.ref fBadScript))) (iBadScript : InAt l.prog K sBadScript "BadScript.__init__" cBadScript fBadScript cdaBadScript ccBadScript fdBadScript) (p3BadScript : b3 K cBadScript = true) (p4BadScript : b4 K cBadScript fBadScript cdaBadScript "line" "BadScript.__init__" = true)
    (_jBadWalk : PySem.W.findIn K (.ref cBadWalk) "__init__" = some (some (.ref fBadWalk))) (iBadWalk : InAt l.prog K sBadWalk "BadWalk.__init__" cBadWalk fBadWalk cdaBadWalk ccBadWalk fdBadWalk) (p3BadWalk : b3 K cBadWalk = true) (p4BadWalk : b4 K cBadWalk fBadWalk cdaBadWalk "index" "BadWalk.__init__" = true)
    (_jBadWorld : PySem.W.findIn K (.ref cBadWorld) "__init__" = some (some (.ref fBadWorld))) (iBadWorld : InAt l.prog K sBadWorld "BadWorld.__init__" cBadWorld fBadWorld cdaBadWorld ccBadWorld fdBadWorld) (p3BadWorld : b3 K cBadWorld = true) (p4BadWorld : b4 K cBadWorld fBadWorld cdaBadWorld "line" "BadWorld.__init__" = true)
    (_jBarred : PySem.W.findIn K (.ref cBarred) "__init__" = some (some (.ref fBarred))) (iBarred : InAt l.prog K sBarred "Barred.__init__" cBarred fBarred cdaBarred ccBarred fdBarred) (p3Barred : b3 K cBarred = true) (p4Barred : b4 K cBarred fBarred cdaBarred "names" "Barred.__init__" = true)
    (_jNoButton : PySem.W.findIn K (.ref cNoButton) "__init__" = some (some (.ref fNoButton))) (iNoButton : InAt l.prog K sNoButton "NoButton.__init__" cNoButton fNoButton cdaNoButton ccNoButton fdNoButton) (p3NoButton : b3 K cNoButton = true) (p4NoButton : b4 K cNoButton fNoButton cdaNoButton "name" "NoButton.__init__" = true)
    (_jNoGuard : PySem.W.findIn K (.ref cNoGuard) "__init__" = some (some (.ref fNoGuard))) (iNoGuard : InAt l.prog K sNoGuard "NoGuard.__init__" cNoGuard fNoGuard cdaNoGuard ccNoGuard fdNoGuard) (p3NoGuard : b3 K cNoGuard = true) (p4NoGuard : b4 K cNoGuard fNoGuard cdaNoGuard "name" "NoGuard.__init__" = true)
    (_jNoMark : PySem.W.findIn K (.ref cNoMark) "__init__" = some (some (.ref fNoMark))) (iNoMark : InAt l.prog K sNoMark "NoMark.__init__" cNoMark fNoMark cdaNoMark ccNoMark fdNoMark) (p3NoMark : b3 K cNoMark = true) (p4NoMark : b4 K cNoMark fNoMark cdaNoMark "name" "NoMark.__init__" = true)
    (_jNoRow : PySem.W.findIn K (.ref cNoRow) "__init__" = some (some (.ref fNoRow))) (iNoRow : InAt l.prog K sNoRow "NoRow.__init__" cNoRow fNoRow cdaNoRow ccNoRow fdNoRow) (p3NoRow : b3 K cNoRow = true) (p4NoRow : b4 K cNoRow fNoRow cdaNoRow "name" "NoRow.__init__" = true)
    (_jNoThing : PySem.W.findIn K (.ref cNoThing) "__init__" = some (some (.ref fNoThing))) (iNoThing : InAt l.prog K sNoThing "NoThing.__init__" cNoThing fNoThing cdaNoThing ccNoThing fdNoThing) (p3NoThing : b3 K cNoThing = true) (p4NoThing : b4 K cNoThing fNoThing cdaNoThing "name" "NoThing.__init__" = true)
    (_jNotBare : PySem.W.findIn K (.ref cNotBare) "__init__" = some (some (.ref fNotBare))) (iNotBare : InAt l.prog K sNotBare "NotBare.__init__" cNotBare fNotBare cdaNotBare ccNotBare fdNotBare) (p3NotBare : b3 K cNotBare = true) (p4NotBare : b4 K cNotBare fNotBare cdaNotBare "index" "NotBare.__init__" = true)
    (_jTaken : PySem.W.findIn K (.ref cTaken) "__init__" = some (some (.ref fTaken))) (iTaken : InAt l.prog K sTaken "Taken.__init__" cTaken fTaken cdaTaken ccTaken fdTaken) (p3Taken : b3 K cTaken = true) (p4Taken : b4 K cTaken fTaken cdaTaken "name" "Taken.__init__" = true)
    (eNoLots : PySem.W.excIn K cNoLots [.type "ValueError", .type "Exception", .type "BaseException", .type "object"] "ValueError.__new__" = true)
    (eNothingToUndo : PySem.W.excIn K cNothingToUndo [.type "ValueError", .type "Exception", .type "BaseException", .type "object"] "ValueError.__new__" = true)
    (eOtherScene : PySem.W.excIn K cOtherScene [.type "ValueError", .type "Exception", .type "BaseException", .type "object"] "ValueError.__new__" = true)
    (eUnlike : PySem.W.excIn K cUnlike [.type "ValueError", .type "Exception", .type "BaseException", .type "object"] "ValueError.__new__" = true)
    (aS : PySem.W.nsIn K mainGlobals "SeatError" = some (some (.ref S))) (p0 : b0 K = true) (pk : kitB K S [cBadInputs, cBadName, cBadSaying, cBadScene, cBadScript, cBadWalk, cBadWorld, cBarred, cNoButton, cNoGuard, cNoLots, cNoMark, cNoRow, cNoThing, cNotBare, cNothingToUndo, cOtherScene, cTaken, cUnlike] = true) (pn : [cBadInputs, cBadName, cBadSaying, cBadScene, cBadScript, cBadWalk, cBadWorld, cBarred, cNoButton, cNoGuard, cNoLots, cNoMark, cNoRow, cNoThing, cNotBare, cNothingToUndo, cOtherScene, cTaken, cUnlike].Nodup) (ht : (l.prog.main.scope.names.lookup ("super" : Str)).isSome = false)
    (zValueError : PySem.W.nsIn K mainGlobals "ValueError" = some none)
    (zisinstance : PySem.W.nsIn K mainGlobals "isinstance" = some none)
    (zint : PySem.W.nsIn K mainGlobals "int" = some none)
    (zrepr : PySem.W.nsIn K mainGlobals "repr" = some none)
    (zlist : PySem.W.nsIn K mainGlobals "list" = some none)
    (zlen : PySem.W.nsIn K mainGlobals "len" = some none)
    (zabs : PySem.W.nsIn K mainGlobals "abs" = some none)
    (zrange : PySem.W.nsIn K mainGlobals "range" = some none)
    (zsuper : PySem.W.nsIn K mainGlobals "super" = some none)
    (aBegun : PySem.W.nsIn K mainGlobals "_law_begun_pen" = some (some (.ref fBegun))) (lBegun : K.lookup fBegun = some ⟨ocBegun, odBegun, .func (PySem.W.fnOf "_law_begun_pen" "_law_begun_pen" (defArgs sBegun) (defBody sBegun) (defScope sBegun) .none kVBegun dcBegun pmBegun anBegun cdBegun ctBegun), slBegun⟩) (cBegun : PySem.W.codeIn K cdBegun "_law_begun_pen" = true) (kBegun : PySem.W.keepIn K (.ref fBegun) = true)
    (aDraw : PySem.W.nsIn K mainGlobals "_law_draw" = some (some (.ref fDraw))) (lDraw : K.lookup fDraw = some ⟨ocDraw, odDraw, .func (PySem.W.fnOf "_law_draw" "_law_draw" (defArgs sDraw) (defBody sDraw) (defScope sDraw) .none kVDraw dcDraw pmDraw anDraw cdDraw ctDraw), slDraw⟩) (cDraw : PySem.W.codeIn K cdDraw "_law_draw" = true) (kDraw : PySem.W.keepIn K (.ref fDraw) = true)
    (aShuf : PySem.W.nsIn K mainGlobals "_law_shuffled" = some (some (.ref fShuf))) (lShuf : K.lookup fShuf = some ⟨ocShuf, odShuf, .func (PySem.W.fnOf "_law_shuffled" "_law_shuffled" (defArgs sShuf) (defBody sShuf) (defScope sShuf) .none kVShuf dcShuf pmShuf anShuf cdShuf ctShuf), slShuf⟩) (cShuf : PySem.W.codeIn K cdShuf "_law_shuffled" = true) (kShuf : PySem.W.keepIn K (.ref fShuf) = true)
    (aNames : PySem.W.nsIn K mainGlobals "_law_new_names" = some (some (.ref fNames))) (lNames : K.lookup fNames = some ⟨ocNames, odNames, .func (PySem.W.fnOf "_law_new_names" "_law_new_names" (defArgs sNames) (defBody sNames) (defScope sNames) .none kVNames dcNames pmNames anNames cdNames ctNames), slNames⟩) (cNames : PySem.W.codeIn K cdNames "_law_new_names" = true) (kNames : PySem.W.keepIn K (.ref fNames) = true)
    (aClasses : PySem.W.nsIn K mainGlobals "_law_classes" = some (some (.ref fClasses))) (lClasses : K.lookup fClasses = some ⟨ocClasses, odClasses, .func (PySem.W.fnOf "_law_classes" "_law_classes" (defArgs sClasses) (defBody sClasses) (defScope sClasses) .none kVClasses dcClasses pmClasses anClasses cdClasses ctClasses), slClasses⟩) (cClasses : PySem.W.codeIn K cdClasses "_law_classes" = true) (kClasses : PySem.W.keepIn K (.ref fClasses) = true)
    (aIsOne : PySem.W.nsIn K mainGlobals "_law_is_one" = some (some (.ref fIsOne))) (lIsOne : K.lookup fIsOne = some ⟨ocIsOne, odIsOne, .func (PySem.W.fnOf "_law_is_one" "_law_is_one" (defArgs sIsOne) (defBody sIsOne) (defScope sIsOne) .none kVIsOne dcIsOne pmIsOne anIsOne cdIsOne ctIsOne), slIsOne⟩) (cIsOne : PySem.W.codeIn K cdIsOne "_law_is_one" = true) (kIsOne : PySem.W.keepIn K (.ref fIsOne) = true)
    (aNumbered : PySem.W.nsIn K mainGlobals "_law_numbered" = some (some (.ref fNumbered))) (lNumbered : K.lookup fNumbered = some ⟨ocNumbered, odNumbered, .func (PySem.W.fnOf "_law_numbered" "_law_numbered" (defArgs sNumbered) (defBody sNumbered) (defScope sNumbered) .none kVNumbered dcNumbered pmNumbered anNumbered cdNumbered ctNumbered), slNumbered⟩) (cNumbered : PySem.W.codeIn K cdNumbered "_law_numbered" = true) (kNumbered : PySem.W.keepIn K (.ref fNumbered) = true)
    (aNamed : PySem.W.nsIn K mainGlobals "_law_named" = some (some (.ref fNamed))) (lNamed : K.lookup fNamed = some ⟨ocNamed, odNamed, .func (PySem.W.fnOf "_law_named" "_law_named" (defArgs sNamed) (defBody sNamed) (defScope sNamed) .none kVNamed dcNamed pmNamed anNamed cdNamed ctNamed), slNamed⟩) (cNamed : PySem.W.codeIn K cdNamed "_law_named" = true) (kNamed : PySem.W.keepIn K (.ref fNamed) = true)
    (aOthers : PySem.W.nsIn K mainGlobals "_law_others_right" = some (some (.ref fOthers))) (lOthers : K.lookup fOthers = some ⟨ocOthers, odOthers, .func (PySem.W.fnOf "_law_others_right" "_law_others_right" (defArgs sOthers) (defBody sOthers) (defScope sOthers) .none kVOthers dcOthers pmOthers anOthers cdOthers ctOthers), slOthers⟩) (cOthers : PySem.W.codeIn K cdOthers "_law_others_right" = true) (kOthers : PySem.W.keepIn K (.ref fOthers) = true)
    (aLaw : PySem.W.nsIn K mainGlobals "law" = some (some (.ref fLaw))) (lLaw : K.lookup fLaw = some ⟨ocLaw, odLaw, .func (PySem.W.fnOf "law" "law" (defArgs sLaw) (defBody sLaw) (defScope sLaw) .none kVLaw dcLaw pmLaw anLaw cdLaw ctLaw), slLaw⟩) (cLaw : PySem.W.codeIn K cdLaw "law" = true) (kLaw : PySem.W.keepIn K (.ref fLaw) = true) :
    ∃ fd : FuncData, (∀ (s : Shared) (v : Value), BindsTo s fd ⟨[v], []⟩ [("script", v)]) ∧ ∀ base : Heap, K.In base → base.Ns mainGlobals mg → FnOk l.prog w K mg base CX0 5 fa fd ["script"] (spLaw K) :=
  all_mk (c := ⟨cBadInputs, cBadName, cBadSaying, cBadScene, cBadScript, cBadWalk, cBadWorld, cBarred, cNoButton, cNoGuard, cNoLots, cNoMark, cNoRow, cNoThing, cNotBare, cNothingToUndo, cOtherScene, cTaken, cUnlike⟩) X G hfa aBadInputs xBadInputs p1BadInputs p2BadInputs aBadName xBadName p1BadName p2BadName aBadSaying xBadSaying p1BadSaying p2BadSaying aBadScene xBadScene p1BadScene p2BadScene aBadScript xBadScript p1BadScript p2BadScript aBadWalk xBadWalk p1BadWalk p2BadWalk aBadWorld xBadWorld p1BadWorld p2BadWorld aBarred xBarred p1Barred p2Barred aNoButton xNoButton p1NoButton p2NoButton aNoGuard xNoGuard p1NoGuard p2NoGuard aNoLots xNoLots p1NoLots p2NoLots aNoMark xNoMark p1NoMark p2NoMark aNoRow xNoRow p1NoRow p2NoRow aNoThing xNoThing p1NoThing p2NoThing aNotBare xNotBare p1NotBare p2NotBare aNothingToUndo xNothingToUndo p1NothingToUndo p2NothingToUndo aOtherScene xOtherScene p1OtherScene p2OtherScene aTaken xTaken p1Taken p2Taken aUnlike xUnlike p1Unlike p2Unlike _jBadInputs iBadInputs p3BadInputs p4BadInputs _jBadName iBadName p3BadName p4BadName _jBadSaying iBadSaying p3BadSaying p4BadSaying _jBadScene iBadScene p3BadScene p4BadScene _jBadScript iBadScript p3BadScript p4BadScript _jBadWalk iBadWalk p3BadWalk p4BadWalk _jBadWorld iBadWorld p3BadWorld p4BadWorld _jBarred iBarred p3Barred p4Barred _jNoButton iNoButton p3NoButton p4NoButton _jNoGuard iNoGuard p3NoGuard p4NoGuard _jNoMark iNoMark p3NoMark p4NoMark _jNoRow iNoRow p3NoRow p4NoRow _jNoThing iNoThing p3NoThing p4NoThing _jNotBare iNotBare p3NotBare p4NotBare _jTaken iTaken p3Taken p4Taken eNoLots eNothingToUndo eOtherScene eUnlike aS p0 pk pn ht zValueError zisinstance zint zrepr zlist zlen zabs zrange zsuper aBegun lBegun cBegun kBegun aDraw lDraw cDraw kDraw aShuf lShuf cShuf kShuf aNames lNames cNames kNames aClasses lClasses cClasses kClasses aIsOne lIsOne cIsOne kIsOne aNumbered lNumbered cNumbered kNumbered aNamed lNamed cNamed kNamed aOthers lOthers cOthers kOthers aLaw lLaw cLaw kLaw
theorem walk {l : PySem.W.OpenLaw} {q : Program} {loose : List Str} {XP : (Str → Option Value) → Heap → Prop} {YP : World → Heap → Prop} {d : DefRec} {K : Params → PySem.W.Frag} (hn : l.most = some 63) (hdf : d.params.defaults = [])
    (hY : ∀ (w : World) (h : Heap), YP w h → (K w.params).In h)
    (F : ∀ (w : World) (mg : Str → Option Value) (fa : Addr) (h : Heap), (K w.params).In h → h.Ns mainGlobals mg → mg d.name = some (.ref fa) →
      ∃ fd : FuncData, (∀ (s : Shared) (u : Value), BindsTo s fd ⟨[u], []⟩ [("script", u)]) ∧ ∀ base : Heap, (K w.params).In base → base.Ns mainGlobals mg → FnOk l.prog w (K w.params) mg base CX0 5 fa fd ["script"] (spLaw (K w.params))) :
    PySem.W.WalkO q loose XP YP l.row.toRowW d [] (fun f vs => PySem.call f vs) :=
  L2.walk_of (n := 63) (k := 5) (x := "script") (CX := fun _ => CX0) (sp := fun w => spLaw (K w.params)) hn (by decide) hdf ⟨rfl, by decide, by decide⟩ hY F (fun _ _ a ns hl _ hS => ⟨a, ns, rfl, hS, hl, fun _ => rfl⟩) fun _ _ _ _ _ z => z
end K18
open PySem PySem.W PyProof.Rows
set_option maxRecDepth 100000 in
set_option maxHeartbeats 0 in
theorem PySem.Challenge.cw_seatedtwice_k18_errors_holds : PySem.Challenge.rw_seatedtwice_k18_errors.Holds := by
  w_on; o_law; k_head; (case hw => w_witness2)
  k_fill
  refine K18.walk (l := PySem.Challenge.rw_seatedtwice_k18_errors) rfl rfl (fun w h Y => PySem.W.kIn_of Y) ?F
  case F =>
    intro w mg fa h KX G hmg
    refine' K18.all_mk2 KX G hmg ?aBadInputs ?xBadInputs ?p1BadInputs ?p2BadInputs ?aBadName ?xBadName ?p1BadName ?p2BadName ?aBadSaying ?xBadSaying ?p1BadSaying ?p2BadSaying ?aBadScene ?xBadScene ?p1BadScene ?p2BadScene ?aBadScript ?xBadScript ?p1BadScript ?p2BadScript ?aBadWalk ?xBadWalk ?p1BadWalk ?p2BadWalk ?aBadWorld ?xBadWorld ?p1BadWorld ?p2BadWorld ?aBarred ?xBarred ?p1Barred ?p2Barred ?aNoButton ?xNoButton ?p1NoButton ?p2NoButton ?aNoGuard ?xNoGuard ?p1NoGuard ?p2NoGuard ?aNoLots ?xNoLots ?p1NoLots ?p2NoLots ?aNoMark ?xNoMark ?p1NoMark ?p2NoMark ?aNoRow ?xNoRow ?p1NoRow ?p2NoRow ?aNoThing ?xNoThing ?p1NoThing ?p2NoThing ?aNotBare ?xNotBare ?p1NotBare ?p2NotBare ?aNothingToUndo ?xNothingToUndo ?p1NothingToUndo ?p2NothingToUndo ?aOtherScene ?xOtherScene ?p1OtherScene ?p2OtherScene ?aTaken ?xTaken ?p1Taken ?p2Taken ?aUnlike ?xUnlike ?p1Unlike ?p2Unlike ?jBadInputs ?iBadInputs ?p3BadInputs ?p4BadInputs ?jBadName ?iBadName ?p3BadName ?p4BadName ?jBadSaying ?iBadSaying ?p3BadSaying ?p4BadSaying ?jBadScene ?iBadScene ?p3BadScene ?p4BadScene ?jBadScript ?iBadScript ?p3BadScript ?p4BadScript ?jBadWalk ?iBadWalk ?p3BadWalk ?p4BadWalk ?jBadWorld ?iBadWorld ?p3BadWorld ?p4BadWorld ?jBarred ?iBarred ?p3Barred ?p4Barred ?jNoButton ?iNoButton ?p3NoButton ?p4NoButton ?jNoGuard ?iNoGuard ?p3NoGuard ?p4NoGuard ?jNoMark ?iNoMark ?p3NoMark ?p4NoMark ?jNoRow ?iNoRow ?p3NoRow ?p4NoRow ?jNoThing ?iNoThing ?p3NoThing ?p4NoThing ?jNotBare ?iNotBare ?p3NotBare ?p4NotBare ?jTaken ?iTaken ?p3Taken ?p4Taken ?eNoLots ?eNothingToUndo ?eOtherScene ?eUnlike ?aS ?p0 ?pk ?pn ?ht ?zValueError ?zisinstance ?zint ?zrepr ?zlist ?zlen ?zabs ?zrange ?zsuper ?aBegun ?lBegun ?cBegun ?kBegun ?aDraw ?lDraw ?cDraw ?kDraw ?aShuf ?lShuf ?cShuf ?kShuf ?aNames ?lNames ?cNames ?kNames ?aClasses ?lClasses ?cClasses ?kClasses ?aIsOne ?lIsOne ?cIsOne ?kIsOne ?aNumbered ?lNumbered ?cNumbered ?kNumbered ?aNamed ?lNamed ?cNamed ?kNamed ?aOthers ?lOthers ?cOthers ?kOthers ?aLaw ?lLaw ?cLaw ?kLaw
    (case aBadInputs => k_is)
    (case aBadName => k_is)
    (case aBadSaying => k_is)
    (case aBadScene => k_is)
    (case aBadScript => k_is)
    (case aBadWalk => k_is)
    (case aBadWorld => k_is)
    (case aBarred => k_is)
    (case aNoButton => k_is)
    (case aNoGuard => k_is)
    (case aNoLots => k_is)
    (case aNoMark => k_is)
    (case aNoRow => k_is)
    (case aNoThing => k_is)
    (case aNotBare => k_is)
    (case aNothingToUndo => k_is)
    (case aOtherScene => k_is)
    (case aTaken => k_is)
    (case aUnlike => k_is)
    (case aS => k_is)
    (case xBadInputs => exact ⟨_, _, _, _, _, _, _, _, _, _, _, _, _, _, _, by k_is, by decide +kernel⟩); (case p1BadInputs => kernel_rfl); (case p2BadInputs => kernel_rfl)
    (case xBadName => exact ⟨_, _, _, _, _, _, _, _, _, _, _, _, _, _, _, by k_is, by decide +kernel⟩); (case p1BadName => kernel_rfl); (case p2BadName => kernel_rfl)
    (case xBadSaying => exact ⟨_, _, _, _, _, _, _, _, _, _, _, _, _, _, _, by k_is, by decide +kernel⟩); (case p1BadSaying => kernel_rfl); (case p2BadSaying => kernel_rfl)
    (case xBadScene => exact ⟨_, _, _, _, _, _, _, _, _, _, _, _, _, _, _, by k_is, by decide +kernel⟩); (case p1BadScene => kernel_rfl); (case p2BadScene => kernel_rfl)
    (case xBadScript => exact ⟨_, _, _, _, _, _, _, _, _, _, _, _, _, _, _, by k_is, by decide +kernel⟩); (case p1BadScript => kernel_rfl); (case p2BadScript => kernel_rfl)
    (case xBadWalk => exact ⟨_, _, _, _, _, _, _, _, _, _, _, _, _, _, _, by k_is, by decide +kernel⟩); (case p1BadWalk => kernel_rfl); (case p2BadWalk => kernel_rfl)
    (case xBadWorld => exact ⟨_, _, _, _, _, _, _, _, _, _, _, _, _, _, _, by k_is, by decide +kernel⟩); (case p1BadWorld => kernel_rfl); (case p2BadWorld => kernel_rfl)
    (case xBarred => exact ⟨_, _, _, _, _, _, _, _, _, _, _, _, _, _, _, by k_is, by decide +kernel⟩); (case p1Barred => kernel_rfl); (case p2Barred => kernel_rfl)
    (case xNoButton => exact ⟨_, _, _, _, _, _, _, _, _, _, _, _, _, _, _, by k_is, by decide +kernel⟩); (case p1NoButton => kernel_rfl); (case p2NoButton => kernel_rfl)
    (case xNoGuard => exact ⟨_, _, _, _, _, _, _, _, _, _, _, _, _, _, _, by k_is, by decide +kernel⟩); (case p1NoGuard => kernel_rfl); (case p2NoGuard => kernel_rfl)
    (case xNoLots => exact ⟨_, _, _, _, _, _, _, _, _, _, _, _, _, _, _, by k_is, by decide +kernel⟩); (case p1NoLots => kernel_rfl); (case p2NoLots => kernel_rfl)
    (case xNoMark => exact ⟨_, _, _, _, _, _, _, _, _, _, _, _, _, _, _, by k_is, by decide +kernel⟩); (case p1NoMark => kernel_rfl); (case p2NoMark => kernel_rfl)
    (case xNoRow => exact ⟨_, _, _, _, _, _, _, _, _, _, _, _, _, _, _, by k_is, by decide +kernel⟩); (case p1NoRow => kernel_rfl); (case p2NoRow => kernel_rfl)
    (case xNoThing => exact ⟨_, _, _, _, _, _, _, _, _, _, _, _, _, _, _, by k_is, by decide +kernel⟩); (case p1NoThing => kernel_rfl); (case p2NoThing => kernel_rfl)
    (case xNotBare => exact ⟨_, _, _, _, _, _, _, _, _, _, _, _, _, _, _, by k_is, by decide +kernel⟩); (case p1NotBare => kernel_rfl); (case p2NotBare => kernel_rfl)
    (case xNothingToUndo => exact ⟨_, _, _, _, _, _, _, _, _, _, _, _, _, _, _, by k_is, by decide +kernel⟩); (case p1NothingToUndo => kernel_rfl); (case p2NothingToUndo => kernel_rfl)
    (case xOtherScene => exact ⟨_, _, _, _, _, _, _, _, _, _, _, _, _, _, _, by k_is, by decide +kernel⟩); (case p1OtherScene => kernel_rfl); (case p2OtherScene => kernel_rfl)
    (case xTaken => exact ⟨_, _, _, _, _, _, _, _, _, _, _, _, _, _, _, by k_is, by decide +kernel⟩); (case p1Taken => kernel_rfl); (case p2Taken => kernel_rfl)
    (case xUnlike => exact ⟨_, _, _, _, _, _, _, _, _, _, _, _, _, _, _, by k_is, by decide +kernel⟩); (case p1Unlike => kernel_rfl); (case p2Unlike => kernel_rfl)
    (case jBadInputs => k_is); (case iBadInputs => exact ⟨⟨_, _, _, _, _, _, _, _, rfl, by k_is⟩, ⟨_, rfl, rfl⟩, ⟨_, _, _, _, _, _, by k_is, rfl, by decide +kernel⟩, ⟨_, _, _, by k_is⟩⟩); (case p3BadInputs => kernel_rfl); (case p4BadInputs => kernel_rfl)
    (case jBadName => k_is); (case iBadName => exact ⟨⟨_, _, _, _, _, _, _, _, rfl, by k_is⟩, ⟨_, rfl, rfl⟩, ⟨_, _, _, _, _, _, by k_is, rfl, by decide +kernel⟩, ⟨_, _, _, by k_is⟩⟩); (case p3BadName => kernel_rfl); (case p4BadName => kernel_rfl)
    (case jBadSaying => k_is); (case iBadSaying => exact ⟨⟨_, _, _, _, _, _, _, _, rfl, by k_is⟩, ⟨_, rfl, rfl⟩, ⟨_, _, _, _, _, _, by k_is, rfl, by decide +kernel⟩, ⟨_, _, _, by k_is⟩⟩); (case p3BadSaying => kernel_rfl); (case p4BadSaying => kernel_rfl)
    (case jBadScene => k_is); (case iBadScene => exact ⟨⟨_, _, _, _, _, _, _, _, rfl, by k_is⟩, ⟨_, rfl, rfl⟩, ⟨_, _, _, _, _, _, by k_is, rfl, by decide +kernel⟩, ⟨_, _, _, by k_is⟩⟩); (case p3BadScene => kernel_rfl); (case p4BadScene => kernel_rfl)
    (case jBadScript => k_is); (case iBadScript => exact ⟨⟨_, _, _, _, _, _, _, _, rfl, by k_is⟩, ⟨_, rfl, rfl⟩, ⟨_, _, _, _, _, _, by k_is, rfl, by decide +kernel⟩, ⟨_, _, _, by k_is⟩⟩); (case p3BadScript => kernel_rfl); (case p4BadScript => kernel_rfl)
    (case jBadWalk => k_is); (case iBadWalk => exact ⟨⟨_, _, _, _, _, _, _, _, rfl, by k_is⟩, ⟨_, rfl, rfl⟩, ⟨_, _, _, _, _, _, by k_is, rfl, by decide +kernel⟩, ⟨_, _, _, by k_is⟩⟩); (case p3BadWalk => kernel_rfl); (case p4BadWalk => kernel_rfl)
    (case jBadWorld => k_is); (case iBadWorld => exact ⟨⟨_, _, _, _, _, _, _, _, rfl, by k_is⟩, ⟨_, rfl, rfl⟩, ⟨_, _, _, _, _, _, by k_is, rfl, by decide +kernel⟩, ⟨_, _, _, by k_is⟩⟩); (case p3BadWorld => kernel_rfl); (case p4BadWorld => kernel_rfl)
    (case jBarred => k_is); (case iBarred => exact ⟨⟨_, _, _, _, _, _, _, _, rfl, by k_is⟩, ⟨_, rfl, rfl⟩, ⟨_, _, _, _, _, _, by k_is, rfl, by decide +kernel⟩, ⟨_, _, _, by k_is⟩⟩); (case p3Barred => kernel_rfl); (case p4Barred => kernel_rfl)
    (case jNoButton => k_is); (case iNoButton => exact ⟨⟨_, _, _, _, _, _, _, _, rfl, by k_is⟩, ⟨_, rfl, rfl⟩, ⟨_, _, _, _, _, _, by k_is, rfl, by decide +kernel⟩, ⟨_, _, _, by k_is⟩⟩); (case p3NoButton => kernel_rfl); (case p4NoButton => kernel_rfl)
    (case jNoGuard => k_is); (case iNoGuard => exact ⟨⟨_, _, _, _, _, _, _, _, rfl, by k_is⟩, ⟨_, rfl, rfl⟩, ⟨_, _, _, _, _, _, by k_is, rfl, by decide +kernel⟩, ⟨_, _, _, by k_is⟩⟩); (case p3NoGuard => kernel_rfl); (case p4NoGuard => kernel_rfl)
    (case jNoMark => k_is); (case iNoMark => exact ⟨⟨_, _, _, _, _, _, _, _, rfl, by k_is⟩, ⟨_, rfl, rfl⟩, ⟨_, _, _, _, _, _, by k_is, rfl, by decide +kernel⟩, ⟨_, _, _, by k_is⟩⟩); (case p3NoMark => kernel_rfl); (case p4NoMark => kernel_rfl)
    (case jNoRow => k_is); (case iNoRow => exact ⟨⟨_, _, _, _, _, _, _, _, rfl, by k_is⟩, ⟨_, rfl, rfl⟩, ⟨_, _, _, _, _, _, by k_is, rfl, by decide +kernel⟩, ⟨_, _, _, by k_is⟩⟩); (case p3NoRow => kernel_rfl); (case p4NoRow => kernel_rfl)
    (case jNoThing => k_is); (case iNoThing => exact ⟨⟨_, _, _, _, _, _, _, _, rfl, by k_is⟩, ⟨_, rfl, rfl⟩, ⟨_, _, _, _, _, _, by k_is, rfl, by decide +kernel⟩, ⟨_, _, _, by k_is⟩⟩); (case p3NoThing => kernel_rfl); (case p4NoThing => kernel_rfl)
    (case jNotBare => k_is); (case iNotBare => exact ⟨⟨_, _, _, _, _, _, _, _, rfl, by k_is⟩, ⟨_, rfl, rfl⟩, ⟨_, _, _, _, _, _, by k_is, rfl, by decide +kernel⟩, ⟨_, _, _, by k_is⟩⟩); (case p3NotBare => kernel_rfl); (case p4NotBare => kernel_rfl)
    (case jTaken => k_is); (case iTaken => exact ⟨⟨_, _, _, _, _, _, _, _, rfl, by k_is⟩, ⟨_, rfl, rfl⟩, ⟨_, _, _, _, _, _, by k_is, rfl, by decide +kernel⟩, ⟨_, _, _, by k_is⟩⟩); (case p3Taken => kernel_rfl); (case p4Taken => kernel_rfl)
    (case eNoLots => k_exc)
    (case eNothingToUndo => k_exc)
    (case eOtherScene => k_exc)
    (case eUnlike => k_exc)
    (case p0 => kernel_rfl); (case pk => kernel_rfl); (case pn => decide +kernel); (case ht => kernel_rfl)
    (case zValueError => k_is)
    (case zisinstance => k_is)
    (case zint => k_is)
    (case zrepr => k_is)
    (case zlist => k_is)
    (case zlen => k_is)
    (case zabs => k_is)
    (case zrange => k_is)
    (case zsuper => k_is)
    (case aBegun => k_is); (case lBegun => k_is); (case cBegun => k_is); (case kBegun => k_is)
    (case aDraw => k_is); (case lDraw => k_is); (case cDraw => k_is); (case kDraw => k_is)
    (case aShuf => k_is); (case lShuf => k_is); (case cShuf => k_is); (case kShuf => k_is)
    (case aNames => k_is); (case lNames => k_is); (case cNames => k_is); (case kNames => k_is)
    (case aClasses => k_is); (case lClasses => k_is); (case cClasses => k_is); (case kClasses => k_is)
    (case aIsOne => k_is); (case lIsOne => k_is); (case cIsOne => k_is); (case kIsOne => k_is)
    (case aNumbered => k_is); (case lNumbered => k_is); (case cNumbered => k_is); (case kNumbered => k_is)
    (case aNamed => k_is); (case lNamed => k_is); (case cNamed => k_is); (case kNamed => k_is)
    (case aOthers => k_is); (case lOthers => k_is); (case cOthers => k_is); (case kOthers => k_is)
    (case aLaw => k_is); (case lLaw => k_is); (case cLaw => k_is); (case kLaw => k_is)
