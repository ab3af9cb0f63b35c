import PyProof.Rows.All
import Wide.All
import OpenK.AllK
import Wide.FinOn
import PyProof.EqAt
import PyProof.EqKinds
import PyProof.TupleCall
import PyProof.AtCode
import KE.KFromBytes
import KE.KExcSuper
import KE.KIsAll
import KE.KTryMore
import HandS.ForMost
import HandS.Exc
import HandS.ExcOwn
import HandS.ExcInit
import HandS.ExcValue
import HandS.ExcField
import HandS.ExcIs
import HandS.Nested
import KE.KExcIs
import HandS.FStrTup
import HandS.FStr
import PyProof.ReprHeads
import PyProof.ReprHeadsEmpty
import HandS.WordsExc
import HandS.Wide
import HandS.RaiseMore
import HandS.Style
import HandS.Walk
import HandS.StrMore
import HandS.Text
import HandS.HeadHook3
import HandS.OwnEq
import PyProof.InstEq
import PyProof.ReprRoads
import HandS.Codes
import PyProof.StrBlock2
import HandS.Ends
import PySem.Challenge.RW_seatedtwice_k01_scenes
set_option Elab.async false
set_option linter.all false
set_option maxRecDepth 100000
set_option maxHeartbeats 4000000
/-! Own error classes whose __init__ says super().__init__(..): the body of such a def, at its own activation. -/
namespace XE
open PySem PySem.Spec PyProof.Rows L2 NdefX
open PySem.W (kxs_mw kxs_getMethod kxs_callWith KxsAt kxs_ValueError ks_superIn ks_superObj ks_ne check_bound_init excObj excTup exc_init_tree)
/-- a statement, a block, at the activation c -/
structure PSA (X : Cx) (c : Code) (st : Stmt) (t : TS) : Prop where
  run : ∀ (pins : List (Addr × Obj)) (s : Shared) (σ : L2.St) (H : Hp) (D : Ends), Inv X pins σ H s → t D σ H → PySem.wpAt (model X.prog X.w) X.A c (exec st X.env) (SP X pins D) X.xe s
structure PSsA (X : Cx) (c : Code) (st : List Stmt) (t : TS) : Prop where
  run : ∀ (pins : List (Addr × Obj)) (s : Shared) (σ : L2.St) (H : Hp) (D : Ends), Inv X pins σ H s → t D σ H → PySem.wpAt (model X.prog X.w) X.A c (execs st X.env) (SP X pins D) X.xe s
section
variable {X : Cx} {c : Code} {st : Stmt} {rest : List Stmt} {t u : TS}
theorem psA_of (h : PS X st t) : PSA X c st t := ⟨fun pins s σ H D I q => wpAt_of_wpAny (h.run pins s σ H D I q)⟩
theorem pssA_nil : PSsA X c [] tNext := ⟨fun _ _ σ H _ I h => wpAt_of_wpAny (wpAny_execs_nil ⟨σ, H, I, h⟩)⟩
theorem pssA_cons (h1 : PSA X c st t) (h2 : PSsA X c rest u) : PSsA X c (st :: rest) (tSeq t u) := by
  refine ⟨fun ps s0 σ H D I0 q0 => ks_wpAt_execs_cons (ks_wpAt_mono (h1.run ps s0 σ H { D with nx := u D } I0 q0) (fun f s1 q => ?_) fun _ _ x => x)⟩
  cases f with
  | next =>
    obtain ⟨σ', H', I', q⟩ := q
    exact h2.run ps s1 σ' H' D I' q
  | ret v => exact q
  | brk => exact q
  | cont => exact q
end
/-! ### the def by its body -/
section
variable {CX : CXT} {P : Program} {w : World} {K : PySem.W.Frag} {mg : Str → Option Value} {base : Heap} {N ps : List Str} {F : NF} {f cc C : Addr} {k : Nat} {sp : Sp}
theorem fn_ofC {oc kV doc pm ct cl : Value} {od an cld : Option Addr} {osl csl : Array (Option Value)}
    (lk : K.lookup f = some ⟨oc, od, .func (PySem.W.fnX F.name F.qual F.params F.body F.scope F.cl .none kV doc pm an (.ref F.c) ct), osl⟩) (hcl : F.cl = [(("__class__" : Str), cc)]) (hcd : PySem.W.codeIn K (.ref F.c) F.qual = true)
    (hcc : K.lookup cc = some ⟨cl, cld, .cell (some (.ref C)), csl⟩) (S : NScope N ps ["__class__"] F.scope) (len0 : ∀ vs H Q E, sp vs H Q E → vs.length = ps.length)
    (hbody : ∀ (A : Around) (outer : List Env) (s : Shared) (H : Hp) (vs : List V) (Q : VK) (E : XK), Room k (A.deeper (envF F f s.heap.objs.size)) → sp vs H Q E →
      ∃ t, PSsA (ncx CX P w K mg base N F f A outer s H E) (.func F.body (envF F f s.heap.objs.size)) F.body t ∧ t { nx := fun _ H' => Q .non H', rt := Q } (startF N vs [some (.ref C)]) H) :
    FnOk P w K mg base CX (k + 1) f (PySem.W.fnX F.name F.qual F.params F.body F.scope F.cl .none kV doc pm an (.ref F.c) ct) ps sp := by
  refine ⟨len0, fun A outer s H args args1 vs Q E hr env0 hb r asked => ?_⟩
  have many := len0 _ _ _ _ asked
  have inK : K.In s.heap := env0.mod.kin.keeps fun b o e => (env0.bs b o e).1
  have noLim : s.heap.NoLimit := env0.mod.nolimit.keeps fun b o e => (env0.bs b o e).1
  refine codeAny_call_function hr.depth (inK _ _ lk) rfl S.co S.gen rfl (PySem.W.codeRec_of inK hcd) (hb _ _ _ _ ?_)
  refine wpAny_newFunctionEnv S.nocell (fun ⟨n, _⟩ hy => S.par n (List.of_mem_zip hy).1) (fun h₁ names same => ⟨noLim.fresh _ same, ?_⟩) S.kind
  show codeAny _ _ (.func F.body (envF F f s.heap.objs.size)) _ _
  refine ks_codeAny_funcAt ?_
  have keepH : ∀ b o, s.heap.get? b = some o → h₁.get? b = some o := fun b o e => same.extBut b o (Nat.ne_of_lt (Heap.lt_size e)) (Heap.get?_push_of_some _ e)
  obtain ⟨t, walk, hq⟩ := hbody A outer s H vs Q E (hr.deeper _) asked
  have hcc' : s.heap.get? cc = some ⟨cl, cld, .cell (some (.ref C)), csl⟩ := inK _ _ hcc
  have hcn : H cc = none := by
    cases e : base.get? cc with
    | none =>
      have z := env0.mod.kin _ _ hcc
      rw [e] at z
      cases z
    | some o => exact (env0.bs _ _ e).2
  have lk1 : ∀ {y : Str} {c : Addr}, F.cl.lookup y = some c → y = "__class__" ∧ c = cc := fun {y c} e => by
    rw [hcl] at e
    have hy := PySem.mem_of_lookup e
    rcases List.mem_singleton.mp hy with z
    exact ⟨congrArg Prod.fst z, congrArg Prod.snd z⟩
  have C0 : CellsAt F.cl ["__class__"] [some (.ref C)] s.heap H := by
    refine ⟨rfl, fun y c e => ?_, fun x y c e1 e2 => ?_, fun i y hy => ?_⟩
    · obtain ⟨_, rfl⟩ := lk1 e
      exact ⟨hcn, _, _, hcc', rfl⟩
    · rw [(lk1 e1).1, (lk1 e2).1]
    · cases i with
      | zero =>
        cases hy
        refine ⟨cc, by rw [hcl]; simp [List.lookup], fun v hv => ?_⟩
        cases hv
        exact ⟨.ref C, rfl, _, hcc', rfl⟩
      | succ i => simp at hy
  have I : Inv (ncx CX P w K mg base N F f A outer s H E) [] (startF N vs [some (.ref C)]) H { s with heap := h₁, toks := s.toks + (ps.zip args1).length } := inv_startN S hr.hd env0 many r C0 names keepH
  refine ks_wpAt_mono (walk.run [] _ (startF N vs [some (.ref C)]) H _ I hq) (fun fl s' ends => ?_) fun e s' ends => ends
  have leave : ∀ {σ' : L2.St} {H' : Hp} {v : V} {u : Value}, Inv (ncx CX P w K mg base N F f A outer s H E) [] σ' H' s' → L2.RelV v u → Q v H' → CE outer P w H s Q u s' :=
    fun {σ' H' v u} J1 rel q => ⟨v, H', J1.os, J1.bare, J1.base, J1.hok, rel, q⟩
  cases fl with
  | ret u =>
    obtain ⟨v, σ', H', J1, rel, q⟩ := ends
    exact leave J1 rel q
  | next =>
    obtain ⟨σ', H', J1, q⟩ := ends
    exact leave (v := V.non) (u := Value.none) J1 rfl q
  | brk =>
    obtain ⟨_, _, _, q⟩ := ends
    exact False.elim q
  | cont =>
    obtain ⟨_, _, _, q⟩ := ends
    exact False.elim q
end
end XE
set_option linter.all false
set_option maxRecDepth 100000
set_option maxHeartbeats 4000000
namespace XE
open PySem PySem.Spec PyProof.Rows L2 NdefX
open PySem.W (kxs_mw kxs_getMethod kxs_callWith KxsAt kxs_ValueError ks_superIn ks_superObj ks_ne check_bound_init excObj excTup exc_init_tree)
/-- the object of an own error of the class at C -/
abbrev exObj (C t : Addr) (d : Option Addr) : Obj := { cls := .ref C, dict := d, data := .fields #[.ref t, .none, .none, .none, .bool false, .none] }
/-! ### ValueError.__init__, bound to the object, called -/
section
variable {prog : Program} {w : World} {A : Around} {E : Value → Shared → Prop} {hp : Heap} {gs : Array GenState} {dr : Drawn} {tk : Nat} {os : OsState}
variable {nm qn : Str} {C N : Addr} {bases mro : List Value} {hasD : Bool} {slots : List Str} {subs : List Value} {abs : Bool} {coll : Option Bool} {own : Option Addr} {k0 k1 k2 k3 k5 : Option Value}
theorem bound_wrapper : (Value.type "method-wrapper" == Value.type "method" || Value.type "method-wrapper" == Value.type "builtin_function_or_method" || Value.type "method-wrapper" == Value.type "method-wrapper") = true := by decide
theorem call_mw {u e t0 : Addr} {dv : Option Addr} {given : List Value} {Q : Value → Shared → Prop}
    (hC : hp.get? C = some (excClassObj nm qn C N bases mro hasD slots subs abs coll own k0 k1 k2 k3 k5 "ValueError.__new__")) (he : hp.get? e = some (exObj C t0 dv)) (hu : hp.get? u = some (kxs_mw "ValueError.__init__" e)) (few : given.length ≤ sizeLine)
    (hq : ∀ hp' t1, (∀ b o, b ≠ e → hp.get? b = some o → hp'.get? b = some o) → hp'.get? e = some (exObj C t1 dv) → Q .none ⟨hp', gs, dr, tk, os⟩) :
    wpAny (model prog w) A (call (.ref u) given) Q E ⟨hp, gs, dr, tk, os⟩ := by
  refine wpAny_call (codeAny_of_tree (show wpAny _ A.in1 (callAny (.ref u) ⟨given, []⟩) _ _ _ from ?_))
  simp only [callAny]
  refine wpAny_bind (wpAny_load hu ?_)
  simp only [kxs_mw, bound_wrapper, if_true]
  refine PySem.W.KFB.if_so (by decide) (wpAny_bind (check_bound_init F.excBase_ValueError.toExcCallFacts hC he rfl (wpAny_bind (wpAny_pure (wpAny_pure ⟨plainId_quiet F.excBase_ValueError.init.plain _, codeAny_builtin F.excBase_ValueError.initEntry ?_⟩)))))
  exact exc_init_tree (cls := .ref C) (t0 := t0) (dv := dv) (c2 := .none) (c3 := .none) (b4 := .bool false) he few fun hp' k e' _ => hq hp' _ k e'
end
/-- what the written part says of the def at f, the __init__ of the class at C -/
structure SupK (prog : Program) (K : PySem.W.Frag) (mg : Str → Option Value) (C f cda cc : Addr) : Prop where
  cls : OexC K C
  code : ∃ ccl cdd vs ccs file tf, K.lookup cda = some ⟨ccl, cdd, .fields vs, ccs⟩ ∧ vs[2]? = some (.str file tf) ∧ ((prog.main.file : Str) == file) = true
  cell : ∃ cl cld csl, K.lookup cc = some ⟨cl, cld, .cell (some (.ref C)), csl⟩
  fn : ∃ oc od fd osl ar, K.lookup f = some ⟨oc, od, .func fd, osl⟩ ∧ (fd.params.posonlyargs ++ fd.params.args).head? = some ar ∧ ar.arg = ("self" : Str)
  hsup : mg "super" = none
  thd : PySem.W.nsIn K cStatics "thirdparty.any" = some none
  sup : ks_superIn K C C "__init__" = some (some (.builtin "ValueError.__init__"))
  subVE : PySem.W.subIn K (.ref C) (.type "ValueError") = some true
  subC : PySem.W.mroIn K C (.ref C) = some true
  top : (prog.main.scope.names.lookup ("super" : Str)).isSome = false
theorem exo_get {P : Program} {w : World} {H : Hp} {h : Heap} {e C : Addr} {d : Option Addr} (hok : HOk P w H h) (he : H e = some (exo e C d)) : ∃ t1 : Addr, h.get? e = some (exObj C t1 d) := exo_at hok he
theorem upd_id {H : Hp} {a : Addr} {o : HO} (e : H a = some o) : upd H a o = H := by
  funext b
  by_cases hb : b = a
  · rw [hb, upd_same, e]
  · rw [upd_ne hb]
/-- super().__init__(..) of an own error: nothing of it is told -/
def tSup (C : Addr) (ta : TA) : TS := fun D σ H => ∃ a, σ[0]? = some (some (V.ref a)) ∧ (∃ od, H a = some (exo a C od)) ∧ 
  ta σ H fun vs H1 => (∃ od, H1 a = some (exo a C od)) ∧ vs.length ≤ 1000 ∧ D.nx σ H1
section
variable {X : Cx} {C f cda cc : Addr} {e : Expr} {es : List Expr} {ta : TA} {p0 p1 p2 pos pos' : Pos} {body : List Stmt}
theorem psA_sup {pl : Sem Bool} (T : SupK X.prog X.K X.mg C f cda cc) (hfu : X.env.func = some f) (hco : X.env.code = .ref cda) (hcl : X.env.cells.lookup ("__class__" : Str) = some cc) (hN : X.N[0]? = some ("self" : Str)) (ha : PA X (e :: es) ta)
    (hks : X.env.kindOf "super" = some .globalImplicit := by rfl) (hkc : X.env.kindOf "__class__" = some .free := by rfl) (hkse : X.env.scope.names.lookup ("self" : Str) = some .local := by rfl)
    (hi : interactive X.env = false := by rfl) (hs : swapsWith (.Call (.Attribute (.Call (.Name "super" p0) [] [] p1) "__init__" p2) (e :: es) [] pos) none pos'.line X.env = pure false := by rfl)
    (he : eval (.Call (.Attribute (.Call (.Name "super" p0) [] [] p1) "__init__" p2) (e :: es) [] pos) X.env = (do
      let ov ← attributeBase (.Call (.Name "super" p0) [] [] p1) "__init__" X.env (eval (.Call (.Name "super" p0) [] [] p1) X.env)
      standAt p2.atName
      let (f, first) ← holding [ov] (getMethod ov "__init__" pl)
      callWith pos f first (backTo pos (starEach (e :: es) X.env)) []) := by rfl)
    (hst : starEach (e :: es) X.env = (false, eval e X.env) :: starEach es X.env := by rfl) (hpl : (backTo pos (starEach es X.env)).any (·.1) = false := by rfl) :
    PSA X (.func body X.env) (.Expr (.Call (.Attribute (.Call (.Name "super" p0) [] [] p1) "__init__" p2) (e :: es) [] pos) pos') (tSup C ta) := by
  refine ⟨fun pins s σ H D I h => ?_⟩
  obtain ⟨a, ea, ⟨od, eo⟩, hq⟩ := h
  obtain ⟨nm, qn, Nn, bs, bm, sn, sub, ab, col, dd, k0, k1, k2, k3, k5, hC, hbm⟩ := T.cls.cls
  obtain ⟨ccl, cdd, vs, ccs, file, tf, hcda, hvs, hfile⟩ := T.code
  obtain ⟨cl, cld, csl, hcc⟩ := T.cell
  obtain ⟨oc, ofd, fd, osl, ar, hf, hp, har⟩ := T.fn
  have KX : X.K.In s.heap := I.kIn
  obtain ⟨t1, hx⟩ := exo_get I.hok eo
  obtain ⟨m, hns, hl⟩ := I.loc
  obtain ⟨mb, hb1, hb2⟩ := I.mod.blt
  obtain ⟨u0, ru0, lu0⟩ := hl 0 "self" (.ref a) hN ea (.inl hkse)
  obtain rfl : u0 = Value.ref a := ru0
  have hms : m "self" = some (.ref a) := by
    rcases lu0 with ⟨_, z⟩ | ⟨k, _⟩
    · exact z
    · have k' : X.env.scope.names.lookup ("self" : Str) = some .cell ∨ X.env.scope.names.lookup ("self" : Str) = some .free := k
      rw [hkse] at k'
      rcases k' with k' | k' <;> cases k'
  refine ks_wpAt_Expr_any ?_ hi hs
  refine ks_wpAt_MethodCall (pl := pl) ?_ he
  refine ks_wpAt_super_base (ar := ar) hks hkc (by decide) hfu (KX _ _ hf) rfl hp hco (KX _ _ hcda) rfl hvs hfile T.top ?_
  refine PySem.W.ks_loadName_global I.ok.kind hks (Calls.loadGlobal_builtin (by rw [I.ok.glob]; exact I.mod.glob.keeps I.bk) T.hsup (by rw [I.ok.blt]; exact hb1.keeps I.bk) ((hb2 "super" (by decide)).trans (by decide +kernel : bootBuiltins "super" = some (.type "super"))) ⟨rfl, ?_⟩)
  refine wpAny_loadName_free I.ok.kind hkc hcl ⟨_, KX _ _ hcc, rfl⟩ ?_
  rw [har]
  refine wpAny_loadName_local I.ok.kind hkse hns hms ?_
  have hD1 : s.heap.get? C = some (excClassObj nm qn C Nn bs bm true sn sub ab col dd k0 k1 k2 k3 k5 "ValueError.__new__") := KX _ _ hC
  have hcl : PySem.W.clsIn X.K C = some { name := nm, bases := bs, mro := .ref C :: bm, ns := Nn, qualname := qn, hasDict := true, slotNames := sn, subclasses := sub, abstract := ab, collection := col, hasDel := false } := by unfold PySem.W.clsIn; rw [hC] <;> rfl
  have hOn : s.heap.get? a = some (exObj C t1 od) := hx
  obtain ⟨hh, g, d, tk, os⟩ := s
  refine ks_wpAny_isType_cls hD1 rfl ⟨rfl, ?_⟩
  refine ks_wpAny_call_super hD1 rfl hOn rfl (fun c z => by cases z) (PySem.W.looks_mroIn KX T.subC) (fun h' hso k => ?_)
  have KX' : X.K.In h' := KX.keeps k
  have hOn' : h'.get? a = some (exObj C t1 od) := k _ _ hOn
  have hne : a ≠ C := fun z => by
    rw [z, hD1] at hOn
    cases hOn
  have hsup := T.sup
  unfold ks_superIn at hsup
  rw [hcl] at hsup
  have hTy : PySem.W.Looks (model X.prog X.w) h' (typeOf (.ref a)) (.ref C) := by
    exact (PySem.W.Looks.ld hOn').andThen .now
  refine kxs_getMethod kxs_ValueError hso (PySem.W.looks_opaque KX' T.thd) (l₀ := .ref C :: bm) ?_ rfl KX' hsup ?_ hne (by decide) ?_
  · exact fun A Q E s k q => wpAny_bind ((PySem.W.looks_clsIn KX' hcl) A _ E s k (wpAny_pure q))
  · exact hTy.andThen (PySem.W.looks_subIn KX' T.subVE)
  · have k2 : ∀ b o, hh.get? b = some o → (h'.push (kxs_mw "ValueError.__init__" a)).get? b = some o := fun b o e => Heap.get?_push_of_some _ (k b o e)
    have hu : (h'.push (kxs_mw "ValueError.__init__" a)).get? h'.objs.size = some (kxs_mw "ValueError.__init__" a) := Heap.get?_push_size _ rfl
    have sz : hh.objs.size ≤ h'.objs.size := Nat.le_of_lt (Heap.lt_size hso)
    have I2 : Inv X pins σ H ⟨h'.push (kxs_mw "ValueError.__init__" a), g, d, tk + 1, os⟩ := I.kept (t' := tk + 1) k2
    have fp : FpOk X pins H h'.objs.size := I.fpOk sz (I.hok.fresh sz)
    have I3 := I2.pinned (fp := [h'.objs.size]) (fun b hb => by
      rw [List.mem_singleton.mp hb]
      exact fp) (fun b hb => by
      rw [List.mem_singleton.mp hb]
      exact ⟨_, hu, fun v z => by cases z⟩)
    show wpAny _ _ (callWith pos (.ref h'.objs.size) [] (backTo pos (starEach (e :: es) X.env)) []) _ _ _
    have hr := ha.run pos _ _ σ H _ I3 hq
    rw [hst] at hr ⊢
    refine kxs_callWith (i := "ValueError.__init__") (x := a) (by show (false || (backTo pos (starEach es X.env)).any (·.1)) = false; rw [hpl]; rfl) ?_
    refine Calls.evalArgs_plain (thn hr fun us s4 z4 => ?_)
    obtain ⟨vs4, H4, I4, r4, ⟨od4, eo4⟩, hlen, q4⟩ := z4
    have hu4 : s4.heap.get? h'.objs.size = some (kxs_mw "ValueError.__init__" a) := (I4.pin (h'.objs.size, _) (List.mem_append_right _ (List.mem_append_right _ (mem_pinsAt (List.mem_singleton.mpr rfl) hu)))).1
    refine ⟨hu4, ?_⟩
    obtain ⟨t4, hx4⟩ := exo_get I4.hok eo4
    have I5 := I4.unpinned
    have lim : us.length ≤ sizeLine := by
      rw [← Paired.length r4, sizeLine_eq]
      omega
    obtain ⟨h4, g4, d4, tk4, os4⟩ := s4
    refine call_mw (C := C) (e := a) (I5.kIn _ _ hC) hx4 hu4 lim fun h5 t5 k5 hx5 => ?_
    have J := I5.write (t' := tk4) (x := a) (e := a) (o := exo a C od4) (by rw [eo4]; exact True.intro) (.inl rfl) k5 ⟨_, hx5⟩ (exo_ok hx5)
    rw [upd_id eo4] at J
    exact ⟨σ, H4, J, q4⟩
end
end XE
set_option linter.all false
set_option maxRecDepth 100000
set_option maxHeartbeats 4000000
namespace XE
open PySem PySem.Spec PyProof.Rows L2 NdefX
/-- what the class of an error must say, so that its instances are asked rightly -/
structure ExA (K : PySem.W.Frag) (C : Addr) : Prop where
  ga : PySem.W.findIn K (.ref C) "__getattribute__" = some (some (.builtin "BaseException.__getattribute__"))
  gg : PySem.W.findIn K (.ref C) "__getattr__" = some none
  sub : PySem.W.subIn K (.ref C) (.type "BaseException") = some true
  hd : PySem.W.hasDictIn K C = true
  ca : PySem.W.findIn K (.ref C) "__class__" = some (some (.builtin "object.__class__"))
  cn : PySem.W.specialIn K (.builtin "object.__class__") "__get__" = some (some (.builtin "getset_descriptor.__get__"))
  ct : PySem.W.takesIn K (.builtin "object.__class__") = some true
  cm : PySem.W.mroIn K C (.type "object") = some true
theorem ExA.cl {K : PySem.W.Frag} {C : Addr} (T : ExA K C) : (PySem.W.clsIn K C).isSome = true := by
  obtain ⟨cd, h, _⟩ := PySem.W.any_some T.hd
  rw [h]
  rfl
/-- an error of the class at C, its dict at d (where it has one), held as a value -/
def exv (C : Addr) (d : Option Addr) (a : Addr) : HO := .ext fun h => ∃ (oe : Obj) (vs : Array Value), h.get? a = some oe ∧ Zc (.ref C) d oe ∧ oe.data = .fields vs
theorem exv_ok {P : Program} {w : World} {H : Hp} {h : Heap} {a C : Addr} {d : Option Addr} {oe : Obj} {vs : Array Value} (e : h.get? a = some oe) (z : Zc (.ref C) d oe) (k : oe.data = .fields vs) : ObjOk P w H h a (exv C d a) :=
  ⟨⟨oe, vs, e, z, k⟩, ⟨oe, e⟩, fun _ _ ⟨o, us, q, r⟩ st => ⟨o, us, st o q, r⟩⟩
theorem exv_at {P : Program} {w : World} {H : Hp} {h : Heap} {a C : Addr} {d : Option Addr} (ok : HOk P w H h) (e : H a = some (exv C d a)) : ∃ (oe : Obj) (vs : Array Value), h.get? a = some oe ∧ Zc (.ref C) d oe ∧ oe.data = .fields vs := by
  have z : ObjOk P w H h a (exv C d a) := ok a _ e
  exact z.1
theorem inst_of {h : Heap} {a C : Addr} {d : Option Addr} {oe : Obj} {vs : Array Value} {od : Option Obj} (e : h.get? a = some oe) (z : Zc (.ref C) d oe) (k : oe.data = .fields vs) (hd : match d with | some dx => ∃ o, od = some o ∧ h.get? dx = some o | none => od = none) : PySem.W.InstAt h a oe C od := by
  obtain ⟨oc, dd, oda, osl⟩ := oe
  obtain ⟨z1, z2⟩ := z
  dsimp only at z1 z2 k
  subst z1 z2 k
  cases dd with
  | none =>
    subst hd
    exact ⟨e, rfl, rfl, trivial⟩
  | some dx =>
    obtain ⟨o, rfl, ho⟩ := hd
    exact ⟨e, rfl, rfl, ho⟩
/-- an error of the class at C stands at a -/
def ExAt (H : Hp) (a C : Addr) : Prop := H a = some (exv C none a) ∨ ∃ (d : Addr) (fs : List (Str × V)), H a = some (exv C (some d) a) ∧ H d = some (.xd fs)
theorem ExAt.same {H H' : Hp} {a C : Addr} (e : ExAt H a C) (s : Same H H') : ExAt H' a C := by
  rcases e with e | ⟨d, fs, e1, e2⟩
  · exact .inl (s _ _ e)
  · exact .inr ⟨d, fs, s _ _ e1, s _ _ e2⟩
/-- what makes an exception gives it as a value -/
theorem pe_of_mk {X : Cx} {e : Expr} {t : L2.St → Hp → XK → Prop} (h : PMk X e t) : PE X e (fun σ H Q => t σ H fun cls d H' => ∃ C, cls = .ref C ∧ ∀ a, H' a = none → Q (.ref a) (upd H' a (exv C d a))) := by
  refine ⟨fun ps s0 σ H Q I0 q0 => thn (h ps s0 σ H _ I0 q0) fun u s1 m => ?_⟩
  obtain ⟨a, oe, vs, sI, H', cls, d, rfl, J, keep, gone, he, hz, hd, _, na, os, bare, _, C, rfl, q⟩ := m
  have new : ObjOk X.prog X.w (upd H' a (exv C d a)) s1.heap a (exv C d a) := exv_ok he hz hd
  have J1 := J.call (h' := s1.heap) (g' := s1.gens) (t' := s1.toks) (d' := s1.drawn) (ch := []) (Un.laidN keep gone na) (J.hok.laidN keep na new) bare (fun b z => absurd z (by simp))
  obtain ⟨h1, g1, d1, t1, o1⟩ := s1
  obtain rfl : o1 = sI.os := os
  exact ⟨.ref a, _, J1, rfl, q a na⟩
section
variable {X : Cx} {pins : List (Addr × Obj)} {σ : L2.St} {H : Hp} {s : Shared} {a C : Addr}
theorem inst_at (I : Inv X pins σ H s) (e : ExAt H a C) : ∃ ox od, PySem.W.InstAt s.heap a ox C od := by
  rcases e with e | ⟨d, fs, e1, e2⟩
  · obtain ⟨oe, vs, h1, h2, h3⟩ := exv_at I.hok e
    exact ⟨oe, none, inst_of h1 h2 h3 rfl⟩
  · obtain ⟨oe, vs, h1, h2, h3⟩ := exv_at I.hok e1
    have hx : ObjOk X.prog X.w H s.heap d (.xd fs) := I.hok d _ e2
    obtain ⟨mA, hns, hr⟩ := hx
    obtain ⟨oD, _, _, hoD, _, _⟩ := hns.count (within_of hr)
    exact ⟨oe, some oD, inst_of h1 h2 h3 ⟨oD, rfl, hoD⟩⟩
/-- isinstance(e, c), e an error that is tracked -/
def rIsX (K : PySem.W.Frag) : List V → Hp → VK → Prop := fun xs H Q => ∃ (a C : Addr) (c : V) (cv : Value) (b : Bool), xs = [.ref a, c] ∧ ExAt H a C ∧ ExA K C ∧ (∀ u, L2.RelV c u → u = cv) ∧ PySem.W.kitOne K (.ref C) cv = some b ∧ Q (.bl b) H
theorem call_isX : CallR X (.builtin "isinstance") (rIsX X.K) := by
  intro pins s σ H xs us Q I r h
  obtain ⟨a, C, c, cv, b, rfl, ha, T, hcv, e, q⟩ := h
  cases r with
  | cons rx rr =>
    cases rr with
    | cons rt rr =>
      cases rr
      cases rx
      have ec := hcv _ rt
      subst ec
      obtain ⟨ox, od, J⟩ := inst_at I ha
      exact PySem.W.kia_one (PySem.W.kitx_exc T.cl T.ga T.gg T.sub T.ca T.cn T.ct T.cm) I.kIn J e (fun z => nomatch z) fun tk => ⟨.bl b, H, I.kept (t' := tk) fun _ _ z => z, rfl, q⟩
/-- e.f, e an error that is tracked: held as a value, or still in the making -/
def tExf (K : PySem.W.Frag) (f : Str) (te : TE) : TE := fun σ H Q => te σ H fun x H1 => ∃ (a C d : Addr) (fs : List (Str × V)) (v : V), x = .ref a ∧ ExA K C ∧ PySem.W.findIn K (.ref C) f = some none ∧
  ((H1 a = some (exo a C (some d)) ∧ H1 d = some (exd d fs)) ∨ (H1 a = some (exv C (some d) a) ∧ H1 d = some (.xd fs))) ∧ fs.lookup f = some v ∧ Q v H1
theorem pe_exf {e : Expr} {te : TE} {pos : Pos} {f : Str} (he : PE X e te) (hb : attributeBase e f X.env (eval e X.env) = eval e X.env := by rfl) : PE X (.Attribute e f pos) (tExf X.K f te) := by
  refine ⟨fun ps s0 σ H Q I0 q0 => attr_of hb (thn (he.run ps s0 σ H _ I0 q0) fun u s2 hh => ?_)⟩
  obtain ⟨x, H1, I1, rx, a, C, d, fs, v, ex, T, hno, hc, l, q⟩ := hh
  subst ex
  cases rx
  obtain ⟨oe, vs, h1, h2, h3, mA, hns, hr⟩ : ∃ oe vs, s2.heap.get? a = some oe ∧ Zc (.ref C) (some d) oe ∧ oe.data = .fields vs ∧ ∃ mA, s2.heap.Ns1 d mA ∧ ∀ g, RelO (fs.lookup g) (mA g) := by
    rcases hc with ⟨ea, ed⟩ | ⟨ea, ed⟩
    · obtain ⟨t, h⟩ := exo_get I1.hok ea
      exact ⟨_, _, h, ⟨rfl, rfl⟩, rfl, exd_at I1.hok ed⟩
    · obtain ⟨oe, vs, h1, h2, h3⟩ := exv_at I1.hok ea
      have hx : ObjOk X.prog X.w H1 s2.heap d (.xd fs) := I1.hok d _ ed
      exact ⟨oe, vs, h1, h2, h3, hx⟩
  obtain ⟨od, ho, hl⟩ := lookIn_ns hns
  obtain ⟨u, hu, ru⟩ := RelO.some_of (v := v) (o := mA f) (by rw [← l]; exact hr f)
  exact HandSPX.exc_get I1.kIn (inst_of h1 h2 h3 ⟨od, rfl, ho⟩) T.ga T.gg T.sub (PySem.W.findObj_own T.hd hno rfl (by rw [hl, hu])) (handed_of ru) ⟨v, H1, I1.tok _, ru, q⟩
/-- isinstance of the error that a suite holds -/
def rIsP (K : PySem.W.Frag) (C a : Addr) (d : Option Addr) : List V → Hp → VK → Prop := fun xs H Q => ∃ (c : V) (cv : Value) (b : Bool), xs = [.ref a, c] ∧ (∀ dd, d = some dd → ∃ fs, H dd = some (.xd fs)) ∧ (∀ u, L2.RelV c u → u = cv) ∧ PySem.W.kitOne K (.ref C) cv = some b ∧ Q (.bl b) H
theorem call_isP {oe : Obj} {pn : List (Addr × Obj)} {d : Option Addr} (T : ExA X.K C) (hz : Zc (.ref C) d oe) (hf : ∃ vs, oe.data = .fields vs) : CallR (X.suite a ((a, oe) :: pn)) (.builtin "isinstance") (rIsP X.K C a d) := by
  intro pins s σ H xs us Q I r h
  obtain ⟨c, cv, b, rfl, hdd, hcv, e, q⟩ := h
  cases r with
  | cons rx rr =>
    cases rr with
    | cons rt rr =>
      cases rr
      cases rx
      have ec := hcv _ rt
      subst ec
      obtain ⟨hget, _⟩ := I.pin (a, oe) (List.mem_append.mpr (.inl List.mem_cons_self))
      obtain ⟨vs, hv⟩ := hf
      obtain ⟨od, J⟩ : ∃ od, PySem.W.InstAt s.heap a oe C od := by
        cases d with
        | none => exact ⟨none, inst_of hget hz hv rfl⟩
        | some dd =>
          obtain ⟨fs, ed⟩ := hdd dd rfl
          have hx : ObjOk X.prog X.w H s.heap dd (.xd fs) := I.hok dd _ ed
          obtain ⟨mA, hns, hr⟩ := hx
          obtain ⟨oD, _, _, hoD, _, _⟩ := hns.count (within_of hr)
          exact ⟨some oD, inst_of hget hz hv ⟨oD, rfl, hoD⟩⟩
      exact PySem.W.kia_one (PySem.W.kitx_exc T.cl T.ga T.gg T.sub T.ca T.cn T.ct T.cm) I.kIn J e (fun z => nomatch z) fun tk => ⟨.bl b, H, I.kept (t' := tk) fun _ _ z => z, rfl, q⟩
end
section
variable {X : Cx}
/-- X(), an own exception class without own __init__, as a value -/
theorem pe_exc0 {C : Addr} {bmB : List Value} {B newId initId : String} {x : Str} {p pos : Pos} (F : ExcBaseFacts B newId initId bmB) (q : PySem.W.excIn X.K C bmB newId = true) (gC : X.mg x = some (.ref C)) (kC : PySem.W.keepIn X.K (.ref C) = true) (hg : Gl X x)
    (hdb : (x == ("__debug__" : Str)) = false := by decide) :
    PE X (.Call (.Name x p) [] [] pos) (fun σ H Q => ∀ a, H a = none → Q (.ref a) (upd H a (exv C none a))) := by
  refine ⟨fun pins s σ H Q I h => ?_⟩
  refine wpAny_Call_Name_kw (ld_glob I hg gC ?_ hdb)
  have I1 := I
  refine PySem.W.callWith_K0 I.kIn kC ?_
  show wpAny _ _ (call (.ref C) []) _ _ _
  obtain ⟨bm, N, nm, qn, bs, hdct, sn, sub, ab, col, dd, k0, k1, k2, k3, k5, mN, hC, hN, hni, T⟩ := exc_obj I1.kIn q
  refine wpAny_call_exc_subT F T hC hN hni (fun h' a hm => ?_) (by show 0 ≤ sizeLine; exact Nat.zero_le _)
  have hn : H a = none := I1.hok.gone hm.new
  obtain ⟨t, ht, _, _⟩ := hm.there
  exact ⟨.ref a, upd H a (exv C none a), I1.laidN hm.keeps hm.new hn (exv_ok ht ⟨rfl, rfl⟩ rfl), rfl, h a hn⟩
end
end XE
set_option linter.all false
set_option maxRecDepth 100000
set_option maxHeartbeats 4000000
namespace XE
open PySem PySem.Spec PyProof.Rows L2 NdefX
/-! ### {xs} in an f-string, xs a list of texts: some bounded text, whatever is under way -/
section
variable {prog : Program} {w : World} {A : Around} {E : Value → Shared → Prop} {s : Shared} {a : Addr} {oa : Obj} {na : Nat}
theorem repr_nth : ∀ {l : List Value} {ts : List Str} {i : Nat} {y : Value}, ReprAll prog w l ts → l[i]? = some y → ∃ t, ts[i]? = some t ∧ ReprIs prog w y t
  | _, _, i, y, .nil, h => by simp at h
  | _, _, 0, y, .cons h1 _, h => by
    cases h
    exact ⟨_, rfl, h1⟩
  | _, _, i + 1, y, .cons _ h2, h => repr_nth (i := i) h2 (by simpa using h)
theorem list_repr_two {M : Model} {Q : Fin → Shared → Prop} {x : Value} {l : List Value} (hget : s.heap.get? a = some oa) (hd : oa.data = .seq (x :: l).toArray na)
    (h0 : Q (.done (.ret (.str "[...]" s.toks))) { s with toks := s.toks + 1 })
    (h : wpAny M A (do again (.builtin "list.__repr__.loop" ⟨[.ref a, rawInt 0, ← newList [], rawInt 0], []⟩)) Q E s) : wpAny M A (Builtin.listReprAt 0 ⟨[.ref a], []⟩) Q E s := by
  intro Γ p hΓ
  have h1 := h Γ p hΓ
  unfold Builtin.listReprAt
  simp [slotArgs, Builtin.List.listItems, seqItems?, Sem.wp_load_of (h := hget), hd, stack]
  show Sem.wp M Γ (if (Γ.below.any _) = true then _ else _) _ _ p s
  split
  · simp [rule, retStr, ret]
    exact h0
  · exact h1
theorem list_text_any {Q : Value → Shared → Prop} {ts : List Str} {its : List Value} (hTy : s.TypeIs (.ref a) "list") (ha : s.heap.get? a = some oa) (hda : oa.data = .seq its.toArray na) (hT : ReprAll prog w its ts) (hsz : (listText ts).length ≤ sizeLine)
    (hQ : ∀ h' m u tk, (∀ b o, s.heap.get? b = some o → h'.get? b = some o) → m.length ≤ (listText ts).length + 5 → Q (.str m u) { s with heap := h', toks := tk }) :
    wpAny (model prog w) A (call (.builtin "list.__repr__") [.ref a]) Q E s := by
  cases its with
  | nil =>
    refine call_list_repr_empty hTy ha hda ?_
    exact hQ s.heap _ _ _ (fun _ _ e => e) (Nat.le_trans (by decide +kernel : (Str.ofString "[]").length ≤ 5) (Nat.le_add_left _ _))
  | cons x l =>
    have hlen : ts.length = (x :: l).toArray.size := by
      rw [hT.length_eq]
      simp
    refine wpAny_call (codeAny_call_builtin F.slot_list_repr.plain F.entry_list_repr (F.slot_list_repr.check _ _ _ _ _ _ _ _ hTy (F.args_list_repr_1 _) ?_))
    refine list_repr_two ha hda ?_ ?_
    · exact hQ s.heap _ _ _ (fun _ _ e => e) (Nat.le_trans (by decide +kernel : (Str.ofString "[...]").length ≤ 5) (Nat.le_add_left _ _))
    · refine wpAny_bind (m := newList []) (wpAny_newObj_type ?_)
      refine wpAny_pure ⟨F.quiet_list_repr_loop _, ?_⟩
      refine codeAny_list_repr_start (P := s.heap.objs.size) (Nat.ne_of_lt (Heap.lt_size ha)) hlen ?_ (Heap.get?_push_of_some _ ha) hda (Heap.get?_push_size _ rfl) (fun h' u tk hk => ?_) (by show 0 + (listText ts).length ≤ sizeLine; omega)
      · intro i y hy
        exact repr_nth hT (by simpa using hy)
      · exact hQ h' _ u tk (fun b o e => hk b o (Nat.ne_of_lt (Heap.lt_size e)) (Heap.get?_push_of_some _ e)) (Nat.le_add_right _ _)
/-- {xs} -/
theorem fmt_listT {Q : Value → Shared → Prop} {ts : List Str} {its : List Value} (hu : A.units + 2 < cLine) (ha : s.heap.get? a = some oa) (hc : oa.cls = .type "list") (hda : oa.data = .seq its.toArray na) (hT : ReprAll prog w its ts) (hsz : (listText ts).length ≤ sizeLine)
    (hQ : ∀ h' m u tk, (∀ b o, s.heap.get? b = some o → h'.get? b = some o) → m.length ≤ (listText ts).length + 5 → Q (.str m u) { s with heap := h', toks := tk }) : wpAny (model prog w) A (formatField (.ref a) Str.empty) Q E s :=
  wpAny_formatField_slot (fun _ _ => nofun) hu ⟨oa, ha, hc⟩ F.slot_list_format F.slot_list_str F.slot_list_repr.toG
    (list_text_any (s := { s with toks := s.toks + 1 }) ⟨oa, ha, hc⟩ ha hda hT hsz fun h' m u tk k hm => ⟨m, u, rfl, hQ h' m u tk k hm⟩)
end
theorem piled_sum : ∀ ts : List Str, piled ts = (ts.map (·.length)).sum + 2 * ts.length
  | [] => rfl
  | t :: ts => by
    rw [piled_cons, piled_sum ts, List.map_cons, List.sum_cons, List.length_cons]
    omega
theorem listText_le (ts : List Str) : (listText ts).length ≤ piled ts + 3 := by
  have z := listText_len_le ts
  rw [piled_sum]
  omega
section
variable {X : Cx}
/-- {xs}, xs a list of texts: some text, no longer than ten times its signs and a little -/
def tFmtL (K : PySem.W.Frag) (te : TE) : TE := fun σ H Q => te σ H fun x H1 => ∃ (a : Addr) (l : List Str), x = .ref a ∧ SqL K H1 a (l.map V.str) ∧ (∀ y ∈ l, ∀ c ∈ y.cps.toList, c < 16 ^ 8) ∧ fmtCost l + 8 ≤ sizeLine ∧ ∀ m : Str, m.length ≤ fmtCost l + 8 → Q (.str m) H1
theorem pe_fmtL {e : Expr} {te : TE} {pos : Pos} {k : Nat} (hr : Room k X.A) (he : PE X e te) : PE X (.FormattedValue e (-1) none pos) (tFmtL X.K te) := by
  refine ⟨fun pins s σ H Q I h => wpAny_FormattedValue_plain (thn (he.run pins s σ H _ I h) fun v s1 hv => ?_)⟩
  obtain ⟨x, H1, I1, r1, a, l, rfl, ht, hc, hz, q⟩ := hv
  cases r1
  obtain ⟨its, rv, hpl, _⟩ := I1.list ht
  have hp := fmt_piled l hc
  have htx := listText_le (l.map reprText)
  have hu := hr.units
  obtain ⟨o, n, ho, hcl, _, hd⟩ := hpl
  refine fmt_listT (ts := l.map reprText) (by omega) ho hcl hd (repr_all rv fun y hy => ?_) (by omega) fun h' m u tk k hm => ⟨.str m, H1, I1.kept k, ⟨u, rfl⟩, q m (by omega)⟩
  have h1 := StrLaws.reprText_len y (hc y hy)
  have h2 := fmtCost_mem hy
  omega
end
end XE
set_option linter.all false
set_option maxRecDepth 100000
set_option maxHeartbeats 4000000
namespace XE
open PySem PySem.Spec PyProof.Rows L2 NdefX
/-! ### an __init__ that captures its class, as it stands behind the top -/
abbrev nfOf (qual : Str) (st : Stmt) (cda cc : Addr) : NF := ⟨"__init__", qual, defArgs st, defBody st, defScope st, [(("__class__" : Str), cc)], cda⟩
structure FunC (K : PySem.W.Frag) (qual : Str) (st : Stmt) (f cda cc C : Addr) (fd : FuncData) : Prop where
  ex : ∃ (oc : Value) (od : Option Addr) (kV doc pm : Value) (an : Option Addr) (ct : Value) (osl : Array (Option Value)),
    fd = PySem.W.fnX "__init__" qual (defArgs st) (defBody st) (defScope st) [(("__class__" : Str), cc)] .none kV doc pm an (.ref cda) ct ∧ K.lookup f = some ⟨oc, od, .func fd, osl⟩
  cd : PySem.W.codeIn K (.ref cda) qual = true
  cell : ∃ cl cld csl, K.lookup cc = some ⟨cl, cld, .cell (some (.ref C)), csl⟩
section
variable {P : Program} {w : World} {K : PySem.W.Frag} {mg : Str → Option Value} {base : Heap}
theorem FunC.ok {qual : Str} {st : Stmt} {f cda cc C : Addr} {fd : FuncData} {N ps : List Str} {k : Nat} {sp : Sp} (F : FunC K qual st f cda cc C fd) (S : NScope N ps ["__class__"] (defScope st)) (len : ∀ vs H Q E, sp vs H Q E → vs.length = ps.length)
    (hbody : ∀ (A : Around) (outer : List Env) (s : Shared) (H : Hp) (vs : List V) (Q : VK) (E : XK), Room k (A.deeper (envF (nfOf qual st cda cc) f s.heap.objs.size)) → sp vs H Q E →
      ∃ t, PSsA (ncx CX0 P w K mg base N (nfOf qual st cda cc) f A outer s H E) (.func (defBody st) (ncx CX0 P w K mg base N (nfOf qual st cda cc) f A outer s H E).env) (defBody st) t ∧ t { nx := fun _ H' => Q .non H', rt := Q } (startF N vs [some (.ref C)]) H) :
    FnOk P w K mg base CX0 (k + 1) f fd ps sp := by
  obtain ⟨oc, od, kV, doc, pm, an, ct, osl, rfl, lk⟩ := F.ex
  obtain ⟨cl, cld, csl, hcc⟩ := F.cell
  exact fn_ofC (F := nfOf qual st cda cc) lk rfl F.cd hcc S len hbody
theorem FunC.binds {qual : Str} {st : Stmt} {f cda cc C : Addr} {fd : FuncData} {ps : List Str} (F : FunC K qual st f cda cc C fd)
    (h : ∀ (kV doc pm : Value) (an : Option Addr) (ct : Value) (us : List Value), us.length = ps.length → bindArgs (PySem.W.fnX "__init__" qual (defArgs st) (defBody st) (defScope st) [(("__class__" : Str), cc)] .none kV doc pm an (.ref cda) ct) ⟨us, []⟩ = pure (ps.zip us)) : Binds K fd ps [] := by
  obtain ⟨oc, od, kV, doc, pm, an, ct, osl, rfl, lk⟩ := F.ex
  exact .all (h kV doc pm an ct)
end
/-! ### f-strings, by a running bound of their signs -/
def FmtI (v : V) : Prop := ∃ i : Int, v = .int i ∧ i.natAbs.log2 < 1920
def FmtS (v : V) : Prop := ∃ y : Str, v = .str y ∧ (reprText y).length ≤ 2000
theorem fits5 {n : Nat} (h : n ≤ 100000) : n ≤ sizeLine := by
  rw [sizeLine_eq]
  omega
section
variable {ts : List TE} {acc : Str} {σ : L2.St} {H : Hp} {Q : Str → Hp → Prop} {n : Nat}
theorem js_c (m : Nat) {z : Str} (ha : acc.length ≤ n) (hz : z.length ≤ m) (hs : n + m ≤ 100000) (k : ∀ a' : Str, a'.length ≤ n + m → tJs ts a' σ H Q) : tJs (tC (.str z) :: ts) acc σ H Q := by
  have e : (acc ++ z).length ≤ n + m := by
    rw [strLen_append]
    omega
  exact ⟨z, rfl, fits5 (Nat.le_trans e hs), k _ e⟩
theorem js_i (i : Nat) {v : V} (ha : acc.length ≤ n) (hv : σ[i]? = some (some v)) (g : FmtI v) (hs : n + 2000 ≤ 100000) (k : ∀ a' : Str, a'.length ≤ n + 2000 → tJs ts a' σ H Q) : tJs (tFmt (tVar i) :: ts) acc σ H Q := by
  obtain ⟨j, rfl, hj⟩ := g
  have e : (acc ++ Str.ofString (toString j)).length ≤ n + 2000 := by
    have := int_text_len_1921 hj
    rw [strLen_append]
    omega
  exact ⟨_, hv, .inr ⟨j, rfl, hj, _, rfl, fits5 (Nat.le_trans e hs), k _ e⟩⟩
theorem js_s (i : Nat) {v : V} (ha : acc.length ≤ n) (hv : σ[i]? = some (some v)) (g : FmtS v) (hs : n + 2000 ≤ 100000) (k : ∀ a' : Str, a'.length ≤ n + 2000 → tJs ts a' σ H Q) : tJs (tFmtR (tVar i) :: ts) acc σ H Q := by
  obtain ⟨y, rfl, hy⟩ := g
  have e : (acc ++ reprText y).length ≤ n + 2000 := by
    rw [strLen_append]
    omega
  exact ⟨_, hv, .inl ⟨y, rfl, fits5 (Nat.le_trans hy (by omega)), _, rfl, fits5 (Nat.le_trans e hs), k _ e⟩⟩
theorem js_nil (k : ∀ a' : Str, Q a' H) : tJs [] acc σ H Q := k _
end
theorem str0 : (Str.empty : Str).length ≤ 0 := Nat.le_refl _
/-- __init__ of an error with the one field f: P is asked of what it is handed -/
def spErr (C : Addr) (f : Str) (P : V → Prop) : Sp := fun vs H Q _ => ∃ (a : Addr) (v : V), vs = [.ref a, v] ∧ H a = some (exo a C none) ∧ P v ∧ ∀ dx : Addr, H dx = none → dx ≠ a → Q .non (upd (upd H dx (exd dx [(f, v)])) a (exo a C (some dx)))
/-! ### an error of one field made as a value -/
/-- the class at C has an own __init__ that keeps sp -/
def Ini (P : Program) (w : World) (K : PySem.W.Frag) (mg : Str → Option Value) (base : Heap) (C : Addr) (ps : List Str) (sp : Sp) : Prop := ∃ (fI : Addr) (fd : FuncData),
  PySem.W.findIn K (.ref C) "__init__" = some (some (.ref fI)) ∧ PySem.W.typeIn K (.ref fI) = some (.type "function") ∧ FnOk P w K mg base CX0 1 fI fd ps sp ∧ Binds K fd ps []
section
variable {C : Addr} {fld : Str}
/-- what raising an error of one field asks -/
theorem rai_asks {P : V → Prop} {v : V} {H1 : Hp} {Q : XK} (hv : P v) (q : ∀ (d : Addr) (H' : Hp), Same H1 H' → H1 d = none → H' d = some (.xd [(fld, v)]) → Q (.ref C) (some d) H') :
    [v].length ≤ 1000 ∧ ∀ a, H1 a = none → spErr C fld P (.ref a :: ([v] ++ [])) (upd H1 a (exo a C none))
      (fun u H2 => u = .non ∧ ∃ (d : Addr) (fs : List (Str × V)), H2 a = some (exo a C (some d)) ∧ H2 d = some (exd d fs) ∧ H1 d = none ∧ Q (.ref C) (some d) (upd (del H2 a) d (.xd fs))) (fun _ _ _ => False) := by
  refine ⟨(by decide : 1 ≤ 1000), fun a ha => ⟨a, v, rfl, upd_same, hv, fun d hd hne => ⟨rfl, d, _, upd_same, (upd_ne hne).trans upd_same, ?_, ?_⟩⟩⟩
  · exact (upd_ne hne).symm.trans hd
  · have hd0 : H1 d = none := (upd_ne hne).symm.trans hd
    refine q d _ (fun b o e => ?_) hd0 upd_same
    rw [upd_ne (ne_of_none e hd0), del_ne (ne_of_none e ha), upd_ne (ne_of_none e ha), upd_ne (ne_of_none e hd0), upd_ne (ne_of_none e ha)]
    exact e
/-- what making one as a value asks -/
theorem err_asks {P : V → Prop} {v : V} {H1 : Hp} {Q : VK} (hv : P v) (q : ∀ (a d : Addr) (H' : Hp), Same H1 H' → H1 a = none → H' a = some (exv C (some d) a) → H' d = some (.xd [(fld, v)]) → Q (.ref a) H') :
    [v].length ≤ 1000 ∧ ∀ a, H1 a = none → spErr C fld P (.ref a :: ([v] ++ [])) (upd H1 a (exo a C none))
      (fun u H2 => u = .non ∧ ∃ (d : Addr) (fs : List (Str × V)), H2 a = some (exo a C (some d)) ∧ H2 d = some (exd d fs) ∧ H1 d = none ∧
        (fun (cls : Value) (d : Option Addr) (H' : Hp) => ∃ C, cls = .ref C ∧ ∀ a, H' a = none → Q (.ref a) (upd H' a (exv C d a))) (.ref C) (some d) (upd (del H2 a) d (.xd fs))) (fun _ _ _ => False) :=
  rai_asks (C := C) (fld := fld) (H1 := H1) (Q := fun (cls : Value) (d : Option Addr) (H' : Hp) => ∃ C, cls = .ref C ∧ ∀ a, H' a = none → Q (.ref a) (upd H' a (exv C d a))) hv fun d H' s hd e => ⟨C, rfl, fun a ha => q a d _ (fun b o z => (upd_ne (ne_of_none (s _ _ z) ha)).trans (s _ _ z)) (s.free ha) upd_same ((upd_ne (ne_of_none e ha)).trans e)⟩
end
/-- an argument list's reading, open to whatever follows from what it was read for -/
theorem pa_up {X : Cx} {es : List Expr} {ta : TA} (h : PA X es ta) : PA X es (fun σ H K => ∃ R : List V → Hp → Prop, ta σ H R ∧ ∀ vs H1, R vs H1 → K vs H1) := by
  refine ⟨fun pos ps s0 σ H K I0 hK => ?_⟩
  obtain ⟨R, hR, up⟩ := hK
  exact thn (h.run pos ps s0 σ H R I0 hR) fun us s1 ⟨vs, H1, J, r, z⟩ => ⟨vs, H1, J, r, up vs H1 z⟩
theorem pe_imp {X : Cx} {e : Expr} {t t' : TE} (h : PE X e t) (i : ∀ σ H Q, t' σ H Q → t σ H Q) : PE X e t' := ⟨fun ps s0 σ H Q I0 q => h.run ps s0 σ H Q I0 (i σ H Q q)⟩
def rErr (C : Addr) (f : Str) (P : V → Prop) : List V → Hp → VK → Prop
  | [v], H1, Q => P v ∧ ∀ (a d : Addr) (H' : Hp), Same H1 H' → H1 a = none → H' a = some (exv C (some d) a) → H' d = some (.xd [(f, v)]) → Q (.ref a) H'
  | _, _, _ => False
def rRai (C : Addr) (f : Str) (P : V → Prop) : List V → Hp → XK → Prop
  | [v], H1, Q => P v ∧ ∀ (d : Addr) (H' : Hp), Same H1 H' → H1 d = none → H' d = some (.xd [(f, v)]) → Q (.ref C) (some d) H'
  | _, _, _ => False
section
variable {X : Cx} {C : Addr} {f x : Str} {P : V → Prop} {e : Expr} {te : TE} {p pos : Pos} {k : Nat}
/-- X(e), of one field, as a value -/
theorem pe_err (I : Ini X.prog X.w X.K X.mg X.base C ["self", f] (spErr C f P)) (T : OexC X.K C) (hr : Room (k + 2) X.A) (hm : X.mg x = some (.ref C)) (ha : PE X e te) (hg : Gl X x := by rfl)
    (hdb : (x == ("__debug__" : Str)) = false := by decide) (hs : starEach [e] X.env = (false, eval e X.env) :: starEach [] X.env := by rfl) : PE X (.Call (.Name x p) [e] [] pos) (fun σ H Q => te σ H fun v H1 => rErr C f P [v] H1 Q) := by
  obtain ⟨fI, fd, i1, i2, i3, i4⟩ := I
  refine pe_imp (pe_of_mk (pmk_oex (dvs := []) T i1 i2 i3 (hr.mono (by omega)) i4 .nil pass0 hg hm (pa_up (pa_cons ha pa_nil hs)) hdb hs (by rfl))) fun σ H Q h => ⟨fun vs H1 => rErr C f P vs H1 Q, h, fun vs H1 hR => ?_⟩
  match vs, hR with
  | [v], ⟨hv, q⟩ => exact err_asks hv q
/-- X(e), of one field, raised -/
theorem pmk_err (I : Ini X.prog X.w X.K X.mg X.base C ["self", f] (spErr C f P)) (T : OexC X.K C) (hr : Room (k + 2) X.A) (hm : X.mg x = some (.ref C)) (ha : PE X e te) (hg : Gl X x := by rfl)
    (hdb : (x == ("__debug__" : Str)) = false := by decide) (hs : starEach [e] X.env = (false, eval e X.env) :: starEach [] X.env := by rfl) : PMk X (.Call (.Name x p) [e] [] pos) (fun σ H Q => te σ H fun v H1 => rRai C f P [v] H1 Q) := by
  obtain ⟨fI, fd, i1, i2, i3, i4⟩ := I
  intro ps s0 σ H Q I0 h
  refine pmk_oex (dvs := []) T i1 i2 i3 (hr.mono (by omega)) i4 .nil pass0 hg hm (pa_up (pa_cons ha pa_nil hs)) hdb hs (by rfl) ps s0 σ H Q I0 ⟨fun vs H1 => rRai C f P vs H1 Q, h, fun vs H1 hR => ?_⟩
  match vs, hR with
  | [v], ⟨hv, q⟩ => exact rai_asks hv q
end
end XE
set_option linter.all false
set_option maxRecDepth 100000
set_option maxHeartbeats 4000000
namespace XE
open PySem PySem.Spec PyProof.Rows L2 NdefX
/-! ### the classes' facts, by one look each -/
def b1 (K : PySem.W.Frag) (C : Addr) : Bool := decide (PySem.W.findIn K (.ref C) "__setattr__" = some (some (.builtin "object.__setattr__"))) && decide (PySem.W.subIn K (.ref C) (.type "BaseException") = some true) && decide (PySem.W.typeIn K (.ref C) = some (.type "type")) && PySem.W.keepIn K (.ref C)
def b2 (K : PySem.W.Frag) (C : Addr) : Bool := decide (PySem.W.findIn K (.ref C) "__getattribute__" = some (some (.builtin "BaseException.__getattribute__"))) && decide (PySem.W.findIn K (.ref C) "__getattr__" = some none) && PySem.W.hasDictIn K C && decide (PySem.W.findIn K (.ref C) "__class__" = some (some (.builtin "object.__class__"))) && decide (PySem.W.mroIn K C (.type "object") = some true)
def b0 (K : PySem.W.Frag) : Bool := decide (PySem.W.specialIn K (.builtin "object.__class__") "__get__" = some (some (.builtin "getset_descriptor.__get__"))) && decide (PySem.W.takesIn K (.builtin "object.__class__") = some true) && decide (PySem.W.nsIn K cStatics "thirdparty.any" = some none)
def b3 (K : PySem.W.Frag) (C : Addr) : Bool := decide (PySem.W.ks_superIn K C C "__init__" = some (some (.builtin "ValueError.__init__"))) && decide (PySem.W.subIn K (.ref C) (.type "ValueError") = some true) && decide (PySem.W.mroIn K C (.ref C) = some true)
def b4 (K : PySem.W.Frag) (C f cda : Addr) (fld qual : Str) : Bool := decide (PySem.W.findIn K (.ref C) fld = some none) && decide (PySem.W.findIn K (.ref C) "__init__" = some (some (.ref f))) && decide (PySem.W.typeIn K (.ref f) = some (.type "function")) && PySem.W.codeIn K (.ref cda) qual
/-- the class at C as the top made it -/
def ClsAt (K : PySem.W.Frag) (C : Addr) : Prop := ∃ nm q N bs bm sn sub ab col dd k0 k1 k2 k3 k5, K.lookup C = some (excClassObj nm q C N bs bm true sn sub ab col dd k0 k1 k2 k3 k5 "ValueError.__new__") ∧ PySem.HandSPX.refsVE bm = true
variable {K : PySem.W.Frag} {C f cda cc : Addr} {fld qual : Str}
theorem oex_of (h : b1 K C = true) (c : ClsAt K C) : OexC K C := by
  unfold b1 at h
  simp only [Bool.and_eq_true, decide_eq_true_eq] at h
  obtain ⟨⟨⟨h1, h2⟩, h3⟩, h4⟩ := h
  exact ⟨c, h1, h2, h3, h4⟩
theorem exA_of (h0 : b0 K = true) (h1 : b1 K C = true) (h : b2 K C = true) : ExA K C := by
  unfold b0 at h0
  unfold b1 at h1
  unfold b2 at h
  simp only [Bool.and_eq_true, decide_eq_true_eq] at h0 h1 h
  obtain ⟨⟨z1, z2⟩, _⟩ := h0
  obtain ⟨⟨⟨_, y2⟩, _⟩, _⟩ := h1
  obtain ⟨⟨⟨⟨x1, x2⟩, x3⟩, x4⟩, x5⟩ := h
  exact ⟨x1, x2, y2, x3, x4, z1, z2, x5⟩
/-- the objects that the class's own __init__ rests on -/
structure InAt (P : Program) (K : PySem.W.Frag) (st : Stmt) (qual : Str) (C f cda cc : Addr) (fd : FuncData) : Prop where
  fn : ∃ (oc : Value) (od : Option Addr) (kV doc pm : Value) (an : Option Addr) (ct : Value) (osl : Array (Option Value)), fd = PySem.W.fnX "__init__" qual (defArgs st) (defBody st) (defScope st) [(("__class__" : Str), cc)] .none kV doc pm an (.ref cda) ct ∧ K.lookup f = some ⟨oc, od, .func fd, osl⟩
  ar : ∃ ar, ((defArgs st).posonlyargs ++ (defArgs st).args).head? = some ar ∧ ar.arg = ("self" : Str)
  code : ∃ ccl cdd vs ccs file tf, K.lookup cda = some ⟨ccl, cdd, .fields vs, ccs⟩ ∧ vs[2]? = some (.str file tf) ∧ ((P.main.file : Str) == file) = true
  cell : ∃ cl cld csl, K.lookup cc = some ⟨cl, cld, .cell (some (.ref C)), csl⟩
theorem sup_of {P : Program} {mg : Str → Option Value} {st : Stmt} {fd : FuncData} (h0 : b0 K = true) (h1 : b1 K C = true) (h3 : b3 K C = true) (c : ClsAt K C) (I : InAt P K st qual C f cda cc fd) (hs : mg "super" = none) (ht : (P.main.scope.names.lookup ("super" : Str)).isSome = false) : SupK P K mg C f cda cc := by
  unfold b0 at h0
  unfold b3 at h3
  simp only [Bool.and_eq_true, decide_eq_true_eq] at h0 h3
  obtain ⟨_, z3⟩ := h0
  obtain ⟨⟨y1, y2⟩, y3⟩ := h3
  obtain ⟨oc, od, kV, doc, pm, an, ct, osl, rfl, l⟩ := I.fn
  obtain ⟨ar, a1, a2⟩ := I.ar
  exact ⟨oex_of h1 c, I.code, I.cell, ⟨oc, od, _, osl, ar, l, a1, a2⟩, hs, z3, y1, y2, y3, ht⟩
theorem func_of {P : Program} {st : Stmt} {fd : FuncData} (h4 : b4 K C f cda fld qual = true) (I : InAt P K st qual C f cda cc fd) : FunC K qual st f cda cc C fd ∧ PySem.W.findIn K (.ref C) fld = some none ∧ PySem.W.findIn K (.ref C) "__init__" = some (some (.ref f)) ∧ PySem.W.typeIn K (.ref f) = some (.type "function") := by
  unfold b4 at h4
  simp only [Bool.and_eq_true, decide_eq_true_eq] at h4
  obtain ⟨⟨⟨x1, x2⟩, x3⟩, x4⟩ := h4
  exact ⟨⟨I.fn, x4, I.cell⟩, x1, x2, x3⟩
end XE
set_option linter.all false
set_option maxRecDepth 100000
set_option maxHeartbeats 4000000
/-! The source of all draws: a dict of the cells, the turn, what is left of a large cell. What is drawn is told by its range alone. -/
namespace XP
open PySem L2
abbrev kC : Key := Sum.inr ("cells" : Str)
abbrev kT : Key := Sum.inr ("turn" : Str)
abbrev kL : Key := Sum.inr ("left" : Str)
theorem nCT : ¬ (kC = kT) := by decide +kernel
theorem nCL : ¬ (kC = kL) := by decide +kernel
theorem nTL : ¬ (kT = kL) := by decide +kernel
def kvs (c : Addr) (t l : Int) : List (Key × V) := [(kC, .ref c), (kT, .int t), (kL, .int l)]
theorem vC (c : Addr) (t l : Int) : valV (kvs c t l) kC = some (.ref c) := valV_pos rfl
theorem vT (c : Addr) (t l : Int) : valV (kvs c t l) kT = some (.int t) := (valV_neg nCT).trans (valV_pos rfl)
theorem vL (c : Addr) (t l : Int) : valV (kvs c t l) kL = some (.int l) := (valV_neg nCL).trans ((valV_neg nTL).trans (valV_pos rfl))
theorem pT (c : Addr) (t l u : Int) : putK (kvs c t l) kT (.int u) = kvs c u l := by
  have h1 : ¬ Str.ofString "cells" = Str.ofString "turn" := by decide +kernel
  have h2 : ¬ Str.ofString "left" = Str.ofString "turn" := by decide +kernel
  unfold putK kvs
  simp [h1, h2]
theorem pL (c : Addr) (t l u : Int) : putK (kvs c t l) kL (.int u) = kvs c t u := by
  have h1 : ¬ Str.ofString "cells" = Str.ofString "left" := by decide +kernel
  have h2 : ¬ Str.ofString "turn" = Str.ofString "left" := by decide +kernel
  unfold putK kvs
  simp [h1, h2]
/-- the pen at p, its cells at c; T: no more turns were taken -/
def Pen (H : Hp) (p c : Addr) (T : Nat) : Prop := ∃ (cs : List Int) (t l : Int), H p = some (.dK (kvs c t l)) ∧ H c = some (.lst (cs.map V.int)) ∧ cs.length ≤ 63 ∧ 0 ≤ t ∧ t ≤ (T : Int) ∧ 0 ≤ l
def But (p : Addr) (H H' : Hp) : Prop := ∀ b o, H b = some o → b ≠ p → H' b = some o
theorem But.refl (p : Addr) (H : Hp) : But p H H := fun _ _ h _ => h
theorem But.trans {p : Addr} {H H1 H2 : Hp} (a : But p H H1) (b : But p H1 H2) : But p H H2 := fun c o h n => b c o (a c o h n) n
theorem But.upd (p : Addr) (H : Hp) (o : HO) : But p H (upd H p o) := fun b u h n => (upd_ne n).trans h
theorem But.same {p : Addr} {H H' : Hp} (s : Same H H') : But p H H' := fun b o h _ => s b o h
theorem Same.new {H : Hp} {a : Addr} {o : HO} (h : H a = none) : Same H (upd H a o) := fun b u e => (upd_ne (ne_of_none e h)).trans e
theorem Pen.mono {H : Hp} {p c : Addr} {T U : Nat} (h : Pen H p c T) (le : T ≤ U) : Pen H p c U := by
  obtain ⟨cs, t, l, h1, h2, h3, h4, h5, h6⟩ := h
  exact ⟨cs, t, l, h1, h2, h3, h4, by omega, h6⟩
theorem Pen.same {H H' : Hp} {p c : Addr} {T : Nat} (h : Pen H p c T) (s : Same H H') : Pen H' p c T := by
  obtain ⟨cs, t, l, h1, h2, r⟩ := h
  exact ⟨cs, t, l, s _ _ h1, s _ _ h2, r⟩
theorem Pen.ne {H : Hp} {p c : Addr} {T : Nat} (h : Pen H p c T) : c ≠ p := by
  obtain ⟨cs, t, l, h1, h2, r⟩ := h
  exact ne_of h2 h1 (by intro z; cases z)
theorem Pen.at {H : Hp} {p c : Addr} {T : Nat} (h : Pen H p c T) : ∃ o, H p = some o := by
  obtain ⟨cs, t, l, h1, r⟩ := h
  exact ⟨_, h1⟩
theorem Pen.not {H : Hp} {p c a : Addr} {T : Nat} (h : Pen H p c T) (e : H a = none) : a ≠ p := by
  obtain ⟨o, h1⟩ := h.at
  exact Ne.symm (ne_of_none h1 e)
/-- a number below n is drawn -/
def spDraw : Sp := fun vs H Q _ => ∃ (p c : Addr) (T : Nat) (n : Int), vs = [.ref p, .int n] ∧ Pen H p c T ∧ T ≤ 1000000 ∧ 0 < n ∧ n.natAbs < 2 ^ 250 ∧
  ∀ (r : Int) (H' : Hp), 0 ≤ r → r < n → Pen H' p c (T + 1) → But p H H' → Q (.int r) H'
/-- a new pen over the script -/
def spBegun (K : PySem.W.Frag) : Sp := fun vs H Q _ => ∃ (a : Addr) (ns : List Int), vs = [.ref a] ∧ SqL K H a (ns.map V.int) ∧ ns.length ≤ 63 ∧
  ∀ (p c : Addr) (H' : Hp), H p = none → Pen H' p c 0 → Same H H' → Q (.ref p) H'
theorem eqv_nil_false {cs : List Int} (h : PyData.eqv (.list (cs.map PyData.int)) (.list []) = false) : cs ≠ [] := by
  intro z
  subst z
  revert h
  decide
theorem dp_ints {K : PySem.W.Frag} {H : Hp} : ∀ cs : List Int, DpAll K H (cs.map V.int) (cs.map PyData.int)
  | [] => .nil
  | n :: r => .cons (.int n) (dp_ints r)
theorem map_erase {α β : Type} (f : α → β) : ∀ (l : List α) (k : Nat), (l.map f).eraseIdx k = (l.eraseIdx k).map f
  | [], _ => by simp
  | _ :: _, 0 => by simp
  | x :: l, k + 1 => by simp [map_erase f l k]
theorem erase_perm {α : Type} : ∀ {l : List α} {k : Nat} (h : k < l.length), (l[k] :: l.eraseIdx k).Perm l
  | x :: l, 0, _ => by simp
  | x :: l, k + 1, h => by
    have q := erase_perm (l := l) (k := k) (by simpa using h)
    have e : ((x :: l)[k + 1] :: (x :: l).eraseIdx (k + 1)) = l[k]'(by simpa using h) :: x :: l.eraseIdx k := by simp
    rw [e]
    exact (List.Perm.swap x _ _).trans (q.cons x)
/-! ### repr of an int, of a text -/
def RepOf (v : V) (z : Str) : Prop := (∃ i : Int, v = .int i ∧ i.natAbs.log2 < 1920 ∧ z = Str.ofString (toString i)) ∨ ∃ y : Str, v = .str y ∧ (reprText y).length ≤ sizeLine ∧ z = reprText y
theorem call_repr {X : Cx} : CallR X (.builtin "repr") (fun xs H Q => ∃ v z, xs = [v] ∧ RepOf v z ∧ Q (.str z) H) := by
  intro pins s σ H xs us Q I r h
  obtain ⟨v, z, rfl, hz, q⟩ := h
  cases r with
  | cons r1 r2 =>
    cases r2
    rcases hz with ⟨i, rfl, hl, rfl⟩ | ⟨y, rfl, hl, rfl⟩
    · obtain ⟨t, rfl⟩ := r1
      exact PySem.P.repr_of_int hl ⟨.str _, H, I.tok _, ⟨_, rfl⟩, q⟩
    · obtain ⟨t, rfl⟩ := r1
      exact PySem.P.repr_of_str (h := ⟨.str _, H, I.tok _, ⟨_, rfl⟩, q⟩) hl
/-! ### lists of texts -/
def Txs (ys : List Str) : Prop := ∀ y ∈ ys, PyData.strOk y = true
theorem Txs.perm {xs ys : List Str} (h : Txs xs) (p : ys.Perm xs) : Txs ys := fun y hy => h y (p.mem_iff.mp hy)
theorem lay_strs : ∀ {ys : List Str}, Txs ys → PyData.canLayAll0 (ys.map PyData.str) = true
  | [], _ => rfl
  | y :: r, h => by
    have h1 := h y List.mem_cons_self
    have h2 := lay_strs (ys := r) fun z hz => h z (List.mem_cons_of_mem _ hz)
    simp [PyData.canLayAll0, PyData.canLay0, h1, h2]
theorem depth_strs : ∀ ys : List Str, PyData.depthAll (ys.map PyData.str) = 0
  | [] => rfl
  | _ :: r => by simp [PyData.depthAll, PyData.depth, depth_strs r]
theorem shaped_strs {ys : List Str} (h : Txs ys) : SeqAt.shaped (.list (ys.map PyData.str)) = true := by
  simp [SeqAt.shaped, PyData.canLay0, PyData.depth, lay_strs h, depth_strs]
theorem shaped_strsT {ys : List Str} (h : Txs ys) : SeqAt.shaped (.tuple (ys.map PyData.str)) = true := by
  simp [SeqAt.shaped, PyData.canLay0, PyData.depth, lay_strs h, depth_strs]
theorem dp_strs {K : PySem.W.Frag} {H : Hp} : ∀ ys : List Str, DpAll K H (ys.map V.str) (ys.map PyData.str)
  | [] => .nil
  | y :: r => .cons (.str y) (dp_strs r)
theorem eqv_strsAll : ∀ xs ys : List Str, PyData.eqvAll (xs.map PyData.str) (ys.map PyData.str) = decide (xs = ys)
  | [], [] => by simp [PyData.eqvAll]
  | [], _ :: _ => by simp [PyData.eqvAll]
  | _ :: _, [] => by simp [PyData.eqvAll]
  | x :: xs, y :: ys => by
    have h := eqv_strsAll xs ys
    rw [List.map_cons, List.map_cons]
    unfold PyData.eqvAll
    rw [h]
    by_cases h1 : x = y <;> by_cases h2 : xs = ys <;> simp [PyData.eqv, h1, h2]
theorem eqv_strs (xs ys : List Str) : PyData.eqv (.list (xs.map PyData.str)) (.list (ys.map PyData.str)) = decide (xs = ys) := by
  rw [← eqv_strsAll]
  simp [PyData.eqv]
theorem seq_in {k : Int} {n : Nat} (h0 : 0 ≤ k) (h : k < (n : Int)) : seqIndex? k n = some k.toNat := by
  have hn : ¬ k < 0 := by omega
  simp [seqIndex?, hn, h0, h]
theorem cut_take (xs : List V) {k : Int} (h : 0 ≤ k) : cutV xs none (some k) = xs.take k.toNat := by
  obtain ⟨n, rfl⟩ := Int.eq_ofNat_of_zero_le h
  unfold cutV
  rw [HT.sIx_nat, HT.sIx_none, List.drop_zero, Nat.sub_zero, Int.toNat_natCast]
  by_cases hn : n ≤ xs.length
  · rw [Nat.min_eq_left hn]
  · rw [Nat.min_eq_right (by omega), List.take_of_length_le (Nat.le_refl _), List.take_of_length_le (by omega)]
/-- a new list of the same texts in some order -/
def spShuf (K : PySem.W.Frag) : Sp := fun vs H Q _ => ∃ (p c a : Addr) (T : Nat) (ys : List Str), vs = [.ref p, .ref a] ∧ Pen H p c T ∧ T + ys.length ≤ 1000000 ∧ SqL K H a (ys.map V.str) ∧ ys.length ≤ 1000 ∧ Txs ys ∧
  ∀ (r : Addr) (zs : List Str) (H' : Hp), zs.Perm ys → H r = none → H' r = some (.lst (zs.map V.str)) → Pen H' p c (T + ys.length) → But p H H' → Q (.ref r) H'
def names : List Str := ["p", "q", "x", "y", "zz", "date", "rows", "abcdefghijkl", "marks", "out", "nextone"]
/-- the first m of the names in some order -/
def spNames : Sp := fun vs H Q _ => ∃ (p c : Addr) (T : Nat) (m : Int), vs = [.ref p, .int m] ∧ Pen H p c T ∧ T + 11 ≤ 1000000 ∧ 0 ≤ m ∧ m ≤ 11 ∧
  ∀ (r : Addr) (zs : List Str) (H' : Hp), zs.Perm names → H r = none → H' r = some (.lst ((zs.take m.toNat).map V.str)) → Pen H' p c (T + 11) → But p H H' → Q (.ref r) H'
theorem names_ok : Txs names := by
  unfold Txs
  decide +kernel
theorem Pen.seq {K : PySem.W.Frag} {H H' : Hp} {p c a : Addr} {T : Nat} {xs : List V} (P : Pen H p c T) (b : But p H H') (h : SqL K H a xs) : SqL K H' a xs := by
  obtain ⟨cs, t, l, hp, _⟩ := P
  rcases h with (h | ⟨o, h⟩) | h
  · exact .inl (.inl (b _ _ h (ne_of h hp (by intro z; cases z))))
  · exact .inl (.inr ⟨o, b _ _ h (ne_of h hp (by intro z; cases z))⟩)
  · exact .inr h
end XP
set_option linter.all false
set_option maxRecDepth 100000
set_option maxHeartbeats 4000000
/-! What names, lines and scenes are, as plain functions. -/
namespace XS
open PySem L2
def lnOf (t : Str) : List Str := if t = "" then [] else Txt.split t "\n"
def wsOf (l : Str) : List Str := Txt.split l " "
def letters : Str := "abcdefghijklmnopqrstuvwxyz"
def WORDS : List Str := (["row", "mark", "unmark", "lot", "lots", "takes", "gives", "next", "prev", "first", "last", "where", "nothing", "if", "else", "end", "times", "put", "swap", "turn", "sort", "gather", "by", "ahead", "behind", "is", "has", "with", "missing", "it", "and", "or", "not", "all", "some"] : List String).map Str.ofString
def isName (x : Str) : Bool := decide (1 ≤ x.length ∧ x.length ≤ 12) && (!decide (x ∈ WORDS) && x.cps.toList.all fun c => decide (c ∈ letters.cps.toList))
/-- the name that a line gives, behind the names that are there -/
def lineName (word : Str) (most : Nat) (taken names : List Str) (l : Str) : Option Str :=
  match wsOf l with
  | [a, b] => if names.length ≠ most ∧ a = word ∧ isName b = true ∧ b ∉ taken ∧ b ∉ names then some b else none
  | _ => none
def readN (word : Str) (most : Nat) (taken : List Str) : List Str → List Str → List Str
  | names, [] => names
  | names, l :: ls => match lineName word most taken names l with
    | some b => readN word most taken (names ++ [b]) ls
    | none => names
structure Sc where
  rows : List Str
  marks : List Str
  lots : Bool
def readScene (t : Str) : Sum Nat Sc :=
  let L := lnOf t
  let rows := readN "row" 3 [] [] L
  if rows = [] then .inl 1 else
  let marks := readN "mark" 2 rows [] (L.drop rows.length)
  let lots := decide ((L.drop (rows.length + marks.length)).take 1 = [("lots" : Str)])
  let right := rows.length + marks.length + (if lots then 1 else 0)
  if right < L.length then .inl (right + 1) else .inr ⟨rows, marks, lots⟩
theorem readN_len (word : Str) (most : Nat) (taken : List Str) : ∀ (ls names : List Str), (readN word most taken names ls).length ≤ names.length + ls.length
  | [], names => Nat.le_refl _
  | l :: ls, names => by
    unfold readN
    split
    · rename_i b _
      have z := readN_len word most taken ls (names ++ [b])
      rw [List.length_append, List.length_singleton] at z
      rw [List.length_cons]
      exact Nat.le_trans z (by omega)
    · exact Nat.le_add_right _ _
/-! ### membership and tests -/
theorem in_strs (x : Str) : ∀ ys : List Str, inV (.str x) (ys.map V.str) = decide (x ∈ ys)
  | [] => by simp [inV]
  | y :: r => by
    have h := in_strs x r
    unfold inV at h ⊢
    rw [List.map_cons, List.any_cons, h]
    by_cases e : y = x
    · subst e
      simp [eqV]
    · have e2 : ¬ x = y := fun z => e z.symm
      simp [eqV, e, e2]
theorem flat_strs (ys : List Str) : (ys.map V.str).all flatV = true := by
  rw [List.all_map, List.all_eq_true]
  intro y _
  rfl
theorem isName_eq {t : Str} (h1 : 1 ≤ t.length) (h2 : t.length ≤ 12) (h3 : ¬ t ∈ WORDS) : isName t = (t.cps.toList.map fun c => decide (c ∈ letters.cps.toList)).all id := by
  unfold isName
  rw [decide_eq_true ⟨h1, h2⟩, decide_eq_false h3, List.all_map]
  rfl
theorem take_snoc {α : Type} {l : List α} {i : Nat} {x : α} (h : l[i]? = some x) : l.take (i + 1) = l.take i ++ [x] := by
  rw [List.take_succ, h]
  rfl
theorem join_mem_le (y : Str) : ∀ (xs : List Str) (x : Str), x ∈ xs → x.length ≤ (Str.join y xs).length
  | [], x, h => absurd h List.not_mem_nil
  | [a], x, h => by
    rw [List.mem_singleton.mp h]
    exact Nat.le_refl _
  | a :: b :: r, x, h => by
    have e : Str.join y (a :: b :: r) = a ++ y ++ Str.join y (b :: r) := rfl
    rw [e, strLen_append, strLen_append]
    rcases List.mem_cons.mp h with z | z
    · rw [z]
      omega
    · have := join_mem_le y (b :: r) x z
      omega
theorem words_le {l x : Str} (h : x ∈ wsOf l) : x.length ≤ l.length := by
  have e := PySem.StrLaws.join_split l " "
  have z := join_mem_le " " (Txt.split l " ") x h
  rw [e] at z
  exact z
theorem line_some {word : Str} {most : Nat} {taken names : List Str} {l a b : Str} (e : wsOf l = [a, b]) (h : names.length ≠ most ∧ a = word ∧ isName b = true ∧ b ∉ taken ∧ b ∉ names) : lineName word most taken names l = some b := by
  unfold lineName
  rw [e]
  exact if_pos h
theorem line_none {word : Str} {most : Nat} {taken names : List Str} {l : Str} (h : ∀ a b, wsOf l = [a, b] → ¬ (names.length ≠ most ∧ a = word ∧ isName b = true ∧ b ∉ taken ∧ b ∉ names)) : lineName word most taken names l = none := by
  unfold lineName
  split
  · rename_i a b e
    exact if_neg (h a b e)
  · rfl
theorem readN_none {word : Str} {most : Nat} {taken names ls : List Str} {l : Str} (h : lineName word most taken names l = none) : readN word most taken names (l :: ls) = names := by
  unfold readN
  rw [h]
theorem readN_some {word : Str} {most : Nat} {taken names ls : List Str} {l b : Str} (h : lineName word most taken names l = some b) : readN word most taken names (l :: ls) = readN word most taken (names ++ [b]) ls := by
  conv => lhs; unfold readN
  rw [h]
theorem two_of {ws : List Str} (h : ws.length = 2) : ∃ a b, ws = [a, b] := by
  match ws, h with
  | [a, b], _ => exact ⟨a, b, rfl⟩
theorem join_many {y : Str} (hy : y.length = 1) : ∀ xs : List Str, xs.length ≤ (Str.join y xs).length + 1
  | [] => Nat.zero_le _
  | [a] => Nat.le_add_left _ _
  | a :: b :: r => by
    have e : Str.join y (a :: b :: r) = a ++ y ++ Str.join y (b :: r) := rfl
    have z := join_many hy (b :: r)
    rw [e, strLen_append, strLen_append, hy, List.length_cons]
    omega
theorem cps_append (x y : Str) : (x ++ y).cps.toList = x.cps.toList ++ y.cps.toList := by
  show (x.cps ++ y.cps).toList = _
  rw [Array.toList_append]
theorem join_cps (y : Str) : ∀ (xs : List Str) (x : Str), x ∈ xs → ∀ c ∈ x.cps.toList, c ∈ (Str.join y xs).cps.toList
  | [], x, h, _, _ => absurd h List.not_mem_nil
  | [a], x, h, c, hc => by
    rw [List.mem_singleton.mp h] at hc
    exact hc
  | a :: b :: r, x, h, c, hc => by
    have e : Str.join y (a :: b :: r) = a ++ y ++ Str.join y (b :: r) := rfl
    rw [e, cps_append, cps_append]
    rcases List.mem_cons.mp h with z | z
    · rw [z] at hc
      exact List.mem_append_left _ (List.mem_append_left _ hc)
    · exact List.mem_append_right _ (join_cps y (b :: r) x z c hc)
theorem ok_iff {x : Str} : PyData.strOk x = true ↔ ∀ c ∈ x.cps.toList, c < 0x110000 := by
  unfold PyData.strOk
  rw [Array.all_eq_true_iff_forall_mem]
  constructor
  · intro h c hc
    exact of_decide_eq_true (h c (Array.mem_toList_iff.mp hc))
  · intro h c hc
    exact decide_eq_true (h c (Array.mem_toList_iff.mpr hc))
theorem split_ok {x sep : Str} (h : PyData.strOk x = true) : XP.Txs (Txt.split x sep) := fun y hy => ok_iff.mpr fun c hc => by
  have z := join_cps sep _ y hy c hc
  rw [PySem.StrLaws.join_split x sep] at z
  exact ok_iff.mp h c z
theorem lines_le {t x : Str} (h : x ∈ lnOf t) : x.length ≤ t.length := by
  unfold lnOf at h
  split at h
  · exact absurd h List.not_mem_nil
  · have z := join_mem_le "\n" (Txt.split t "\n") x h
    rw [PySem.StrLaws.join_split] at z
    exact z
theorem lines_many (t : Str) : (lnOf t).length ≤ t.length + 1 := by
  unfold lnOf
  split
  · exact Nat.zero_le _
  · have z := join_many (y := "\n") (by decide +kernel) (Txt.split t "\n")
    rw [PySem.StrLaws.join_split] at z
    exact z
theorem lines_ok {t : Str} (h : PyData.strOk t = true) : XP.Txs (lnOf t) := by
  unfold lnOf
  split
  · intro y hy
    exact absurd hy List.not_mem_nil
  · exact split_ok h
theorem cut_drop (xs : List V) (n : Nat) : cutV xs (some (n : Int)) none = xs.drop n := by
  unfold cutV
  rw [HT.sIx_nat, HT.sIx_none]
  by_cases hn : n ≤ xs.length
  · rw [Nat.min_eq_left hn, List.take_of_length_le (by rw [List.length_drop]; exact Nat.le_refl _)]
  · rw [Nat.min_eq_right (by omega), List.drop_eq_nil_of_le (Nat.le_refl _), List.drop_eq_nil_of_le (by omega), List.take_nil]
theorem cut_one (xs : List V) (n : Nat) : cutV xs (some (n : Int)) (some ((n : Int) + 1)) = (xs.drop n).take 1 := by
  unfold cutV
  rw [show ((n : Int) + 1) = ((n + 1 : Nat) : Int) by omega, HT.sIx_nat, HT.sIx_nat]
  by_cases hn : n + 1 ≤ xs.length
  · rw [Nat.min_eq_left hn, Nat.min_eq_left (by omega), Nat.add_sub_cancel_left]
  · rw [Nat.min_eq_right (by omega)]
    rw [List.drop_eq_nil_of_le (i := n) (by omega), List.drop_eq_nil_of_le (by omega), List.take_nil, List.take_nil]
/-- a scene's attributes, in the order in which they are set -/
def scF (t : Str) (r m : Addr) (lots : Bool) : List (Str × V) := [(("text" : Str), .str t), (("rows" : Str), .ref r), (("marks" : Str), .ref m), (("has_lots" : Str), .bl lots)]
theorem scF_eq (t : Str) (r m : Addr) (lots : Bool) : putF "has_lots" (.bl lots) (putF "marks" (.ref m) (putF "rows" (.ref r) (putF "text" (.str t) []))) = scF t r m lots := by
  have a1 : ¬ Str.ofString "text" = Str.ofString "rows" := by decide +kernel
  have a2 : ¬ Str.ofString "text" = Str.ofString "marks" := by decide +kernel
  have a3 : ¬ Str.ofString "text" = Str.ofString "has_lots" := by decide +kernel
  have a4 : ¬ Str.ofString "rows" = Str.ofString "marks" := by decide +kernel
  have a5 : ¬ Str.ofString "rows" = Str.ofString "has_lots" := by decide +kernel
  have a6 : ¬ Str.ofString "marks" = Str.ofString "has_lots" := by decide +kernel
  simp [putF, scF, a1, a2, a3, a4, a5, a6]
theorem putF_few {f : Str} {v : V} {fs : List (Str × V)} {n : Nat} (h : fs.length ≤ n) : (putF f v fs).length ≤ n + 1 := Nat.le_trans (length_putF f v fs) (by omega)
theorem fmt_small {i : Int} (h0 : 0 ≤ i) (h : i ≤ 900000) : XE.FmtI (.int i) := by
  refine ⟨i, rfl, Nat.lt_of_lt_of_le (PySem.Flt.log2_lt_of (k := 20) (by decide) ?_) (by decide)⟩
  have : (2 : Nat) ^ 20 = 1048576 := by decide
  omega
/-! ### what the defs promise -/
def spLines : Sp := fun vs H Q _ => ∃ t : Str, vs = [.str t] ∧ t.length + 2 ≤ sizeLine ∧ ∀ (p : Addr) (H' : Hp), Same H H' → H p = none → H' p = some (.lst ((lnOf t).map V.str)) → Q (.ref p) H'
def spIsName : Sp := fun vs H Q _ => ∃ x : Str, vs = [.str x] ∧ x.length ≤ sizeLine ∧ ∀ H', Same H H' → Q (.bl (isName x)) H'
def spReadN (K : PySem.W.Frag) : Sp := fun vs H Q _ => ∃ (l tk : Addr) (word : Str) (most : Nat) (ls taken : List Str), vs = [.ref l, .str word, .int most, .ref tk] ∧ SqL K H l (ls.map V.str) ∧ SqL K H tk (taken.map V.str) ∧ (∀ x ∈ ls, x.length ≤ 100000) ∧ ls.length ≤ 100000 ∧
  ∀ (p : Addr) (H' : Hp), Same H H' → H p = none → H' p = some (.lst ((readN word most taken [] ls).map V.str)) → Q (.ref p) H'
/-- Scene.__init__: C its class, B the class of what it raises -/
def spScene (C B : Addr) : Sp := fun vs H Q E => ∃ (x dx : Addr) (t : Str), vs = [.ref x, .str t] ∧ H x = some (.ins C dx []) ∧ t.length ≤ 50000 ∧ PyData.strOk t = true ∧
  match readScene t with
  | .inl k => ∀ (d : Addr) (H' : Hp), Same H H' → H d = none → H' d = some (.xd [(("line" : Str), .int k)]) → E (.ref B) (some d) H'
  | .inr s => ∀ (r m : Addr) (H' : Hp), (∀ b o, b ≠ x → H b = some o → H' b = some o) → H r = none → H m = none → H' x = some (.ins C dx (scF t r m s.lots)) → H' r = some (.tup (s.rows.map V.str)) → H' m = some (.tup (s.marks.map V.str)) → Q .non H'
end XS
set_option linter.all false
set_option maxRecDepth 100000
set_option maxHeartbeats 4000000
/-! What names are by the marks of their letters; words of the top that are a dict with text keys. -/
namespace XS
open PySem L2
theorem one_letter : ∀ c, c < 128 → decide (c ∈ letters.cps.toList) = (Unicode.isAlpha c && !(Unicode.isUpper c || Unicode.isTitle c)) := by decide +kernel
theorem one_lower : ∀ c, c < 128 → decide (c ∈ letters.cps.toList) = true → Unicode.isLower c = true := by decide +kernel
theorem letter_lt : ∀ c ∈ letters.cps.toList, c < 128 := by decide +kernel
theorem isName_by {t : Str} (h1 : 1 ≤ t.length) (h2 : t.length ≤ 12) (h3 : ¬ t ∈ WORDS) : isName t = (Txt.isascii t && (Txt.isalpha t && Txt.islower t)) := by
  have hn : t.length > 0 := h1
  have hl : t.cps.toList ≠ [] := by
    intro z
    have : t.cps.toList.length = 0 := by rw [z]; rfl
    have e : t.length = t.cps.size := rfl
    rw [Array.length_toList] at this
    omega
  unfold isName
  rw [decide_eq_true (show 1 ≤ t.length ∧ t.length ≤ 12 from ⟨h1, h2⟩), decide_eq_false h3]
  show (t.cps.toList.all fun c => decide (c ∈ letters.cps.toList)) = ((t.cps.all fun c => decide (c < 128)) && ((decide (t.length > 0) && t.cps.all Unicode.isAlpha) && (t.cps.any Unicode.isLower && !t.cps.any fun c => Unicode.isUpper c || Unicode.isTitle c)))
  rw [decide_eq_true hn, ← Array.all_toList, ← Array.all_toList, ← Array.any_toList, ← Array.any_toList, Bool.true_and]
  generalize t.cps.toList = l at hl
  rw [Bool.eq_iff_iff, Bool.and_eq_true, Bool.and_eq_true, Bool.and_eq_true, List.all_eq_true, List.all_eq_true, List.all_eq_true, List.any_eq_true, Bool.not_eq_true', List.any_eq_false]
  constructor
  · intro h
    have lt : ∀ c ∈ l, c < 128 := fun c hc => letter_lt c (of_decide_eq_true (h c hc))
    have both : ∀ c ∈ l, Unicode.isAlpha c = true ∧ (Unicode.isUpper c || Unicode.isTitle c) = false := fun c hc => by
      have z := one_letter c (lt c hc)
      rw [h c hc] at z
      have z2 := (Bool.and_eq_true _ _).mp z.symm
      exact ⟨z2.1, by
        have := z2.2
        rw [Bool.not_eq_true'] at this
        exact this⟩
    obtain ⟨a, r, rfl⟩ := List.exists_cons_of_ne_nil hl
    exact ⟨fun c hc => decide_eq_true (lt c hc), fun c hc => (both c hc).1, ⟨a, List.mem_cons_self, one_lower a (lt a List.mem_cons_self) (h a List.mem_cons_self)⟩, fun c hc => Bool.eq_false_iff.mp (both c hc).2⟩
  · rintro ⟨h1, h2, _, h4⟩ c hc
    rw [one_letter c (of_decide_eq_true (h1 c hc)), h2 c hc, Bool.eq_false_iff.mpr (h4 c hc)]
    rfl
/-! ### a dict of the top with text keys, looked up -/
theorem isStr_dec (z k : Str) (t : Tok) : (Value.str k t).isStr z = decide (z = k) ∨ (Value.str k t).isStr z = decide (k = z) := by
  first
    | exact .inl rfl
    | exact .inr rfl
    | (left; show (_ == _) = _; simp)
    | (right; show (_ == _) = _; simp)
theorem key_some {e : DictEntry} {k : Str} {i : Int} (h : He.keyOf e = some (k, i)) : ∃ t, e.key = .str k t := by
  unfold He.keyOf at h
  split at h
  · rename_i x t q
    have h4 := Option.some.inj h
    cases h4
    exact ⟨t, q⟩
  · cases h
theorem keys_find {P : Params} (z : Str) : ∀ {l : List DictEntry} {ks : List Str}, l.map He.keyOf = He.keysIn P ks → (l.find? (·.key.isStr z)).isSome = decide (z ∈ ks) ∧ l.any (·.refKey) = false
  | [], [], _ => ⟨rfl, rfl⟩
  | [], _ :: _, h => by cases h
  | _ :: _, [], h => by cases h
  | e :: r, k :: ks, h => by
    have h1 : He.keyOf e :: r.map He.keyOf = some (k, PyData.keyHash P k) :: He.keysIn P ks := h
    injection h1 with h2 h3
    obtain ⟨t, q⟩ := key_some h2
    obtain ⟨g1, g2⟩ := keys_find z h3
    have hs : e.key.isStr z = decide (z = k) := by
      rw [q]
      rcases isStr_dec z k t with y | y
      · exact y
      · rw [y]
        by_cases w : z = k
        · rw [decide_eq_true w, decide_eq_true w.symm]
        · rw [decide_eq_false w, decide_eq_false (fun v => w v.symm)]
    refine ⟨?_, ?_⟩
    · rw [List.find?_cons]
      by_cases w : z = k
      · rw [hs, decide_eq_true w, decide_eq_true (by rw [w]; exact List.mem_cons_self)]
        rfl
      · rw [hs, decide_eq_false w]
        show (List.find? (·.key.isStr z) r).isSome = _
        rw [g1]
        by_cases v : z ∈ ks
        · rw [decide_eq_true v, decide_eq_true (List.mem_cons_of_mem _ v)]
        · rw [decide_eq_false v, decide_eq_false (fun y => (List.mem_cons.mp y).elim w v)]
    · rw [List.any_cons, g2, Bool.or_false]
      show e.refKey = false
      unfold DictEntry.refKey
      rw [q]
theorem dicW_in {K : PySem.W.Frag} {P : Params} {a : Addr} {ks : List Str} (h : He.dicW K a = some (He.keysIn P ks)) (z : Str) : ∃ r, PySem.W.nsIn K a z = some r ∧ r.isSome = decide (z ∈ ks) := by
  unfold He.dicW at h
  split at h
  · rename_i c es n sl q
    split at h
    · obtain ⟨g1, g2⟩ := keys_find z (Option.some.inj h)
      unfold PySem.W.nsIn
      rw [q]
      dsimp only
      cases f : es.toList.find? (·.key.isStr z) with
      | some e =>
        rw [f] at g1
        exact ⟨_, rfl, g1⟩
      | none =>
        rw [f] at g1
        rw [g2]
        exact ⟨_, rfl, g1⟩
    · cases h
  · cases h
end XS
set_option linter.all false
set_option maxRecDepth 100000
set_option maxHeartbeats 4000000
namespace K01
open PySem L2 NdefX XE
def top (i : Nat) : Stmt := PySem.Challenge.pw_seatedtwice_k01_scenes.main.body.getD i (.Pass ⟨0, 0, 0, 0⟩)
abbrev sBadScene : Stmt := inClass (top 2) 0
theorem scBadScene : NScope ["self", "line", "__class__"] ["self", "line"] ["__class__"] (defScope sBadScene) := nscope_by (by decide +kernel)
theorem okBadScene {P : Program} {w : World} {K : PySem.W.Frag} {mg : Str → Option Value} {base : Heap} {f cda cc C : Addr} {fd : FuncData} (F : FunC K "BadScene.__init__" sBadScene f cda cc C fd) (T : SupK P K mg C f cda cc)
    (hno : PySem.W.findIn K (.ref C) "line" = some none) : FnOk P w K mg base CX0 1 f fd ["self", "line"] (spErr C "line" FmtI) := by
  refine F.ok scBadScene (fun vs H Q E h => by obtain ⟨a, v, rfl, _⟩ := h; rfl) (fun A outer s H vs Q E hr h => ?_)
  obtain ⟨a, v, rfl, ea, hv, q⟩ := h
  refine ⟨_, pssA_cons (psA_sup T rfl rfl rfl rfl (pa_cons (pe_joined (.cons pe_str (.cons (pe_fmt (pv 1)) (.cons pe_str .nil)))) pa_nil)) (pssA_cons (psA_of (ps_ost (pv 0) (pv 1))) pssA_nil), ?_⟩
  refine ⟨a, rfl, ⟨none, ea⟩, js_c 100 str0 (by decide +kernel) (by decide) fun a0 h0 => js_i 1 h0 rfl hv (by decide) fun a1 h1 => js_c 100 h1 (by decide +kernel) (by decide) fun a2 h2 => js_nil fun t => ⟨⟨none, ea⟩, (by decide : 1 ≤ 1000), ?_⟩⟩
  exact ⟨v, rfl, .ref a, rfl, a, C, rfl, T.cls, hno, .inl ⟨ea, q⟩⟩
abbrev sLines : Stmt := top 6
abbrev sIsName : Stmt := top 7
abbrev sReadN : Stmt := top 12
/-- the module's constants -/
structure Con (K : PySem.W.Frag) (w : World) (mg : Str → Option Value) (W : Addr) : Prop where
  mM : ∃ t, mg "LONGEST" = some (.int 12 t)
  mW : mg "WORDS" = some (.ref W)
  dW : ∃ es n, KDict K w W es n
  nW : ∀ z, ∃ r, PySem.W.nsIn K W z = some r ∧ r.isSome = decide (z ∈ XS.WORDS)
  len : mg "len" = none
section
variable {P : Program} {w : World} {K : PySem.W.Frag} {mg : Str → Option Value} {base : Heap} {W : Addr}
theorem scLines : FnScope ["text"] ["text"] (defScope sLines) := ⟨rfl, rfl, rfl, by decide +kernel, rfl, by decide +kernel, by decide +kernel⟩
theorem okLines {f : Addr} {fd : FuncData} (F : Fun K "lines_of" "lines_of" sLines f fd) : FnOk P w K mg base CX0 1 f fd ["text"] XS.spLines := by
  refine F.ok scLines (fun vs H Q E h => by obtain ⟨t, rfl, _⟩ := h; rfl) (fun cdv A outer s H vs Q E hr h => ?_)
  obtain ⟨t, rfl, ht, q⟩ := h
  refine ⟨_, pss_cons (ps_if (pt_cmpR op_eq (pv 0) pe_str (nomark _)) (pss_one (ps_ret (pe_lst pa_nil))) pss_nil) (pss_one (ps_ret (pe_split (pv 0) pe_str))), ?_⟩
  refine ⟨_, rfl, rfl, _, rfl, ite2 (fun hq => ?_) (fun hq => ?_)⟩
  · have e : t = "" := by
      have z := of_decide_eq_true hq
      cases z
      rfl
    refine ⟨Nat.zero_le _, fun p hp => q p _ (XP.Same.new hp) hp ?_⟩
    rw [XS.lnOf, if_pos e]
    exact upd_same
  · have e : ¬ t = "" := fun z => hq (by rw [z]; exact decide_eq_true rfl)
    refine ⟨_, rfl, ⟨_, rfl⟩, t, _, rfl, rfl, (by decide +kernel), ht, fun p hp => q p _ (XP.Same.new hp) hp ?_⟩
    rw [XS.lnOf, if_neg e]
    exact upd_same
theorem scIsName : FnScope ["text"] ["text"] (defScope sIsName) := ⟨rfl, rfl, rfl, by decide +kernel, rfl, by decide +kernel, by decide +kernel⟩
theorem okIsName {f : Addr} {fd : FuncData} (F : Fun K "is_name" "is_name" sIsName f fd) (T : Con K w mg W) : FnOk P w K mg base CX0 1 f fd ["text"] XS.spIsName := by
  refine F.ok scIsName (fun vs H Q E h => by obtain ⟨t, rfl, _⟩ := h; rfl) (fun cdv A outer s H vs Q E hr h => ?_)
  obtain ⟨t, rfl, ht, q⟩ := h
  obtain ⟨tM, mM⟩ := T.mM
  obtain ⟨es, en, D⟩ := T.dW
  refine ⟨_, pss_cons (ps_if (PW.pt (pw_or (pt_not (pt_chain op_le op_le pe_int (pe_callB call_len_str (by rfl) T.len PySem.boot_len (pa_cons (pv 0) pa_nil)) (pe_glob (v := .int 12) rfl mM ⟨_, rfl⟩)))
      (pw_or1 (pt_cmpR (op_in_kd D) (pv 0) (pe_glob (v := .ref W) rfl T.mW rfl) (by rfl))))) (pss_one (ps_ret pe_bl)) pss_nil)
    (pss_one (ps_ret (pe_and (pe_m0 PySem.F.slot_str_isascii PySem.F.type_str_isascii mt_isascii (pv 0)) (pe_and (pe_m0 PySem.F.slot_str_isalpha PySem.F.type_str_isalpha mt_isalpha (pv 0)) (pe_one (pe_m0 PySem.F.slot_str_islower PySem.F.type_str_islower mt_islower (pv 0))))))), ?_⟩
  refine ⟨_, rfl, _, rfl, ht, _, _, rfl, rfl, _, rfl, ?_⟩
  refine ite2 (fun h1 => ?_) (fun h1 => ?_)
  rotate_left
  · -- too short
    have e : XS.isName t = false := by
      unfold XS.isName
      rw [decide_eq_false (fun z => h1 (decide_eq_true (by omega)))]
      rfl
    refine ⟨_, rfl, iteT ?_⟩
    rw [← e]
    exact q H fun _ _ z => z
  have h1' := of_decide_eq_true h1
  refine ⟨_, _, rfl, rfl, _, rfl, ?_⟩
  by_cases h2 : t.length ≤ 12
  rotate_left
  · have e : XS.isName t = false := by
      unfold XS.isName
      rw [decide_eq_false (fun z => h2 z.2)]
      rfl
    rw [decide_eq_false (by omega)]
    refine iteT ?_
    rw [← e]
    exact q H fun _ _ z => z
  rw [decide_eq_true (by omega)]
  obtain ⟨r, hr1, hr2⟩ := T.nW t
  refine iteF ⟨_, rfl, t, r, rfl, rfl, hr1, ?_⟩
  rw [hr2]
  refine ⟨_, rfl, ite2 (fun h3 => ?_) (fun h3 => ?_)⟩
  · have e : XS.isName t = false := by
      unfold XS.isName
      rw [h3, Bool.not_true, Bool.false_and, Bool.and_false]
    show Q (.bl false) H
    rw [← e]
    exact q H fun _ _ z => z
  have h3' : ¬ t ∈ XS.WORDS := fun z => h3 (decide_eq_true z)
  have e := XS.isName_by (by omega) h2 h3'
  have q' := q H fun _ _ z => z
  rw [e] at q'
  refine ⟨_, rfl, ⟨_, rfl⟩, t, rfl, rfl, trivial, _, rfl, ?_⟩
  cases e1 : Txt.isascii t with
  | false =>
    rw [e1] at q'
    exact q'
  | true =>
    rw [e1] at q'
    refine iteT ⟨_, rfl, ⟨_, rfl⟩, t, rfl, rfl, trivial, _, rfl, ?_⟩
    cases e2 : Txt.isalpha t with
    | false =>
      rw [e2] at q'
      exact q'
    | true =>
      rw [e2] at q'
      exact iteT ⟨_, rfl, ⟨_, rfl⟩, t, rfl, rfl, trivial, q'⟩
end
end K01
set_option linter.all false
set_option maxRecDepth 100000
set_option maxHeartbeats 4000000
namespace K01
open PySem L2 NdefX XE XS
section
variable {P : Program} {w : World} {K : PySem.W.Frag} {mg : Str → Option Value} {base : Heap} {W : Addr}
theorem scReadN : FnScope ["lines", "word", "most", "taken", "names", "line", "words", "name"] ["lines", "word", "most", "taken"] (defScope sReadN) := ⟨rfl, rfl, rfl, by decide +kernel, rfl, by decide +kernel, by decide +kernel⟩
theorem okReadN {f fN : Addr} {fd fdN : FuncData} (F : Fun K "read_names" "read_names" sReadN f fd) (ml : mg "len" = none) (GN : FnOk P w K mg base CX0 1 fN fdN ["text"] XS.spIsName) (bN : Binds K fdN ["text"] []) (kN : PySem.W.keepIn K (.ref fN) = true) (mN : mg "is_name" = some (.ref fN)) :
    FnOk P w K mg base CX0 2 f fd ["lines", "word", "most", "taken"] (XS.spReadN K) := by
  refine F.ok scReadN (fun vs H Q E h => by obtain ⟨l, tk, word, most, ls, taken, rfl, _⟩ := h; rfl) (fun cdv A outer s H vs Q E hr h => ?_)
  obtain ⟨l, tk, word, most, ls, taken, rfl, hl, ht, hls, hn, q⟩ := h
  refine ⟨_, pss_cons (ps_set (i := 4) scReadN.nd rfl (Or.inl rfl) (pe_lst pa_nil))
    (pss_cons (ps_for PassesOwn.never rfl (pi_list (pv 0)) (pg_name (i := 5) scReadN.nd rfl (Or.inl rfl))
      (pss_cons (ps_set (i := 6) scReadN.nd rfl (Or.inl rfl) (pe_split (pv 5) pe_str))
      (pss_cons (ps_if (PW.pt (pw_or (pt_cmpR op_eq (pe_callB call_len_seq (by rfl) ml PySem.boot_len (pa_cons (pv 4) pa_nil)) (pv 2) (nomark _))
          (pw_or (pt_cmpR op_ne (pe_callB call_len_seq (by rfl) ml PySem.boot_len (pa_cons (pv 6) pa_nil)) pe_int (nomark _))
          (pw_or1 (pt_cmpR op_ne (pe_ix ix_list (pv 6) pe_int (fun _ _ => rfl)) (pv 1) (nomark _)))))) (pss_one ps_break) pss_nil)
      (pss_cons (ps_set (i := 7) scReadN.nd rfl (Or.inl rfl) (pe_ix ix_list (pv 6) pe_int (fun _ _ => rfl)))
      (pss_cons (ps_if (PW.pt (pw_or (pt_not (pt_val (pe_call GN hr rfl mN kN bN .nil pass0 (pa_cons (pv 7) pa_nil)))) (pw_or (pt_cmpR op_in_seq (pv 7) (pv 3) (by rfl)) (pw_or1 (pt_cmpR op_in_seq (pv 7) (pv 4) (by rfl)))))) (pss_one ps_break) pss_nil)
      (pss_one (ps_expr (pe_bm PySem.F.plainAttrs_list PySem.F.slot_list_append PySem.F.type_list_append mt_append (pv 4) (pa_cons (pv 7) pa_nil)))))))))
    (pss_one (ps_ret (pv 4)))), ?_⟩
  refine ⟨Nat.zero_le _, fun p hp => ?_⟩
  refine ⟨_, rfl, l, rfl, ⟨_, (XP.Same.new hp).seq hl⟩, for_list (K := K) (a := l) (xs := ls.map V.str) (fun i σ H' => ∃ (x5 x6 x7 : Option V) (names : List Str), σ = [some (.ref l), some (.str word), some (.int most), some (.ref tk), some (.ref p), x5, x6, x7] ∧ Same H H' ∧ H' p = some (.lst (names.map V.str)) ∧
      readN word most taken [] ls = readN word most taken names (ls.drop i) ∧ names.length ≤ i) ⟨_, _, _, [], rfl, XP.Same.new hp, upd_same, rfl, Nat.le_refl _⟩ (fun i σ H' _ ⟨_, _, _, _, _, s1, _⟩ => s1.seq hl) ?_ ?_⟩
  · rintro i x σ H' hi ⟨x5, x6, x7, names, rfl, s1, h1, hres, hln⟩
    rw [List.getElem?_map] at hi
    obtain ⟨y, hy, rfl⟩ := Option.map_eq_some_iff.mp hi
    have hilt : i < ls.length := (List.getElem?_eq_some_iff.mp hy).1
    have hdrop : ls.drop i = y :: ls.drop (i + 1) := by
      rw [List.drop_eq_getElem_cons hilt, (List.getElem?_eq_some_iff.mp hy).2]
    rw [hdrop] at hres
    have hyl := hls y (List.mem_of_getElem? hy)
    have sz : sizeLine = 16777216 := sizeLine_eq
    -- what a break leaves
    have brk : ∀ H2 : Hp, Same H' H2 → lineName word most taken names y = none → Q (.ref p) H2 := fun H2 s2 hno => by
      rw [readN_none hno] at hres
      refine q p H2 (s1.trans s2) hp ?_
      rw [hres]
      exact s2 _ _ h1
    refine ⟨_, rfl, ⟨_, rfl⟩, y, _, rfl, rfl, (by decide +kernel), by omega, fun d hd => ?_⟩
    have s2 : Same H' (upd H' d (.lst ((Txt.split y " ").map V.str))) := XP.Same.new hd
    have h1' := s2 _ _ h1
    have hd' : upd H' d (.lst ((Txt.split y " ").map V.str)) d = some (.lst ((wsOf y).map V.str)) := upd_same
    have npd : p ≠ d := ne_of_none h1 hd
    generalize upd H' d (.lst ((Txt.split y " ").map V.str)) = H2 at s2 h1' hd' ⊢
    refine ⟨_, rfl, p, _, rfl, .inl (SqL.of h1'), _, rfl, rfl, _, rfl, ?_⟩
    rw [List.length_map]
    refine ite2 (fun c1 => ?_) (fun c1 => ?_)
    · -- the names are all there
      have e : names.length = most := by
        have z := V.int.inj (of_decide_eq_true c1)
        omega
      exact iteT ⟨_, rfl, brk H2 s2 (line_none fun a b _ h => h.1 e)⟩
    have c1' : names.length ≠ most := fun z => c1 (decide_eq_true (by rw [z]))
    refine ⟨_, rfl, d, _, rfl, .inl (SqL.of hd'), rfl, _, rfl, ?_⟩
    rw [List.length_map]
    by_cases c2 : (wsOf y).length = 2
    rotate_left
    · have e : (!decide (V.int ((wsOf y).length : Nat) = V.int 2)) = true := by
        rw [decide_eq_false (fun z => c2 (by
          have := V.int.inj z
          omega))]
        rfl
      rw [e]
      refine iteT (iteT ⟨_, rfl, brk H2 s2 (line_none fun a b ew h => c2 (by rw [ew] <;> rfl))⟩)
    obtain ⟨a, b, ew⟩ := two_of c2
    have e2 : (!decide (V.int ((wsOf y).length : Nat) = V.int 2)) = false := by
      rw [c2]
      rfl
    rw [e2]
    rw [ew] at hd'
    have ha : a.length ≤ y.length := words_le (by rw [ew]; exact List.mem_cons_self)
    have hb : b.length ≤ y.length := words_le (by rw [ew]; exact List.mem_cons_of_mem _ List.mem_cons_self)
    have at0 : atI ([a, b].map V.str) 0 = some (.str a) := show atI _ ((0 : Nat) : Int) = _ from atI_nat (j := 0) rfl
    have at1 : atI ([a, b].map V.str) 1 = some (.str b) := show atI _ ((1 : Nat) : Int) = _ from atI_nat (j := 1) rfl
    refine iteF ⟨_, rfl, d, _, _, _, rfl, rfl, SqL.of hd', at0, _, rfl, rfl, _, rfl, ?_⟩
    by_cases c3 : a = word
    rotate_left
    · have e : (!decide (V.str a = V.str word)) = true := by
        rw [decide_eq_false (fun z => c3 (V.str.inj z))]
        rfl
      rw [e]
      refine iteT ⟨_, rfl, brk H2 s2 (line_none fun a' b' ew' h => c3 (by
        rw [ew] at ew'
        cases ew'
        exact h.2.1))⟩
    have e3 : (!decide (V.str a = V.str word)) = false := by
      rw [c3, decide_eq_true rfl]
      rfl
    rw [e3]
    refine iteF ⟨_, rfl, d, _, _, _, rfl, rfl, SqL.of hd', at1, ?_⟩
    refine ⟨_, rfl, b, rfl, by omega, fun H3 s3 => ⟨_, rfl, ?_⟩⟩
    have h3 := s3 _ _ h1'
    have s13 := (s1.trans s2).trans s3
    by_cases c4 : isName b = true
    rotate_left
    · rw [Bool.eq_false_iff.mpr c4]
      refine iteT (iteT ⟨_, rfl, brk H3 (s2.trans s3) (line_none fun a' b' ew' h => c4 (by
        rw [ew] at ew'
        cases ew'
        exact h.2.2.1))⟩)
    rw [c4]
    refine iteF ⟨_, rfl, _, rfl, tk, _, rfl, .inl (s13.seq ht), rfl, flat_strs _, decide (b ∈ taken), congrArg V.bl (in_strs b taken), ?_⟩
    by_cases c5 : b ∈ taken
    · rw [decide_eq_true c5]
      refine iteT (iteT ⟨_, rfl, brk H3 (s2.trans s3) (line_none fun a' b' ew' h => (by
        rw [ew] at ew'
        cases ew'
        exact h.2.2.2.1 c5))⟩)
    rw [decide_eq_false c5]
    refine iteF ⟨_, rfl, _, rfl, p, _, rfl, .inl (SqL.of h3), rfl, flat_strs _, decide (b ∈ names), congrArg V.bl (in_strs b names), ?_⟩
    by_cases c6 : b ∈ names
    · rw [decide_eq_true c6]
      refine iteT ⟨_, rfl, brk H3 (s2.trans s3) (line_none fun a' b' ew' h => (by
        rw [ew] at ew'
        cases ew'
        exact h.2.2.2.2 c6))⟩
    rw [decide_eq_false c6]
    refine iteF ⟨_, rfl, .inl ⟨rfl, _, SqL.of h3⟩, _, rfl, p, _, _, rfl, rfl, h3, ?_, ?_⟩
    · rw [List.length_map]
      omega
    · rw [readN_some (line_some ew ⟨c1', c3, c4, c5, c6⟩)] at hres
      refine ⟨_, _, _, names ++ [b], rfl, fun c o e => (upd_ne (ne_of_none e hp)).trans (s13 _ _ e), ?_, hres, ?_⟩
      · rw [upd_same, List.map_append]
        rfl
      · rw [List.length_append, List.length_singleton]
        omega
  · rintro σ H' ⟨x5, x6, x7, names, rfl, s1, h1, hres, hln⟩
    rw [List.length_map, List.drop_length] at hres
    refine ⟨_, rfl, q p H' s1 hp ?_⟩
    rw [hres]
    exact h1
end
end K01
set_option linter.all false
set_option maxRecDepth 100000
set_option maxHeartbeats 4000000
namespace K01
open PySem L2 NdefX XE XS
abbrev sScI : Stmt := inClass (top 11) 0
abbrev sScE : Stmt := inClass (top 11) 1
/-- the class Scene as the top made it -/
structure ScC (K : PySem.W.Frag) (mg : Str → Option Value) (C : Addr) : Prop where
  cl : Cls K C
  nt : NoAttr K C "text"
  nr : NoAttr K C "rows"
  nm : NoAttr K C "marks"
  nl : NoAttr K C "has_lots"
  mR : ∃ t, mg "MOST_ROWS" = some (.int 3 t)
  mM : ∃ t, mg "MOST_MARKS" = some (.int 2 t)
section
variable {P : Program} {w : World} {K : PySem.W.Frag} {mg : Str → Option Value} {base : Heap} {C B : Addr}
theorem scScI : FnScope ["self", "text", "lines", "rows", "marks", "right", "has_lots"] ["self", "text"] (defScope sScI) := ⟨rfl, rfl, rfl, by decide +kernel, rfl, by decide +kernel, by decide +kernel⟩
theorem okScI {f fL fN : Addr} {fd fdL fdN : FuncData} (F : Fun K "__init__" "Scene.__init__" sScI f fd) (T : ScC K mg C) (ml : mg "len" = none) (mt : mg "tuple" = none)
    (IB : Ini P w K mg base B ["self", "line"] (spErr B "line" FmtI)) (TB : OexC K B) (mB : mg "BadScene" = some (.ref B))
    (GL : FnOk P w K mg base CX0 1 fL fdL ["text"] XS.spLines) (bL : Binds K fdL ["text"] []) (kL : PySem.W.keepIn K (.ref fL) = true) (mL : mg "lines_of" = some (.ref fL))
    (GN : FnOk P w K mg base CX0 2 fN fdN ["lines", "word", "most", "taken"] (XS.spReadN K)) (bN : Binds K fdN ["lines", "word", "most", "taken"] []) (kN : PySem.W.keepIn K (.ref fN) = true) (mN : mg "read_names" = some (.ref fN)) :
    FnOk P w K mg base (L2.CX P w) 3 f fd ["self", "text"] (XS.spScene C B) := by
  refine F.okX scScI (fun vs H Q E h => by obtain ⟨x, dx, t, rfl, _⟩ := h; rfl) (fun cdv A outer s H vs Q E hr h => ?_)
  obtain ⟨x, dx, t, rfl, hx, ht, hok, q⟩ := h
  have hr1 : Room 1 _ := hr.mono (by decide)
  obtain ⟨tR, mR⟩ := T.mR
  obtain ⟨tM, mM⟩ := T.mM
  refine ⟨_, pss_cons (ps_set (i := 2) scScI.nd rfl (Or.inl rfl) (pe_call GL hr1 rfl mL kL bL .nil pass0 (pa_cons (pv 1) pa_nil)))
    (pss_cons (ps_set (i := 3) scScI.nd rfl (Or.inl rfl) (pe_call GN hr rfl mN kN bN .nil pass0 (pa_cons (pv 2) (pa_cons pe_str (pa_cons (pe_glob (v := .int 3) rfl mR ⟨_, rfl⟩) (pa_cons (pe_lst pa_nil) pa_nil))))))
    (pss_cons (ps_if (pt_not (pt_truth (pv 3) (by intro _; rfl))) (pss_one (ps_raise rfl (takes_of rfl rfl rfl rfl) (pmk_err IB TB hr mB pe_int))) pss_nil)
    (pss_cons (ps_set (i := 4) scScI.nd rfl (Or.inl rfl) (pe_call GN hr rfl mN kN bN .nil pass0 (pa_cons (pe_slice sl_list (pv 2) (po_some (pe_callB call_len_seq (by rfl) ml PySem.boot_len (pa_cons (pv 3) pa_nil))) po_none) (pa_cons pe_str (pa_cons (pe_glob (v := .int 2) rfl mM ⟨_, rfl⟩) (pa_cons (pv 3) pa_nil))))))
    (pss_cons (ps_set (i := 5) scScI.nd rfl (Or.inl rfl) (pe_op op_add (pe_callB call_len_seq (by rfl) ml PySem.boot_len (pa_cons (pv 3) pa_nil)) (pe_callB call_len_seq (by rfl) ml PySem.boot_len (pa_cons (pv 4) pa_nil))))
    (pss_cons (ps_set (i := 6) scScI.nd rfl (Or.inl rfl) (pe_cmpR (op_eqD hr.units) (pe_slice sl_list (pv 2) (po_some (pv 5)) (po_some (pe_op op_add (pv 5) pe_int))) (pe_lst (pa_cons pe_str pa_nil)) (nomark _)))
    (pss_cons (ps_if (pt_val (pv 6)) (pss_one (ps_aug (i := 5) scScI.nd rfl (Or.inl rfl) pe_int ip_add)) pss_nil)
    (pss_cons (ps_if (pt_cmpR op_lt (pv 5) (pe_callB call_len_seq (by rfl) ml PySem.boot_len (pa_cons (pv 2) pa_nil)) (nomark _)) (pss_one (ps_raise rfl (takes_of rfl rfl rfl rfl) (pmk_err IB TB hr mB (pe_op op_add (pv 5) pe_int)))) pss_nil)
    (pss_cons (ps_fld (pv 0) (pv 1) rfl)
    (pss_cons (ps_fld (pv 0) (pe_callTy call_tuple_of (by rfl) mt (by decide +kernel) (pa_cons (pv 3) pa_nil)) rfl)
    (pss_cons (ps_fld (pv 0) (pe_callTy call_tuple_of (by rfl) mt (by decide +kernel) (pa_cons (pv 4) pa_nil)) rfl)
    (pss_one (ps_fld (pv 0) (pv 6) rfl)))))))))))), ?_⟩
  have sz : sizeLine = 16777216 := sizeLine_eq
  have hLl : ∀ y ∈ lnOf t, y.length ≤ 100000 := fun y hy => by
    have := lines_le hy
    omega
  have hLn : (lnOf t).length ≤ 100000 := by
    have := lines_many t
    omega
  have hLo := lines_ok hok
  unfold readScene at q
  dsimp only at q
  refine ⟨_, rfl, t, rfl, by omega, fun l H1 s1 l0 h1 => ?_⟩
  generalize lnOf t = L at q hLl hLn hLo h1 ⊢
  -- the rows
  refine ⟨_, rfl, Nat.zero_le _, fun e0 he0 => ?_⟩
  have s1e := XP.Same.new (o := .lst []) he0
  refine ⟨l, e0, "row", 3, L, [], rfl, SqL.of (s1e _ _ h1), SqL.of upd_same, hLl, hLn, fun p H2 s2 p0 h2 => ?_⟩
  have s12 := s1e.trans s2
  have hl2 := s12 _ _ h1
  have hx2 := s12 _ _ (s1 _ _ hx)
  have sA := s1.trans s12
  have hRn : (readN "row" 3 [] [] L).length ≤ 100000 := by
    have := readN_len "row" 3 [] L []
    rw [List.length_nil] at this
    omega
  generalize readN "row" 3 [] [] L = R at q h2 hRn ⊢
  refine ⟨_, rfl, !(R.map V.str).isEmpty, .inl ⟨_, SqL.of h2, rfl⟩, ?_⟩
  by_cases hR : R = []
  · subst hR
    refine iteT ⟨⟨1, rfl, by decide⟩, fun d H' s' d0 e => ?_⟩
    exact q d H' (sA.trans s') (sA.free d0) e
  have hRe : (R.map V.str).isEmpty = false := by
    cases R with
    | nil => exact absurd rfl hR
    | cons a r => rfl
  rw [hRe]
  refine iteF ?_
  rw [if_neg hR] at q
  -- the marks
  refine ⟨_, rfl, _, rfl, p, _, rfl, .inl (SqL.of h2), _, rfl, l, _, rfl, SqL.of hl2, fun g0 hg0 => ?_⟩
  have ecut : cutV (L.map V.str) (some (((R.map V.str).length : Nat) : Int)) none = (L.drop R.length).map V.str := by
    rw [cut_drop, List.length_map, List.map_drop]
  rw [ecut]
  have s3e := XP.Same.new (o := .lst ((L.drop R.length).map V.str)) hg0
  refine ⟨_, rfl, g0, p, "mark", 2, L.drop R.length, R, rfl, SqL.of upd_same, SqL.of (s3e _ _ h2), fun y hy => hLl y (List.mem_of_mem_drop hy), (by rw [List.length_drop]; omega), fun m H3 s3 m0 h3 => ?_⟩
  have s23 := s3e.trans s3
  have hl3 := s23 _ _ hl2
  have hx3 := s23 _ _ hx2
  have h2' := s23 _ _ h2
  have sB := sA.trans s23
  have hMn : (readN "mark" 2 R [] (L.drop R.length)).length ≤ 100000 := by
    have := readN_len "mark" 2 R (L.drop R.length) []
    rw [List.length_nil, List.length_drop] at this
    omega
  generalize readN "mark" 2 R [] (L.drop R.length) = M at q h3 hMn ⊢
  refine ⟨_, rfl, p, _, rfl, .inl (SqL.of h2'), _, rfl, m, _, rfl, .inl (SqL.of h3), _, _, rfl, rfl, ?_⟩
  rw [List.length_map, List.length_map]
  -- has_lots
  have ecut2 : cutV (L.map V.str) (some ((R.length : Int) + (M.length : Int))) (some ((R.length : Int) + (M.length : Int) + 1)) = ((L.drop (R.length + M.length)).take 1).map V.str := by
    have z := cut_one (L.map V.str) (R.length + M.length)
    rw [show (((R.length + M.length : Nat) : Int)) = (R.length : Int) + (M.length : Int) by omega] at z
    rw [z, ← List.map_drop, ← List.map_take]
  have hxl : XP.Txs ((L.drop (R.length + M.length)).take 1) := fun y hy => hLo y (List.mem_of_mem_drop (List.mem_of_mem_take hy))
  refine ⟨_, rfl, _, rfl, _, rfl, _, rfl, _, _, rfl, rfl, _, rfl, l, _, rfl, SqL.of hl3, fun g1 hg1 => ⟨(by show 1 ≤ sizeLine; decide), fun g2 hg2 => ?_⟩⟩
  have s4 := (XP.Same.new hg1).trans (XP.Same.new (o := .lst [.str "lots"]) hg2)
  refine ⟨.list (((L.drop (R.length + M.length)).take 1).map PyData.str), .list ([("lots" : Str)].map PyData.str), .lst (SqL.of ((XP.Same.new hg2) _ _ (upd_same.trans (congrArg (fun z => some (HO.lst z)) ecut2)))) (XP.dp_strs _), .lst (SqL.of upd_same) (XP.dp_strs [("lots" : Str)]), XP.shaped_strs hxl, by decide +kernel, ?_⟩
  rw [XP.eqv_strs]
  have hl4 := s4 _ _ hl3
  have hx4 := s4 _ _ hx3
  have h2'' := s4 _ _ h2'
  have h3' := s4 _ _ h3
  have sC := sB.trans s4
  generalize upd (upd H3 g1 _) g2 _ = H4 at hl4 hx4 h2'' h3' sC ⊢
  generalize decide ((L.drop (R.length + M.length)).take 1 = [("lots" : Str)]) = lots at q ⊢
  refine ⟨_, rfl, lots, rfl, ?_⟩
  have npx : p ≠ x := ne_of h2'' hx4 (by intro z; cases z)
  have nmx : m ≠ x := ne_of h3' hx4 (by intro z; cases z)
  cases lots
  case' false => refine iteF ?_
  case' true => refine iteT ⟨_, rfl, _, _, rfl, rfl, ?_⟩
  all_goals
    refine ⟨_, rfl, _, rfl, l, _, rfl, .inl (SqL.of hl4), _, _, rfl, rfl, _, rfl, ?_⟩
    rw [List.length_map]
    refine ite2 (fun hlt => ?_) (fun hlt => ?_)
    · -- a line behind the last one
      first
        | (have hlt1 : (R.length : Int) + (M.length : Int) + 1 < (L.length : Int) := of_decide_eq_true hlt
           rw [if_pos (show R.length + M.length + (if true = true then 1 else 0) < L.length by show R.length + M.length + 1 < L.length; omega)] at q)
        | (have hlt1 : (R.length : Int) + (M.length : Int) < (L.length : Int) := of_decide_eq_true hlt
           rw [if_pos (show R.length + M.length + (if false = true then 1 else 0) < L.length by show R.length + M.length + 0 < L.length; omega)] at q)
      refine ⟨_, rfl, _, _, rfl, rfl, fmt_small (by first | omega | (show (0 : Int) ≤ (R.length : Int) + (M.length : Int) + 1 + 1; omega)) (by first | omega | (show (R.length : Int) + (M.length : Int) + 1 + 1 ≤ 900000; omega)), fun d H' s' d0 e => q d H' (sC.trans s') (sC.free d0) ?_⟩
      first
        | (show H' d = some (.xd [(("line" : Str), V.int (((R.length + M.length + 1 + 1 : Nat)) : Int))])
           rw [show (((R.length + M.length + 1 + 1 : Nat)) : Int) = (R.length : Int) + (M.length : Int) + 1 + 1 by omega]
           exact e)
        | (show H' d = some (.xd [(("line" : Str), V.int (((R.length + M.length + 0 + 1 : Nat)) : Int))])
           rw [show (((R.length + M.length + 0 + 1 : Nat)) : Int) = (R.length : Int) + (M.length : Int) + 1 by omega]
           exact e)
    · first
        | (have hlt1 : ¬ (R.length : Int) + (M.length : Int) + 1 < (L.length : Int) := fun z => hlt (decide_eq_true z)
           rw [if_neg (show ¬ R.length + M.length + (if true = true then 1 else 0) < L.length by show ¬ R.length + M.length + 1 < L.length; omega)] at q)
        | (have hlt1 : ¬ (R.length : Int) + (M.length : Int) < (L.length : Int) := fun z => hlt (decide_eq_true z)
           rw [if_neg (show ¬ R.length + M.length + (if false = true then 1 else 0) < L.length by show ¬ R.length + M.length + 0 < L.length; omega)] at q)
      refine ⟨_, rfl, _, rfl, x, C, dx, [], rfl, hx4, T.cl, T.nt, (by show 0 < 1000; decide), ?_⟩
      refine ⟨_, rfl, p, _, rfl, .inl ⟨SqL.of ((upd_ne npx).trans h2''), fun r hr0 => ?_⟩⟩
      have nrx : r ≠ x := fun z => by
        rw [z, upd_same] at hr0
        cases hr0
      have hr0' := (upd_ne nrx).symm.trans hr0
      refine ⟨_, rfl, x, C, dx, _, rfl, (upd_ne (Ne.symm nrx)).trans upd_same, T.cl, T.nr, (by show 1 < 1000; decide), ?_⟩
      refine ⟨_, rfl, m, _, rfl, .inl ⟨SqL.of ((upd_ne nmx).trans ((upd_ne (ne_of_none h3' hr0')).trans ((upd_ne nmx).trans h3'))), fun g hg => ?_⟩⟩
      have ngx : g ≠ x := fun z => by
        rw [z, upd_same] at hg
        cases hg
      have hg' := (upd_ne ngx).symm.trans hg
      have ngr : g ≠ r := fun z => by
        rw [z, upd_same] at hg'
        cases hg'
      have hg0 := (upd_ne ngx).symm.trans ((upd_ne ngr).symm.trans hg')
      refine ⟨_, rfl, x, C, dx, _, rfl, (upd_ne (Ne.symm ngx)).trans upd_same, T.cl, T.nm, Nat.lt_of_le_of_lt (putF_few (n := 1) (Nat.le_refl 1)) (by decide), ?_⟩
      refine ⟨_, rfl, _, rfl, x, C, dx, _, rfl, upd_same, T.cl, T.nl, Nat.lt_of_le_of_lt (putF_few (n := 2) (putF_few (n := 1) (Nat.le_refl 1))) (by decide), ?_⟩
      refine q r g _ (fun b o hb e => ?_) (sC.free hr0') (sC.free hg0) ?_ ?_ ?_
      · have e4 := sC _ _ e
        rw [upd_ne hb, upd_ne hb, upd_ne (ne_of_none e4 hg0), upd_ne hb, upd_ne (ne_of_none e4 hr0'), upd_ne hb]
        exact e4
      · rw [upd_same, scF_eq]
      · rw [upd_ne nrx, upd_ne nrx, upd_ne (Ne.symm ngr), upd_ne nrx, upd_same]
      · rw [upd_ne ngx, upd_ne ngx, upd_same]
end
end K01
set_option linter.all false
set_option maxRecDepth 100000
set_option maxHeartbeats 4000000
namespace XE
open PySem PySem.Spec PyProof.Rows L2 NdefX
/-! ### == and != of instances by the text's own __eq__, with either answer -/
section
variable {X : Cx} {CX : CXT} {n : Nat} {f C : Addr} {fd : FuncData} {ps : List Str} {sp : Sp} {E : XK}
/-- the own == is asked, at any place below the body -/
theorem own_call (F : FnOk X.prog X.w X.K X.mg X.base CX n f fd ps sp) (hb : Binds X.K fd ps []) (hx : Passes CX X E) {A : Around} (sb : Sub X n A) {pins : List (Addr × Obj)} {s : Shared} {σ : L2.St} {H : Hp} (I : Inv X pins σ H s) {a b : Addr} {Q : Bool → Hp → Prop}
    (h : sp [.ref a, .ref b] H (fun v H' => ∃ r : Bool, v = .bl r ∧ Q r H') E) :
    wpAny (model X.prog X.w) A (call (.ref f) [.ref a, .ref b]) (fun v s' => ∃ (r : Bool) (H' : Hp), v = .bool r ∧ Inv X pins σ H' s' ∧ Q r H') X.xe s := by
  have e0 : Env0 X.prog X.w X.K X.mg X.base A X.stack s H := by
    obtain ⟨x1, x2, x3, x4, x5, x6, x7, x8⟩ := I.env0
    exact ⟨sb.fr.trans x1, x2, x3, x4, x5, x6, x7, x8⟩
  have hl := F.len _ _ _ _ h
  have bnd := hb s [.ref a, .ref b] I.kIn (by simpa using hl)
  refine wpAny_call (codeAny_mono (F.run A X.stack s H ⟨[.ref a, .ref b], []⟩ [.ref a, .ref b] [.ref a, .ref b] _ E sb.room e0 (by simpa using bnd) (.cons rfl (.cons rfl .nil)) h) fun r s' hq => ?_)
  match r, hq with
  | .error e, hq => exact hx pins σ H s e s' I hq
  | .ok (.ret u), hq =>
    obtain ⟨v, H', I', rv, b', ev, q⟩ := I.after hq
    subst ev
    cases rv
    exact ⟨b', H', rfl, I', q⟩
/-- the class says its == itself; its != is object's -/
structure OwnC (K : PySem.W.Frag) (C f : Addr) : Prop where
  eq : PySem.W.findIn K (.ref C) "__eq__" = some (some (.ref f))
  ne : PySem.W.findIn K (.ref C) "__ne__" = some (some (.builtin "object.__ne__"))
  fn : PySem.W.isFn K (.ref f) = true
  ob : PySem.W.mroIn K C (.type "object") = some true
def rOwn (C : Addr) (neg : Bool) (sp : Sp) (E : XK) : R2 := fun x y H Q => ∃ (a b dx dy : Addr) (fs gs : List (Str × V)), x = .ref a ∧ y = .ref b ∧ H a = some (.ins C dx fs) ∧ H b = some (.ins C dy gs) ∧
  sp [.ref a, .ref b] H (fun v H' => ∃ r : Bool, v = .bl r ∧ Q (.bl (r != neg)) H') E
theorem op_ownEq (F : FnOk X.prog X.w X.K X.mg X.base CX n f fd ps sp) (T : OwnC X.K C f) (hr : Room n X.A) (hb : Binds X.K fd ps []) (hx : Passes CX X E) : OpR X (compareOp .Eq) (rOwn C false sp E) := by
  intro pins s σ H x y v u Q I rx ry h
  obtain ⟨a, b, dx, dy, fs, gs, rfl, rfl, ha, hb', hsp⟩ := h
  cases rx
  cases ry
  obtain ⟨_, J, _⟩ := ins_get I.hok ha
  obtain ⟨_, J', _⟩ := ins_get I.hok hb'
  obtain ⟨_, J, _⟩ := J.look
  obtain ⟨_, J', _⟩ := J'.look
  obtain ⟨m, hF⟩ := I.fr
  show wpAny _ X.A (richCompare .Eq _ _) _ _ _
  refine PySem.W.cmp_K (op := .Eq) (tb := .ref C) (hu_of hr |> Nat.lt_of_succ_lt) hF I.ok.mod.kin J J'.type (by simp [PySem.W.notFirst]) T.eq T.fn ?_
  refine wpAny_mono (own_call (Q := fun r H' => Q (.bl (r != false)) H') F hb hx ⟨hr, rfl⟩ I hsp) (fun v s' z => ?_) fun _ _ z => z
  obtain ⟨r, H', rfl, I', q⟩ := z
  exact ⟨.bl r, H', I', rfl, by rwa [Bool.bne_false] at q⟩
section
variable {A : Around} {Er : Value → Shared → Prop} {s : Shared} {K : PySem.W.Frag} {a b : Addr} {ox : Obj} {od : Option Obj}
theorem ne_bound {M : Model} {args : List Value} {Q : Option Value → Shared → Prop} (KX : K.In s.heap) (J : PySem.W.InstAt s.heap a ox C od) (hs : PySem.W.findIn K (.ref C) "__ne__" = some (some (.builtin "object.__ne__")))
    (h : wpAny M A (call (.builtin "object.__ne__") (.ref a :: args)) (fun v => Q (some v)) Er s) : wpAny M A (callSpecialIfBound? (.ref a) "__ne__" args) Q Er s := by
  simp only [callSpecialIfBound?, bindSpecialIfBound?]
  refine wpAny_holding (wpAny_bind (wpAny_bind (wpAny_bind (J.type.here ((PySem.W.looks_findIn KX hs).here ?_)))))
  simp only [PySem.F.cmp_object.ne.bind]
  refine wpAny_bind (wpAny_askSetting (wpAny_ite ?_))
  have go : wpAny M A (call (.builtin "object.__ne__") ([.ref a] ++ args) >>= fun v => pure (some v)) Q Er s := wpAny_bind (wpAny_mono h (fun _ _ z => wpAny_pure z) fun _ _ z => z)
  split
  · exact wpAny_bind (wpAny_pure (wpAny_pure go))
  · exact wpAny_tryCatch (wpAny_bind (wpAny_pure (wpAny_pure go)))
theorem ne_call {prog : Program} {w : World} {Q : Value → Shared → Prop} (KX : K.In s.heap) (J : PySem.W.InstAt s.heap a ox C od) (T : OwnC K C f) (hu : A.in1.units < cLine)
    (h : wpAny (model prog w) A.in1 (call (.ref f) [.ref a, .ref b]) (fun v s' => ∃ r, v = .bool r ∧ Q (.bool (!r)) s') Er s) : wpAny (model prog w) A (call (.builtin "object.__ne__") [.ref a, .ref b]) Q Er s := by
  refine wpAny_call (codeAny_call_builtin PySem.F.cmp_object.ne.plain PySem.F.cmpEntry_ne (PySem.W.check_slot PySem.F.cmpKind_ne PySem.F.cmpSplit_ne (J.type.andThen (PySem.W.looks_mroIn KX T.ob)) (PySem.F.cmpArgs_ne _ _) ?_))
  unfold Builtin.«object.__ne__»
  show wpAny _ _ (cRoomFor "comparison" _ >>= _) _ _ _
  refine wpAny_bind (wpAny_cRoomFor hu ?_)
  refine wpAny_bind (PySem.W.ifBound_K KX J T.eq T.fn (wpAny_mono h (fun v s' z => ?_) fun _ _ z => z))
  obtain ⟨r, rfl, q⟩ := z
  exact wpAny_bind (wpAny_truthy_bool (wpAny_pure q))
end
theorem op_ownNe (F : FnOk X.prog X.w X.K X.mg X.base CX n f fd ps sp) (T : OwnC X.K C f) (hr : Room (n + 1) X.A) (hb : Binds X.K fd ps []) (hx : Passes CX X E) : OpR X (compareOp .NotEq) (rOwn C true sp E) := by
  intro pins s σ H x y v u Q I rx ry h
  obtain ⟨a, b, dx, dy, fs, gs, rfl, rfl, ha, hb', hsp⟩ := h
  cases rx
  cases ry
  obtain ⟨_, J, _⟩ := ins_get I.hok ha
  obtain ⟨_, J', _⟩ := ins_get I.hok hb'
  obtain ⟨_, J, _⟩ := J.look
  obtain ⟨_, J', _⟩ := J'.look
  have hu := hr.units
  show wpAny _ X.A (richCompare .NotEq _ _) _ _ _
  unfold richCompare
  simp only [oneThing_ref]
  refine wpAny_holding (wpAny_bind (wpAny_cRoomFor (by omega) ?_))
  refine wpAny_bind (J.type.here (wpAny_bind (J'.type.here ?_)))
  rw [if_neg (by simp)]
  refine wpAny_bind (wpAny_pure ?_)
  simp only [Bool.false_eq_true, if_false]
  refine wpAny_bind ?_
  show wpAny _ _ (tryCompare (.ref a) "__ne__" (.ref b)) _ _ _
  unfold tryCompare
  refine wpAny_bind (ne_bound I.kIn J T.ne (ne_call I.kIn J T (by show X.A.units + 1 < cLine; omega) (wpAny_mono (own_call (A := X.A.in1) (Q := fun r H' => Q (.bl (r != true)) H') F hb hx ⟨hr.in1, rfl⟩ I hsp) (fun v s' z => ?_) fun _ _ z => z)))
  obtain ⟨r, H', rfl, I', q⟩ := z
  refine ⟨r, rfl, wpAny_pure (wpAny_pure ⟨.bl (!r), H', I', rfl, ?_⟩)⟩
  rwa [Bool.bne_true] at q
end
/-! ### an instance is made, under a try -/
section
variable {X : Cx} {CX : CXT} {k : Nat} {f C : Addr} {fd : FuncData} {ps : List Str} {sp : Sp} {E : L2.St → XK} {x : Str} {p pos : Pos} {e : Expr} {es : List Expr} {t : TA}
def tMakeS (C : Addr) (sp : Sp) (E : L2.St → XK) (t : TA) : TE := fun σ H Q => t σ H fun vs H1 => ∀ x dx, H1 x = none → H1 dx = none → dx ≠ x → sp (.ref x :: vs) (upd (upd H1 dx (.own x)) x (.ins C dx [])) (fun v H2 => v = .non ∧ Q (.ref x) H2) (E σ)
theorem pe_makeS (M : Mk X.K C f) (F : FnOk X.prog X.w X.K X.mg X.base CX k f fd ps sp) (hr : Room (k + 1) X.A) (hg : Gl X x) (hm : X.mg x = some (.ref C)) (hb : Binds X.K fd ps []) (hx : ∀ σ, PassesAt CX X σ (E σ))
    (ha : PA X (e :: es) t) (hdb : (x == ("__debug__" : Str)) = false := by decide) (he : starEach (e :: es) X.env = (false, eval e X.env) :: starEach es X.env := by rfl) (hpl : (backTo pos (starEach es X.env)).any (·.1) = false := by rfl) :
    PE X (.Call (.Name x p) (e :: es) [] pos) (tMakeS C sp E t) := by
  refine ⟨fun pins s σ H Q I h => wpAny_Call_Name_kw (ld_glob I hg hm ?_ hdb)⟩
  refine PySem.W.callWith_K (h₀ := X.base) I.ok.mod.kin M.kp (thn (ha.run pos pins s σ H _ I h) fun us s1 z => ?_) he hpl
  obtain ⟨vs, H1, I1, r, q⟩ := z
  refine ⟨I1.kIn, ?_⟩
  have n1 : H1 (s1.heap.objs.size + 1) = none := I1.hok.fresh (Nat.le_succ _)
  have n2 : H1 s1.heap.objs.size = none := I1.hok.fresh (Nat.le_refl _)
  have hq := q (s1.heap.objs.size + 1) s1.heap.objs.size n1 n2 (Nat.ne_of_lt (Nat.lt_succ_self _))
  have I2 := Inv.made (C := C) I1
  have r2 : Vals (V.ref (s1.heap.objs.size + 1) :: vs) (Value.ref (s1.heap.objs.size + 1) :: us) := .cons rfl r
  have hl : (Value.ref (s1.heap.objs.size + 1) :: us).length = ps.length := r2.length.symm.trans (F.len _ _ _ _ hq)
  have bn := hb _ (Value.ref (s1.heap.objs.size + 1) :: us) I2.kIn (by rw [List.append_nil]; exact hl)
  rw [List.append_nil] at bn
  refine wpAny_call (make_map (f := f) I1.kIn M.makes M.init (beq_iff_eq.mp M.fn) (codeAny_mono (F.run _ X.stack _ _ ⟨_, []⟩ _ _ _ (E σ) (hr.make C us []) (I2.env0.make C us []) bn r2 hq) fun r s' z => ?_))
  match r, z with
  | .error e, z => exact hx σ pins _ _ e s' I2 z
  | .ok (.ret u), z =>
    obtain ⟨v, H', I3, rv, ev, q3⟩ := I2.after z
    subst ev
    exact ⟨rv, ⟨V.ref (s1.heap.objs.size + 1), H', I3, rfl, q3⟩⟩
end
/-! ### repr of lists and tuples, where no repr is under way -/
section
variable {X : Cx}
def rReprD (K : PySem.W.Frag) : List V → Hp → VK → Prop := fun xs H Q => ∃ (a : Addr) (d : PyData), xs = [.ref a] ∧ Dp K H (.ref a) d ∧ d.showable = true ∧ d.hasDict = false ∧ d.depth ≤ 60 ∧ d.shown.length ≤ sizeLine ∧ Q (.str d.shown) H
theorem call_reprD (hg : X.A.guards = some []) (hu : X.A.units + 64 < cLine) : CallR X (.builtin "repr") (rReprD X.K) := by
  intro pins s σ H xs us Q I r h
  obtain ⟨a, d, rfl, hd, h1, h2, h3, h4, q⟩ := h
  cases r with
  | cons rx rr =>
    cases rr
    cases rx
    obtain ⟨as, rd⟩ := Dp.reads I d _ _ hd rfl
    exact repr_of_reads' rd h1 (fun z => by rw [h2] at z; cases z) hg (by omega) (fun _ _ z => z) (fun h' u tk k => ⟨.str _, H, I.kept (t' := tk) k, ⟨u, rfl⟩, q⟩) h4
end
end XE
namespace XE
open PySem PySem.Spec PyProof.Rows L2
/-- a test's reading, open to whatever follows from what it was read for: the ways meet again -/
def tUp (t : TT) : TT := fun σ H Q => ∃ R : Bool → Hp → Prop, t σ H R ∧ ∀ b H1, R b H1 → Q b H1
theorem pt_up {X : Cx} {c : Expr} {t : TT} (h : PT X c t) : PT X c (tUp t) := by
  refine ⟨fun pins s σ H Q I hq => ?_⟩
  obtain ⟨R, hR, up⟩ := hq
  exact thn (h.run pins s σ H R I hR) fun b s1 ⟨H1, J, z⟩ => ⟨H1, J, up b H1 z⟩
/-- an expression's, likewise -/
def eUp (t : TE) : TE := fun σ H Q => ∃ R : V → Hp → Prop, t σ H R ∧ ∀ v H1, R v H1 → Q v H1
theorem pe_up {X : Cx} {c : Expr} {t : TE} (h : PE X c t) : PE X c (eUp t) := by
  refine ⟨fun pins s σ H Q I hq => ?_⟩
  obtain ⟨R, hR, up⟩ := hq
  exact thn (h.run pins s σ H R I hR) fun b s1 ⟨v, H1, J, r, z⟩ => ⟨v, H1, J, r, up v H1 z⟩
end XE
set_option linter.all false
set_option maxRecDepth 100000
set_option maxHeartbeats 4000000
/-! Scenes as texts: what is written is read; the judge that goes line by line says the same. -/
namespace XS
open PySem L2
theorem name_signs {x : Str} (h : isName x = true) : ∀ c ∈ TL.tl x, c ∈ letters.cps.toList := by
  unfold isName at h
  simp only [Bool.and_eq_true, List.all_eq_true, decide_eq_true_eq] at h
  exact h.2.2
theorem name_len {x : Str} (h : isName x = true) : 1 ≤ x.length ∧ x.length ≤ 12 := by
  unfold isName at h
  simp only [Bool.and_eq_true, decide_eq_true_eq] at h
  exact h.1
theorem letter_free : ∀ c ∈ letters.cps.toList, c ≠ 32 ∧ c ≠ 10 ∧ 97 ≤ c ∧ c ≤ 122 := by decide +kernel
theorem split_join1 {y : Str} {s : Nat} (ey : TL.tl y = [s]) (hs : s < 256) {ps : List Str} (hne : ps ≠ []) (hp : ∀ p ∈ ps, s ∉ TL.tl p) : Txt.split (Txt.join y ps) y = ps := by
  refine TL.split_join ey ?_ hne hp
  rw [Array.all_eq_true_iff_forall_mem]
  intro c hc
  have z : c ∈ TL.tl y := Array.mem_toList_iff.mpr hc
  rw [ey, List.mem_singleton] at z
  exact decide_eq_true (by omega)
def rowLine (x : Str) : Str := "row " ++ x
def markLine (x : Str) : Str := "mark " ++ x
theorem tl_sp : TL.tl " " = [32] := by decide +kernel
theorem tl_nl : TL.tl "\n" = [10] := by decide +kernel
theorem ws_two {a x l : Str} (e : l = a ++ " " ++ x) (ha : 32 ∉ TL.tl a) (hx : 32 ∉ TL.tl x) : wsOf l = [a, x] := by
  subst e
  have z := split_join1 (y := " ") (ps := [a, x]) tl_sp (by decide) (by simp) (by
    intro p hp
    rcases List.mem_cons.mp hp with r | r
    · rw [r]
      exact ha
    · rw [List.mem_singleton.mp r]
      exact hx)
  exact z
theorem name_no {x : Str} (h : isName x = true) : 32 ∉ TL.tl x ∧ 10 ∉ TL.tl x :=
  ⟨fun z => (letter_free _ (name_signs h _ z)).1 rfl, fun z => (letter_free _ (name_signs h _ z)).2.1 rfl⟩
theorem row_eq (x : Str) : rowLine x = "row" ++ " " ++ x := by
  unfold rowLine
  rw [show ("row " : Str) = "row" ++ " " by decide +kernel]
theorem mark_eq (x : Str) : markLine x = "mark" ++ " " ++ x := by
  unfold markLine
  rw [show ("mark " : Str) = "mark" ++ " " by decide +kernel]
theorem ws_row {x : Str} (h : isName x = true) : wsOf (rowLine x) = [("row" : Str), x] := ws_two (row_eq x) (by decide +kernel) (name_no h).1
theorem ws_mark {x : Str} (h : isName x = true) : wsOf (markLine x) = [("mark" : Str), x] := ws_two (mark_eq x) (by decide +kernel) (name_no h).1
theorem ws_lots : wsOf "lots" = [("lots" : Str)] := by
  have z := split_join1 (y := " ") (ps := [("lots" : Str)]) tl_sp (by decide) (by simp) (by decide +kernel)
  exact z
theorem lots_of {l : Str} (h : wsOf l = [("lots" : Str)]) : l = "lots" := by
  have z := PySem.StrLaws.join_split l " "
  unfold wsOf at h
  rw [h] at z
  exact z.symm
/-! ### what readN does -/
theorem line_of {word : Str} {most : Nat} {taken names : List Str} {l b : Str} (h : lineName word most taken names l = some b) : ∃ a, wsOf l = [a, b] ∧ names.length ≠ most ∧ a = word ∧ isName b = true ∧ b ∉ taken ∧ b ∉ names := by
  unfold lineName at h
  split at h
  · rename_i a b' e
    split at h
    · rename_i q
      cases h
      exact ⟨a, e, q⟩
    · cases h
  · cases h
theorem readN_pre (word : Str) (most : Nat) (taken : List Str) : ∀ (ls names : List Str), ∃ k, k ≤ ls.length ∧ (readN word most taken names ls).length = names.length + k ∧ (names.length ≤ most → names.length + k ≤ most) ∧
    (∀ l, (ls.drop k).head? = some l → lineName word most taken (readN word most taken names ls) l = none)
  | [], names => ⟨0, Nat.le_refl _, rfl, id, fun l h => by cases h⟩
  | l :: ls, names => by
    cases e : lineName word most taken names l with
    | none =>
      rw [readN_none e]
      refine ⟨0, Nat.zero_le _, rfl, id, fun l' h => ?_⟩
      cases h
      exact e
    | some b =>
      rw [readN_some e]
      obtain ⟨k, h1, h2, h3, h4⟩ := readN_pre word most taken ls (names ++ [b])
      obtain ⟨_, _, hm, _⟩ := line_of e
      rw [List.length_append, List.length_singleton] at h2 h3
      exact ⟨k + 1, by rw [List.length_cons]; omega, by omega, fun h => by have := h3 (by omega); omega, h4⟩
/-! ### the judge -/
/-- the first wrong line or 0, rows, marks, lots -/
def judge (n : Nat) (rows marks : List Str) (lots : Bool) : List Str → Nat × List Str × List Str × Bool
  | [] => (if rows = [] then 1 else 0, rows, marks, lots)
  | l :: ls =>
    if wsOf l = [("lots" : Str)] ∧ rows ≠ [] ∧ lots = false then judge (n + 1) rows marks true ls
    else if lots = true then (n + 1, rows, marks, lots)
    else match wsOf l with
      | [a, b] => if isName b = false ∨ b ∈ rows ++ marks then (n + 1, rows, marks, lots)
        else if a = "row" ∧ marks = [] ∧ rows.length < 3 then judge (n + 1) (rows ++ [b]) marks lots ls
        else if a = "mark" ∧ rows ≠ [] ∧ marks.length < 2 then judge (n + 1) rows (marks ++ [b]) lots ls
        else (n + 1, rows, marks, lots)
      | _ => (n + 1, rows, marks, lots)
theorem judge_rows : ∀ (ls rows : List Str) (n : Nat), rows.length ≤ 3 → ∃ k, k ≤ ls.length ∧ (readN "row" 3 [] rows ls).length = rows.length + k ∧ judge n rows [] false ls = judge (n + k) (readN "row" 3 [] rows ls) [] false (ls.drop k)
  | [], rows, n, _ => ⟨0, Nat.le_refl _, rfl, rfl⟩
  | l :: ls, rows, n, h3 => by
    cases e : lineName "row" 3 [] rows l with
    | none =>
      rw [readN_none e]
      exact ⟨0, Nat.zero_le _, rfl, rfl⟩
    | some b =>
      rw [readN_some e]
      obtain ⟨a, ew, hm, ha, hb, _, hn⟩ := line_of e
      obtain ⟨k, h1, h2, h4⟩ := judge_rows ls (rows ++ [b]) (n + 1) (by rw [List.length_append, List.length_singleton]; omega)
      rw [List.length_append, List.length_singleton] at h2
      refine ⟨k + 1, by rw [List.length_cons]; omega, by omega, ?_⟩
      conv => lhs; unfold judge
      rw [ew, if_neg (by simp), if_neg (by simp)]
      dsimp only
      rw [if_neg (by simp [hb, hn]), if_pos ⟨ha, rfl, by omega⟩, h4, List.drop_succ_cons, Nat.add_assoc, Nat.add_comm 1 k]
theorem judge_marks {rows : List Str} (hr : rows ≠ []) : ∀ (ls marks : List Str) (n : Nat), marks.length ≤ 2 → ∃ k, k ≤ ls.length ∧ (readN "mark" 2 rows marks ls).length = marks.length + k ∧ judge n rows marks false ls = judge (n + k) rows (readN "mark" 2 rows marks ls) false (ls.drop k)
  | [], marks, n, _ => ⟨0, Nat.le_refl _, rfl, rfl⟩
  | l :: ls, marks, n, h3 => by
    cases e : lineName "mark" 2 rows marks l with
    | none =>
      rw [readN_none e]
      exact ⟨0, Nat.zero_le _, rfl, rfl⟩
    | some b =>
      rw [readN_some e]
      obtain ⟨a, ew, hm, ha, hb, ht, hn⟩ := line_of e
      obtain ⟨k, h1, h2, h4⟩ := judge_marks hr ls (marks ++ [b]) (n + 1) (by rw [List.length_append, List.length_singleton]; omega)
      rw [List.length_append, List.length_singleton] at h2
      refine ⟨k + 1, by rw [List.length_cons]; omega, by omega, ?_⟩
      have na : ¬ a = "row" := by
        rw [ha]
        decide +kernel
      conv => lhs; unfold judge
      rw [ew, if_neg (by simp), if_neg (by simp)]
      dsimp only
      rw [if_neg (by simp [hb, hn, ht]), if_neg (fun z => na z.1), if_pos ⟨ha, hr, by omega⟩, h4, List.drop_succ_cons, Nat.add_assoc, Nat.add_comm 1 k]
/-- a line that is none of the three kinds -/
theorem judge_stop {n : Nat} {rows marks : List Str} {l : Str} {ls : List Str} (h1 : ¬ wsOf l = [("lots" : Str)]) (h2 : lineName "mark" 2 rows marks l = none ∨ rows = []) (h3 : marks = [] → lineName "row" 3 [] rows l = none) (hm : marks.length ≤ 2) (hr : rows.length ≤ 3) :
    judge n rows marks false (l :: ls) = (n + 1, rows, marks, false) := by
  unfold judge
  rw [if_neg (fun z => h1 z.1), if_neg (by simp)]
  split
  · rename_i a b e
    by_cases c : isName b = false ∨ b ∈ rows ++ marks
    · rw [if_pos c]
    · rw [if_neg c]
      have cb : isName b = true := Bool.not_eq_false _ |>.mp fun z => c (.inl z)
      have cm : b ∉ rows ∧ b ∉ marks := ⟨fun z => c (.inr (List.mem_append_left _ z)), fun z => c (.inr (List.mem_append_right _ z))⟩
      rw [if_neg, if_neg]
      · rintro ⟨ha, hne, hl⟩
        rcases h2 with h2 | h2
        · rw [line_some e ⟨by omega, ha, cb, cm.1, cm.2⟩] at h2
          cases h2
        · exact hne h2
      · rintro ⟨ha, hne, hl⟩
        have z := h3 hne
        rw [line_some e ⟨by omega, ha, cb, List.not_mem_nil, cm.1⟩] at z
        cases z
  · rfl
theorem head_drop {α : Type} {l : List α} {k : Nat} {x : α} {r : List α} (h : l.drop k = x :: r) : (l.drop k).head? = some x ∧ k < l.length := by
  refine ⟨by rw [h] <;> rfl, ?_⟩
  have z := congrArg List.length h
  rw [List.length_drop, List.length_cons] at z
  omega
theorem judge_eq (t : Str) : match readScene t with
    | .inl k => 0 < k ∧ (judge 0 [] [] false (lnOf t)).1 = k
    | .inr s => judge 0 [] [] false (lnOf t) = (0, s.rows, s.marks, s.lots) := by
  unfold readScene
  dsimp only
  generalize lnOf t = L
  obtain ⟨k, hk, e1, e2⟩ := judge_rows L [] 0 (by decide)
  obtain ⟨k', hk', e1', e3, e4⟩ := readN_pre "row" 3 [] L []
  obtain rfl : k' = k := by
    rw [List.length_nil] at e1 e1'
    omega
  rw [List.length_nil, Nat.zero_add] at e1
  have r3 : (readN "row" 3 [] [] L).length ≤ 3 := by
    have := e3 (by decide)
    rw [List.length_nil] at this
    omega
  rw [e2]
  generalize readN "row" 3 [] [] L = R at e1 e4 r3 ⊢
  by_cases hR : R = []
  · rw [if_pos hR]
    refine ⟨Nat.one_pos, ?_⟩
    subst hR
    obtain rfl : k' = 0 := e1.symm
    rw [List.drop_zero] at e4 ⊢
    cases L with
    | nil => rfl
    | cons l ls =>
      by_cases c : wsOf l = [("lots" : Str)]
      · unfold judge
        rw [if_neg (fun z => z.2.1 rfl), if_neg (by simp), c]
      · rw [judge_stop c (.inr rfl) (fun _ => e4 l rfl) (by decide) (by decide)]
  · rw [if_neg hR]
    obtain ⟨j, hj, f1, f2⟩ := judge_marks hR (L.drop k') [] (0 + k') (by decide)
    obtain ⟨j', hj', f1', f3, f4⟩ := readN_pre "mark" 2 R (L.drop k') []
    obtain rfl : j' = j := by omega
    rw [List.length_nil, Nat.zero_add] at f1
    have m2 : (readN "mark" 2 R [] (L.drop k')).length ≤ 2 := by
      have := f3 (by decide)
      rw [List.length_nil] at this
      omega
    rw [f2, e1]
    generalize readN "mark" 2 R [] (L.drop k') = M at f1 f4 m2 ⊢
    rw [f1]
    rw [List.drop_drop] at f4 ⊢
    have hlen := List.length_drop (i := k' + j') (l := L)
    cases hd : L.drop (k' + j') with
    | nil =>
      rw [hd, List.length_nil] at hlen
      rw [List.take_nil, decide_eq_false (by simp)]
      simp only [Bool.false_eq_true, if_false, Nat.add_zero]
      rw [if_neg (by omega)]
      dsimp only
      unfold judge
      rw [if_neg hR]
    | cons l ls =>
      rw [hd] at f4 hlen
      rw [List.length_cons] at hlen
      by_cases c : wsOf l = [("lots" : Str)]
      · have el := lots_of c
        subst el
        rw [show List.take 1 (("lots" : Str) :: ls) = [("lots" : Str)] from rfl, decide_eq_true rfl, if_pos rfl]
        cases ls with
        | nil =>
          rw [List.length_nil] at hlen
          rw [if_neg (by omega)]
          dsimp only
          unfold judge
          rw [if_pos ⟨c, hR, rfl⟩]
          show (if R = [] then 1 else 0, R, M, true) = _
          rw [if_neg hR]
        | cons l2 ls2 =>
          rw [List.length_cons] at hlen
          rw [if_pos (by omega)]
          dsimp only
          refine ⟨by omega, ?_⟩
          unfold judge
          rw [if_pos ⟨c, hR, rfl⟩]
          unfold judge
          rw [if_neg (by simp), if_pos rfl]
          simp
      · have el : ¬ (List.take 1 (l :: ls) = [("lots" : Str)]) := by
          intro z
          have z' : l = "lots" := by simpa using z
          exact c (z' ▸ ws_lots)
        rw [decide_eq_false el]
        simp only [Bool.false_eq_true, if_false, Nat.add_zero]
        rw [if_pos (by omega)]
        dsimp only
        refine ⟨by omega, ?_⟩
        rw [judge_stop c (.inl (f4 l rfl)) (fun z => e4 l (by
          subst z
          obtain rfl : j' = 0 := f1.symm
          rw [Nat.add_zero] at hd
          rw [hd] <;> rfl)) m2 r3]
        simp
/-! ### what is written -/
structure GoodSc (rows marks : List Str) : Prop where
  ne : rows ≠ []
  r3 : rows.length ≤ 3
  m2 : marks.length ≤ 2
  nd : (rows ++ marks).Nodup
  ok : ∀ x ∈ rows ++ marks, isName x = true
def scLines (rows marks : List Str) (lots : Bool) : List Str := rows.map rowLine ++ marks.map markLine ++ (if lots then [("lots" : Str)] else [])
def scText (rows marks : List Str) (lots : Bool) : Str := Txt.join "\n" (scLines rows marks lots)
theorem readN_lines {word : Str} {most : Nat} {taken : List Str} {line : Str → Str} (hl : ∀ x, isName x = true → wsOf (line x) = [word, x]) {tail : List Str} : ∀ (xs names : List Str), (∀ x ∈ xs, isName x = true) → (names ++ xs).Nodup → (∀ x ∈ xs, x ∉ taken) →
    (names ++ xs).length ≤ most → (∀ l, tail.head? = some l → lineName word most taken (names ++ xs) l = none) → readN word most taken names (xs.map line ++ tail) = names ++ xs
  | [], names, _, _, _, _, ht => by
    rw [List.append_nil] at ht ⊢
    cases tail with
    | nil => rfl
    | cons l ls => exact readN_none (ht l rfl)
  | x :: xs, names, hok, nd, hta, hm, ht => by
    have hx := hok x List.mem_cons_self
    have hn : x ∉ names := fun z => by
      rw [List.nodup_append] at nd
      exact nd.2.2 x z x List.mem_cons_self rfl
    have hm' : names.length ≠ most := by
      rw [List.length_append, List.length_cons] at hm
      omega
    rw [List.map_cons, List.cons_append, readN_some (line_some (hl x hx) ⟨hm', rfl, hx, hta x List.mem_cons_self, hn⟩)]
    have e : names ++ x :: xs = (names ++ [x]) ++ xs := by simp
    rw [e] at nd hm ht ⊢
    exact readN_lines hl xs _ (fun y hy => hok y (List.mem_cons_of_mem _ hy)) nd (fun y hy => hta y (List.mem_cons_of_mem _ hy)) hm ht
theorem signs_line {y x : Str} (hy : 10 ∉ TL.tl y) (hx : isName x = true) : 10 ∉ TL.tl (y ++ x) := by
  rw [TL.tl_append]
  intro z
  rcases List.mem_append.mp z with z | z
  · exact hy z
  · exact (name_no hx).2 z
theorem scLines_free {rows marks : List Str} {lots : Bool} (g : GoodSc rows marks) : ∀ l ∈ scLines rows marks lots, 10 ∉ TL.tl l := by
  intro l hl
  unfold scLines at hl
  rcases List.mem_append.mp hl with hl | hl
  · rcases List.mem_append.mp hl with hl | hl
    · obtain ⟨x, hx, rfl⟩ := List.mem_map.mp hl
      exact signs_line (by decide +kernel) (g.ok x (List.mem_append_left _ hx))
    · obtain ⟨x, hx, rfl⟩ := List.mem_map.mp hl
      exact signs_line (by decide +kernel) (g.ok x (List.mem_append_right _ hx))
  · cases lots with
    | false => cases hl
    | true =>
      rw [if_pos rfl, List.mem_singleton] at hl
      subst hl
      decide +kernel
theorem scLines_ne {rows marks : List Str} {lots : Bool} (g : GoodSc rows marks) : scLines rows marks lots ≠ [] := by
  intro z
  unfold scLines at z
  rw [List.append_eq_nil_iff, List.append_eq_nil_iff, List.map_eq_nil_iff] at z
  exact g.ne z.1.1
theorem join_nil {y : Str} {ps : List Str} (h : Txt.join y ps = "") (hne : ps ≠ []) : ∃ p ∈ ps, p = "" := by
  rw [TL.join_eq] at h
  match ps, hne with
  | p :: r, _ =>
    refine ⟨p, List.mem_cons_self, ?_⟩
    have z := join_mem_le y (p :: r) p List.mem_cons_self
    rw [h] at z
    have z' : p.length = 0 := Nat.le_zero.mp z
    have e : TL.tl p = [] := List.eq_nil_of_length_eq_zero ((TL.len_tl p).symm.trans z')
    exact TL.ext_tl (e.trans (by decide +kernel))
theorem lnOf_join {ps : List Str} (hne : ps ≠ []) (hf : ∀ p ∈ ps, 10 ∉ TL.tl p) (he : ¬ Txt.join "\n" ps = "") : lnOf (Txt.join "\n" ps) = ps := by
  unfold lnOf
  rw [if_neg he]
  exact split_join1 tl_nl (by decide) hne hf
theorem scText_ne {rows marks : List Str} {lots : Bool} (g : GoodSc rows marks) : ¬ scText rows marks lots = "" := by
  intro z
  unfold scText at z
  rw [TL.join_eq] at z
  match rows, g.ne with
  | r :: rs, _ =>
    have y := join_mem_le "\n" (scLines (r :: rs) marks lots) (rowLine r) (by simp [scLines])
    rw [z] at y
    unfold rowLine at y
    rw [strLen_append] at y
    have : ("row " : Str).length = 4 := by decide +kernel
    have e0 : ("" : Str).length = 0 := by decide +kernel
    omega
theorem lnOf_scText {rows marks : List Str} {lots : Bool} (g : GoodSc rows marks) : lnOf (scText rows marks lots) = scLines rows marks lots := lnOf_join (scLines_ne g) (scLines_free g) (scText_ne g)
theorem readScene_good {rows marks : List Str} {lots : Bool} (g : GoodSc rows marks) : readScene (scText rows marks lots) = .inr ⟨rows, marks, lots⟩ := by
  have nd := List.nodup_append.mp g.nd
  have e1 : readN "row" 3 [] [] (scLines rows marks lots) = rows := by
    unfold scLines
    rw [List.append_assoc]
    refine readN_lines (tail := marks.map markLine ++ if lots = true then [("lots" : Str)] else []) (fun x hx => ws_row hx) rows [] (fun x hx => g.ok x (List.mem_append_left _ hx)) (by rw [List.nil_append]; exact nd.1) (fun x _ => List.not_mem_nil) (by rw [List.nil_append]; exact g.r3) (fun l hl => ?_)
    refine line_none fun a b e h => ?_
    cases marks with
    | nil =>
      cases lots with
      | false => cases hl
      | true =>
        cases hl
        rw [ws_lots] at e
        cases e
    | cons m ms =>
      cases hl
      rw [ws_mark (g.ok m (List.mem_append_right _ List.mem_cons_self))] at e
      cases e
      exact absurd h.2.1 (by decide +kernel)
  have e2 : (scLines rows marks lots).drop rows.length = marks.map markLine ++ if lots = true then [("lots" : Str)] else [] := by
    unfold scLines
    rw [List.append_assoc]
    exact List.drop_left' (List.length_map _)
  have e3 : readN "mark" 2 rows [] (marks.map markLine ++ if lots = true then [("lots" : Str)] else []) = marks := by
    refine readN_lines (fun x hx => ws_mark hx) marks [] (fun x hx => g.ok x (List.mem_append_right _ hx)) (by rw [List.nil_append]; exact nd.2.1) (fun x hx z => nd.2.2 x z x hx rfl) (by rw [List.nil_append]; exact g.m2) (fun l hl => ?_)
    refine line_none fun a b e h => ?_
    cases lots with
    | false => cases hl
    | true =>
      cases hl
      rw [ws_lots] at e
      cases e
  have e4 : (scLines rows marks lots).drop (rows.length + marks.length) = if lots = true then [("lots" : Str)] else [] := by
    unfold scLines
    exact List.drop_left' (by rw [List.length_append, List.length_map, List.length_map])
  have e5 : (scLines rows marks lots).length = rows.length + marks.length + if lots = true then 1 else 0 := by
    unfold scLines
    rw [List.length_append, List.length_append, List.length_map, List.length_map]
    cases lots <;> rfl
  unfold readScene
  rw [lnOf_scText g]
  dsimp only
  rw [e1, if_neg g.ne, e2, e3, e4, e5]
  have e6 : decide ((if lots = true then [("lots" : Str)] else []).take 1 = [("lots" : Str)]) = lots := by
    cases lots <;> rfl
  rw [e6, if_neg (Nat.lt_irrefl _)]
end XS
set_option linter.all false
set_option maxRecDepth 100000
set_option maxHeartbeats 4000000
/-! What the laws' own helpers promise: scenes drawn and written. -/
namespace XS
open PySem L2
/-- one of the items, drawn -/
def spPick (K : PySem.W.Frag) : Sp := fun vs H Q _ => ∃ (p c a : Addr) (T : Nat) (xs : List V), vs = [.ref p, .ref a] ∧ XP.Pen H p c T ∧ T ≤ 1000000 ∧ SqL K H a xs ∧ 0 < xs.length ∧ xs.length ≤ 1000000 ∧
  ∀ (i : Nat) (v : V) (H' : Hp), xs[i]? = some v → XP.Pen H' p c (T + 1) → XP.But p H H' → Q v H'
def BARRED : List Str := (["row", "mark", "unmark", "lot", "lots", "takes", "gives", "next", "prev", "first", "last", "where", "if", "else", "end", "times", "put", "swap", "turn", "sort", "gather", "by", "ahead", "behind", "is", "has", "with", "missing", "it", "and", "or", "not", "all", "some", "nothing"] : List String).map Str.ofString
theorem barred_iff (x : Str) : x ∈ BARRED ↔ x ∈ WORDS := by
  have h1 : ∀ x ∈ BARRED, x ∈ WORDS := by decide +kernel
  have h2 : ∀ x ∈ WORDS, x ∈ BARRED := by decide +kernel
  exact ⟨h1 x, h2 x⟩
def spBarred : Sp := fun vs H Q _ => vs = [] ∧ ∀ (p : Addr) (H' : Hp), Same H H' → H' p = some (.lst (BARRED.map V.str)) → Q (.ref p) H'
abbrev kR : Key := Sum.inr ("rows" : Str)
abbrev kM : Key := Sum.inr ("marks" : Str)
abbrev kO : Key := Sum.inr ("lots" : Str)
theorem nRM : ¬ (kR = kM) := by decide +kernel
theorem nRO : ¬ (kR = kO) := by decide +kernel
theorem nMO : ¬ (kM = kO) := by decide +kernel
def kvS (r m : Addr) (b : Bool) : List (Key × V) := [(kR, .ref r), (kM, .ref m), (kO, .bl b)]
theorem vR (r m : Addr) (b : Bool) : valV (kvS r m b) kR = some (.ref r) := valV_pos rfl
theorem vM (r m : Addr) (b : Bool) : valV (kvS r m b) kM = some (.ref m) := (valV_neg nRM).trans (valV_pos rfl)
theorem vO (r m : Addr) (b : Bool) : valV (kvS r m b) kO = some (.bl b) := (valV_neg nRO).trans ((valV_neg nMO).trans (valV_pos rfl))
theorem gR {H : Hp} {d r m : Addr} {b : Bool} (e : H d = some (.dK (kvS r m b))) : DGet H d (V.str "rows") (some (.ref r)) := by
  have z := DGet.k (k := kR) e
  rwa [vR] at z
theorem gM {H : Hp} {d r m : Addr} {b : Bool} (e : H d = some (.dK (kvS r m b))) : DGet H d (V.str "marks") (some (.ref m)) := by
  have z := DGet.k (k := kM) e
  rwa [vM] at z
theorem gO {H : Hp} {d r m : Addr} {b : Bool} (e : H d = some (.dK (kvS r m b))) : DGet H d (V.str "lots") (some (.bl b)) := by
  have z := DGet.k (k := kO) e
  rwa [vO] at z
theorem merge2 (r m : Addr) : mergeK [] [(kR, V.ref r), (kM, V.ref m)] = [(kR, V.ref r), (kM, V.ref m)] := by
  have h1 : ¬ Str.ofString "rows" = Str.ofString "marks" := by decide +kernel
  simp [mergeK, putK, h1]
theorem put3 (r m : Addr) (b : Bool) : putK [(kR, V.ref r), (kM, V.ref m)] kO (.bl b) = kvS r m b := by
  have h1 : ¬ Str.ofString "rows" = Str.ofString "lots" := by decide +kernel
  have h2 : ¬ Str.ofString "marks" = Str.ofString "lots" := by decide +kernel
  simp [putK, kvS, h1, h2]
/-- a plain scene as a dict -/
structure ScAt (H : Hp) (d r m : Addr) (rows marks : List Str) (lots : Bool) : Prop where
  d : H d = some (.dK (kvS r m lots))
  r : H r = some (.lst (rows.map V.str))
  m : H m = some (.lst (marks.map V.str))
theorem ScAt.same {H H' : Hp} {d r m : Addr} {rows marks : List Str} {lots : Bool} (h : ScAt H d r m rows marks lots) (s : Same H H') : ScAt H' d r m rows marks lots := ⟨s _ _ h.d, s _ _ h.r, s _ _ h.m⟩
theorem names_good : ∀ x ∈ XP.names, isName x = true := by decide +kernel
theorem names_nodup : XP.names.Nodup := by decide +kernel
/-- a drawn scene -/
def spNewScene : Sp := fun vs H Q _ => ∃ (p c : Addr) (T : Nat) (rows marks : Int) (lots : Bool), vs = [.ref p, .int rows, .int marks, .bl lots] ∧ XP.Pen H p c T ∧ T + 14 ≤ 1000000 ∧ 1 ≤ rows ∧ rows ≤ 3 ∧ 0 ≤ marks ∧ marks ≤ 2 ∧
  ∀ (d r m : Addr) (rs ms : List Str) (b : Bool) (H' : Hp), H d = none → H r = none → H m = none → ScAt H' d r m rs ms b → GoodSc rs ms → (rs.length : Int) ≤ rows → (ms.length : Int) ≤ marks → (b = true → lots = true) → XP.Pen H' p c (T + 14) → XP.But p H H' → Q (.ref d) H'
def spScText : Sp := fun vs H Q _ => ∃ (d r m : Addr) (rs ms : List Str) (b : Bool), vs = [.ref d] ∧ ScAt H d r m rs ms b ∧ GoodSc rs ms ∧ ∀ H', Same H H' → Q (.str (scText rs ms b)) H'
theorem good_of {zs : List Str} {k j : Nat} (hz : zs.Perm XP.names) (h1 : 1 ≤ k) (h3 : k ≤ 3) (hj : j ≤ 2) : GoodSc ((zs.take 5).take k) (((zs.take 5).drop 3).take j) := by
  have hl : zs.length = 11 := hz.length_eq
  have nd : zs.Nodup := hz.nodup_iff.mpr names_nodup
  have sub : (((zs.take 5).take k) ++ (((zs.take 5).drop 3).take j)).Sublist zs := by
    have e : (zs.take 5) = (zs.take 5).take 3 ++ (zs.take 5).drop 3 := (List.take_append_drop 3 _).symm
    have s1 : ((zs.take 5).take k).Sublist ((zs.take 5).take 3) := by
      have : (zs.take 5).take k = ((zs.take 5).take 3).take k := by
        generalize zs.take 5 = L
        rw [List.take_take, Nat.min_eq_left h3]
      rw [this]
      exact List.take_sublist _ _
    have s2 := s1.append (List.take_sublist j ((zs.take 5).drop 3))
    rw [← e] at s2
    exact s2.trans (List.take_sublist _ _)
  refine ⟨fun z => ?_, ?_, ?_, nd.sublist sub, fun x hx => names_good x (hz.mem_iff.mp (sub.subset hx))⟩
  · have := congrArg List.length z
    rw [List.length_take, List.length_take, List.length_nil] at this
    omega
  · rw [List.length_take]
    omega
  · rw [List.length_take]
    omega
theorem cut_zero (xs : List V) {k : Int} (h : 0 ≤ k) : cutV xs none (some k) = xs.take k.toNat := XP.cut_take xs h
theorem cut_mid (xs : List V) (n j : Nat) : cutV xs (some (n : Int)) (some ((n : Int) + (j : Int))) = (xs.drop n).take j := by
  unfold cutV
  rw [show ((n : Int) + (j : Int)) = ((n + j : Nat) : Int) by omega, HT.sIx_nat, HT.sIx_nat]
  by_cases hn : n ≤ xs.length
  · rw [Nat.min_eq_left hn]
    by_cases h2 : n + j ≤ xs.length
    · rw [Nat.min_eq_left h2, Nat.add_sub_cancel_left]
    · rw [Nat.min_eq_right (by omega), List.take_of_length_le (by rw [List.length_drop]; omega), List.take_of_length_le (by rw [List.length_drop]; omega)]
  · rw [Nat.min_eq_right (by omega), Nat.min_eq_right (by omega), List.drop_eq_nil_of_le (Nat.le_refl _), List.drop_eq_nil_of_le (by omega), List.take_nil, List.take_nil]
theorem sum_map_le {α : Type} (f : α → Nat) (k : Nat) : ∀ l : List α, (∀ x ∈ l, f x ≤ k) → (l.map f).sum ≤ l.length * k
  | [], _ => by simp
  | x :: l, h => by
    have h1 := h x List.mem_cons_self
    have h2 := sum_map_le f k l fun y hy => h y (List.mem_cons_of_mem _ hy)
    rw [List.map_cons, List.sum_cons, List.length_cons, Nat.add_mul, Nat.one_mul]
    omega
theorem scLines_small {rows marks : List Str} {lots : Bool} (g : GoodSc rows marks) : (∀ l ∈ scLines rows marks lots, l.length ≤ 17) ∧ (scLines rows marks lots).length ≤ 6 := by
  refine ⟨fun l hl => ?_, ?_⟩
  · unfold scLines at hl
    rcases List.mem_append.mp hl with hl | hl
    · rcases List.mem_append.mp hl with hl | hl
      · obtain ⟨x, hx, rfl⟩ := List.mem_map.mp hl
        have := (name_len (g.ok x (List.mem_append_left _ hx))).2
        unfold rowLine
        rw [strLen_append, show ("row " : Str).length = 4 by decide +kernel]
        omega
      · obtain ⟨x, hx, rfl⟩ := List.mem_map.mp hl
        have := (name_len (g.ok x (List.mem_append_right _ hx))).2
        unfold markLine
        rw [strLen_append, show ("mark " : Str).length = 5 by decide +kernel]
        omega
    · cases lots with
      | false => cases hl
      | true =>
        rw [if_pos rfl, List.mem_singleton] at hl
        subst hl
        decide +kernel
  · have h1 := g.r3
    have h2 := g.m2
    unfold scLines
    rw [List.length_append, List.length_append, List.length_map, List.length_map]
    cases lots <;> simp <;> omega
/-! ### the judge, a line at a time -/
section
variable {n : Nat} {rows marks : List Str} {b : Bool} {y a x : Str} {ls : List Str}
theorem judge_lots (h : wsOf y = [("lots" : Str)]) (hr : rows ≠ []) : judge n rows marks false (y :: ls) = judge (n + 1) rows marks true ls := by
  conv => lhs; unfold judge
  rw [if_pos ⟨h, hr, rfl⟩]
theorem judge_bad (h : ¬ (wsOf y = [("lots" : Str)] ∧ rows ≠ [] ∧ b = false)) (h2 : b = true ∨ (wsOf y).length ≠ 2) : judge n rows marks b (y :: ls) = (n + 1, rows, marks, b) := by
  unfold judge
  rw [if_neg h]
  by_cases hb : b = true
  · rw [if_pos hb]
  · rw [if_neg hb]
    split
    · rename_i a x e
      rcases h2 with z | z
      · exact absurd z hb
      · rw [e] at z
        exact absurd rfl z
    · rfl
theorem judge_two (e : wsOf y = [a, x]) : judge n rows marks false (y :: ls) = if isName x = false ∨ x ∈ rows ++ marks then (n + 1, rows, marks, false)
    else if a = "row" ∧ marks = [] ∧ rows.length < 3 then judge (n + 1) (rows ++ [x]) marks false ls
    else if a = "mark" ∧ rows ≠ [] ∧ marks.length < 2 then judge (n + 1) rows (marks ++ [x]) false ls
    else (n + 1, rows, marks, false) := by
  conv => lhs; unfold judge
  rw [e, if_neg (fun z => by simp at z), if_neg (by simp)]
end
/-- what stands while the law's reader goes -/
structure RdAt (H0 H : Hp) (l r m wd : Addr) (ls rs ms ws : List Str) : Prop where
  s : Same H0 H
  l : H l = some (.lst (ls.map V.str))
  r : H r = some (.lst (rs.map V.str))
  m : H m = some (.lst (ms.map V.str))
  w : H wd = some (.lst (ws.map V.str))
theorem RdAt.new {H0 H : Hp} {l r m wd : Addr} {ls rs ms ws : List Str} (R : RdAt H0 H l r m wd ls rs ms ws) {q : Addr} {o : HO} (hq : H q = none) : RdAt H0 (upd H q o) l r m wd ls rs ms ws :=
  have s := XP.Same.new (o := o) hq
  ⟨R.s.trans s, s _ _ R.l, s _ _ R.r, s _ _ R.m, s _ _ R.w⟩
theorem RdAt.same {H0 H H' : Hp} {l r m wd : Addr} {ls rs ms ws : List Str} (R : RdAt H0 H l r m wd ls rs ms ws) (s : Same H H') : RdAt H0 H' l r m wd ls rs ms ws :=
  ⟨R.s.trans s, s _ _ R.l, s _ _ R.r, s _ _ R.m, s _ _ R.w⟩
/-- xs == [] and xs != [], xs a list of texts -/
theorem eqv_nil (xs : List Str) : PyData.eqv (.list (xs.map PyData.str)) (.list []) = decide (xs = []) := XP.eqv_strs xs []
/-- the law's own reader -/
def spRead : Sp := fun vs H Q _ => ∃ t : Str, vs = [.str t] ∧ t.length ≤ 100000 ∧ PyData.strOk t = true ∧
  ∀ (tp r m : Addr) (J : Nat × List Str × List Str × Bool) (H' : Hp), J = judge 0 [] [] false (lnOf t) → Same H H' → H' tp = some (.tup [.int (J.1 : Nat), .ref r, .ref m, .bl J.2.2.2]) → H' r = some (.lst (J.2.1.map V.str)) → H' m = some (.lst (J.2.2.1.map V.str)) → Q (.ref tp) H'
/-- the law's own look at a name -/
def spLawIsName : Sp := fun vs H Q _ => ∃ x : Str, vs = [.str x] ∧ x.length ≤ 1000000 ∧ PyData.strOk x = true ∧ ∀ H', Same H H' → Q (.bl (isName x)) H'
end XS
set_option linter.all false
set_option maxRecDepth 100000
set_option maxHeartbeats 4000000
namespace K01
open PySem L2 NdefX XE 
abbrev sPick : Stmt := top 16
abbrev sBarred : Stmt := top 18
abbrev sNewScene : Stmt := top 20
abbrev sScText : Stmt := top 21
section
variable {P : Program} {w : World} {K : PySem.W.Frag} {mg : Str → Option Value} {base : Heap}
theorem scPick : FnScope ["pen", "options"] ["pen", "options"] (defScope sPick) := ⟨rfl, rfl, rfl, by decide +kernel, rfl, by decide +kernel, by decide +kernel⟩
theorem okPick {f fD : Addr} {fd fdD : FuncData} (F : Fun K "_law_pick" "_law_pick" sPick f fd) (ml : mg "len" = none) (GD : FnOk P w K mg base CX0 1 fD fdD ["pen", "span"] XP.spDraw) (bD : Binds K fdD ["pen", "span"] []) (kD : PySem.W.keepIn K (.ref fD) = true) (mD : mg "_law_draw" = some (.ref fD)) :
    FnOk P w K mg base CX0 2 f fd ["pen", "options"] (XS.spPick K) := by
  refine F.ok scPick (fun vs H Q E h => by obtain ⟨p, c, a, T, xs, rfl, _⟩ := h; rfl) (fun cdv A outer s H vs Q E hr h => ?_)
  obtain ⟨p, c, a, T, xs, rfl, hP, hT, hS, h0, hn, k⟩ := h
  refine ⟨_, pss_one (ps_ret (pe_ix ix_list (pv 1) (pe_call GD hr rfl mD kD bD .nil pass0 (pa_cons (pv 0) (pa_cons (pe_callB call_len_seq (by rfl) ml PySem.boot_len (pa_cons (pv 1) pa_nil)) pa_nil))) (fun _ _ => rfl))), ?_⟩
  refine ⟨_, rfl, _, rfl, _, rfl, a, _, rfl, .inl hS, p, c, T, _, rfl, hP, hT, (by omega), ?_, fun r H' r0 rn hP' hb => ?_⟩
  · have : (2 : Nat) ^ 250 > 1000000 := by decide
    show ((xs.length : Nat) : Int).natAbs < 2 ^ 250
    omega
  have hk : r.toNat < xs.length := by omega
  refine ⟨a, xs, r, xs[r.toNat], rfl, rfl, hP.seq hb hS, ?_, k r.toNat _ H' (List.getElem?_eq_getElem hk) hP' hb⟩
  have z : atI xs ((r.toNat : Nat) : Int) = some xs[r.toNat] := atI_nat (List.getElem?_eq_getElem hk)
  rwa [show ((r.toNat : Nat) : Int) = r by omega] at z
theorem scBarred : FnScope ["found"] [] (defScope sBarred) := ⟨rfl, rfl, rfl, by decide +kernel, rfl, by decide +kernel, by decide +kernel⟩
theorem okBarred {f : Addr} {fd : FuncData} (F : Fun K "_law_barred" "_law_barred" sBarred f fd) : FnOk P w K mg base CX0 1 f fd [] XS.spBarred := by
  refine F.ok scBarred (fun vs H Q E h => by rw [h.1] <;> rfl) (fun cdv A outer s H vs Q E hr h => ?_)
  obtain ⟨rfl, k⟩ := h
  refine ⟨_, pss_cons (ps_set (i := 0) scBarred.nd rfl (Or.inl rfl) (pe_lst (pa_cons pe_str (pa_cons pe_str (pa_cons pe_str (pa_cons pe_str (pa_cons pe_str (pa_cons pe_str (pa_cons pe_str (pa_cons pe_str (pa_cons pe_str (pa_cons pe_str (pa_cons pe_str (pa_cons pe_str pa_nil))))))))))))))
    (pss_cons (ps_set (i := 0) scBarred.nd rfl (Or.inl rfl) (pe_op op_cat (pv 0) (pe_lst (pa_cons pe_str (pa_cons pe_str (pa_cons pe_str (pa_cons pe_str (pa_cons pe_str (pa_cons pe_str (pa_cons pe_str (pa_cons pe_str (pa_cons pe_str (pa_cons pe_str (pa_cons pe_str (pa_cons pe_str pa_nil)))))))))))))))
    (pss_one (ps_ret (pe_op op_cat (pv 0) (pe_lst (pa_cons pe_str (pa_cons pe_str (pa_cons pe_str (pa_cons pe_str (pa_cons pe_str (pa_cons pe_str (pa_cons pe_str (pa_cons pe_str (pa_cons pe_str (pa_cons pe_str (pa_cons pe_str pa_nil)))))))))))))))), ?_⟩
  have z12 : 12 ≤ sizeLine := by decide
  have z11 : 11 ≤ sizeLine := by decide
  refine ⟨z12, fun a ha => ⟨_, rfl, z12, fun b hb => ⟨a, b, _, _, rfl, rfl, (upd_ne (ne_of_none upd_same hb)).trans upd_same, upd_same, (by show 24 ≤ sizeLine; decide), fun c hc => ?_⟩⟩⟩
  refine ⟨_, rfl, z11, fun d hd => ⟨c, d, _, _, rfl, rfl, (upd_ne (ne_of_none upd_same hd)).trans upd_same, upd_same, (by show 35 ≤ sizeLine; decide), fun e he => ?_⟩⟩
  refine k e _ (fun x o z => ?_) ?_
  · exact XP.Same.new he _ _ (XP.Same.new hd _ _ (XP.Same.new hc _ _ (XP.Same.new hb _ _ (XP.Same.new ha _ _ z))))
  · exact upd_same.trans rfl
theorem scNewScene : FnScope ["pen", "rows", "marks", "lots", "names", "many", "found"] ["pen", "rows", "marks", "lots"] (defScope sNewScene) := ⟨rfl, rfl, rfl, by decide +kernel, rfl, by decide +kernel, by decide +kernel⟩
theorem okNewScene {f fN fD : Addr} {fd fdN fdD : FuncData} (F : Fun K "_law_new_scene" "_law_new_scene" sNewScene f fd)
    (GN : FnOk P w K mg base CX0 3 fN fdN ["pen", "many"] XP.spNames) (bN : Binds K fdN ["pen", "many"] []) (kN : PySem.W.keepIn K (.ref fN) = true) (mN : mg "_law_new_names" = some (.ref fN))
    (GD : FnOk P w K mg base CX0 1 fD fdD ["pen", "span"] XP.spDraw) (bD : Binds K fdD ["pen", "span"] []) (kD : PySem.W.keepIn K (.ref fD) = true) (mD : mg "_law_draw" = some (.ref fD)) :
    FnOk P w K mg base CX0 4 f fd ["pen", "rows", "marks", "lots"] XS.spNewScene := by
  refine F.ok scNewScene (fun vs H Q E h => by obtain ⟨p, c, T, rows, marks, lots, rfl, _⟩ := h; rfl) (fun cdv A outer s H vs Q E hr h => ?_)
  obtain ⟨p, c, T, rows, marks, lots, rfl, hP, hT, hr1, hr3, hm0, hm2, k⟩ := h
  have hu := hu_of hr
  have hr' : Room 1 _ := hr.mono (by decide)
  refine ⟨_, pss_cons (ps_par (i := 4) (j := 5) rfl scNewScene.nd rfl rfl (by decide) rfl rfl (pa_cons (pe_call GN hr rfl mN kN bN .nil pass0 (pa_cons (pv 0) (pa_cons pe_int pa_nil))) (pa_cons (pe_op op_add pe_int (pe_call GD hr' rfl mD kD bD .nil pass0 (pa_cons (pv 0) (pa_cons (pv 1) pa_nil)))) pa_nil)) (by rfl))
    (pss_cons (ps_set (i := 6) scNewScene.nd rfl (Or.inl rfl) (pe_disp (pps_cons pe_str (pe_slice sl_list (pv 4) po_none (po_some (pv 5))) (pps_cons pe_str (pe_slice sl_list (pv 4) (po_some pe_int) (po_some (pe_op op_add pe_int (pe_call GD hr' rfl mD kD bD .nil pass0 (pa_cons (pv 0) (pa_cons (pe_op op_add (pv 2) pe_int) pa_nil)))))) pps_nil)) (by rfl) (by rfl) (fun z => by cases z) (by decide)))
    (pss_cons (ps_dput hu (pv 6) pe_str (pe_and (pv 3) (pe_one (pe_cmpR op_eq (pe_call GD hr' rfl mD kD bD .nil pass0 (pa_cons (pv 0) (pa_cons pe_int pa_nil))) pe_int (nomark _)))) rfl)
    (pss_one (ps_ret (pv 6))))), ?_⟩
  have small : ∀ n : Int, 0 ≤ n → n ≤ 10 → n.natAbs < 2 ^ 250 := fun n h1 h2 => by
    have : (2 : Nat) ^ 250 > 10 := by decide
    omega
  refine ⟨_, rfl, p, c, T, 5, rfl, hP, by omega, by decide, by decide, fun a zs H1 hz ha ea hP1 hb1 => ?_⟩
  have fives : ((zs.take (5 : Int).toNat).map V.str) = (zs.take 5).map V.str := rfl
  rw [fives] at ea
  refine ⟨_, rfl, _, rfl, p, c, T + 11, rows, rfl, hP1, by omega, by omega, small _ (by omega) (by omega), fun n H2 n0 nn hP2 hb2 => ⟨1, n, rfl, rfl, _, _, rfl, ?_⟩⟩
  have ea2 : H2 a = some (.lst ((zs.take 5).map V.str)) := hb2 _ _ ea (hP.not ha)
  have nap : a ≠ p := hP.not ha
  -- the dict
  intro d hd
  have hP3 : XP.Pen (upd H2 d (.dK [])) p c (T + 12) := hP2.same (XP.Same.new hd)
  have nad : a ≠ d := ne_of_none ea2 hd
  have ndp : d ≠ p := hP2.not hd
  have ea3 : upd H2 d (.dK []) a = some (.lst ((zs.take 5).map V.str)) := (upd_ne nad).trans ea2
  have b3 : XP.But p H (upd H2 d (.dK [])) := (hb1.trans hb2).trans (XP.But.same (XP.Same.new hd))
  have dd3 : upd H2 d (.dK []) d = some (.dK []) := upd_same
  have free : ∀ {H' : Hp} {x : Addr}, XP.But p H H' → XP.Pen H' p c (T + 12) → H' x = none → H x = none := fun {H' x} b P e => by
    cases z : H x with
    | none => rfl
    | some o =>
      by_cases y : x = p
      · exact absurd y (P.not e)
      · rw [b x o z y] at e
        cases e
  have hd0 : H d = none := free (hb1.trans hb2) hP2 hd
  generalize upd H2 d (.dK []) = H3 at hP3 ea3 b3 dd3 ⊢
  refine ⟨_, rfl, _, rfl, 1 + n, rfl, a, _, rfl, SqL.of ea3, fun r hrr => ?_⟩
  rw [XS.cut_zero _ (by omega : (0 : Int) ≤ 1 + n), ← List.map_take]
  have hr0 : H r = none := free b3 hP3 hrr
  have hP4 : XP.Pen (upd H3 r (.lst (((zs.take 5).take (1 + n).toNat).map V.str))) p c (T + 12) := hP3.same (XP.Same.new hrr)
  have b4 : XP.But p H (upd H3 r (.lst (((zs.take 5).take (1 + n).toNat).map V.str))) := b3.trans (XP.But.same (XP.Same.new hrr))
  have ea4 := XP.Same.new (o := .lst (((zs.take 5).take (1 + n).toNat).map V.str)) hrr _ _ ea3
  have dd4 := XP.Same.new (o := .lst (((zs.take 5).take (1 + n).toNat).map V.str)) hrr _ _ dd3
  have rr4 : upd H3 r (.lst (((zs.take 5).take (1 + n).toNat).map V.str)) r = some (.lst (((zs.take 5).take (1 + n).toNat).map V.str)) := upd_same
  generalize upd H3 r (.lst (((zs.take 5).take (1 + n).toNat).map V.str)) = H4 at hP4 b4 ea4 dd4 rr4 ⊢
  refine ⟨_, rfl, 3, rfl, _, rfl, _, rfl, _, _, rfl, rfl, p, c, T + 12, marks + 1, rfl, hP4, by omega, by omega, small _ (by omega) (by omega), fun j H5 j0 jn hP5 hb5 => ⟨3, j, rfl, rfl, _, rfl, ?_⟩⟩
  have ea5 := hb5 _ _ ea4 nap
  have dd5 := hb5 _ _ dd4 ndp
  have rr5 := hb5 _ _ rr4 (hP.not hr0)
  have b5 := b4.trans hb5
  refine ⟨a, _, rfl, SqL.of ea5, fun m hm => ?_⟩
  obtain ⟨jn', rfl⟩ := Int.eq_ofNat_of_zero_le j0
  rw [show (3 : Int) = ((3 : Nat) : Int) from rfl, XS.cut_mid, ← List.map_drop, ← List.map_take]
  have hm0' : H m = none := by
    cases z : H m with
    | none => rfl
    | some o =>
      by_cases y : m = p
      · exact absurd y (hP5.not hm)
      · rw [b5 m o z y] at hm
        cases hm
  have dd6 := XP.Same.new (o := .lst ((((zs.take 5).drop 3).take jn').map V.str)) hm _ _ dd5
  have rr6 := XP.Same.new (o := .lst ((((zs.take 5).drop 3).take jn').map V.str)) hm _ _ rr5
  have mm6 : upd H5 m (.lst ((((zs.take 5).drop 3).take jn').map V.str)) m = some (.lst ((((zs.take 5).drop 3).take jn').map V.str)) := upd_same
  have hP6 := hP5.same (XP.Same.new (o := .lst ((((zs.take 5).drop 3).take jn').map V.str)) hm)
  have b6 := b5.trans (XP.But.same (XP.Same.new (o := .lst ((((zs.take 5).drop 3).take jn').map V.str)) hm))
  generalize upd H5 m (.lst ((((zs.take 5).drop 3).take jn').map V.str)) = H6 at dd6 rr6 mm6 hP6 b6 ⊢
  have ndr : r ≠ d := ne_of rr6 dd6 (by intro z; cases z)
  have ndm : m ≠ d := ne_of mm6 dd6 (by intro z; cases z)
  refine ⟨dd6, [(XS.kR, .ref r), (XS.kM, .ref m)], rfl, (by show 2 ≤ 15; decide), ?_⟩
  rw [XS.merge2]
  have good := XS.good_of hz (k := (1 + n).toNat) (j := jn') (by omega) (by omega) (by omega)
  have len1 : ((((zs.take 5).take (1 + n).toNat).length : Nat) : Int) ≤ rows := by
    rw [List.length_take]
    omega
  have len2 : (((((zs.take 5).drop 3).take jn').length : Nat) : Int) ≤ marks := by
    rw [List.length_take]
    omega
  -- found["lots"]
  have dd7 : upd H6 d (.dK [(XS.kR, .ref r), (XS.kM, .ref m)]) d = some (.dK [(XS.kR, .ref r), (XS.kM, .ref m)]) := upd_same
  have rr7 : upd H6 d (.dK [(XS.kR, .ref r), (XS.kM, .ref m)]) r = _ := (upd_ne ndr).trans rr6
  have mm7 : upd H6 d (.dK [(XS.kR, .ref r), (XS.kM, .ref m)]) m = _ := (upd_ne ndm).trans mm6
  have ncd : c ≠ d := by
    obtain ⟨cs, t, l, _, h2, _⟩ := hP6
    exact ne_of h2 dd6 (by intro z; cases z)
  have keepP : ∀ {H' : Hp} {o : HO} {U : Nat}, XP.Pen H' p c U → XP.Pen (upd H' d o) p c U := fun {H' o U} P => by
    obtain ⟨cs, t, l, h1, h2, r⟩ := P
    exact ⟨cs, t, l, (upd_ne (Ne.symm ndp)).trans h1, (upd_ne ncd).trans h2, r⟩
  have keepB : ∀ {H' : Hp} {o : HO}, XP.But p H H' → XP.But p H (upd H' d o) := fun {H' o} b x u z y => (upd_ne (fun e => by
    rw [e, hd0] at z
    cases z)).trans (b x u z y)
  have hP7 := keepP (o := .dK [(XS.kR, .ref r), (XS.kM, .ref m)]) hP6
  have b7 := keepB (o := .dK [(XS.kR, .ref r), (XS.kM, .ref m)]) b6
  generalize upd H6 d (.dK [(XS.kR, .ref r), (XS.kM, .ref m)]) = H7 at dd7 rr7 mm7 hP7 b7 ⊢
  have fin : ∀ (b : Bool) (H8 : Hp), H8 d = some (.dK [(XS.kR, .ref r), (XS.kM, .ref m)]) → H8 r = some (.lst (((zs.take 5).take (1 + n).toNat).map V.str)) → H8 m = some (.lst ((((zs.take 5).drop 3).take jn').map V.str)) → XP.Pen H8 p c (T + 14) → XP.But p H H8 → (b = true → lots = true) →
      Q (.ref d) (upd H8 d (.dK (putK [(XS.kR, .ref r), (XS.kM, .ref m)] XS.kO (.bl b)))) := fun b H8 e1 e2 e3 P8 b8 hb => by
    rw [XS.put3]
    exact k d r m _ _ b _ hd0 hr0 hm0' ⟨upd_same, (upd_ne ndr).trans e2, (upd_ne ndm).trans e3⟩ good len1 len2 hb (keepP P8) (keepB b8)
  cases lots with
  | false => exact ⟨_, rfl, false, rfl, iteF ⟨_, rfl, d, _, rfl, DPut.k (k := XS.kO) dd7 (by show 2 < sizeLine; decide), _, rfl, fin false H7 dd7 rr7 mm7 (hP7.mono (by omega)) b7 id⟩⟩
  | true =>
    refine ⟨_, rfl, true, rfl, iteT ⟨_, rfl, p, c, T + 13, 3, rfl, hP7, by omega, by decide, small _ (by decide) (by decide), fun q H8 q0 qn hP8 hb8 => ⟨rfl, ?_⟩⟩⟩
    have dd8 := hb8 _ _ dd7 ndp
    exact ⟨_, rfl, d, _, rfl, DPut.k (k := XS.kO) dd8 (by show 2 < sizeLine; decide), _, rfl, fin _ H8 dd8 (hb8 _ _ rr7 (hP.not hr0)) (hb8 _ _ mm7 (hP.not hm0')) hP8 (b7.trans hb8) fun _ => rfl⟩
end
end K01
set_option linter.all false
set_option maxRecDepth 100000
set_option maxHeartbeats 4000000
namespace K01
open PySem L2 NdefX XE 
abbrev sLawIsName : Stmt := top 22
section
variable {P : Program} {w : World} {K : PySem.W.Frag} {mg : Str → Option Value} {base : Heap}
theorem scScText : FnScope ["scene", "lines", "x"] ["scene"] (defScope sScText) := ⟨rfl, rfl, rfl, by decide +kernel, rfl, by decide +kernel, by decide +kernel⟩
theorem okScText {f : Addr} {fd : FuncData} (F : Fun K "_law_scene_text" "_law_scene_text" sScText f fd) (mi : mg "int" = none) : FnOk P w K mg base CX0 1 f fd ["scene"] XS.spScText := by
  refine F.ok scScText (fun vs H Q E h => by obtain ⟨d, r, m, rs, ms, b, rfl, _⟩ := h; rfl) (fun cdv A outer s H vs Q E hr h => ?_)
  obtain ⟨d, r, m, rs, ms, b, rfl, S, g, k⟩ := h
  have hu := hu_of hr
  refine ⟨_, pss_cons (ps_set (i := 1) scScText.nd rfl (Or.inl rfl) (pe_op op_cat
      (pe_lc (own := [("x", 2)]) (g := gName 2) (tt := tYes) rfl scScText.nd (pi_list (pe_dget hu (pv 0) pe_str (fun _ _ => rfl))) (blkOk_by (own := [("x", 2)]) (N := ["scene", "lines", "x"]) (sc := defScope sScText) (by decide +kernel))
        (fun _ _ _ _ _ => pg_name (i := 2) scScText.nd rfl (Or.inl rfl)) (fun _ _ _ _ _ => pts_nil) (fun _ _ _ _ _ => pe_op op_add_str pe_str (pv 2)))
      (pe_lc (own := [("x", 2)]) (g := gName 2) (tt := tYes) rfl scScText.nd (pi_list (pe_dget hu (pv 0) pe_str (fun _ _ => rfl))) (blkOk_by (own := [("x", 2)]) (N := ["scene", "lines", "x"]) (sc := defScope sScText) (by decide +kernel))
        (fun _ _ _ _ _ => pg_name (i := 2) scScText.nd rfl (Or.inl rfl)) (fun _ _ _ _ _ => pts_nil) (fun _ _ _ _ _ => pe_op op_add_str pe_str (pv 2)))))
    (pss_one (ps_ret (pe_join pe_str (pe_op op_cat (pv 1) (pe_op op_rep (pe_lst (pa_cons pe_str pa_nil)) (pe_callTy call_int1 (by rfl) mi (by decide +kernel) (pa_cons (pe_dget hu (pv 0) pe_str (fun _ _ => rfl)) pa_nil))))))), ?_⟩
  have nameLen : ∀ x ∈ rs ++ ms, x.length ≤ 12 := fun x hx => (XS.name_len (g.ok x hx)).2
  have g3 := g.r3
  have g2 := g.m2
  refine ⟨_, rfl, d, _, rfl, XS.gR S.d, r, rfl, ⟨_, SqL.of S.r⟩, fun D hD => lc_list (K := K) (a := r) (xs := rs.map V.str) (fun i H' => Same H H' ∧ H' D = some (.lst (((rs.take i).map XS.rowLine).map V.str))) ⟨XP.Same.new hD, upd_same⟩ (fun i H' _ h => (h.1).seq (SqL.of S.r)) ?_ ?_⟩
  · rintro i x H' hi ⟨s1, h1⟩
    rw [List.getElem?_map] at hi
    obtain ⟨y, hy, rfl⟩ := Option.map_eq_some_iff.mp hi
    have hyl := nameLen y (List.mem_append_left _ (List.mem_of_getElem? hy))
    refine ⟨rfl, _, rfl, _, _, rfl, rfl, ?_, _, h1, ?_, fun c o e => (upd_ne (ne_of_none e hD)).trans (s1 _ _ e), ?_⟩
    · exact Nat.le_trans (Nat.add_le_add_left hyl _) (by decide +kernel)
    · rw [List.length_map, List.length_map, List.length_take]
      exact small1000 (by omega)
    · rw [upd_same, XS.take_snoc hy, List.map_append, List.map_append]
      rfl
  rintro H1 ⟨s1, h1⟩
  rw [List.length_map, List.take_length] at h1
  have S1 := S.same s1
  refine ⟨_, rfl, d, _, rfl, XS.gM S1.d, m, rfl, ⟨_, SqL.of S1.m⟩, fun D2 hD2 => lc_list (K := K) (a := m) (xs := ms.map V.str) (fun i H' => Same H1 H' ∧ H' D2 = some (.lst (((ms.take i).map XS.markLine).map V.str))) ⟨XP.Same.new hD2, upd_same⟩ (fun i H' _ h => (h.1).seq (SqL.of S1.m)) ?_ ?_⟩
  · rintro i x H' hi ⟨s2, h2⟩
    rw [List.getElem?_map] at hi
    obtain ⟨y, hy, rfl⟩ := Option.map_eq_some_iff.mp hi
    have hyl := nameLen y (List.mem_append_right _ (List.mem_of_getElem? hy))
    refine ⟨rfl, _, rfl, _, _, rfl, rfl, ?_, _, h2, ?_, fun c o e => (upd_ne (ne_of_none e hD2)).trans (s2 _ _ e), ?_⟩
    · exact Nat.le_trans (Nat.add_le_add_left hyl _) (by decide +kernel)
    · rw [List.length_map, List.length_map, List.length_take]
      exact small1000 (by omega)
    · rw [upd_same, XS.take_snoc hy, List.map_append, List.map_append]
      rfl
  rintro H2 ⟨s2, h2⟩
  rw [List.length_map, List.take_length] at h2
  have h12 := s2 _ _ h1
  have lens : ((rs.map XS.rowLine).map V.str).length + ((ms.map XS.markLine).map V.str).length ≤ sizeLine := by
    rw [List.length_map, List.length_map, List.length_map, List.length_map]
    exact Nat.le_of_lt (small1000 (by omega))
  refine ⟨D, D2, _, _, rfl, rfl, h12, h2, lens, fun L hL => ?_⟩
  have s3 : Same H2 (upd H2 L (.lst ((rs.map XS.rowLine).map V.str ++ (ms.map XS.markLine).map V.str))) := XP.Same.new hL
  have S3 := (S1.same s2).same s3
  have hL3 : upd H2 L (.lst ((rs.map XS.rowLine).map V.str ++ (ms.map XS.markLine).map V.str)) L = some (.lst ((rs.map XS.rowLine ++ ms.map XS.markLine).map V.str)) := by
    rw [upd_same, List.map_append]
  have s03 := (s1.trans s2).trans s3
  generalize upd H2 L (.lst ((rs.map XS.rowLine).map V.str ++ (ms.map XS.markLine).map V.str)) = H3 at S3 hL3 s03 ⊢
  refine ⟨⟨_, rfl⟩, _, rfl, (by show 1 ≤ sizeLine; decide), fun O hO => ?_⟩
  have s4 : Same H3 (upd H3 O (.lst [.str "lots"])) := XP.Same.new hO
  have S4 := S3.same s4
  have hL4 := s4 _ _ hL3
  have hO4 : upd H3 O (.lst [.str "lots"]) O = some (.lst [V.str "lots"]) := upd_same
  have s04 := s03.trans s4
  generalize upd H3 O (.lst [.str "lots"]) = H4 at S4 hL4 hO4 s04 ⊢
  refine ⟨_, rfl, d, _, rfl, XS.gO S4.d, .inr ⟨b, rfl, O, _, _, rfl, rfl, hO4, ?_⟩⟩
  have rep : ∀ (k : Int), (k = 0 ∨ k = 1) → (-(2 ^ 63) ≤ k ∧ k < 2 ^ 63 ∧ [V.str "lots"].length * k.toNat ≤ sizeLine) := by
    rintro k (rfl | rfl) <;> exact ⟨by decide, by decide, by decide⟩
  have ek : (if b = true then (1 : Int) else 0) = 0 ∨ (if b = true then (1 : Int) else 0) = 1 := by cases b <;> simp
  obtain ⟨r1, r2, r3⟩ := rep _ ek
  refine ⟨r1, r2, r3, fun R hR => ?_⟩
  have eR : (List.replicate (if b = true then (1 : Int) else 0).toNat [V.str "lots"]).flatten = (if b = true then [("lots" : Str)] else []).map V.str := by
    cases b <;> rfl
  rw [eR]
  have s5 : Same H4 (upd H4 R (.lst ((if b = true then [("lots" : Str)] else []).map V.str))) := XP.Same.new hR
  have hL5 := s5 _ _ hL4
  have hR5 : upd H4 R (.lst ((if b = true then [("lots" : Str)] else []).map V.str)) R = some (.lst ((if b = true then [("lots" : Str)] else []).map V.str)) := upd_same
  have s05 := s04.trans s5
  generalize upd H4 R (.lst ((if b = true then [("lots" : Str)] else []).map V.str)) = H5 at hL5 hR5 s05 ⊢
  obtain ⟨q1, q2⟩ := XS.scLines_small (lots := b) g
  have lens2 : ((rs.map XS.rowLine ++ ms.map XS.markLine).map V.str).length + ((if b = true then [("lots" : Str)] else []).map V.str).length ≤ sizeLine := by
    rw [← List.length_append, ← List.map_append, List.length_map]
    exact Nat.le_trans q2 (by decide)
  refine ⟨L, R, _, _, rfl, rfl, hL5, hR5, lens2, fun C hC => ?_⟩
  refine ⟨_, C, XS.scLines rs ms b, rfl, rfl, .inl (SqL.of ?_), ?_, ?_⟩
  · rw [upd_same, ← List.map_append]
    rfl
  · have z := XS.sum_map_le (fun y : Str => y.length) 17 _ q1
    have e1 : ("
" : Str).length = 1 := by decide +kernel
    rw [e1]
    have z2 : ((XS.scLines rs ms b).map fun y : Str => y.length).sum ≤ 6 * 17 := Nat.le_trans z (Nat.mul_le_mul_right _ q2)
    have z3 : ((XS.scLines rs ms b).map (·.length)).sum = ((XS.scLines rs ms b).map fun y : Str => y.length).sum := rfl
    omega
  · exact k _ (s05.trans (XP.Same.new hC))
theorem scLawIsName : FnScope ["word", "odd", "sign"] ["word"] (defScope sLawIsName) := ⟨rfl, rfl, rfl, by decide +kernel, rfl, by decide +kernel, by decide +kernel⟩
theorem okLawIsName {f fB : Addr} {fd fdB : FuncData} (F : Fun K "_law_is_name" "_law_is_name" sLawIsName f fd) (ml : mg "len" = none) (GB : FnOk P w K mg base CX0 1 fB fdB [] XS.spBarred) (bB : Binds K fdB [] []) (kB : PySem.W.keepIn K (.ref fB) = true) (mB : mg "_law_barred" = some (.ref fB)) :
    FnOk P w K mg base CX0 2 f fd ["word"] XS.spLawIsName := by
  refine F.ok scLawIsName (fun vs H Q E h => by obtain ⟨x, rfl, _⟩ := h; rfl) (fun cdv A outer s H vs Q E hr h => ?_)
  obtain ⟨x, rfl, hl, ho, k⟩ := h
  refine ⟨_, pss_cons (ps_setLc (i := 1) (own := [("sign", 2)]) (g := gName 2) rfl scLawIsName.nd rfl rfl (sw_true rfl rfl rfl (by decide +kernel)) (pi_str (pv 0)) (blkOk_by (own := [("sign", 2)]) (N := ["word", "odd", "sign"]) (sc := defScope sLawIsName) (by decide +kernel))
        (fun _ _ _ _ _ => pg_name (i := 2) scLawIsName.nd rfl (Or.inl rfl)) (fun _ _ _ _ _ => pts_one (pt_cmpR op_notIn_sign (pv 2) pe_str rfl)) (fun _ _ _ _ _ => pv 2))
    (pss_one (ps_ret (pe_and (pe_chain op_le op_le pe_int (pe_callB call_len_str (by rfl) ml PySem.boot_len (pa_cons (pv 0) pa_nil)) pe_int)
      (pe_and (pe_cmpR (op_eqD hr.units) (pv 1) (pe_lst pa_nil) (nomark _)) (pe_one (pe_cmpR op_notIn_seq (pv 0) (pe_call0 GB hr (by rfl) mB kB bB .nil pass0) (by rfl))))))), ?_⟩
  refine ⟨_, rfl, x, rfl, fun D hD => lc_it walk_str (fun i H' => Same H H' ∧ H' D = some (.lst ((((x.cps.toList.take i).filter fun c => !decide (c ∈ XS.letters.cps.toList)).map fun c => (⟨#[c]⟩ : Str)).map V.str))) ⟨XP.Same.new hD, upd_same⟩ (fun _ _ _ _ => trivial) ?_ ?_⟩
  · rintro i y H' H'' hi ⟨s1, h1⟩ ⟨rfl, c, hc, rfl⟩
    have hc' : x.cps.toList[i]? = some c := by rw [Array.getElem?_toList]; exact hc
    refine ⟨rfl, _, rfl, c, XS.letters, rfl, rfl, _, rfl, ?_⟩
    by_cases e : c ∈ XS.letters.cps.toList
    · rw [decide_eq_true e]
      refine iteF ⟨s1, ?_⟩
      rw [XS.take_snoc hc', List.filter_append, List.filter_cons, decide_eq_true e]
      simpa using h1
    · rw [decide_eq_false e]
      refine iteT ⟨_, rfl, _, h1, ?_, fun b o z => (upd_ne (ne_of_none z hD)).trans (s1 _ _ z), ?_⟩
      · rw [List.length_map, List.length_map]
        refine Nat.lt_of_le_of_lt (List.length_filter_le _ _) ?_
        rw [List.length_take]
        have z : x.cps.toList.length = x.length := (TL.len_tl x).symm
        have sz : sizeLine = 16777216 := sizeLine_eq
        omega
      · rw [upd_same, XS.take_snoc hc', List.filter_append, List.filter_cons, decide_eq_false e, List.map_append, List.map_append]
        rfl
  rintro H1 ⟨s1, h1⟩
  have e0 : x.cps.toList.take x.cps.size = x.cps.toList := List.take_of_length_le (by simp)
  rw [e0] at h1
  have hy : XP.Txs ((x.cps.toList.filter fun c => !decide (c ∈ XS.letters.cps.toList)).map fun c => (⟨#[c]⟩ : Str)) := by
    intro y hy
    obtain ⟨c, hc, rfl⟩ := List.mem_map.mp hy
    refine XS.ok_iff.mpr fun c' hc' => XS.ok_iff.mp ho c' ?_
    have z : c' = c := by simpa using hc'
    rw [z]
    exact (List.mem_filter.mp hc).1
  have hnil : (((x.cps.toList.filter fun c => !decide (c ∈ XS.letters.cps.toList)).map fun c => (⟨#[c]⟩ : Str)) = []) ↔ (x.cps.toList.all fun c => decide (c ∈ XS.letters.cps.toList)) = true := by
    rw [List.map_eq_nil_iff, List.filter_eq_nil_iff, List.all_eq_true]
    constructor
    · intro h c hc
      simpa using h c hc
    · intro h c hc
      simpa using h c hc
  generalize ((x.cps.toList.filter fun c => !decide (c ∈ XS.letters.cps.toList)).map fun c => (⟨#[c]⟩ : Str)) = ys at h1 hy hnil
  refine ⟨_, rfl, _, rfl, (Nat.le_trans hl (by decide)), _, _, rfl, rfl, _, rfl, ?_⟩
  have no1 : ¬ (1 ≤ x.length ∧ x.length ≤ 12) → XS.isName x = false := fun z => by
    unfold XS.isName
    rw [decide_eq_false z, Bool.false_and]
  refine ite2 (fun c1 => ?_) (fun c1 => ?_)
  rotate_left
  · refine ⟨false, rfl, iteF ?_⟩
    rw [← no1 fun z => c1 (decide_eq_true (by omega))]
    exact k H1 s1
  have c1' := of_decide_eq_true c1
  refine ⟨_, _, rfl, rfl, _, rfl, ?_⟩
  refine ite2 (fun c2 => ?_) (fun c2 => ?_)
  rotate_left
  · rw [← no1 fun z => c2 (decide_eq_true (by omega))]
    exact k H1 s1
  have c2' := of_decide_eq_true c2
  refine ⟨_, rfl, Nat.zero_le _, fun b hb => ⟨.list (ys.map PyData.str), .list ([].map PyData.str), .lst (SqL.of ((XP.Same.new hb) _ _ h1)) (XP.dp_strs ys), .lst (SqL.of upd_same) .nil, XP.shaped_strs hy, by decide, _, rfl, ?_⟩⟩
  rw [XP.eqv_strs]
  have s2 := s1.trans (XP.Same.new (o := .lst []) hb)
  generalize upd H1 b (.lst []) = H2 at s2 ⊢
  by_cases c3 : ys = []
  rotate_left
  · rw [decide_eq_false c3]
    refine iteF ?_
    have e : XS.isName x = false := by
      unfold XS.isName
      rw [Bool.eq_false_iff.mpr fun z => c3 (hnil.mpr z), Bool.and_false, Bool.and_false]
    rw [← e]
    exact k H2 s2
  rw [decide_eq_true c3]
  refine iteT ⟨_, rfl, rfl, fun p H3 s3 hp => ⟨p, _, rfl, .inl (SqL.of hp), rfl, XS.flat_strs _, ?_⟩⟩
  rw [XS.in_strs]
  have e : XS.isName x = !decide (x ∈ XS.BARRED) := by
    unfold XS.isName
    rw [decide_eq_true (by omega), hnil.mp c3, Bool.true_and, Bool.and_true]
    congr 1
    exact (decide_eq_decide.mpr (XS.barred_iff x)).symm
  have z := k H3 (s2.trans s3)
  rw [e] at z
  exact z
end
end K01
set_option linter.all false
set_option maxRecDepth 100000
set_option maxHeartbeats 4000000
/-! A text with one change: what is known of it is that it is a text, and how long it can be. -/
namespace XS
open PySem L2
def mass (ls : List Str) : Nat := (ls.map fun y : Str => y.length + 1).sum
theorem mass_nil : mass [] = 0 := rfl
theorem mass_cons (y : Str) (r : List Str) : mass (y :: r) = y.length + 1 + mass r := by
  unfold mass
  rw [List.map_cons, List.sum_cons]
theorem mass_append (a b : List Str) : mass (a ++ b) = mass a + mass b := by
  unfold mass
  rw [List.map_append, List.sum_append]
theorem mass_one (y : Str) : mass [y] = y.length + 1 := by
  rw [mass_cons, mass_nil]
theorem mass_take (k : Nat) (l : List Str) : mass (l.take k) ≤ mass l := by
  have e := congrArg mass (List.take_append_drop k l)
  rw [mass_append] at e
  omega
theorem mass_drop (k : Nat) (l : List Str) : mass (l.drop k) ≤ mass l := by
  have e := congrArg mass (List.take_append_drop k l)
  rw [mass_append] at e
  omega
theorem mass_two (k : Nat) (l : List Str) : mass (l.take k) + mass (l.drop k) = mass l := by
  have e := congrArg mass (List.take_append_drop k l)
  rwa [mass_append] at e
theorem mass_mem {y : Str} {l : List Str} (h : y ∈ l) : y.length + 1 ≤ mass l := by
  obtain ⟨a, b, rfl⟩ := List.append_of_mem h
  rw [mass_append, mass_cons]
  omega
theorem mass_len : ∀ l : List Str, l.length ≤ mass l
  | [] => Nat.le_refl _
  | y :: r => by
    have := mass_len r
    rw [List.length_cons, mass_cons]
    omega
theorem mass_set (y : Str) : ∀ (l : List Str) (k : Nat), mass (l.set k y) ≤ mass l + y.length + 1
  | [], k => by simp [mass]
  | x :: r, 0 => by
    rw [List.set_cons_zero, mass_cons, mass_cons]
    omega
  | x :: r, k + 1 => by
    have := mass_set y r k
    rw [List.set_cons_succ, mass_cons, mass_cons]
    omega
theorem sum_mass (l : List Str) : (l.map (·.length)).sum + l.length = mass l := by
  induction l with
  | nil => rfl
  | cons y r ih =>
    rw [mass_cons, List.map_cons, List.sum_cons, List.length_cons]
    omega
theorem join_two (y a b : Str) (r : List Str) : Str.join y (a :: b :: r) = a ++ y ++ Str.join y (b :: r) := rfl
theorem join_mass {y : Str} {n : Nat} (hy : y.length ≤ n + 1) : ∀ l : List Str, (Txt.join y l).length ≤ (n + 1) * mass l
  | [] => by
    rw [TL.join_eq]
    exact Nat.zero_le _
  | [a] => by
    rw [TL.join_eq, mass_one]
    show a.length ≤ _
    have := Nat.le_mul_of_pos_left (a.length + 1) (show 0 < n + 1 by omega)
    omega
  | a :: b :: r => by
    have ih := join_mass hy (b :: r)
    rw [TL.join_eq] at ih ⊢
    rw [join_two, strLen_append, strLen_append, mass_cons, Nat.mul_add]
    have h1 := Nat.le_mul_of_pos_left a.length (show 0 < n + 1 by omega)
    rw [Nat.mul_add]
    omega
theorem join_exact {y : Str} (hy : y.length = 1) : ∀ l : List Str, l ≠ [] → (Txt.join y l).length + 1 = mass l
  | [], h => absurd rfl h
  | [a], _ => by
    rw [TL.join_eq, mass_one]
    rfl
  | a :: b :: r, _ => by
    have ih := join_exact hy (b :: r) (by simp)
    rw [TL.join_eq] at ih ⊢
    rw [join_two, strLen_append, strLen_append, mass_cons]
    omega
theorem split_mass {x y : Str} (hy : y.length = 1) : mass (Txt.split x y) ≤ x.length + 1 := by
  by_cases h : Txt.split x y = []
  · rw [h, mass_nil]
    exact Nat.zero_le _
  · have e := join_exact hy _ h
    rw [TL.join_eq, PySem.StrLaws.join_split] at e
    omega
theorem split_ne (x y : Str) (hy : TL.tl y ≠ []) (hk : ¬ Builtin.Str.strKind x < Builtin.Str.strKind y) : Txt.split x y ≠ [] := by
  intro z
  have e := TL.split_spl x y hy hk
  rw [z] at e
  have n : ∀ (l : List Nat) (k : Nat) (acc : List Nat), TL.spl (TL.tl y) k acc l ≠ [] := by
    intro l
    induction l with
    | nil =>
      intro k acc
      rw [TL.spl_nil]
      simp
    | cons c r ih =>
      intro k acc
      cases k with
      | zero =>
        by_cases h : TL.pre (TL.tl y) (c :: r) = true
        · rw [TL.spl_hit h]
          simp
        · rw [TL.spl_miss (by simpa using h)]
          exact ih _ _
      | succ k =>
        rw [TL.spl_pass, List.drop_succ_cons, ← TL.spl_pass]
        exact ih _ _
  exact n _ _ _ e.symm
theorem ws_ne (l : Str) : wsOf l ≠ [] := split_ne l " " (by decide +kernel) (TL.kind_ok (by decide +kernel))
theorem nl_ne (l : Str) : Txt.split l "\n" ≠ [] := split_ne l "\n" (by decide +kernel) (TL.kind_ok (by decide +kernel))
theorem ok_append {x y : Str} (hx : PyData.strOk x = true) (hy : PyData.strOk y = true) : PyData.strOk (x ++ y) = true := by
  refine ok_iff.mpr fun c hc => ?_
  rw [cps_append] at hc
  rcases List.mem_append.mp hc with h | h
  · exact ok_iff.mp hx c h
  · exact ok_iff.mp hy c h
theorem join_ok {y : Str} (hy : PyData.strOk y = true) : ∀ l : List Str, XP.Txs l → PyData.strOk (Txt.join y l) = true
  | [], _ => by
    rw [TL.join_eq]
    exact (by decide +kernel : PyData.strOk (Str.ofString "") = true)
  | [a], h => by
    rw [TL.join_eq]
    exact h a List.mem_cons_self
  | a :: b :: r, h => by
    have ih := join_ok hy (b :: r) fun z hz => h z (List.mem_cons_of_mem _ hz)
    rw [TL.join_eq] at ih ⊢
    rw [join_two]
    exact ok_append (ok_append (h a List.mem_cons_self) hy) ih
theorem Txs.app {a b : List Str} (ha : XP.Txs a) (hb : XP.Txs b) : XP.Txs (a ++ b) := fun y hy => (List.mem_append.mp hy).elim (ha y) (hb y)
theorem Txs.sub {a b : List Str} (ha : XP.Txs a) (h : ∀ y ∈ b, y ∈ a) : XP.Txs b := fun y hy => ha y (h y hy)
theorem Txs.one {y : Str} (h : PyData.strOk y = true) : XP.Txs [y] := fun z hz => by
  rw [List.mem_singleton.mp hz]
  exact h
theorem Txs.set {a : List Str} {y : Str} (ha : XP.Txs a) (h : PyData.strOk y = true) (k : Nat) : XP.Txs (a.set k y) := fun z hz => by
  rcases List.mem_or_eq_of_mem_set hz with e | e
  · exact ha z e
  · rw [e]
    exact h
theorem set_map (l : List Str) (k : Nat) (y : Str) : (l.map V.str).set k (.str y) = (l.set k y).map V.str := by
  rw [List.map_set]
/-! ### how a list of texts is read -/
section
variable {K : PySem.W.Frag} {H : Hp} {a b : Addr} {xs ys : List Str} {Q : VK}
theorem cat_s (ha : H a = some (.lst (xs.map V.str))) (hb : H b = some (.lst (ys.map V.str))) (hn : xs.length + ys.length ≤ sizeLine) (k : ∀ q, H q = none → Q (.ref q) (upd H q (.lst ((xs ++ ys).map V.str)))) : rCat (.ref a) (.ref b) H Q := by
  refine ⟨a, b, _, _, rfl, rfl, ha, hb, by rw [List.length_map, List.length_map]; exact hn, fun q hq => ?_⟩
  rw [← List.map_append]
  exact k q hq
theorem take_s {i : Int} {n : Nat} (e : i = (n : Int)) (ha : SqL K H a (xs.map V.str)) (k : ∀ q, H q = none → Q (.ref q) (upd H q (.lst ((xs.take n).map V.str)))) : rSlL K (.ref a) none (some i) H Q := by
  refine ⟨a, _, rfl, ha, fun q hq => ?_⟩
  rw [cut_zero _ (by omega), ← List.map_take, e, Int.toNat_natCast]
  exact k q hq
theorem drop_s {i : Int} {n : Nat} (e : i = (n : Int)) (ha : SqL K H a (xs.map V.str)) (k : ∀ q, H q = none → Q (.ref q) (upd H q (.lst ((xs.drop n).map V.str)))) : rSlL K (.ref a) (some i) none H Q := by
  refine ⟨a, _, rfl, ha, fun q hq => ?_⟩
  rw [e, cut_drop, ← List.map_drop]
  exact k q hq
theorem ixN_in {n k : Nat} (h : k < n) : ixN n (k : Int) = some k := by
  unfold ixN
  rw [if_pos (by omega), if_pos (by omega), Int.toNat_natCast]
theorem at_s {n : Nat} {y : Str} (h : xs[n]? = some y) : atI (xs.map V.str) (n : Int) = some (.str y) := atI_nat (by rw [List.getElem?_map, h] <;> rfl)
end
/-- what stands while a text is bent: its lines, the words, the lines found so far -/
structure BentAt (H0 H : Hp) (p c l w f : Addr) (ls ws fs : List Str) (U : Nat) : Prop where
  l : H l = some (.lst (ls.map V.str))
  w : H w = some (.lst (ws.map V.str))
  f : H f = some (.lst (fs.map V.str))
  P : XP.Pen H p c U
  b : XP.But p H0 H
section
variable {H0 H H' : Hp} {p c l w f : Addr} {ls ws fs : List Str} {U : Nat}
theorem lst_ne {H : Hp} {p c a : Addr} {U : Nat} {xs : List V} (P : XP.Pen H p c U) (h : H a = some (.lst xs)) : a ≠ p := by
  obtain ⟨cs, t, z, h1, _⟩ := P
  exact ne_of h h1 (by intro z; cases z)
theorem BentAt.new (B : BentAt H0 H p c l w f ls ws fs U) {q : Addr} {o : HO} (hq : H q = none) : BentAt H0 (upd H q o) p c l w f ls ws fs U :=
  have s := XP.Same.new (o := o) hq
  ⟨s _ _ B.l, s _ _ B.w, s _ _ B.f, B.P.same s, B.b.trans (XP.But.same s)⟩
theorem BentAt.draw (B : BentAt H0 H p c l w f ls ws fs U) {U' : Nat} (hb : XP.But p H H') (P : XP.Pen H' p c U') : BentAt H0 H' p c l w f ls ws fs U' :=
  ⟨hb _ _ B.l (lst_ne B.P B.l), hb _ _ B.w (lst_ne B.P B.w), hb _ _ B.f (lst_ne B.P B.f), P, B.b.trans hb⟩
end
theorem BentAt.put {H0 H : Hp} {p c l w f : Addr} {ls ws fs : List Str} {U : Nat} (B : BentAt H0 H p c l w f ls ws fs U) (nc : f ≠ c) (h0 : H0 f = none) (o : HO) : XP.Pen (upd H f o) p c U ∧ XP.But p H0 (upd H f o) := by
  have np := lst_ne B.P B.f
  obtain ⟨cs, t, z, h1, h2, r⟩ := B.P
  refine ⟨⟨cs, t, z, (upd_ne (Ne.symm np)).trans h1, (upd_ne (Ne.symm nc)).trans h2, r⟩, fun b u e n => (upd_ne (fun y => ?_)).trans (B.b b u e n)⟩
  rw [y, h0] at e
  cases e
/-- a bent text -/
def spBent : Sp := fun vs H Q _ => ∃ (p c a : Addr) (T : Nat) (t : Str) (odd : List Str), vs = [.ref p, .str t, .ref a] ∧ XP.Pen H p c T ∧ T + 10 ≤ 1000000 ∧ PyData.strOk t = true ∧ t.length ≤ 100000 ∧
  H a = some (.lst (odd.map V.str)) ∧ XP.Txs odd ∧ (∀ y ∈ odd, y.length ≤ 20) ∧ odd.length ≤ 100 ∧ odd ≠ [] ∧
  ∀ (u : Str) (H' : Hp), PyData.strOk u = true → u.length ≤ 4 * t.length + 100 → XP.Pen H' p c (T + 10) → XP.But p H H' → Q (.str u) H'
end XS
set_option linter.all false
set_option maxRecDepth 100000
set_option maxHeartbeats 4000000
namespace K01
open PySem L2 NdefX XE 
abbrev sBent : Stmt := top 23
section
variable {P : Program} {w : World} {K : PySem.W.Frag} {mg : Str → Option Value} {base : Heap}
abbrev nBent : List Str := ["pen", "text", "odd", "lines", "k", "found", "way", "words", "j", "word", "at"]
theorem scBent : FnScope nBent ["pen", "text", "odd"] (defScope sBent) := ⟨rfl, rfl, rfl, by decide +kernel, rfl, by decide +kernel, by decide +kernel⟩
set_option maxHeartbeats 16000000 in
theorem okBent {f fD fP : Addr} {fd fdD fdP : FuncData} (F : Fun K "_law_bent" "_law_bent" sBent f fd) (ml : mg "len" = none) (mL : mg "list" = none)
    (GD : FnOk P w K mg base CX0 1 fD fdD ["pen", "span"] XP.spDraw) (bD : Binds K fdD ["pen", "span"] []) (kD : PySem.W.keepIn K (.ref fD) = true) (mD : mg "_law_draw" = some (.ref fD))
    (GP : FnOk P w K mg base CX0 2 fP fdP ["pen", "options"] (XS.spPick K)) (bP : Binds K fdP ["pen", "options"] []) (kP : PySem.W.keepIn K (.ref fP) = true) (mP : mg "_law_pick" = some (.ref fP)) :
    FnOk P w K mg base CX0 3 f fd ["pen", "text", "odd"] XS.spBent := by
  refine F.ok scBent (fun vs H Q E h => by obtain ⟨p, c, a, T, t, odd, rfl, _⟩ := h; rfl) (fun cdv A outer s H vs Q E hr h => ?_)
  obtain ⟨p, c, a, T, t, odd, rfl, hP, hT, hok, hlen, ho, hoT, ho20, hon, hone, k⟩ := h
  have hr' : Room 1 _ := hr.mono (by decide)
  refine ⟨_, (pss_cons (ps_set (i := 3) scBent.nd rfl (Or.inl rfl) (pe_split (pv 1) pe_str))
      (pss_cons (ps_par3 (i := 4) (j := 5) (l := 6) rfl scBent.nd rfl rfl rfl (by decide) (by decide) (by decide) rfl rfl rfl (pa_cons (pe_call GD hr' rfl mD kD bD .nil pass0 (pa_cons (pv 0) (pa_cons (pe_callB call_len_seq (by rfl) ml PySem.boot_len (pa_cons (pv 3) pa_nil)) pa_nil))) (pa_cons (pe_callTy call_list_of (by rfl) mL (by decide +kernel) (pa_cons (pv 3) pa_nil)) (pa_cons (pe_call GD hr' rfl mD kD bD .nil pass0 (pa_cons (pv 0) (pa_cons pe_int pa_nil))) pa_nil))) (by rfl))
      (pss_cons (ps_set (i := 7) scBent.nd rfl (Or.inl rfl) (pe_split (pe_ix ix_list (pv 3) (pv 4) (fun _ _ => rfl)) pe_str))
      (pss_cons (ps_set (i := 8) scBent.nd rfl (Or.inl rfl) (pe_call GD hr' rfl mD kD bD .nil pass0 (pa_cons (pv 0) (pa_cons (pe_op op_add (pe_callB call_len_seq (by rfl) ml PySem.boot_len (pa_cons (pv 7) pa_nil)) pe_int) pa_nil))))
      (pss_cons (ps_set (i := 9) scBent.nd rfl (Or.inl rfl) (pe_call GP hr rfl mP kP bP .nil pass0 (pa_cons (pv 0) (pa_cons (pe_op op_cat (pe_op op_cat (pv 2) (pv 7)) (pe_split (pe_ix ix_list (pv 3) pe_int (fun _ _ => rfl)) pe_str)) pa_nil))))
      (C8.pss_cut (ps_if (pt_cmpR op_lt (pv 6) pe_int (nomark _)) (pss_one (ps_asg (pe_join pe_str (pe_op op_cat (pe_op op_cat (pe_slice sl_list (pv 7) po_none (po_some (pv 8))) (pe_lst (pa_cons (pv 9) pa_nil))) (pe_slice sl_list (pv 7) (po_some (pe_op op_add (pv 8) pe_int)) po_none))) (pg_sub (pv 5) (pv 4) set_list))) (pss_one (ps_if (pt_cmpR op_eq (pv 6) pe_int (nomark _)) (pss_one (ps_asg (pe_join pe_str (pe_op op_cat (pe_op op_cat (pe_slice sl_list (pv 7) po_none (po_some (pv 8))) (pe_lst (pa_cons (pv 9) pa_nil))) (pe_slice sl_list (pv 7) (po_some (pv 8)) po_none))) (pg_sub (pv 5) (pv 4) set_list))) (pss_one (ps_if (pt_cmpR op_eq (pv 6) pe_int (nomark _)) (pss_one (ps_asg (pe_join pe_str (pe_op op_cat (pe_slice sl_list (pv 7) po_none (po_some (pv 8))) (pe_slice sl_list (pv 7) (po_some (pe_op op_add (pv 8) pe_int)) po_none))) (pg_sub (pv 5) (pv 4) set_list))) (pss_one (ps_if (pt_cmpR op_eq (pv 6) pe_int (nomark _)) (pss_one (ps_asg (pe_call GP hr rfl mP kP bP .nil pass0 (pa_cons (pv 0) (pa_cons (pe_lst (pa_cons (pe_op op_add_str pe_str (pe_ix ix_list (pv 3) (pv 4) (fun _ _ => rfl))) (pa_cons (pe_op op_add_str (pe_ix ix_list (pv 3) (pv 4) (fun _ _ => rfl)) pe_str) (pa_cons (pe_join pe_str (pv 7)) (pa_cons pe_str pa_nil))))) pa_nil))) (pg_sub (pv 5) (pv 4) set_list))) (pss_one (ps_if (pt_cmpR op_eq (pv 6) pe_int (nomark _)) (pss_one (ps_set (i := 5) scBent.nd rfl (Or.inl rfl) (pe_op op_cat (pe_slice sl_list (pv 5) po_none (po_some (pv 4))) (pe_slice sl_list (pv 5) (po_some (pe_op op_add (pv 4) pe_int)) po_none)))) (pss_one (ps_if (pt_cmpR op_eq (pv 6) pe_int (nomark _)) (pss_one (ps_set (i := 5) scBent.nd rfl (Or.inl rfl) (pe_op op_cat (pe_op op_cat (pe_slice sl_list (pv 5) po_none (po_some (pv 4))) (pe_lst (pa_cons (pe_call GP hr rfl mP kP bP .nil pass0 (pa_cons (pv 0) (pa_cons (pv 3) pa_nil))) pa_nil))) (pe_slice sl_list (pv 5) (po_some (pv 4)) po_none)))) (pss_one (ps_if (pt_cmpR op_eq (pv 6) pe_int (nomark _)) (pss_cons (ps_set (i := 10) scBent.nd rfl (Or.inl rfl) (pe_call GD hr' rfl mD kD bD .nil pass0 (pa_cons (pv 0) (pa_cons (pe_callB call_len_seq (by rfl) ml PySem.boot_len (pa_cons (pv 3) pa_nil)) pa_nil))))
      (pss_one (ps_asg (pe_tup (pa_cons (pe_ix ix_list (pv 3) (pv 10) (fun _ _ => rfl)) (pa_cons (pe_ix ix_list (pv 3) (pv 4) (fun _ _ => rfl)) pa_nil))) (pg_tup rfl (pgs_cons (pg_sub (pv 5) (pv 4) set_list) (pgs_cons (pg_sub (pv 5) (pv 10) set_list) pgs_nil)))))) (pss_one (ps_set (i := 5) scBent.nd rfl (Or.inl rfl) (pe_slice sl_list (pv 5) po_none (po_some (pv 4))))))))))))))))))
      (pss_one (ps_ret (pe_join pe_str (pv 5)))))))))), ?_⟩
  have sz : sizeLine = 16777216 := sizeLine_eq
  have small : ∀ n : Int, 0 ≤ n → n ≤ 1000000 → n.natAbs < 2 ^ 250 := fun n h1 h2 => by
    have : (2 : Nat) ^ 250 > 1000000 := by decide
    omega
  have one_nl : ("\n" : Str).length = 1 := by decide +kernel
  have one_sp : (" " : Str).length = 1 := by decide +kernel
  refine ⟨_, rfl, ⟨_, rfl⟩, t, _, rfl, rfl, (by decide +kernel), by omega, fun l hl => ?_⟩
  have hP1 := hP.same (XP.Same.new (o := .lst ((Txt.split t "\n").map V.str)) hl)
  have b1 : XP.But p H (upd H l (.lst ((Txt.split t "\n").map V.str))) := XP.But.same (XP.Same.new hl)
  have ho1 := XP.Same.new (o := .lst ((Txt.split t "\n").map V.str)) hl _ _ ho
  have hl1 : upd H l (.lst ((Txt.split t "\n").map V.str)) l = some (.lst ((Txt.split t "\n").map V.str)) := upd_same
  generalize upd H l (.lst ((Txt.split t "\n").map V.str)) = H1 at hP1 b1 ho1 hl1 ⊢
  have lsT : XP.Txs (Txt.split t "\n") := XS.split_ok hok
  have lsM : XS.mass (Txt.split t "\n") ≤ t.length + 1 := XS.split_mass one_nl
  have lsN : Txt.split t "\n" ≠ [] := XS.nl_ne t
  have lsJ : XS.mass (Txt.split t "\n") = t.length + 1 := by
    have z := XS.join_exact one_nl _ lsN
    rw [TL.join_eq, PySem.StrLaws.join_split] at z
    exact z.symm
  generalize Txt.split t "\n" = ls at hl1 lsT lsM lsN lsJ ⊢
  have lsL := XS.mass_len ls
  have lsP : 0 < ls.length := List.length_pos_iff.mpr lsN
  -- k, found, way
  refine ⟨_, rfl, _, rfl, l, _, rfl, .inl (SqL.of hl1), p, c, T, _, rfl, hP1, by omega, (by rw [List.length_map]; omega), small _ (by omega) (by rw [List.length_map]; omega), fun ki H2 k0 kn hP2 hb2 => ?_⟩
  rw [List.length_map] at kn
  obtain ⟨kk, rfl⟩ := Int.eq_ofNat_of_zero_le k0
  have kl : kk < ls.length := by omega
  have hl2 := hb2 _ _ hl1 (XS.lst_ne hP1 hl1)
  have ho2 := hb2 _ _ ho1 (XS.lst_ne hP1 ho1)
  have b2 := b1.trans hb2
  refine ⟨_, rfl, l, _, rfl, .inl (SqL.of hl2), fun fo hfo => ?_⟩
  have nfc : fo ≠ c := by
    obtain ⟨_, _, _, _, h2, _⟩ := hP2
    exact (ne_of_none h2 hfo).symm
  have hf0 : H fo = none := by
    cases e : H fo with
    | none => rfl
    | some o =>
      rw [b2 fo o e (hP2.not hfo)] at hfo
      cases hfo
  have sF : Same H2 (upd H2 fo (.lst (ls.map V.str))) := XP.Same.new hfo
  have hl3 := sF _ _ hl2
  have ho3 := sF _ _ ho2
  have hP3 := hP2.same sF
  have b3 := b2.trans (XP.But.same sF)
  have hf3 : upd H2 fo (.lst (ls.map V.str)) fo = some (.lst (ls.map V.str)) := upd_same
  generalize upd H2 fo (.lst (ls.map V.str)) = H3 at hl3 ho3 hP3 b3 hf3 ⊢
  refine ⟨_, rfl, p, c, T + 1, 10, rfl, hP3, by omega, by decide, small _ (by decide) (by decide), fun way H4 _ _ hP4 hb4 => ⟨_, _, _, rfl, ?_⟩⟩
  have hl4 := hb4 _ _ hl3 (XS.lst_ne hP3 hl3)
  have ho4 := hb4 _ _ ho3 (XS.lst_ne hP3 ho3)
  have hf4 := hb4 _ _ hf3 (XS.lst_ne hP3 hf3)
  have b4 := b3.trans hb4
  -- words
  have lineK : ls[kk]? = some ls[kk] := List.getElem?_eq_getElem kl
  have lineM := XS.mass_mem (List.getElem_mem kl)
  have lineT := lsT _ (List.getElem_mem kl)
  generalize ls[kk] = line at lineK lineM lineT
  refine ⟨_, rfl, _, rfl, l, _, _, _, rfl, rfl, SqL.of hl4, XS.at_s lineK, ⟨_, rfl⟩, line, _, rfl, rfl, (by decide +kernel), by omega, fun wd hwd => ?_⟩
  have sW : Same H4 (upd H4 wd (.lst ((Txt.split line " ").map V.str))) := XP.Same.new hwd
  have hl5 := sW _ _ hl4
  have ho5 := sW _ _ ho4
  have hf5 := sW _ _ hf4
  have hP5 := hP4.same sW
  have b5 := b4.trans (XP.But.same sW)
  have hw5 : upd H4 wd (.lst ((Txt.split line " ").map V.str)) wd = some (.lst ((Txt.split line " ").map V.str)) := upd_same
  generalize upd H4 wd (.lst ((Txt.split line " ").map V.str)) = H5 at hl5 ho5 hf5 hP5 b5 hw5 ⊢
  have wsT : XP.Txs (Txt.split line " ") := XS.split_ok lineT
  have wsM : XS.mass (Txt.split line " ") ≤ line.length + 1 := XS.split_mass one_sp
  generalize Txt.split line " " = ws at hw5 wsT wsM ⊢
  have wsL := XS.mass_len ws
  -- j
  refine ⟨_, rfl, _, rfl, wd, _, rfl, .inl (SqL.of hw5), _, _, rfl, rfl, p, c, T + 2, _, rfl, hP5, by omega, (by rw [List.length_map]; omega), small _ (by omega) (by rw [List.length_map]; omega), fun ji H6 j0 jn hP6 hb6 => ?_⟩
  rw [List.length_map] at jn
  obtain ⟨jj, rfl⟩ := Int.eq_ofNat_of_zero_le j0
  have hl6 := hb6 _ _ hl5 (XS.lst_ne hP5 hl5)
  have ho6 := hb6 _ _ ho5 (XS.lst_ne hP5 ho5)
  have hf6 := hb6 _ _ hf5 (XS.lst_ne hP5 hf5)
  have hw6 := hb6 _ _ hw5 (XS.lst_ne hP5 hw5)
  have b6 := b5.trans hb6
  -- word
  refine ⟨_, rfl, _, rfl, _, rfl, XS.cat_s ho6 hw6 (by omega) fun q hq => ?_⟩
  have sQ : Same H6 (upd H6 q (.lst ((odd ++ ws).map V.str))) := XP.Same.new hq
  have hl7 := sQ _ _ hl6
  have hf7 := sQ _ _ hf6
  have hw7 := sQ _ _ hw6
  have hP7 := hP6.same sQ
  have b7 := b6.trans (XP.But.same sQ)
  have hq7 : upd H6 q (.lst ((odd ++ ws).map V.str)) q = some (.lst ((odd ++ ws).map V.str)) := upd_same
  generalize upd H6 q (.lst ((odd ++ ws).map V.str)) = H7 at hl7 hf7 hw7 hP7 b7 hq7 ⊢
  have line0 : ls[0]? = some ls[0] := List.getElem?_eq_getElem lsP
  have line0M := XS.mass_mem (List.getElem_mem lsP)
  have line0T := lsT _ (List.getElem_mem lsP)
  generalize ls[0] = first at line0 line0M line0T
  refine ⟨_, rfl, l, _, 0, _, rfl, rfl, SqL.of hl7, (show atI (ls.map V.str) ((0 : Nat) : Int) = some (.str first) from XS.at_s line0), ⟨_, rfl⟩, first, _, rfl, rfl, (by decide +kernel), by omega, fun q2 hq2 => ?_⟩
  have sR : Same H7 (upd H7 q2 (.lst ((Txt.split first " ").map V.str))) := XP.Same.new hq2
  have hl8 := sR _ _ hl7
  have hf8 := sR _ _ hf7
  have hw8 := sR _ _ hw7
  have hP8 := hP7.same sR
  have b8 := b7.trans (XP.But.same sR)
  have hq8 := sR _ _ hq7
  have hr8 : upd H7 q2 (.lst ((Txt.split first " ").map V.str)) q2 = some (.lst ((Txt.split first " ").map V.str)) := upd_same
  generalize upd H7 q2 (.lst ((Txt.split first " ").map V.str)) = H8 at hl8 hf8 hw8 hP8 b8 hq8 hr8 ⊢
  have fsT : XP.Txs (Txt.split first " ") := XS.split_ok line0T
  have fsM : XS.mass (Txt.split first " ") ≤ first.length + 1 := XS.split_mass one_sp
  generalize Txt.split first " " = firsts at hr8 fsT fsM ⊢
  have fsL := XS.mass_len firsts
  refine XS.cat_s hq8 hr8 (by rw [List.length_append]; omega) fun q3 hq3 => ?_
  have B9 : XS.BentAt H (upd H8 q3 (.lst ((odd ++ ws ++ firsts).map V.str))) p c l wd fo ls ws ls (T + 3) := XS.BentAt.new ⟨hl8, hw8, hf8, hP8, b8⟩ hq3
  have hq9 : upd H8 q3 (.lst ((odd ++ ws ++ firsts).map V.str)) q3 = some (.lst ((odd ++ ws ++ firsts).map V.str)) := upd_same
  generalize upd H8 q3 (.lst ((odd ++ ws ++ firsts).map V.str)) = H9 at B9 hq9 ⊢
  have posO := List.length_pos_iff.mpr hone
  refine ⟨p, c, q3, T + 3, _, rfl, B9.P, by omega, SqL.of hq9, (by rw [List.length_map, List.length_append, List.length_append]; omega), (by rw [List.length_map, List.length_append, List.length_append]; omega), fun wi v H10 hwi hP10 hb10 => ?_⟩
  rw [List.getElem?_map] at hwi
  obtain ⟨word, hword, rfl⟩ := Option.map_eq_some_iff.mp hwi
  have wordIn := List.mem_of_getElem? hword
  have wordT : PyData.strOk word = true := by
    rcases List.mem_append.mp wordIn with z | z
    · rcases List.mem_append.mp z with z | z
      · exact hoT _ z
      · exact wsT _ z
    · exact fsT _ z
  have wordM : word.length ≤ 20 + t.length := by
    rcases List.mem_append.mp wordIn with z | z
    · rcases List.mem_append.mp z with z | z
      · have := ho20 _ z
        omega
      · have := XS.mass_mem z
        omega
    · have := XS.mass_mem z
      omega
  have B := B9.draw hb10 hP10
  clear hwi hword wordIn hb10 hP10 hq9 B9 hl8 hw8 hf8 hP8 b8 hq8 hr8 hq3 hl7 hf7 hw7 hP7 b7 hq7 hl6 ho6 hf6 hw6 b6 hP6 hb6 hl5 ho5 hf5 hP5 b5 hw5 hl4 ho4 hf4 b4 hP4 hb4 hl3 ho3 hP3 b3 hf3 hl2 ho2 b2 hP2 hb2 hP1 b1 ho1 hl1
  -- one change
  refine ⟨fun σ' H' => ∃ (fo' : Addr) (fs : List Str), σ'[5]? = some (some (V.ref fo')) ∧ H' fo' = some (.lst (fs.map V.str)) ∧ XP.Txs fs ∧ XS.mass fs ≤ 4 * t.length + 90 ∧ XP.Pen H' p c (T + 10) ∧ XP.But p H H', ?_, ?_⟩
  rotate_left
  · rintro σ' H' ⟨fo', fs, e1, e2, e3, e4, e5, e6⟩
    have z := XS.sum_mass fs
    have z2 := XS.join_mass (n := 0) (by rw [one_nl]; omega) fs
    refine ⟨⟨_, rfl⟩, _, e1, _, fo', fs, rfl, rfl, .inl (SqL.of e2), by rw [one_nl]; omega, k _ H' (XS.join_ok (by decide +kernel) fs e3) (by omega) e5 e6⟩
  refine ⟨_, rfl, _, _, rfl, rfl, _, rfl, ite2 (fun _ => ?_) (fun _ => ?_)⟩
  · refine ⟨⟨_, rfl⟩, _, rfl, _, rfl, ((jj : Nat) : Int), rfl, ?_⟩
    refine XS.take_s rfl (SqL.of B.w) fun a1 ha1 => ?_
    have B := B.new (o := .lst ((ws.take jj).map V.str)) ha1
    have ea1 : upd H10 a1 (.lst ((ws.take jj).map V.str)) a1 = some (.lst ((ws.take jj).map V.str)) := upd_same.trans rfl
    generalize upd H10 a1 (.lst ((ws.take jj).map V.str)) = H20 at B ea1 ⊢
    refine ⟨_, rfl, (by show 1 ≤ sizeLine; decide), fun a2 ha2 => ?_⟩
    have B := B.new (o := .lst ([V.str word])) ha2
    have ea1 := XP.Same.new (o := .lst ([V.str word])) ha2 _ _ ea1
    have ea2 : upd H20 a2 (.lst ([V.str word])) a2 = some (.lst (([word]).map V.str)) := upd_same.trans rfl
    generalize upd H20 a2 (.lst ([V.str word])) = H21 at B ea1 ea2 ⊢
    refine XS.cat_s ea1 ea2 (by simp only [List.length_append, List.length_take, List.length_drop, List.length_singleton]; omega) fun a3 ha3 => ?_
    have B := B.new (o := .lst ((ws.take jj ++ [word]).map V.str)) ha3
    have ea1 := XP.Same.new (o := .lst ((ws.take jj ++ [word]).map V.str)) ha3 _ _ ea1
    have ea2 := XP.Same.new (o := .lst ((ws.take jj ++ [word]).map V.str)) ha3 _ _ ea2
    have ea3 : upd H21 a3 (.lst ((ws.take jj ++ [word]).map V.str)) a3 = some (.lst ((ws.take jj ++ [word]).map V.str)) := upd_same.trans rfl
    generalize upd H21 a3 (.lst ((ws.take jj ++ [word]).map V.str)) = H22 at B ea1 ea2 ea3 ⊢
    refine ⟨_, rfl, _, rfl, _, _, rfl, rfl, ((jj : Nat) : Int) + 1, rfl, ?_⟩
    unfold tNoPart
    refine XS.drop_s (show ((jj : Nat) : Int) + 1 = ((jj + 1 : Nat) : Int) by omega) (SqL.of B.w) fun a4 ha4 => ?_
    have B := B.new (o := .lst ((ws.drop (jj + 1)).map V.str)) ha4
    have ea1 := XP.Same.new (o := .lst ((ws.drop (jj + 1)).map V.str)) ha4 _ _ ea1
    have ea2 := XP.Same.new (o := .lst ((ws.drop (jj + 1)).map V.str)) ha4 _ _ ea2
    have ea3 := XP.Same.new (o := .lst ((ws.drop (jj + 1)).map V.str)) ha4 _ _ ea3
    have ea4 : upd H22 a4 (.lst ((ws.drop (jj + 1)).map V.str)) a4 = some (.lst ((ws.drop (jj + 1)).map V.str)) := upd_same.trans rfl
    generalize upd H22 a4 (.lst ((ws.drop (jj + 1)).map V.str)) = H23 at B ea1 ea2 ea3 ea4 ⊢
    refine XS.cat_s ea3 ea4 (by simp only [List.length_append, List.length_take, List.length_drop, List.length_singleton]; omega) fun a5 ha5 => ?_
    have B := B.new (o := .lst ((ws.take jj ++ [word] ++ ws.drop (jj + 1)).map V.str)) ha5
    have ea1 := XP.Same.new (o := .lst ((ws.take jj ++ [word] ++ ws.drop (jj + 1)).map V.str)) ha5 _ _ ea1
    have ea2 := XP.Same.new (o := .lst ((ws.take jj ++ [word] ++ ws.drop (jj + 1)).map V.str)) ha5 _ _ ea2
    have ea3 := XP.Same.new (o := .lst ((ws.take jj ++ [word] ++ ws.drop (jj + 1)).map V.str)) ha5 _ _ ea3
    have ea4 := XP.Same.new (o := .lst ((ws.take jj ++ [word] ++ ws.drop (jj + 1)).map V.str)) ha5 _ _ ea4
    have ea5 : upd H23 a5 (.lst ((ws.take jj ++ [word] ++ ws.drop (jj + 1)).map V.str)) a5 = some (.lst ((ws.take jj ++ [word] ++ ws.drop (jj + 1)).map V.str)) := upd_same.trans rfl
    generalize upd H23 a5 (.lst ((ws.take jj ++ [word] ++ ws.drop (jj + 1)).map V.str)) = H24 at B ea1 ea2 ea3 ea4 ea5 ⊢
    have strT : XP.Txs (ws.take jj ++ [word] ++ ws.drop (jj + 1)) := XS.Txs.app (XS.Txs.app (XS.Txs.sub wsT fun _ h => List.mem_of_mem_take h) (XS.Txs.one wordT)) (XS.Txs.sub wsT fun _ h => List.mem_of_mem_drop h)
    have strM : XS.mass (ws.take jj ++ [word] ++ ws.drop (jj + 1)) ≤ 2 * XS.mass ws + word.length + 1 := by
      have z1 := XS.mass_take jj ws
      have z2 := XS.mass_drop (jj + 1) ws
      rw [XS.mass_append, XS.mass_append, XS.mass_one]
      omega
    have yM := XS.join_mass (y := " ") (n := 0) (by rw [one_sp]; omega) (ws.take jj ++ [word] ++ ws.drop (jj + 1))
    have yT : PyData.strOk (Txt.join " " (ws.take jj ++ [word] ++ ws.drop (jj + 1))) = true := XS.join_ok (by decide +kernel) _ strT
    have yS := XS.sum_mass (ws.take jj ++ [word] ++ ws.drop (jj + 1))
    refine ⟨_, a5, ws.take jj ++ [word] ++ ws.drop (jj + 1), rfl, rfl, .inl (SqL.of ea5), (by rw [one_sp]; omega), ?_⟩
    generalize Txt.join " " (ws.take jj ++ [word] ++ ws.drop (jj + 1)) = y at yM yT ⊢
    refine ⟨_, rfl, _, rfl, fo, _, _, kk, rfl, rfl, B.f, (by rw [List.length_map]; exact XS.ixN_in kl), ?_⟩
    have PB := B.put nfc hf0 (.lst ((ls.map V.str).set kk (.str (y))))
    refine ⟨fo, ls.set kk (y), rfl, by rw [upd_same, XS.set_map], XS.Txs.set lsT yT kk, ?_, PB.1.mono (by omega), PB.2⟩
    have m1 := XS.mass_set (y) ls kk
    omega
  refine ⟨_, rfl, rfl, _, rfl, ite2 (fun _ => ?_) (fun _ => ?_)⟩
  · refine ⟨⟨_, rfl⟩, _, rfl, _, rfl, ((jj : Nat) : Int), rfl, ?_⟩
    refine XS.take_s rfl (SqL.of B.w) fun a1 ha1 => ?_
    have B := B.new (o := .lst ((ws.take jj).map V.str)) ha1
    have ea1 : upd H10 a1 (.lst ((ws.take jj).map V.str)) a1 = some (.lst ((ws.take jj).map V.str)) := upd_same.trans rfl
    generalize upd H10 a1 (.lst ((ws.take jj).map V.str)) = H20 at B ea1 ⊢
    refine ⟨_, rfl, (by show 1 ≤ sizeLine; decide), fun a2 ha2 => ?_⟩
    have B := B.new (o := .lst ([V.str word])) ha2
    have ea1 := XP.Same.new (o := .lst ([V.str word])) ha2 _ _ ea1
    have ea2 : upd H20 a2 (.lst ([V.str word])) a2 = some (.lst (([word]).map V.str)) := upd_same.trans rfl
    generalize upd H20 a2 (.lst ([V.str word])) = H21 at B ea1 ea2 ⊢
    refine XS.cat_s ea1 ea2 (by simp only [List.length_append, List.length_take, List.length_drop, List.length_singleton]; omega) fun a3 ha3 => ?_
    have B := B.new (o := .lst ((ws.take jj ++ [word]).map V.str)) ha3
    have ea1 := XP.Same.new (o := .lst ((ws.take jj ++ [word]).map V.str)) ha3 _ _ ea1
    have ea2 := XP.Same.new (o := .lst ((ws.take jj ++ [word]).map V.str)) ha3 _ _ ea2
    have ea3 : upd H21 a3 (.lst ((ws.take jj ++ [word]).map V.str)) a3 = some (.lst ((ws.take jj ++ [word]).map V.str)) := upd_same.trans rfl
    generalize upd H21 a3 (.lst ((ws.take jj ++ [word]).map V.str)) = H22 at B ea1 ea2 ea3 ⊢
    refine ⟨_, rfl, _, rfl, ((jj : Nat) : Int), rfl, ?_⟩
    unfold tNoPart
    refine XS.drop_s rfl (SqL.of B.w) fun a4 ha4 => ?_
    have B := B.new (o := .lst ((ws.drop (jj)).map V.str)) ha4
    have ea1 := XP.Same.new (o := .lst ((ws.drop (jj)).map V.str)) ha4 _ _ ea1
    have ea2 := XP.Same.new (o := .lst ((ws.drop (jj)).map V.str)) ha4 _ _ ea2
    have ea3 := XP.Same.new (o := .lst ((ws.drop (jj)).map V.str)) ha4 _ _ ea3
    have ea4 : upd H22 a4 (.lst ((ws.drop (jj)).map V.str)) a4 = some (.lst ((ws.drop (jj)).map V.str)) := upd_same.trans rfl
    generalize upd H22 a4 (.lst ((ws.drop (jj)).map V.str)) = H23 at B ea1 ea2 ea3 ea4 ⊢
    refine XS.cat_s ea3 ea4 (by simp only [List.length_append, List.length_take, List.length_drop, List.length_singleton]; omega) fun a5 ha5 => ?_
    have B := B.new (o := .lst ((ws.take jj ++ [word] ++ ws.drop (jj)).map V.str)) ha5
    have ea1 := XP.Same.new (o := .lst ((ws.take jj ++ [word] ++ ws.drop (jj)).map V.str)) ha5 _ _ ea1
    have ea2 := XP.Same.new (o := .lst ((ws.take jj ++ [word] ++ ws.drop (jj)).map V.str)) ha5 _ _ ea2
    have ea3 := XP.Same.new (o := .lst ((ws.take jj ++ [word] ++ ws.drop (jj)).map V.str)) ha5 _ _ ea3
    have ea4 := XP.Same.new (o := .lst ((ws.take jj ++ [word] ++ ws.drop (jj)).map V.str)) ha5 _ _ ea4
    have ea5 : upd H23 a5 (.lst ((ws.take jj ++ [word] ++ ws.drop (jj)).map V.str)) a5 = some (.lst ((ws.take jj ++ [word] ++ ws.drop (jj)).map V.str)) := upd_same.trans rfl
    generalize upd H23 a5 (.lst ((ws.take jj ++ [word] ++ ws.drop (jj)).map V.str)) = H24 at B ea1 ea2 ea3 ea4 ea5 ⊢
    have strT : XP.Txs (ws.take jj ++ [word] ++ ws.drop (jj)) := XS.Txs.app (XS.Txs.app (XS.Txs.sub wsT fun _ h => List.mem_of_mem_take h) (XS.Txs.one wordT)) (XS.Txs.sub wsT fun _ h => List.mem_of_mem_drop h)
    have strM : XS.mass (ws.take jj ++ [word] ++ ws.drop (jj)) ≤ 2 * XS.mass ws + word.length + 1 := by
      have z1 := XS.mass_take jj ws
      have z2 := XS.mass_drop (jj) ws
      rw [XS.mass_append, XS.mass_append, XS.mass_one]
      omega
    have yM := XS.join_mass (y := " ") (n := 0) (by rw [one_sp]; omega) (ws.take jj ++ [word] ++ ws.drop (jj))
    have yT : PyData.strOk (Txt.join " " (ws.take jj ++ [word] ++ ws.drop (jj))) = true := XS.join_ok (by decide +kernel) _ strT
    have yS := XS.sum_mass (ws.take jj ++ [word] ++ ws.drop (jj))
    refine ⟨_, a5, ws.take jj ++ [word] ++ ws.drop (jj), rfl, rfl, .inl (SqL.of ea5), (by rw [one_sp]; omega), ?_⟩
    generalize Txt.join " " (ws.take jj ++ [word] ++ ws.drop (jj)) = y at yM yT ⊢
    refine ⟨_, rfl, _, rfl, fo, _, _, kk, rfl, rfl, B.f, (by rw [List.length_map]; exact XS.ixN_in kl), ?_⟩
    have PB := B.put nfc hf0 (.lst ((ls.map V.str).set kk (.str (y))))
    refine ⟨fo, ls.set kk (y), rfl, by rw [upd_same, XS.set_map], XS.Txs.set lsT yT kk, ?_, PB.1.mono (by omega), PB.2⟩
    have m1 := XS.mass_set (y) ls kk
    omega
  refine ⟨_, rfl, rfl, _, rfl, ite2 (fun _ => ?_) (fun _ => ?_)⟩
  · refine ⟨⟨_, rfl⟩, _, rfl, _, rfl, ((jj : Nat) : Int), rfl, ?_⟩
    refine XS.take_s rfl (SqL.of B.w) fun a1 ha1 => ?_
    have B := B.new (o := .lst ((ws.take jj).map V.str)) ha1
    have ea1 : upd H10 a1 (.lst ((ws.take jj).map V.str)) a1 = some (.lst ((ws.take jj).map V.str)) := upd_same.trans rfl
    generalize upd H10 a1 (.lst ((ws.take jj).map V.str)) = H20 at B ea1 ⊢
    refine ⟨_, rfl, _, rfl, _, _, rfl, rfl, ((jj : Nat) : Int) + 1, rfl, ?_⟩
    unfold tNoPart
    refine XS.drop_s (show ((jj : Nat) : Int) + 1 = ((jj + 1 : Nat) : Int) by omega) (SqL.of B.w) fun a4 ha4 => ?_
    have B := B.new (o := .lst ((ws.drop (jj + 1)).map V.str)) ha4
    have ea1 := XP.Same.new (o := .lst ((ws.drop (jj + 1)).map V.str)) ha4 _ _ ea1
    have ea4 : upd H20 a4 (.lst ((ws.drop (jj + 1)).map V.str)) a4 = some (.lst ((ws.drop (jj + 1)).map V.str)) := upd_same.trans rfl
    generalize upd H20 a4 (.lst ((ws.drop (jj + 1)).map V.str)) = H21 at B ea1 ea4 ⊢
    refine XS.cat_s ea1 ea4 (by simp only [List.length_append, List.length_take, List.length_drop, List.length_singleton]; omega) fun a5 ha5 => ?_
    have B := B.new (o := .lst ((ws.take jj ++ ws.drop (jj + 1)).map V.str)) ha5
    have ea1 := XP.Same.new (o := .lst ((ws.take jj ++ ws.drop (jj + 1)).map V.str)) ha5 _ _ ea1
    have ea4 := XP.Same.new (o := .lst ((ws.take jj ++ ws.drop (jj + 1)).map V.str)) ha5 _ _ ea4
    have ea5 : upd H21 a5 (.lst ((ws.take jj ++ ws.drop (jj + 1)).map V.str)) a5 = some (.lst ((ws.take jj ++ ws.drop (jj + 1)).map V.str)) := upd_same.trans rfl
    generalize upd H21 a5 (.lst ((ws.take jj ++ ws.drop (jj + 1)).map V.str)) = H22 at B ea1 ea4 ea5 ⊢
    have strT : XP.Txs (ws.take jj ++ ws.drop (jj + 1)) := XS.Txs.app (XS.Txs.sub wsT fun _ h => List.mem_of_mem_take h) (XS.Txs.sub wsT fun _ h => List.mem_of_mem_drop h)
    have strM : XS.mass (ws.take jj ++ ws.drop (jj + 1)) ≤ 2 * XS.mass ws := by
      have z1 := XS.mass_take jj ws
      have z2 := XS.mass_drop (jj + 1) ws
      rw [XS.mass_append]
      omega
    have yM := XS.join_mass (y := " ") (n := 0) (by rw [one_sp]; omega) (ws.take jj ++ ws.drop (jj + 1))
    have yT : PyData.strOk (Txt.join " " (ws.take jj ++ ws.drop (jj + 1))) = true := XS.join_ok (by decide +kernel) _ strT
    have yS := XS.sum_mass (ws.take jj ++ ws.drop (jj + 1))
    refine ⟨_, a5, ws.take jj ++ ws.drop (jj + 1), rfl, rfl, .inl (SqL.of ea5), (by rw [one_sp]; omega), ?_⟩
    generalize Txt.join " " (ws.take jj ++ ws.drop (jj + 1)) = y at yM yT ⊢
    refine ⟨_, rfl, _, rfl, fo, _, _, kk, rfl, rfl, B.f, (by rw [List.length_map]; exact XS.ixN_in kl), ?_⟩
    have PB := B.put nfc hf0 (.lst ((ls.map V.str).set kk (.str (y))))
    refine ⟨fo, ls.set kk (y), rfl, by rw [upd_same, XS.set_map], XS.Txs.set lsT yT kk, ?_, PB.1.mono (by omega), PB.2⟩
    have m1 := XS.mass_set (y) ls kk
    omega
  refine ⟨_, rfl, rfl, _, rfl, ite2 (fun _ => ?_) (fun _ => ?_)⟩
  · have m0 : (("  " : Str).length) = 2 := by decide +kernel
    have oneL : (" " ++ line : Str).length = line.length + 1 := by rw [strLen_append, one_sp]; omega
    have oneR : (line ++ " " : Str).length = line.length + 1 := by rw [strLen_append, one_sp]
    have wsS := XS.sum_mass ws
    refine ⟨_, rfl, _, rfl, _, rfl, l, _, _, _, rfl, rfl, SqL.of B.l, XS.at_s lineK, _, _, rfl, rfl, (by rw [one_sp]; omega), ?_⟩
    refine ⟨_, rfl, _, rfl, l, _, _, _, rfl, rfl, SqL.of B.l, XS.at_s lineK, _, _, rfl, rfl, (by rw [one_sp]; omega), ?_⟩
    refine ⟨⟨_, rfl⟩, _, rfl, _, wd, ws, rfl, rfl, .inl (SqL.of B.w), (by rw [m0]; omega), (by show 4 ≤ sizeLine; decide), fun q hq => ?_⟩
    have B := B.new (o := .lst ([V.str (" " ++ line), V.str (line ++ " "), V.str (Txt.join "  " ws), V.str ""])) hq
    have eq4 : upd H10 q (.lst ([V.str (" " ++ line), V.str (line ++ " "), V.str (Txt.join "  " ws), V.str ""])) q = some (.lst (([" " ++ line, line ++ " ", Txt.join "  " ws, ""] : List Str).map V.str)) := upd_same.trans rfl
    generalize upd H10 q (.lst ([V.str (" " ++ line), V.str (line ++ " "), V.str (Txt.join "  " ws), V.str ""])) = H20 at B eq4 ⊢
    have fourOk : ∀ y ∈ ([" " ++ line, line ++ " ", Txt.join "  " ws, ""] : List Str), PyData.strOk y = true ∧ y.length ≤ 2 * t.length + 10 := by
      have j1 := XS.join_mass (y := "  ") (n := 1) (by rw [m0]; omega) ws
      have j2 := XS.join_ok (y := "  ") (by decide +kernel) ws wsT
      intro y hy
      simp only [List.mem_cons, List.not_mem_nil, or_false] at hy
      rcases hy with rfl | rfl | rfl | rfl
      · exact ⟨XS.ok_append (by decide +kernel) lineT, by omega⟩
      · exact ⟨XS.ok_append lineT (by decide +kernel), by omega⟩
      · exact ⟨j2, by omega⟩
      · exact ⟨by decide +kernel, by rw [show ("" : Str).length = 0 by decide +kernel]; omega⟩
    refine ⟨p, c, q, T + 4, _, rfl, B.P, by omega, SqL.of eq4, (by show 0 < 4; decide), (by show 4 ≤ 1000000; decide), fun yi v H30 hyi hP30 hb30 => ?_⟩
    rw [List.getElem?_map] at hyi
    obtain ⟨y, hy, rfl⟩ := Option.map_eq_some_iff.mp hyi
    obtain ⟨yT, yM⟩ := fourOk y (List.mem_of_getElem? hy)
    have B := B.draw hb30 hP30
    refine ⟨_, rfl, _, rfl, fo, _, _, kk, rfl, rfl, B.f, (by rw [List.length_map]; exact XS.ixN_in kl), ?_⟩
    have PB := B.put nfc hf0 (.lst ((ls.map V.str).set kk (.str (y))))
    refine ⟨fo, ls.set kk (y), rfl, by rw [upd_same, XS.set_map], XS.Txs.set lsT yT kk, ?_, PB.1.mono (by omega), PB.2⟩
    have m1 := XS.mass_set (y) ls kk
    omega
  refine ⟨_, rfl, rfl, _, rfl, ite2 (fun _ => ?_) (fun _ => ?_)⟩
  · refine ⟨_, rfl, _, rfl, ((kk : Nat) : Int), rfl, ?_⟩
    refine XS.take_s rfl (SqL.of B.f) fun a1 ha1 => ?_
    have B := B.new (o := .lst ((ls.take kk).map V.str)) ha1
    have ea1 : upd H10 a1 (.lst ((ls.take kk).map V.str)) a1 = some (.lst ((ls.take kk).map V.str)) := upd_same.trans rfl
    generalize upd H10 a1 (.lst ((ls.take kk).map V.str)) = H20 at B ea1 ⊢
    refine ⟨_, rfl, _, rfl, _, _, rfl, rfl, ((kk : Nat) : Int) + 1, rfl, ?_⟩
    unfold tNoPart
    refine XS.drop_s (show ((kk : Nat) : Int) + 1 = ((kk + 1 : Nat) : Int) by omega) (SqL.of B.f) fun a4 ha4 => ?_
    have B := B.new (o := .lst ((ls.drop (kk + 1)).map V.str)) ha4
    have ea1 := XP.Same.new (o := .lst ((ls.drop (kk + 1)).map V.str)) ha4 _ _ ea1
    have ea4 : upd H20 a4 (.lst ((ls.drop (kk + 1)).map V.str)) a4 = some (.lst ((ls.drop (kk + 1)).map V.str)) := upd_same.trans rfl
    generalize upd H20 a4 (.lst ((ls.drop (kk + 1)).map V.str)) = H21 at B ea1 ea4 ⊢
    refine XS.cat_s ea1 ea4 (by simp only [List.length_append, List.length_take, List.length_drop, List.length_singleton]; omega) fun a5 ha5 => ?_
    have B := B.new (o := .lst ((ls.take kk ++ ls.drop (kk + 1)).map V.str)) ha5
    have ea1 := XP.Same.new (o := .lst ((ls.take kk ++ ls.drop (kk + 1)).map V.str)) ha5 _ _ ea1
    have ea4 := XP.Same.new (o := .lst ((ls.take kk ++ ls.drop (kk + 1)).map V.str)) ha5 _ _ ea4
    have ea5 : upd H21 a5 (.lst ((ls.take kk ++ ls.drop (kk + 1)).map V.str)) a5 = some (.lst ((ls.take kk ++ ls.drop (kk + 1)).map V.str)) := upd_same.trans rfl
    generalize upd H21 a5 (.lst ((ls.take kk ++ ls.drop (kk + 1)).map V.str)) = H22 at B ea1 ea4 ea5 ⊢
    have strT : XP.Txs (ls.take kk ++ ls.drop (kk + 1)) := XS.Txs.app (XS.Txs.sub lsT fun _ h => List.mem_of_mem_take h) (XS.Txs.sub lsT fun _ h => List.mem_of_mem_drop h)
    refine ⟨a5, ls.take kk ++ ls.drop (kk + 1), rfl, ea5, strT, ?_, B.P.mono (by omega), B.b⟩
    have z1 := XS.mass_take kk ls
    have z2 := XS.mass_drop (kk + 1) ls
    rw [XS.mass_append]
    omega
  refine ⟨_, rfl, rfl, _, rfl, ite2 (fun _ => ?_) (fun _ => ?_)⟩
  · refine ⟨_, rfl, _, rfl, ((kk : Nat) : Int), rfl, ?_⟩
    refine XS.take_s rfl (SqL.of B.f) fun a1 ha1 => ?_
    have B := B.new (o := .lst ((ls.take kk).map V.str)) ha1
    have ea1 : upd H10 a1 (.lst ((ls.take kk).map V.str)) a1 = some (.lst ((ls.take kk).map V.str)) := upd_same.trans rfl
    generalize upd H10 a1 (.lst ((ls.take kk).map V.str)) = H20 at B ea1 ⊢
    refine ⟨_, rfl, _, rfl, p, c, l, T + 4, _, rfl, B.P, by omega, SqL.of B.l, (by rw [List.length_map]; exact lsP), (by rw [List.length_map]; omega), fun yi v H30 hyi hP30 hb30 => ?_⟩
    rw [List.getElem?_map] at hyi
    obtain ⟨y, hy, rfl⟩ := Option.map_eq_some_iff.mp hyi
    have yT := lsT y (List.mem_of_getElem? hy)
    have yM := XS.mass_mem (List.mem_of_getElem? hy)
    have ea1 := hb30 _ _ ea1 (XS.lst_ne B.P ea1)
    have B := B.draw hb30 hP30
    refine ⟨(by show 1 ≤ sizeLine; decide), fun a2 ha2 => ?_⟩
    have B := B.new (o := .lst ([V.str y])) ha2
    have ea1 := XP.Same.new (o := .lst ([V.str y])) ha2 _ _ ea1
    have ea2 : upd H30 a2 (.lst ([V.str y])) a2 = some (.lst (([y]).map V.str)) := upd_same.trans rfl
    generalize upd H30 a2 (.lst ([V.str y])) = H21 at B ea1 ea2 ⊢
    refine XS.cat_s ea1 ea2 (by simp only [List.length_append, List.length_take, List.length_drop, List.length_singleton]; omega) fun a3 ha3 => ?_
    have B := B.new (o := .lst ((ls.take kk ++ [y]).map V.str)) ha3
    have ea1 := XP.Same.new (o := .lst ((ls.take kk ++ [y]).map V.str)) ha3 _ _ ea1
    have ea2 := XP.Same.new (o := .lst ((ls.take kk ++ [y]).map V.str)) ha3 _ _ ea2
    have ea3 : upd H21 a3 (.lst ((ls.take kk ++ [y]).map V.str)) a3 = some (.lst ((ls.take kk ++ [y]).map V.str)) := upd_same.trans rfl
    generalize upd H21 a3 (.lst ((ls.take kk ++ [y]).map V.str)) = H22 at B ea1 ea2 ea3 ⊢
    refine ⟨_, rfl, _, rfl, ((kk : Nat) : Int), rfl, ?_⟩
    unfold tNoPart
    refine XS.drop_s rfl (SqL.of B.f) fun a4 ha4 => ?_
    have B := B.new (o := .lst ((ls.drop (kk)).map V.str)) ha4
    have ea1 := XP.Same.new (o := .lst ((ls.drop (kk)).map V.str)) ha4 _ _ ea1
    have ea2 := XP.Same.new (o := .lst ((ls.drop (kk)).map V.str)) ha4 _ _ ea2
    have ea3 := XP.Same.new (o := .lst ((ls.drop (kk)).map V.str)) ha4 _ _ ea3
    have ea4 : upd H22 a4 (.lst ((ls.drop (kk)).map V.str)) a4 = some (.lst ((ls.drop (kk)).map V.str)) := upd_same.trans rfl
    generalize upd H22 a4 (.lst ((ls.drop (kk)).map V.str)) = H23 at B ea1 ea2 ea3 ea4 ⊢
    refine XS.cat_s ea3 ea4 (by simp only [List.length_append, List.length_take, List.length_drop, List.length_singleton]; omega) fun a5 ha5 => ?_
    have B := B.new (o := .lst ((ls.take kk ++ [y] ++ ls.drop (kk)).map V.str)) ha5
    have ea1 := XP.Same.new (o := .lst ((ls.take kk ++ [y] ++ ls.drop (kk)).map V.str)) ha5 _ _ ea1
    have ea2 := XP.Same.new (o := .lst ((ls.take kk ++ [y] ++ ls.drop (kk)).map V.str)) ha5 _ _ ea2
    have ea3 := XP.Same.new (o := .lst ((ls.take kk ++ [y] ++ ls.drop (kk)).map V.str)) ha5 _ _ ea3
    have ea4 := XP.Same.new (o := .lst ((ls.take kk ++ [y] ++ ls.drop (kk)).map V.str)) ha5 _ _ ea4
    have ea5 : upd H23 a5 (.lst ((ls.take kk ++ [y] ++ ls.drop (kk)).map V.str)) a5 = some (.lst ((ls.take kk ++ [y] ++ ls.drop (kk)).map V.str)) := upd_same.trans rfl
    generalize upd H23 a5 (.lst ((ls.take kk ++ [y] ++ ls.drop (kk)).map V.str)) = H24 at B ea1 ea2 ea3 ea4 ea5 ⊢
    have strT : XP.Txs (ls.take kk ++ [y] ++ ls.drop (kk)) := XS.Txs.app (XS.Txs.app (XS.Txs.sub lsT fun _ h => List.mem_of_mem_take h) (XS.Txs.one yT)) (XS.Txs.sub lsT fun _ h => List.mem_of_mem_drop h)
    refine ⟨a5, ls.take kk ++ [y] ++ ls.drop (kk), rfl, ea5, strT, ?_, B.P.mono (by omega), B.b⟩
    have z1 := XS.mass_take kk ls
    have z2 := XS.mass_drop (kk) ls
    rw [XS.mass_append, XS.mass_append, XS.mass_one]
    omega
  refine ⟨_, rfl, rfl, _, rfl, ite2 (fun _ => ?_) (fun _ => ?_)⟩
  · refine ⟨_, rfl, _, rfl, l, _, rfl, .inl (SqL.of B.l), p, c, T + 4, _, rfl, B.P, by omega, (by rw [List.length_map]; omega), small _ (by omega) (by rw [List.length_map]; omega), fun ai H30 a0 an hP30 hb30 => ?_⟩
    rw [List.length_map] at an
    obtain ⟨aa, rfl⟩ := Int.eq_ofNat_of_zero_le a0
    have al : aa < ls.length := by omega
    have lineA : ls[aa]? = some ls[aa] := List.getElem?_eq_getElem al
    have aM := XS.mass_mem (List.getElem_mem al)
    have aT := lsT _ (List.getElem_mem al)
    generalize ls[aa] = other at lineA aM aT
    have B := B.draw hb30 hP30
    refine ⟨_, rfl, _, rfl, l, _, _, _, rfl, rfl, SqL.of B.l, XS.at_s lineA, _, rfl, _, rfl, l, _, _, _, rfl, rfl, SqL.of B.l, XS.at_s lineK, (by show 2 ≤ sizeLine; decide), fun tp htp => ?_⟩
    have B := B.new (o := .tup [.str other, .str line]) htp
    have etp : upd H30 tp (.tup [.str other, .str line]) tp = some (.tup [V.str other, V.str line]) := upd_same
    generalize upd H30 tp (.tup [.str other, .str line]) = H31 at B etp ⊢
    refine ⟨tp, _, rfl, SqT.of etp, rfl, _, _, rfl, _, rfl, _, rfl, fo, _, _, kk, rfl, rfl, B.f, (by rw [List.length_map]; exact XS.ixN_in kl), ?_⟩
    have PB := B.put nfc hf0 (.lst ((ls.map V.str).set kk (.str other)))
    have ef : upd H31 fo (.lst ((ls.map V.str).set kk (.str other))) fo = some (.lst ((ls.set kk other).map V.str)) := by rw [upd_same, XS.set_map]
    generalize upd H31 fo (.lst ((ls.map V.str).set kk (.str other))) = H32 at PB ef ⊢
    refine ⟨_, _, rfl, _, rfl, _, rfl, fo, _, _, aa, rfl, rfl, ef, (by rw [List.length_map, List.length_set]; exact XS.ixN_in al), ?_⟩
    have nfp : fo ≠ p := XS.lst_ne PB.1 ef
    refine ⟨rfl, fo, (ls.set kk other).set aa line, rfl, by rw [upd_same, XS.set_map], XS.Txs.set (XS.Txs.set lsT aT kk) lineT aa, ?_, ?_, ?_⟩
    · have m1 := XS.mass_set other ls kk
      have m2 := XS.mass_set line (ls.set kk other) aa
      omega
    · obtain ⟨cs, tt, z, h1, h2, r⟩ := PB.1.mono (U := T + 10) (by omega)
      exact ⟨cs, tt, z, (upd_ne (Ne.symm nfp)).trans h1, (upd_ne (Ne.symm nfc)).trans h2, r⟩
    · intro b u e n
      refine (upd_ne (fun y => ?_)).trans (PB.2 b u e n)
      rw [y, hf0] at e
      cases e
  · refine ⟨_, rfl, _, rfl, ((kk : Nat) : Int), rfl, ?_⟩
    refine XS.take_s rfl (SqL.of B.f) fun a1 ha1 => ?_
    have B := B.new (o := .lst ((ls.take kk).map V.str)) ha1
    have ea1 : upd H10 a1 (.lst ((ls.take kk).map V.str)) a1 = some (.lst ((ls.take kk).map V.str)) := upd_same.trans rfl
    generalize upd H10 a1 (.lst ((ls.take kk).map V.str)) = H20 at B ea1 ⊢
    have strT : XP.Txs (ls.take kk) := XS.Txs.sub lsT fun _ h => List.mem_of_mem_take h
    refine ⟨a1, ls.take kk, rfl, ea1, strT, ?_, B.P.mono (by omega), B.b⟩
    have m1 := XS.mass_take kk ls
    omega
end
end K01
set_option linter.all false
set_option maxRecDepth 100000
set_option maxHeartbeats 4000000
namespace K01
open PySem L2 NdefX XE 
abbrev sLawRead : Stmt := top 24
section
variable {P : Program} {w : World} {K : PySem.W.Frag} {mg : Str → Option Value} {base : Heap}
abbrev nRead : List Str := ["text", "rows", "marks", "lots", "lines", "at", "line", "words"]
theorem scLawRead : FnScope nRead ["text"] (defScope sLawRead) := ⟨rfl, rfl, rfl, by decide +kernel, rfl, by decide +kernel, by decide +kernel⟩
set_option maxHeartbeats 16000000 in
theorem okLawRead {f fI : Addr} {fd fdI : FuncData} (F : Fun K "_law_read" "_law_read" sLawRead f fd) (ml : mg "len" = none) (mi : mg "int" = none) (me : mg "enumerate" = none)
    (GI : FnOk P w K mg base CX0 2 fI fdI ["word"] XS.spLawIsName) (bI : Binds K fdI ["word"] []) (kI : PySem.W.keepIn K (.ref fI) = true) (mI : mg "_law_is_name" = some (.ref fI)) :
    FnOk P w K mg base CX0 3 f fd ["text"] XS.spRead := by
  refine F.ok scLawRead (fun vs H Q E h => by obtain ⟨t, rfl, _⟩ := h; rfl) (fun cdv A outer s H vs Q E hr h => ?_)
  obtain ⟨t, rfl, hlen, hok, k⟩ := h
  refine ⟨_, (pss_cons (ps_par3 (i := 1) (j := 2) (l := 3) rfl scLawRead.nd rfl rfl rfl (by decide) (by decide) (by decide) rfl rfl rfl (pa_cons (pe_lst pa_nil) (pa_cons (pe_lst pa_nil) (pa_cons pe_bl pa_nil))) (by rfl))
      (C8.pss_cut (ps_set (i := 4) scLawRead.nd rfl (Or.inl rfl) (pe_ifExp (pt_cmpR op_ne (pv 0) pe_str (nomark _)) (pe_split (pv 0) pe_str) (pe_lst pa_nil)))
      (pss_cons (ps_for PassesOwn.never rfl (pi_enum (by rfl) me (pa_cons (pv 4) pa_nil)) (pg_tup rfl (pgs_cons (pg_name (i := 5) scLawRead.nd rfl (Or.inl rfl)) (pgs_cons (pg_name (i := 6) scLawRead.nd rfl (Or.inl rfl)) pgs_nil))) (pss_cons (ps_set (i := 7) scLawRead.nd rfl (Or.inl rfl) (pe_split (pv 6) pe_str))
      (pss_cons (ps_if (pt_up (PW.pt (pw_and (pt_cmpR (op_eqD hr.units) (pv 7) (pe_lst (pa_cons pe_str pa_nil)) (nomark _)) (pw_and (pt_cmpR (op_neD hr.units) (pv 1) (pe_lst pa_nil) (nomark _)) (pw_and1 (pt_not (pt_val (pv 3)))))))) (pss_cons (ps_set (i := 3) scLawRead.nd rfl (Or.inl rfl) pe_bl)
      (pss_one ps_continue)) pss_nil)
      (pss_cons (ps_if (pt_up (PW.pt (pw_or (pt_val (pv 3)) (pw_or (pt_cmpR op_ne (pe_callB call_len_seq (by rfl) ml PySem.boot_len (pa_cons (pv 7) pa_nil)) pe_int (nomark _)) (pw_or (pt_not (pt_val (pe_call GI hr rfl mI kI bI .nil pass0 (pa_cons (pe_ix ix_list (pv 7) pe_int (fun _ _ => rfl)) pa_nil)))) (pw_or1 (pt_cmpR op_in_seq (pe_ix ix_list (pv 7) pe_int (fun _ _ => rfl)) (pe_op op_cat (pv 1) (pv 2)) (by rfl)))))))) (pss_one (ps_ret (pe_tup (pa_cons (pe_op op_add (pv 5) pe_int) (pa_cons (pv 1) (pa_cons (pv 2) (pa_cons (pv 3) pa_nil))))))) pss_nil)
      (pss_one (ps_if (pt_up (PW.pt (pw_and (pt_cmpR op_eq (pe_ix ix_list (pv 7) pe_int (fun _ _ => rfl)) pe_str (nomark _)) (pw_and (pt_cmpR (op_eqD hr.units) (pv 2) (pe_lst pa_nil) (nomark _)) (pw_and1 (pt_cmpR op_lt (pe_callB call_len_seq (by rfl) ml PySem.boot_len (pa_cons (pv 1) pa_nil)) pe_int (nomark _))))))) (pss_one (ps_expr (pe_bm PySem.F.plainAttrs_list PySem.F.slot_list_append PySem.F.type_list_append mt_append (pv 1) (pa_cons (pe_ix ix_list (pv 7) pe_int (fun _ _ => rfl)) pa_nil)))) (pss_one (ps_if (pt_up (PW.pt (pw_and (pt_cmpR op_eq (pe_ix ix_list (pv 7) pe_int (fun _ _ => rfl)) pe_str (nomark _)) (pw_and (pt_cmpR (op_neD hr.units) (pv 1) (pe_lst pa_nil) (nomark _)) (pw_and1 (pt_cmpR op_lt (pe_callB call_len_seq (by rfl) ml PySem.boot_len (pa_cons (pv 2) pa_nil)) pe_int (nomark _))))))) (pss_one (ps_expr (pe_bm PySem.F.plainAttrs_list PySem.F.slot_list_append PySem.F.type_list_append mt_append (pv 2) (pa_cons (pe_ix ix_list (pv 7) pe_int (fun _ _ => rfl)) pa_nil)))) (pss_one (ps_ret (pe_tup (pa_cons (pe_op op_add (pv 5) pe_int) (pa_cons (pv 1) (pa_cons (pv 2) (pa_cons (pv 3) pa_nil)))))))))))))))
      (pss_one (ps_ret (pe_tup (pa_cons (pe_callTy call_int1 (by rfl) mi (by decide +kernel) (pa_cons (pe_cmpR (op_eqD hr.units) (pv 1) (pe_lst pa_nil) (nomark _)) pa_nil)) (pa_cons (pv 1) (pa_cons (pv 2) (pa_cons (pv 3) pa_nil)))))))))), ?_⟩
  have sz : sizeLine = 16777216 := sizeLine_eq
  have nP : ∀ {y : Str}, PyData.strOk y = true → True := fun _ => trivial
  refine ⟨Nat.zero_le _, fun r hr0 => ⟨Nat.zero_le _, fun m hm0 => ⟨_, _, _, rfl, ?_⟩⟩⟩
  have nrm : r ≠ m := ne_of_none upd_same hm0
  have hm00 : H m = none := by rwa [upd_ne (Ne.symm nrm)] at hm0
  have s2 : Same H (upd (upd H r (.lst [])) m (.lst [])) := (XP.Same.new hr0).trans (XP.Same.new hm0)
  have er : upd (upd H r (.lst [])) m (.lst []) r = some (.lst (([] : List Str).map V.str)) := (upd_ne nrm).trans upd_same
  have em : upd (upd H r (.lst [])) m (.lst []) m = some (.lst (([] : List Str).map V.str)) := upd_same
  generalize upd (upd H r (.lst [])) m (.lst []) = H2 at s2 er em ⊢
  refine ⟨fun σ' H' => ∃ l : Addr, σ' = [some (.str t), some (.ref r), some (.ref m), some (.bl false), some (.ref l), none, none, none] ∧ Same H2 H' ∧ H2 l = none ∧ H' l = some (.lst ((XS.lnOf t).map V.str)), ?_, ?_⟩
  · refine ⟨_, rfl, rfl, _, rfl, ?_⟩
    by_cases ht : t = ""
    · have e : (!decide (V.str t = V.str "")) = false := by
        rw [ht]
        rfl
      rw [e]
      refine iteF ⟨Nat.zero_le _, fun l hl => ⟨l, rfl, XP.Same.new hl, hl, ?_⟩⟩
      rw [upd_same, XS.lnOf, if_pos ht]
      rfl
    · have e : (!decide (V.str t = V.str "")) = true := by
        rw [decide_eq_false fun z => ht (V.str.inj z)]
        rfl
      rw [e]
      refine iteT ⟨_, rfl, ⟨_, rfl⟩, t, _, rfl, rfl, (by decide +kernel), by omega, fun l hl => ⟨l, rfl, XP.Same.new hl, hl, ?_⟩⟩
      rw [upd_same, XS.lnOf, if_neg ht]
  rintro σ' H' ⟨l, rfl, s3, hl0, hl⟩
  have hls := XS.lines_ok hok
  have hle : ∀ y ∈ XS.lnOf t, y.length ≤ t.length := fun y hy => XS.lines_le hy
  obtain ⟨J, hJ⟩ : ∃ J, J = XS.judge 0 [] [] false (XS.lnOf t) := ⟨_, rfl⟩
  have er3 := s3 _ _ er
  have em3 := s3 _ _ em
  have s03 := s2.trans s3
  have nlr : l ≠ r := (ne_of_none er hl0).symm
  have nlm : l ≠ m := (ne_of_none em hl0).symm
  clear er em s2 s3
  refine ⟨_, rfl, l, _, rfl, SqL.of hl, for_it walk_enum (fun i σ H4 => ∃ (x5 x6 x7 : Option V) (rs ms : List Str) (b : Bool), σ = [some (.str t), some (.ref r), some (.ref m), some (.bl b), some (.ref l), x5, x6, x7] ∧ Same H H4 ∧ H4 l = some (.lst ((XS.lnOf t).map V.str)) ∧
      H4 r = some (.lst (rs.map V.str)) ∧ H4 m = some (.lst (ms.map V.str)) ∧ J = XS.judge i rs ms b ((XS.lnOf t).drop i) ∧ XP.Txs rs ∧ XP.Txs ms ∧ rs.length ≤ 3 ∧ ms.length ≤ 2)
      ⟨none, none, none, [], [], false, rfl, s03, hl, er3, em3, hJ, fun y hy => absurd hy List.not_mem_nil, fun y hy => absurd hy List.not_mem_nil, Nat.zero_le _, Nat.zero_le _⟩ (fun i σ H4 _ h => by obtain ⟨x5, x6, x7, rs, ms, b, _, _, h1, _⟩ := h; exact SqL.of h1) ?_ ?_⟩
  · rintro i x σ H4 H5 hi ⟨x5, x6, x7, rs, ms, b, rfl, s4, el, er, em, hres, tr, tm, lr, lm⟩ ⟨T, xi, y, rfl, hT, rfl, hxi, hy⟩
    cases hxi
    have hy : ((XS.lnOf t).map V.str)[i]? = some y := hy
    rw [List.getElem?_map] at hy
    obtain ⟨line, hline, rfl⟩ := Option.map_eq_some_iff.mp hy
    have hilt : i < (XS.lnOf t).length := (List.getElem?_eq_some_iff.mp hline).1
    have hdrop : (XS.lnOf t).drop i = line :: (XS.lnOf t).drop (i + 1) := by
      rw [List.drop_eq_getElem_cons hilt, (List.getElem?_eq_some_iff.mp hline).2]
    rw [hdrop] at hres
    have lineT := hls line (List.mem_of_getElem? hline)
    have lineL := hle line (List.mem_of_getElem? hline)
    have manyL := XS.lines_many t
    have sT : Same H4 (upd H4 T (.tup [.int (i : Nat), .str line])) := XP.Same.new hT
    have eT : upd H4 T (.tup [.int (i : Nat), .str line]) T = some (.tup [V.int (i : Nat), V.str line]) := upd_same
    have el5 := sT _ _ el
    have er5 := sT _ _ er
    have em5 := sT _ _ em
    have s5 := s4.trans sT
    generalize upd H4 T (.tup [.int (i : Nat), .str line]) = H5 at sT eT el5 er5 em5 s5 ⊢
    clear sT el er em s4 hT
    refine ⟨T, _, rfl, SqT.of eT, rfl, _, _, rfl, _, _, rfl, rfl, ?_⟩
    -- words
    refine ⟨_, rfl, ⟨_, rfl⟩, line, _, rfl, rfl, (by decide +kernel), by omega, fun wd hwd => ?_⟩
    have sW : Same H5 (upd H5 wd (.lst ((Txt.split line " ").map V.str))) := XP.Same.new hwd
    have ew : upd H5 wd (.lst ((Txt.split line " ").map V.str)) wd = some (.lst ((XS.wsOf line).map V.str)) := upd_same
    have el6 := sW _ _ el5
    have er6 := sW _ _ er5
    have em6 := sW _ _ em5
    have s6 := s5.trans sW
    generalize upd H5 wd (.lst ((Txt.split line " ").map V.str)) = H6 at ew el6 er6 em6 s6 ⊢
    clear sW el5 er5 em5 s5 eT hwd
    have wT : XP.Txs (XS.wsOf line) := XS.split_ok lineT
    have F : XS.RdAt H H6 l r m wd (XS.lnOf t) rs ms (XS.wsOf line) := ⟨s6, el6, er6, em6, ew⟩
    clear ew el6 er6 em6 s6
    -- words == ["lots"] and rows != [] and not lots
    refine ⟨fun c H8 => (c = true ↔ (XS.wsOf line = [("lots" : Str)] ∧ rs ≠ [] ∧ b = false)) ∧ XS.RdAt H H8 l r m wd (XS.lnOf t) rs ms (XS.wsOf line), ?_, ?_⟩
    · refine ⟨_, rfl, (by show 1 ≤ sizeLine; decide), fun q hq => ?_⟩
      refine ⟨.list ((XS.wsOf line).map PyData.str), .list ([("lots" : Str)].map PyData.str), .lst (SqL.of (F.new hq).w) (XP.dp_strs _), .lst (SqL.of upd_same) (XP.dp_strs [("lots" : Str)]), XP.shaped_strs wT, by decide +kernel, _, rfl, ?_⟩
      rw [XP.eqv_strs]
      have F := F.new (o := .lst [.str "lots"]) hq
      generalize upd H6 q (.lst [.str "lots"]) = H7 at F ⊢
      by_cases c1 : XS.wsOf line = [("lots" : Str)]
      rotate_left
      · rw [decide_eq_false c1]
        exact iteF ⟨⟨fun z => (by cases z), fun z => absurd z.1 c1⟩, F⟩
      rw [decide_eq_true c1]
      refine iteT ⟨_, rfl, Nat.zero_le _, fun q hq => ⟨.list (rs.map PyData.str), .list [], .lst (SqL.of (F.new hq).r) (XP.dp_strs _), .lst (SqL.of upd_same) .nil, XP.shaped_strs tr, by decide, _, rfl, ?_⟩⟩
      rw [XS.eqv_nil]
      have F := F.new (o := .lst []) hq
      generalize upd H7 q (.lst []) = H8 at F ⊢
      by_cases c2 : rs = []
      · rw [decide_eq_true c2]
        exact iteF ⟨⟨fun z => (by cases z), fun z => absurd c2 z.2.1⟩, F⟩
      rw [decide_eq_false c2]
      refine iteT ⟨_, rfl, b, rfl, ?_⟩
      cases b with
      | true => exact ⟨⟨fun z => (by cases z), fun z => (by cases z.2.2)⟩, F⟩
      | false => exact ⟨⟨fun _ => ⟨c1, c2, rfl⟩, fun _ => rfl⟩, F⟩
    rintro c H8 ⟨hc, F⟩
    cases c with
    | true =>
      obtain ⟨c1, c2, rfl⟩ := hc.mp rfl
      rw [XS.judge_lots c1 c2] at hres
      exact iteT ⟨_, _, _, rs, ms, true, rfl, F.s, F.l, F.r, F.m, hres, tr, tm, lr, lm⟩
    | false =>
    have c1 : ¬ (XS.wsOf line = [("lots" : Str)] ∧ rs ≠ [] ∧ b = false) := fun z => by cases hc.mpr z
    refine iteF ?_
    -- lots or len(words) != 2 or ..
    have bad : ∀ H9, XS.RdAt H H9 l r m wd (XS.lnOf t) rs ms (XS.wsOf line) → J = (i + 1, rs, ms, b) → ∀ tp, H9 tp = none → Q (.ref tp) (upd H9 tp (.tup [.int ((i : Nat) + 1 : Int), .ref r, .ref m, .bl b])) := fun H9 F e tp htp => by
      have F' := F.new (o := .tup [.int ((i : Nat) + 1 : Int), .ref r, .ref m, .bl b]) htp
      refine k tp r m J _ hJ F'.s ?_ ?_ ?_
      · rw [upd_same, e]
        rfl
      · rw [e]
        exact F'.r
      · rw [e]
        exact F'.m
    refine ⟨fun c H9 => (c = true → J = (i + 1, rs, ms, b)) ∧ (c = false → b = false ∧ ∃ a x, XS.wsOf line = [a, x] ∧ XS.isName x = true ∧ x ∉ rs ++ ms) ∧ XS.RdAt H H9 l r m wd (XS.lnOf t) rs ms (XS.wsOf line), ?_, ?_⟩
    · refine ⟨_, rfl, b, rfl, ?_⟩
      cases b with
      | true => exact iteT ⟨fun _ => hres.trans (XS.judge_bad c1 (.inl rfl)), fun z => (by cases z), F⟩
      | false =>
      refine iteF ⟨_, rfl, wd, _, rfl, .inl (SqL.of F.w), rfl, _, rfl, ?_⟩
      rw [List.length_map]
      by_cases c2 : (XS.wsOf line).length = 2
      rotate_left
      · have e : (!decide (V.int ((XS.wsOf line).length : Nat) = V.int 2)) = true := by
          rw [decide_eq_false (fun z => c2 (by
            have := V.int.inj z
            omega))]
          rfl
        rw [e]
        exact iteT ⟨fun _ => hres.trans (XS.judge_bad c1 (.inr c2)), fun z => (by cases z), F⟩
      obtain ⟨a, x, ew⟩ := XS.two_of c2
      have e2 : (!decide (V.int ((XS.wsOf line).length : Nat) = V.int 2)) = false := by
        rw [c2]
        rfl
      rw [e2]
      rw [ew] at F
      have hxl : x.length ≤ line.length := XS.words_le (by rw [ew]; exact List.mem_cons_of_mem _ List.mem_cons_self)
      have hxT : PyData.strOk x = true := wT x (by rw [ew]; exact List.mem_cons_of_mem _ List.mem_cons_self)
      have at1 : atI ([a, x].map V.str) 1 = some (.str x) := show atI _ ((1 : Nat) : Int) = _ from atI_nat (j := 1) rfl
      rw [XS.judge_two ew] at hres
      refine iteF ⟨_, rfl, wd, _, _, _, rfl, rfl, SqL.of F.w, at1, x, rfl, by omega, hxT, fun H9 s9 => ⟨_, rfl, ?_⟩⟩
      have F := F.same s9
      by_cases c3 : XS.isName x = true
      rotate_left
      · rw [Bool.eq_false_iff.mpr c3] at hres ⊢
        rw [if_pos (.inl rfl)] at hres
        exact iteT ⟨fun _ => hres, fun z => (by cases z), ew ▸ F⟩
      rw [c3]
      refine iteF ⟨_, rfl, wd, _, _, _, rfl, rfl, SqL.of F.w, at1, _, rfl, _, rfl, XS.cat_s F.r F.m (by omega) fun q hq => ?_⟩
      refine ⟨q, _, rfl, .inl (SqL.of upd_same), rfl, XS.flat_strs _, decide (x ∈ rs ++ ms), congrArg V.bl (XS.in_strs x (rs ++ ms)), ?_⟩
      have F := F.new (o := .lst ((rs ++ ms).map V.str)) hq
      by_cases c4 : x ∈ rs ++ ms
      · rw [decide_eq_true c4]
        rw [if_pos (.inr c4)] at hres
        exact ⟨fun _ => hres, fun z => (by cases z), ew ▸ F⟩
      · rw [decide_eq_false c4]
        exact ⟨fun z => (by cases z), fun _ => ⟨rfl, a, x, ew, c3, c4⟩, ew ▸ F⟩
    rintro c H9 ⟨h1, h2, F⟩
    cases c with
    | true => exact iteT ⟨_, rfl, _, _, rfl, rfl, _, rfl, _, rfl, _, rfl, (by show 4 ≤ sizeLine; decide), bad H9 F (h1 rfl)⟩
    | false =>
    obtain ⟨rfl, a, x, ew, c3, c4⟩ := h2 rfl
    refine iteF ?_
    rw [XS.judge_two ew, if_neg (fun z => z.elim (fun y => by rw [c3] at y; cases y) c4)] at hres
    rw [ew] at F
    have hxT : PyData.strOk x = true := wT x (by rw [ew]; exact List.mem_cons_of_mem _ List.mem_cons_self)
    have at0 : atI ([a, x].map V.str) 0 = some (.str a) := show atI _ ((0 : Nat) : Int) = _ from atI_nat (j := 0) rfl
    have at1 : atI ([a, x].map V.str) 1 = some (.str x) := show atI _ ((1 : Nat) : Int) = _ from atI_nat (j := 1) rfl
    clear hc c1
    refine ⟨fun c H10 => (c = true ↔ (a = "row" ∧ ms = [] ∧ rs.length < 3)) ∧ XS.RdAt H H10 l r m wd (XS.lnOf t) rs ms [a, x], ?_, ?_⟩
    · refine ⟨_, rfl, wd, _, _, _, rfl, rfl, SqL.of F.w, at0, rfl, _, rfl, ?_⟩
      by_cases d1 : a = "row"
      rotate_left
      · rw [decide_eq_false (fun z => d1 (V.str.inj z))]
        exact iteF ⟨⟨fun z => (by cases z), fun z => absurd z.1 d1⟩, F⟩
      rw [decide_eq_true (congrArg V.str d1)]
      refine iteT ⟨_, rfl, Nat.zero_le _, fun q hq => ⟨.list (ms.map PyData.str), .list [], .lst (SqL.of (F.new hq).m) (XP.dp_strs _), .lst (SqL.of upd_same) .nil, XP.shaped_strs tm, by decide, _, rfl, ?_⟩⟩
      rw [XS.eqv_nil]
      have F := F.new (o := .lst []) hq
      generalize upd H9 q (.lst []) = H10 at F ⊢
      by_cases d2 : ms = []
      rotate_left
      · rw [decide_eq_false d2]
        exact iteF ⟨⟨fun z => (by cases z), fun z => absurd z.2.1 d2⟩, F⟩
      rw [decide_eq_true d2]
      refine iteT ⟨_, rfl, r, _, rfl, .inl (SqL.of F.r), _, _, rfl, rfl, _, rfl, ?_⟩
      rw [List.length_map]
      exact ⟨⟨fun z => ⟨d1, d2, by have := of_decide_eq_true z; omega⟩, fun z => decide_eq_true (by have := z.2.2; omega)⟩, F⟩
    rintro c H10 ⟨hc, F⟩
    cases c with
    | true =>
      obtain ⟨d1, d2, d3⟩ := hc.mp rfl
      rw [if_pos ⟨d1, d2, d3⟩] at hres
      refine iteT ⟨_, rfl, .inl ⟨rfl, _, SqL.of F.r⟩, _, rfl, wd, _, _, _, rfl, rfl, SqL.of F.w, at1, r, _, _, rfl, rfl, F.r, ?_, ?_⟩
      · rw [List.length_map]
        omega
      · refine ⟨_, _, _, rs ++ [x], ms, false, rfl, fun b o e => (upd_ne (ne_of_none e hr0)).trans (F.s _ _ e), (upd_ne nlr).trans F.l, ?_, (upd_ne (Ne.symm nrm)).trans F.m, hres, XS.Txs.app tr (XS.Txs.one hxT), tm, ?_, lm⟩
        · rw [upd_same, List.map_append]
          rfl
        · rw [List.length_append, List.length_singleton]
          omega
    | false =>
    rw [if_neg (fun z => by cases hc.mpr z)] at hres
    refine iteF ?_
    clear hc
    refine ⟨fun c H11 => (c = true ↔ (a = "mark" ∧ rs ≠ [] ∧ ms.length < 2)) ∧ XS.RdAt H H11 l r m wd (XS.lnOf t) rs ms [a, x], ?_, ?_⟩
    · refine ⟨_, rfl, wd, _, _, _, rfl, rfl, SqL.of F.w, at0, rfl, _, rfl, ?_⟩
      by_cases d1 : a = "mark"
      rotate_left
      · rw [decide_eq_false (fun z => d1 (V.str.inj z))]
        exact iteF ⟨⟨fun z => (by cases z), fun z => absurd z.1 d1⟩, F⟩
      rw [decide_eq_true (congrArg V.str d1)]
      refine iteT ⟨_, rfl, Nat.zero_le _, fun q hq => ⟨.list (rs.map PyData.str), .list [], .lst (SqL.of (F.new hq).r) (XP.dp_strs _), .lst (SqL.of upd_same) .nil, XP.shaped_strs tr, by decide, _, rfl, ?_⟩⟩
      rw [XS.eqv_nil]
      have F := F.new (o := .lst []) hq
      generalize upd H10 q (.lst []) = H11 at F ⊢
      by_cases d2 : rs = []
      · rw [decide_eq_true d2]
        exact iteF ⟨⟨fun z => (by cases z), fun z => absurd d2 z.2.1⟩, F⟩
      rw [decide_eq_false d2]
      refine iteT ⟨_, rfl, m, _, rfl, .inl (SqL.of F.m), _, _, rfl, rfl, _, rfl, ?_⟩
      rw [List.length_map]
      exact ⟨⟨fun z => ⟨d1, d2, by have := of_decide_eq_true z; omega⟩, fun z => decide_eq_true (by have := z.2.2; omega)⟩, F⟩
    rintro c H11 ⟨hc, F⟩
    cases c with
    | true =>
      obtain ⟨d1, d2, d3⟩ := hc.mp rfl
      rw [if_pos ⟨d1, d2, d3⟩] at hres
      refine iteT ⟨_, rfl, .inl ⟨rfl, _, SqL.of F.m⟩, _, rfl, wd, _, _, _, rfl, rfl, SqL.of F.w, at1, m, _, _, rfl, rfl, F.m, ?_, ?_⟩
      · rw [List.length_map]
        omega
      · refine ⟨_, _, _, rs, ms ++ [x], false, rfl, fun b o e => (upd_ne (ne_of_none e hm00)).trans (F.s _ _ e), (upd_ne nlm).trans F.l, (upd_ne nrm).trans F.r, ?_, hres, tr, XS.Txs.app tm (XS.Txs.one hxT), lr, ?_⟩
        · rw [upd_same, List.map_append]
          rfl
        · rw [List.length_append, List.length_singleton]
          omega
    | false =>
    rw [if_neg (fun z => by cases hc.mpr z)] at hres
    exact iteF ⟨_, rfl, _, _, rfl, rfl, _, rfl, _, rfl, _, rfl, (by show 4 ≤ sizeLine; decide), bad H11 (ew ▸ F) hres⟩
  · rintro σ H4 ⟨x5, x6, x7, rs, ms, b, rfl, s4, el, er, em, hres, tr, tm, lr, lm⟩
    rw [List.length_map, List.drop_length] at hres
    refine ⟨_, rfl, Nat.zero_le _, fun q hq => ⟨.list (rs.map PyData.str), .list [], .lst (SqL.of (XP.Same.new hq _ _ er)) (XP.dp_strs _), .lst (SqL.of upd_same) .nil, XP.shaped_strs tr, by decide, .inr ⟨_, rfl, ?_⟩⟩⟩
    rw [XS.eqv_nil]
    have sQ : Same H4 (upd H4 q (.lst [])) := XP.Same.new hq
    have er := sQ _ _ er
    have em := sQ _ _ em
    have s4 := s4.trans sQ
    generalize upd H4 q (.lst []) = H5 at er em s4 ⊢
    refine ⟨_, rfl, _, rfl, _, rfl, (by show 4 ≤ sizeLine; decide), fun tp htp => ?_⟩
    have sT : Same H5 (upd H5 tp (.tup [.int (if decide (rs = []) = true then 1 else 0), .ref r, .ref m, .bl b])) := XP.Same.new htp
    have e : J = (if rs = [] then 1 else 0, rs, ms, b) := hres.trans (by unfold XS.judge; rfl)
    refine k tp r m J _ hJ (s4.trans sT) ?_ ?_ ?_
    · rw [upd_same, e]
      by_cases z : rs = [] <;> simp [z]
    · rw [e]
      exact sT _ _ er
    · rw [e]
      exact sT _ _ em
end
end K01
set_option linter.all false
set_option maxRecDepth 100000
set_option maxHeartbeats 4000000
namespace XE
open PySem PySem.Spec PyProof.Rows L2 NdefX
section
variable {X : Cx}
/-- s * n -/
theorem op_mulS : OpR X (binaryOp .Mult) (fun x y H Q => ∃ (z : Str) (n : Int), x = .str z ∧ y = .int n ∧ MulOk z n ∧ Q (.str (Txt.mul z n)) H) := by
  intro pins s σ H x y v u Q I rx ry h
  obtain ⟨z, n, rfl, rfl, ok, q⟩ := h
  obtain ⟨t, rfl⟩ := rx
  obtain ⟨t', rfl⟩ := ry
  exact SB.mul ok fun u k => ⟨.str _, H, I.tok _, ⟨_, rfl⟩, q⟩
/-- isinstance of the error that a suite holds; its class is known where it is read -/
theorem call_isPc {a C : Addr} {oe : Obj} {cls : Value} {pn : List (Addr × Obj)} {d : Option Addr} (T : ExA X.K C) (hz : Zc cls d oe) (hf : ∃ vs, oe.data = .fields vs) :
    CallR (X.suite a ((a, oe) :: pn)) (.builtin "isinstance") (fun xs H Q => cls = .ref C ∧ rIsP X.K C a d xs H Q) := by
  intro pins s σ H xs us Q I r h
  obtain ⟨rfl, h⟩ := h
  exact call_isP T hz hf pins s σ H xs us Q I r h
/-- repr of an int, of a text, of a list or tuple -/
theorem call_reprA (hg : X.A.guards = some []) (hu : X.A.units + 64 < cLine) : CallR X (.builtin "repr") (fun xs H Q => (∃ v z, xs = [v] ∧ XP.RepOf v z ∧ Q (.str z) H) ∨ rReprD X.K xs H Q) := by
  intro pins s σ H xs us Q I r h
  rcases h with h | h
  · exact XP.call_repr pins s σ H xs us Q I r h
  · exact call_reprD hg hu pins s σ H xs us Q I r h
end
end XE
namespace XS
open PySem L2
theorem readN_names (word : Str) (most : Nat) (taken : List Str) : ∀ (ls names : List Str), (∀ x ∈ names, isName x = true) → ∀ x ∈ readN word most taken names ls, isName x = true
  | [], names, h => h
  | l :: ls, names, h => by
    cases e : lineName word most taken names l with
    | none =>
      rw [readN_none e]
      exact h
    | some b =>
      rw [readN_some e]
      obtain ⟨_, _, _, _, hb, _⟩ := line_of e
      refine readN_names word most taken ls _ fun x hx => ?_
      rcases List.mem_append.mp hx with z | z
      · exact h x z
      · rw [List.mem_singleton.mp z]
        exact hb
theorem readN_most (word : Str) (most : Nat) (taken ls : List Str) : (readN word most taken [] ls).length ≤ most := by
  obtain ⟨k, _, h2, h3, _⟩ := readN_pre word most taken ls []
  rw [h2]
  exact h3 (Nat.zero_le _)
theorem readScene_small {t : Str} {s : Sc} (h : readScene t = .inr s) : s.rows.length ≤ 3 ∧ s.marks.length ≤ 2 ∧ ∀ x ∈ s.rows ++ s.marks, isName x = true := by
  unfold readScene at h
  dsimp only at h
  split at h
  · cases h
  · generalize hlo : decide (((lnOf t).drop _).take 1 = [("lots" : Str)]) = lo at h
    generalize (if lo = true then 1 else 0) = one at h
    split at h
    · cases h
    · cases h
      refine ⟨readN_most _ _ _ _, readN_most _ _ _ _, fun x hx => ?_⟩
      rcases List.mem_append.mp hx with z | z
      · exact readN_names _ _ _ _ [] (fun y hy => absurd hy List.not_mem_nil) x z
      · exact readN_names _ _ _ _ [] (fun y hy => absurd hy List.not_mem_nil) x z
/-! ### what a scene shows, as data -/
def scI (t : Str) (rows marks : List Str) (b : Bool) : List PyData := [.str t, .tuple (rows.map PyData.str), .tuple (marks.map PyData.str), .bool b]
theorem shown_strs (l : List Str) : PyData.shownAll (l.map PyData.str) = l.map reprText := by
  induction l with
  | nil => rfl
  | cons y r ih => simp [PyData.shownAll, PyData.shown, ih]
theorem showable_strs (l : List Str) : PyData.showableAll (l.map PyData.str) = true := by
  induction l with
  | nil => rfl
  | cons y r ih => simp [PyData.showableAll, PyData.showable, ih]
theorem noDict_strs (l : List Str) : PyData.hasDictAll (l.map PyData.str) = false := by
  induction l with
  | nil => rfl
  | cons y r ih => simp [PyData.hasDictAll, PyData.hasDict, ih]
theorem repr_ok {t : Str} (h : PyData.strOk t = true) : (reprText t).length ≤ 10 * t.length + 2 := PySem.StrLaws.reprText_len t fun c hc => by
  have z := ok_iff.mp h c hc
  have : (16 : Nat) ^ 8 = 4294967296 := by decide
  omega
theorem name_ok {x : Str} (h : isName x = true) : PyData.strOk x = true := ok_iff.mpr fun c hc => by
  have z := (letter_free c (name_signs h c hc)).2.2.2
  omega
theorem tup_names {l : List Str} (h : ∀ x ∈ l, isName x = true) (hn : l.length ≤ 3) : (tupleText (l.map reprText)).length ≤ 400 := by
  have z := tupleText_len_le (l.map reprText)
  rw [List.map_map, List.length_map] at z
  have y := sum_map_le ((fun s : Str => s.length) ∘ reprText) 122 l fun x hx => by
    have h1 := repr_ok (name_ok (h x hx))
    have h2 := (name_len (h x hx)).2
    show (reprText x).length ≤ 122
    omega
  have y2 : l.length * 122 ≤ 3 * 122 := Nat.mul_le_mul_right _ hn
  have e : (l.map ((fun x => x.length) ∘ reprText)).sum = (l.map ((fun s : Str => s.length) ∘ reprText)).sum := rfl
  omega
theorem sc_shown {t : Str} {rows marks : List Str} {b : Bool} (ht : PyData.strOk t = true) (hl : t.length ≤ 100000) (h3 : rows.length ≤ 3) (h2 : marks.length ≤ 2) (hn : ∀ x ∈ rows ++ marks, isName x = true) :
    ((PyData.shownAll (scI t rows marks b)).map (·.length)).sum + 2 * (PyData.shownAll (scI t rows marks b)).length + 3 ≤ sizeLine := by
  have a1 := repr_ok ht
  have a2 := tup_names (fun x hx => hn x (List.mem_append_left _ hx)) h3
  have a3 := tup_names (fun x hx => hn x (List.mem_append_right _ hx)) (Nat.le_trans h2 (by decide))
  have a4 : (PyData.shown (.bool b)).length ≤ 5 := by cases b <;> decide +kernel
  have e : PyData.shownAll (scI t rows marks b) = [reprText t, tupleText (rows.map reprText), tupleText (marks.map reprText), PyData.shown (.bool b)] := by
    simp [scI, PyData.shownAll, PyData.shown, shown_strs]
  rw [e, sizeLine_eq]
  simp only [List.map_cons, List.map_nil, List.sum_cons, List.sum_nil, List.length_cons, List.length_nil]
  omega
theorem sc_data (t : Str) (rows marks : List Str) (b : Bool) : PyData.showableAll (scI t rows marks b) = true ∧ PyData.hasDictAll (scI t rows marks b) = false ∧ PyData.depthAll (scI t rows marks b) ≤ 1 := by
  refine ⟨by simp [scI, PyData.showableAll, PyData.showable, showable_strs], by simp [scI, PyData.hasDictAll, PyData.hasDict, noDict_strs], ?_⟩
  simp [scI, PyData.depthAll, PyData.depth, XP.depth_strs]
/-- repr of the list, of the tuple, of what a scene shows -/
theorem sc_reprL {K : PySem.W.Frag} {H : Hp} {a r m : Addr} {t : Str} {rows marks : List Str} {b : Bool} {Q : VK} (ha : SqL K H a [.str t, .ref r, .ref m, .bl b]) (hr : SqT K H r (rows.map V.str)) (hm : SqT K H m (marks.map V.str))
    (ht : PyData.strOk t = true) (hl : t.length ≤ 100000) (h3 : rows.length ≤ 3) (h2 : marks.length ≤ 2) (hn : ∀ x ∈ rows ++ marks, isName x = true) (q : Q (.str (PyData.shown (.list (scI t rows marks b)))) H) : XE.rReprD K [.ref a] H Q := by
  obtain ⟨d1, d2, d3⟩ := sc_data t rows marks b
  refine ⟨a, .list (scI t rows marks b), rfl, .lst ha (.cons (.str t) (.cons (.tup hr (XP.dp_strs _)) (.cons (.tup hm (XP.dp_strs _)) (.cons (.bl b) .nil)))), by simpa [PyData.showable] using d1, by simpa [PyData.hasDict] using d2, by simp only [PyData.depth]; omega, ?_, q⟩
  exact Nat.le_trans (listText_len_le _) (sc_shown ht hl h3 h2 hn)
theorem sc_reprT {K : PySem.W.Frag} {H : Hp} {a r m : Addr} {t : Str} {rows marks : List Str} {b : Bool} {Q : VK} (ha : SqT K H a [.str t, .ref r, .ref m, .bl b]) (hr : SqT K H r (rows.map V.str)) (hm : SqT K H m (marks.map V.str))
    (ht : PyData.strOk t = true) (hl : t.length ≤ 100000) (h3 : rows.length ≤ 3) (h2 : marks.length ≤ 2) (hn : ∀ x ∈ rows ++ marks, isName x = true) (q : Q (.str (PyData.shown (.tuple (scI t rows marks b)))) H) : XE.rReprD K [.ref a] H Q := by
  obtain ⟨d1, d2, d3⟩ := sc_data t rows marks b
  refine ⟨a, .tuple (scI t rows marks b), rfl, .tup ha (.cons (.str t) (.cons (.tup hr (XP.dp_strs _)) (.cons (.tup hm (XP.dp_strs _)) (.cons (.bl b) .nil)))), by simpa [PyData.showable] using d1, by simpa [PyData.hasDict] using d2, by simp only [PyData.depth]; omega, ?_, q⟩
  exact Nat.le_trans (tupleText_len_le _) (sc_shown ht hl h3 h2 hn)
/-! ### promises -/
def spScEq (C : Addr) : Sp := fun vs H Q _ => ∃ (a b dx dy : Addr) (fs gs : List (Str × V)) (t u : Str), vs = [.ref a, .ref b] ∧ H a = some (.ins C dx fs) ∧ H b = some (.ins C dy gs) ∧ fs.lookup ("text" : Str) = some (V.str t) ∧ gs.lookup ("text" : Str) = some (V.str u) ∧ Q (.bl (decide (t = u))) H
def spTold : Sp := fun vs H Q _ => ∃ t : Str, vs = [.str t] ∧ t.length ≤ 50000 ∧ PyData.strOk t = true ∧
  match readScene t with
  | .inl k => ∀ H', Same H H' → Q (.int (k : Nat)) H'
  | .inr s => ∀ (tp r m : Addr) (H' : Hp), Same H H' → H' tp = some (.tup [.str t, .ref r, .ref m, .bl s.lots]) → H' r = some (.tup (s.rows.map V.str)) → H' m = some (.tup (s.marks.map V.str)) → Q (.ref tp) H'
theorem sc_text (t : Str) (r m : Addr) (b : Bool) : (scF t r m b).lookup ("text" : Str) = some (.str t) := by simp [scF, List.lookup]
theorem sc_rows (t : Str) (r m : Addr) (b : Bool) : (scF t r m b).lookup ("rows" : Str) = some (.ref r) := by
  have a1 : (Str.ofString "rows" == Str.ofString "text") = false := by decide +kernel
  simp [scF, List.lookup, a1]
theorem sc_marks (t : Str) (r m : Addr) (b : Bool) : (scF t r m b).lookup ("marks" : Str) = some (.ref m) := by
  have a1 : (Str.ofString "marks" == Str.ofString "text") = false := by decide +kernel
  have a2 : (Str.ofString "marks" == Str.ofString "rows") = false := by decide +kernel
  simp [scF, List.lookup, a1, a2]
theorem sc_lots (t : Str) (r m : Addr) (b : Bool) : (scF t r m b).lookup ("has_lots" : Str) = some (.bl b) := by
  have a1 : (Str.ofString "has_lots" == Str.ofString "text") = false := by decide +kernel
  have a2 : (Str.ofString "has_lots" == Str.ofString "rows") = false := by decide +kernel
  have a3 : (Str.ofString "has_lots" == Str.ofString "marks") = false := by decide +kernel
  simp [scF, List.lookup, a1, a2, a3]
/-! ### the law's own texts -/
def ODD : List Str := [("row" : Str), ("mark" : Str), ("lots" : Str), ("lot" : Str), ("" : Str), ("A" : Str), ("x1" : Str), ("it" : Str), Txt.mul "q" 12, Txt.mul "q" 13, ("row q" : Str), ("z" : Str)]
theorem odd_ok : XP.Txs ODD := by
  unfold XP.Txs
  decide +kernel
theorem odd_len : ∀ y ∈ ODD, y.length ≤ 20 := by decide +kernel
theorem mul_q (n : Int) (h1 : 1 < n) (h2 : n < 100) : MulOk "q" n := by
  have e : ("q" : Str).length = 1 := by decide +kernel
  refine ⟨?_, fun _ _ => ?_, fun _ _ => ?_⟩
  · rw [Bool.or_eq_false_iff]
    exact ⟨decide_eq_false (by omega), decide_eq_false (by omega)⟩
  · rw [e]
    have : (1 : Int) ≤ (2 ^ 63 - 1) / n := by
      rw [Int.le_ediv_iff_mul_le (by omega)]
      omega
    omega
  · rw [e]
    have z := sizeLine_eq
    unfold PySem.Builtin.Str.tooLong
    rw [decide_eq_false_iff_not]
    have : (1 * n.toNat) < 100 := by omega
    omega
theorem readScene_le {t : Str} {k : Nat} (h : readScene t = .inl k) : k ≤ t.length + 2 := by
  have L := lines_many t
  unfold readScene at h
  dsimp only at h
  split at h
  · cases h
    omega
  · generalize hlo : decide (((lnOf t).drop _).take 1 = [("lots" : Str)]) = lo at h
    generalize (if lo = true then 1 else 0) = one at h
    split at h
    · cases h
      omega
    · cases h
theorem scText_ok {rows marks : List Str} {lots : Bool} (g : GoodSc rows marks) : PyData.strOk (scText rows marks lots) = true ∧ (scText rows marks lots).length ≤ 200 := by
  obtain ⟨h1, h2⟩ := scLines_small (lots := lots) g
  have e1 : ("\n" : Str).length = 1 := by decide +kernel
  constructor
  · refine join_ok (by decide +kernel) _ fun l hl => ?_
    unfold scLines at hl
    rcases List.mem_append.mp hl with hl | hl
    · rcases List.mem_append.mp hl with hl | hl
      · obtain ⟨x, hx, rfl⟩ := List.mem_map.mp hl
        exact ok_append (by decide +kernel) (name_ok (g.ok x (List.mem_append_left _ hx)))
      · obtain ⟨x, hx, rfl⟩ := List.mem_map.mp hl
        exact ok_append (by decide +kernel) (name_ok (g.ok x (List.mem_append_right _ hx)))
    · cases lots with
      | false => cases hl
      | true =>
        rw [if_pos rfl, List.mem_singleton] at hl
        subst hl
        decide +kernel
  · have z := join_mass (y := "\n") (n := 0) (by rw [e1]; omega) (scLines rows marks lots)
    have y := sum_map_le (fun y : Str => y.length + 1) 18 (scLines rows marks lots) fun x hx => by
      have := h1 x hx
      omega
    have y2 : (scLines rows marks lots).length * 18 ≤ 6 * 18 := Nat.mul_le_mul_right _ h2
    have e2 : mass (scLines rows marks lots) = ((scLines rows marks lots).map fun y : Str => y.length + 1).sum := rfl
    unfold scText
    omega
/-- [a, not b] != [c, not c], of three looks at one and the same -/
theorem two_bools (b : Bool) : PyData.eqv (.list [.bool b, .bool (!b)]) (.list [.bool b, .bool (!b)]) = true := by cases b <;> decide
end XS
set_option linter.all false
set_option maxRecDepth 100000
set_option maxHeartbeats 4000000
namespace K01
open PySem L2 NdefX XE 
abbrev sTold : Stmt := top 25
/-- what the class of what Scene raises says, S the base of all errors -/
structure BadC (K : PySem.W.Frag) (mg : Str → Option Value) (B S : Addr) : Prop where
  ex : ExA K B
  xf : XfC K B
  li : PySem.W.findIn K (.ref B) "line" = some none
  kS : PySem.W.kitOne K (.ref B) (.ref S) = some true
  kV : PySem.W.kitOne K (.ref B) (.type "ValueError") = some true
  em : PySem.W.exmOne K (.ref B) (.ref B) = some true
  mB : mg "BadScene" = some (.ref B)
  mS : mg "SeatError" = some (.ref S)
  mV : mg "ValueError" = none
  mI : mg "isinstance" = none
section
variable {P : Program} {w : World} {K : PySem.W.Frag} {mg : Str → Option Value} {base : Heap} {C B S : Addr}
theorem scScE : FnScope ["self", "other"] ["self", "other"] (defScope sScE) := ⟨rfl, rfl, rfl, by decide +kernel, rfl, by decide +kernel, by decide +kernel⟩
theorem okScE {f : Addr} {fd : FuncData} (F : Fun K "__eq__" "Scene.__eq__" sScE f fd) (T : ScC K mg C) (I : C8.InsC K C) (mC : mg "Scene" = some (.ref C)) (mI : mg "isinstance" = none) : FnOk P w K mg base CX0 1 f fd ["self", "other"] (XS.spScEq C) := by
  refine F.ok scScE (fun vs H Q E h => by obtain ⟨a, b, dx, dy, fs, gs, t, u, rfl, _⟩ := h; rfl) (fun cdv A outer s H vs Q E hr h => ?_)
  obtain ⟨a, b, dx, dy, fs, gs, t, u, rfl, ha, hb, la, lb, q⟩ := h
  refine ⟨_, pss_one (ps_ret (pe_and (pe_callB (C8.call_isC I) (by rfl) mI (by decide +kernel) (pa_cons (pv 1) (pa_cons (pe_glob (v := .ref C) (by rfl) mC rfl) pa_nil))) (pe_one (pe_cmpR op_eq (pe_fld (pv 0) rfl) (pe_fld (pv 1) rfl) (nomark _))))), ?_⟩
  refine ⟨_, rfl, b, dy, gs, rfl, hb, true, rfl, iteT ⟨_, rfl, a, C, dx, fs, _, rfl, ha, T.cl, T.nt, la, _, rfl, b, C, dy, gs, _, rfl, hb, T.cl, T.nt, lb, rfl, ?_⟩⟩
  have e : decide (V.str t = V.str u) = decide (t = u) := decide_eq_decide.mpr ⟨fun z => V.str.inj z, fun z => congrArg V.str z⟩
  rw [e]
  exact q
theorem scTold : FnScope ["text", "made", "e"] ["text"] (defScope sTold) := ⟨rfl, rfl, rfl, by decide +kernel, rfl, by decide +kernel, by decide +kernel⟩
theorem okTold {f fS : Addr} {fd fdS : FuncData} (F : Fun K "_law_told" "_law_told" sTold f fd) (T : ScC K mg C) (M : Mk K C fS) (mC : mg "Scene" = some (.ref C)) (D : BadC K mg B S)
    (GS : FnOk P w K mg base (L2.CX P w) 3 fS fdS ["self", "text"] (XS.spScene C B)) (bS : Binds K fdS ["self", "text"] []) : FnOk P w K mg base CX0 5 f fd ["text"] XS.spTold := by
  refine F.ok scTold (fun vs H Q E h => by obtain ⟨t, rfl, _⟩ := h; rfl) (fun cdv A outer s H vs Q E hr h => ?_)
  obtain ⟨t, rfl, hl, ht, q⟩ := h
  refine ⟨_, pss_cons (ps_try_as (i := 2) rfl rfl scTold.nd rfl rfl ⟨rfl, by decide, .inl D.mB⟩ takes0 (fun W pn xe tk _ => pss_one (ps_set (i := 1) scTold.nd rfl (Or.inl rfl) (pe_makeS M GS hr rfl mC bS (fun σ => passAt tk σ) (pa_cons (pv 0) pa_nil))))
      (fun a oe cls d pn hz hf => pss_one (ps_ret (pe_ifExp (PW.pt (pw_and (pt_val (pe_callB (call_isPc D.ex hz hf) (by rfl) D.mI (by decide +kernel) (pa_cons (pv 2) (pa_cons (pe_glob (v := .ref S) (by rfl) D.mS rfl) pa_nil))))
        (pw_and1 (pt_val (pe_callB (call_isPc D.ex hz hf) (by rfl) D.mI (by decide +kernel) (pa_cons (pv 2) (pa_cons (pe_bltn (v := .ty "ValueError") (by rfl) D.mV (by decide +kernel) rfl) pa_nil)))))))
        (pe_xf D.xf D.li hz hf (pv 2)) pe_str))))
    (pss_one (ps_ret (pe_tup (pa_cons (pe_fld (pv 1) rfl) (pa_cons (pe_fld (pv 1) rfl) (pa_cons (pe_fld (pv 1) rfl) (pa_cons (pe_fld (pv 1) rfl) pa_nil))))))), ?_⟩
  refine ⟨_, rfl, fun x dx hx hdx ne => ⟨x, dx, t, rfl, upd_same, hl, ht, ?_⟩⟩
  have s1 : Same H (upd (upd H dx (.own x)) x (.ins C dx [])) := fun b o e => by
    rw [upd_ne (ne_of_none e hx), upd_ne (ne_of_none e hdx)]
    exact e
  cases e : XS.readScene t with
  | inl n =>
    rw [e] at q
    intro d H' s' hd0 hd
    refine ⟨true, D.em, fun _ a ha => ?_, fun z => nomatch z⟩
    have isP : ∀ dd, some d = some dd → ∃ fs, H' dd = some (.xd fs) := fun dd z => by
      cases z
      exact ⟨_, hd⟩
    refine ⟨_, rfl, rfl, .ref S, .ref S, true, rfl, isP, (fun u z => z), D.kS, true, rfl, iteT ?_⟩
    refine ⟨_, rfl, rfl, .ty "ValueError", .type "ValueError", true, rfl, isP, (fun u z => z), D.kV, true, rfl, iteT ?_⟩
    refine ⟨_, rfl, rfl, rfl, d, _, .int (n : Nat), rfl, hd, (by simp [List.lookup]), q H' (s1.trans s')⟩
  | inr s =>
    rw [e] at q
    intro r m H' keep hr0 hm0 hx' hr' hm'
    have s2 : Same H H' := fun b o z => keep b o (ne_of_none z hx) (s1 b o z)
    refine ⟨rfl, ?_⟩
    refine ⟨_, rfl, x, C, dx, _, _, rfl, hx', T.cl, T.nt, XS.sc_text _ _ _ _, _, rfl, x, C, dx, _, _, rfl, hx', T.cl, T.nr, XS.sc_rows _ _ _ _, _, rfl, x, C, dx, _, _, rfl, hx', T.cl, T.nm, XS.sc_marks _ _ _ _,
      _, rfl, x, C, dx, _, _, rfl, hx', T.cl, T.nl, XS.sc_lots _ _ _ _, (by show 4 ≤ sizeLine; decide), fun tp htp => ?_⟩
    have sT : Same H' (upd H' tp (.tup [.str t, .ref r, .ref m, .bl s.lots])) := XP.Same.new htp
    exact q tp r m _ (s2.trans sT) upd_same (sT _ _ hr') (sT _ _ hm')
end
end K01
set_option linter.all false
set_option maxRecDepth 100000
set_option maxHeartbeats 4000000
namespace XE
open PySem PySem.Spec PyProof.Rows L2 NdefX
/-! ### a law whose body asks for the repr of lists: entered where no repr is under way -/
structure FnG (P : Program) (w : World) (K : PySem.W.Frag) (mg : Str → Option Value) (base : Heap) (k : Nat) (f : Addr) (fd : FuncData) (ps : List Str) (sp : Sp) : Prop where
  go : ∀ (A : Around) (outer : List Env) (s : Shared) (H : Hp) (args : Args) (us : List Value) (vs : List V) (Q : VK) (E : XK), A.guards = some [] → Room k A → Env0 P w K mg base A outer s H → BindsTo s fd args (ps.zip us) → Vals vs us → sp vs H Q E →
    codeAny (model P w) A (.call (.ref f) args) (CR CX0 outer P w H s Q E) s
theorem fun_okG {P : Program} {w : World} {K : PySem.W.Frag} {mg : Str → Option Value} {base : Heap} {x qual : Str} {st : Stmt} {f : Addr} {fd : FuncData} {N ps : List Str} {k : Nat} {sp : Sp} (F : Fun K x qual st f fd) (S : FnScope N ps (defScope st))
    (many : ∀ vs H Q E, sp vs H Q E → vs.length = ps.length)
    (hbody : ∀ (cdv : Value) (A : Around) (outer : List Env) (s : Shared) (H : Hp) (vs : List V) (Q : VK) (E : XK), A.guards = some [] → Room k (A.deeper (envOfC qual (defScope st) s.heap.objs.size f cdv)) → sp vs H Q E →
      ∃ t, PSs (cxOf CX0 P w K mg base N qual (defScope st) f cdv A outer s H E).nox (defBody st) t ∧ t { nx := fun _ H' => Q .non H', rt := Q } (start N vs) H) : FnG P w K mg base (k + 1) f fd ps sp := by
  obtain ⟨oc, od, kV, doc, pm, an, cdv, ct, osl, rfl, lk, hcd⟩ := F.ex
  refine ⟨fun A outer s H args us vs Q E hg hr env0 bnd rel ask => ?_⟩
  have nA := many _ _ _ _ ask
  have inK : K.In s.heap := env0.mod.kin.keeps fun b o e => (env0.bs b o e).1
  have noLim : s.heap.NoLimit := env0.mod.nolimit.keeps fun b o e => (env0.bs b o e).1
  have kinds : ∀ y ∈ ps.zip us, (defScope st).names.lookup y.1 = some .local ∨ ((defScope st).names.lookup y.1 = some .cell ∧ ((cellsFrom (s.heap.objs.size + 1) (defScope st).names []).lookup y.1).isSome = true) := by
    rintro ⟨n, v⟩ hy
    exact (S.par n (List.of_mem_zip hy).1).imp id fun q => ⟨q, PySem.W.cellsFrom_some _ _ _ (.inl q)⟩
  refine codeAny_call_function hr.depth (inK _ _ lk) rfl S.co S.gen rfl (PySem.W.codeRec_of inK hcd) (bnd _ _ _ _ (wpAny_newFunctionEnv_cells S.kind kinds fun env he s1 inC => ?_))
  subst he
  refine ⟨noLim.keeps inC.toInCall.keep, codeAny_func ?_⟩
  obtain ⟨t, ht, hq⟩ := hbody cdv A outer s H vs Q E hg (hr.deeper _) ask
  have I : Inv (cxOf CX0 P w K mg base N qual (defScope st) f cdv A outer s H E) [] (start N vs) H s1 := inv_start S hr.hd env0 nA rel inC
  refine wpAny_mono (ht.nox.run [] s1 (start N vs) H _ I hq) (fun fl s' z => ?_) fun _ _ z => z
  have leave : ∀ {σ' : L2.St} {H' : Hp} {v : V} {u : Value}, Inv (cxOf CX0 P w K mg base N qual (defScope st) f cdv A outer s H E) [] σ' H' s' → L2.RelV v u → Q v H' → CE outer P w H s Q u s' :=
    fun {_ H' v _} J1 rel1 q1 => ⟨v, H', J1.os, J1.bare, J1.base, J1.hok, rel1, q1⟩
  match fl, z with
  | .ret u, ⟨v, σ', H', J1, rel1, q1⟩ => exact leave J1 rel1 q1
  | .next, ⟨σ', H', J1, q1⟩ => exact leave (v := V.non) (u := Value.none) J1 rfl q1
  | .brk, ⟨_, _, _, q1⟩ => exact q1.elim
  | .cont, ⟨_, _, _, q1⟩ => exact q1.elim
theorem law_callG {P : Program} {w : World} {K : PySem.W.Frag} {mg mb : Str → Option Value} {k : Nat} {fa a : Addr} {fd : FuncData} {x : Str} {sp : Sp} {s₁ : Shared} {vs : List Value} {ns : List Int}
    (inK : K.In s₁.heap) (globs : s₁.heap.Ns mainGlobals mg) (blt : s₁.heap.Ns builtinsNs mb) (blt2 : ∀ x : Str, x ≠ "__name__" → mb x = bootBuiltins x) (noLim : s₁.heap.NoLimit) (noGen : s₁.gens = #[])
    (at_a : s₁.heap.get? a = some { cls := .type "list", data := .seq vs.toArray }) (hi : IntsAre vs ns) (small : ns.length ≤ sizeLine) (hr : Room k callerA)
    (F : ∀ base : Heap, K.In base → base.Ns mainGlobals mg → FnG P w K mg base k fa fd [x] sp) (bnd : ∀ (s : Shared) (u : Value), BindsTo s fd ⟨[u], []⟩ [(x, u)])
    (ask : ∀ H : Hp, Only H → SqL K H a (ns.map V.int) → sp [.ref a] H (fun v _ => v = .bl true) fun _ _ _ => False) :
    codeAny (model P w) callerA (.call (.ref fa) ⟨[.ref a], []⟩) (fun r s' => r = .ok (.ret (.bool true)) ∧ OldK s₁.heap s'.heap ∧ s'.os = s₁.os ∧ AllBare s'.gens) s₁ := by
  have rel := vals_ints hi
  have main : ∀ H : Hp, Only H → SqL K H a (ns.map V.int) → HOk P w H s₁.heap → (∀ b, H b ≠ none → b = a) → (H a ≠ none → K.lookup a = none) →
      codeAny (model P w) callerA (.call (.ref fa) ⟨[.ref a], []⟩) (fun r s' => r = .ok (.ret (.bool true)) ∧ OldK s₁.heap s'.heap ∧ s'.os = s₁.os ∧ AllBare s'.gens) s₁ := by
    intro H hO hS hok only hK
    have noDict : ∀ {b : Addr} {o : Obj} {es : Array DictEntry} {ep : Nat}, s₁.heap.get? b = some o → o.data = .dict es ep → H b = none := by
      intro b o es ep e d
      by_cases z : H b = none
      · exact z
      · obtain rfl := only b z
        rw [at_a] at e
        cases e
        cases d
    have names : ∀ {b : Addr} {m : Str → Option Value}, s₁.heap.Ns b m → (hidT s₁.heap H).Ns b m := by
      rintro b m ⟨o, es, ep, e, d, r⟩
      exact ⟨o, es, ep, hidT_get e (noDict e d), d, r⟩
    have kb : K.In (hidT s₁.heap H) := by
      intro b o e
      refine hidT_get (inK b o e) ?_
      by_cases z : H b = none
      · exact z
      · obtain rfl := only b z
        rw [hK z] at e
        cases e
    have hm : Mod K mg (hidT s₁.heap H) := ⟨kb, names globs, ⟨mb, names blt, blt2⟩, by obtain ⟨mc, h1, h2⟩ := noLim; exact ⟨mc, names h1, h2⟩⟩
    have env0 : Env0 P w K mg (hidT s₁.heap H) callerA [] s₁ H := ⟨rfl, hm, fun b o e => of_hidT e, Nat.le_of_eq (hidT_size _ _), trivial, fun b hb => absurd hb List.not_mem_nil, hok, .of_eq noGen⟩
    refine codeAny_mono ((F _ kb (names globs)).go callerA [] s₁ H ⟨[.ref a], []⟩ [.ref a] [.ref a] _ _ rfl hr env0 (bnd s₁ (.ref a)) (.cons rfl .nil) (ask H hO hS)) fun r s' z => ?_
    match r, z with
    | .ok (.ret u), ⟨v, H', os, bare, un, hok', r', q⟩ =>
      subst q
      cases r'
      refine ⟨rfl, OldK.of_keep fun b o e => ?_, os, bare⟩
      by_cases z : H b = none
      · exact un.keep b o e z (fun y => absurd y List.not_mem_nil) (by simp)
      · rcases hO b with y | ⟨ob, xs, y⟩
        · exact absurd y z
        · obtain ⟨e1, _⟩ := hok b _ y
          obtain ⟨e2, _⟩ := hok' b _ (un.frzs b ob _ y)
          rw [e] at e1
          cases e1
          exact e2
  cases hk : K.lookup a with
  | some o =>
    have e := inK a o hk
    rw [at_a] at e
    cases e
    exact main (fun _ => none) (fun _ => .inl rfl) (.inr ⟨_, vs.toArray, _, hk, rfl, rfl, rfl, by rw [List.size_toArray, hi.length]; exact small, by simpa using rel⟩) (fun b u z => by cases z) (fun b z => absurd rfl z) fun z => absurd rfl z
  | none =>
    have one : ∀ b, b ≠ a → upd (fun _ => none : Hp) a (.frz { cls := .type "list", data := .seq vs.toArray } (.lst (ns.map V.int))) b = none := fun b n => upd_ne n
    refine main (upd (fun _ => none) a (.frz { cls := .type "list", data := .seq vs.toArray } (.lst (ns.map V.int)))) (fun b => ?_) (.inl (.inr ⟨_, upd_same⟩)) (fun b u z => ?_) (fun b z => ?_) fun _ => hk
    · by_cases n : b = a
      · subst n
        exact .inr ⟨_, _, upd_same⟩
      · exact .inl (one b n)
    · by_cases n : b = a
      · subst n
        rw [upd_same] at z
        cases z
        exact ⟨at_a, by rw [List.length_map]; exact small, vs, _, rel, at_a⟩
      · rw [one b n] at z
        cases z
    · by_cases n : b = a
      · exact n
      · exact absurd (one b n) z
theorem walk_ofG {l : PySem.W.OpenLaw} {n k : Nat} {q : Program} {loose : List Str} {XP : (Str → Option Value) → Heap → Prop} {YP : World → Heap → Prop} {d : DefRec} {K : Params → PySem.W.Frag} {sp : World → Sp} {x : Str}
    (most : l.most = some n) (small : n ≤ sizeLine) (noD : d.params.defaults = []) (hr : Room k callerA) (hY : ∀ (w : World) (h : Heap), YP w h → (K w.params).In h)
    (F : ∀ (w : World) (mg : Str → Option Value) (fa : Addr) (h : Heap), (K w.params).In h → h.Ns mainGlobals mg → mg d.name = some (.ref fa) →
      ∃ fd : FuncData, (∀ (s : Shared) (u : Value), BindsTo s fd ⟨[u], []⟩ [(x, u)]) ∧ ∀ base : Heap, (K w.params).In base → base.Ns mainGlobals mg → FnG l.prog w (K w.params) mg base k fa fd [x] (sp w))
    (ask : ∀ (w : World) (H : Hp) (a : Addr) (ns : List Int), ns.length ≤ n → Only H → SqL (K w.params) H a (ns.map V.int) → sp w [.ref a] H (fun v _ => v = .bl true) fun _ _ _ => False) :
    PySem.W.WalkO q loose XP YP l.row.toRowW d [] (fun f vs => PySem.call f vs) := by
  refine Att.attach_call most noD fun w s₀ s₁ mg mb fa o pm cd doc a vs ns G Y _ _ _ named obj hints len noGen => ?_
  obtain ⟨fd, bnd, go⟩ := F w mg fa _ (hY w _ Y) G.T.g named
  exact law_callG (hY w _ Y) G.T.g G.T.b G.T.builtins G.T.nolimit noGen obj hints (Nat.le_trans len small) hr go bnd fun H hO hS => ask w H a ns len hO hS
end XE
set_option linter.all false
set_option maxRecDepth 100000
set_option maxHeartbeats 4000000
namespace K01
open PySem L2 NdefX XE 
abbrev sLaw : Stmt := top 26
/-- the built-ins that the law calls -/
structure Bl (mg : Str → Option Value) : Prop where
  repr : mg "repr" = none
  tuple : mg "tuple" = none
  range : mg "range" = none
/-- the defs that the law calls -/
structure Gs (P : Program) (w : World) (K : PySem.W.Frag) (mg : Str → Option Value) (base : Heap) (fbegun : Addr) (fdbegun : FuncData) (fdraw : Addr) (fddraw : FuncData) (fnewscene : Addr) (fdnewscene : FuncData) (fsctext : Addr) (fdsctext : FuncData) (fbent : Addr) (fdbent : FuncData) (fread : Addr) (fdread : FuncData) (ftold : Addr) (fdtold : FuncData) : Prop where
  begun : FnOk P w K mg base CX0 1 fbegun fdbegun ["script"] (XP.spBegun K)
  bbegun : Binds K fdbegun ["script"] []
  kbegun : PySem.W.keepIn K (.ref fbegun) = true
  mbegun : mg "_law_begun_pen" = some (.ref fbegun)
  draw : FnOk P w K mg base CX0 1 fdraw fddraw ["pen", "span"] XP.spDraw
  bdraw : Binds K fddraw ["pen", "span"] []
  kdraw : PySem.W.keepIn K (.ref fdraw) = true
  mdraw : mg "_law_draw" = some (.ref fdraw)
  newscene : FnOk P w K mg base CX0 4 fnewscene fdnewscene ["pen", "rows", "marks", "lots"] XS.spNewScene
  bnewscene : Binds K fdnewscene ["pen", "rows", "marks", "lots"] []
  knewscene : PySem.W.keepIn K (.ref fnewscene) = true
  mnewscene : mg "_law_new_scene" = some (.ref fnewscene)
  sctext : FnOk P w K mg base CX0 1 fsctext fdsctext ["scene"] XS.spScText
  bsctext : Binds K fdsctext ["scene"] []
  ksctext : PySem.W.keepIn K (.ref fsctext) = true
  msctext : mg "_law_scene_text" = some (.ref fsctext)
  bent : FnOk P w K mg base CX0 3 fbent fdbent ["pen", "text", "odd"] XS.spBent
  bbent : Binds K fdbent ["pen", "text", "odd"] []
  kbent : PySem.W.keepIn K (.ref fbent) = true
  mbent : mg "_law_bent" = some (.ref fbent)
  read : FnOk P w K mg base CX0 3 fread fdread ["text"] XS.spRead
  bread : Binds K fdread ["text"] []
  kread : PySem.W.keepIn K (.ref fread) = true
  mread : mg "_law_read" = some (.ref fread)
  told : FnOk P w K mg base CX0 5 ftold fdtold ["text"] XS.spTold
  btold : Binds K fdtold ["text"] []
  ktold : PySem.W.keepIn K (.ref ftold) = true
  mtold : mg "_law_told" = some (.ref ftold)
def spLaw (K : PySem.W.Frag) : Sp := fun vs H Q _ => ∃ (a : Addr) (ns : List Int), vs = [.ref a] ∧ SqL K H a (ns.map V.int) ∧ ns.length ≤ 63 ∧ ∀ H', Q (.bl true) H'
theorem scLaw : FnScope ["script", "pen", "odd", "turn", "scene", "text", "made", "shown", "bent", "change", "one", "wrong", "rows", "marks", "lots", "same"] ["script"] (defScope sLaw) := ⟨rfl, rfl, rfl, by decide +kernel, rfl, by decide +kernel, by decide +kernel⟩
section
variable {P : Program} {w : World} {K : PySem.W.Frag} {mg : Str → Option Value} {base : Heap} {C B : Addr} {fbegun : Addr} {fdbegun : FuncData} {fdraw : Addr} {fddraw : FuncData} {fnewscene : Addr} {fdnewscene : FuncData} {fsctext : Addr} {fdsctext : FuncData} {fbent : Addr} {fdbent : FuncData} {fread : Addr} {fdread : FuncData} {ftold : Addr} {fdtold : FuncData}
set_option maxHeartbeats 32000000 in
theorem okLaw {f fS fE : Addr} {fd fdS fdE : FuncData} (F : Fun K "law" "law" sLaw f fd) (T : Bl mg) (G : Gs P w K mg base fbegun fdbegun fdraw fddraw fnewscene fdnewscene fsctext fdsctext fbent fdbent fread fdread ftold fdtold) (TC : ScC K mg C) (M : Mk K C fS) (mC : mg "Scene" = some (.ref C))
    (GS : FnOk P w K mg base (L2.CX P w) 3 fS fdS ["self", "text"] (XS.spScene C B)) (bS : Binds K fdS ["self", "text"] []) (GE : FnOk P w K mg base CX0 1 fE fdE ["self", "other"] (XS.spScEq C)) (bE : Binds K fdE ["self", "other"] []) (TE : OwnC K C fE) :
    FnG P w K mg base 6 f fd ["script"] (spLaw K) := by
  refine fun_okG F scLaw (fun vs H Q E h => by obtain ⟨a, ns, rfl, _⟩ := h; rfl) (fun cdv A outer s H vs Q E hG hr h => ?_)
  obtain ⟨a, ns, rfl, hS, hl, q⟩ := h
  have hu := hu_of hr
  refine ⟨_, (pss_cons (ps_set (i := 1) scLaw.nd rfl (Or.inl rfl) (pe_call G.begun (hr.mono (by decide)) rfl G.mbegun G.kbegun G.bbegun .nil pass0 (pa_cons (pv 0) pa_nil)))
      (pss_cons (ps_set (i := 2) scLaw.nd rfl (Or.inl rfl) (pe_lst (pa_cons pe_str (pa_cons pe_str (pa_cons pe_str (pa_cons pe_str (pa_cons pe_str (pa_cons pe_str (pa_cons pe_str (pa_cons pe_str (pa_cons (pe_op op_mulS pe_str pe_int) (pa_cons (pe_op op_mulS pe_str pe_int) (pa_cons pe_str (pa_cons pe_str pa_nil))))))))))))))
      (pss_cons (ps_for PassesOwn.never rfl (pi_range1 rfl T.range (pa_cons pe_int pa_nil)) (pg_name (i := 3) scLaw.nd rfl (Or.inl rfl)) (pss_cons (ps_set (i := 4) scLaw.nd rfl (Or.inl rfl) (pe_call G.newscene (hr.mono (by decide)) rfl G.mnewscene G.knewscene G.bnewscene .nil pass0 (pa_cons (pv 1) (pa_cons pe_int (pa_cons pe_int (pa_cons pe_bl pa_nil))))))
      (pss_cons (ps_set (i := 5) scLaw.nd rfl (Or.inl rfl) (pe_call G.sctext (hr.mono (by decide)) rfl G.msctext G.ksctext G.bsctext .nil pass0 (pa_cons (pv 4) pa_nil)))
      (pss_cons (ps_set (i := 6) scLaw.nd rfl (Or.inl rfl) (pe_make M GS (hr.mono (by decide)) rfl mC bS .nil passL (pa_cons (pv 5) pa_nil)))
      (pss_cons (ps_set (i := 7) scLaw.nd rfl (Or.inl rfl) (pe_lst (pa_cons (pe_fld (pv 6) rfl) (pa_cons (pe_fld (pv 6) rfl) (pa_cons (pe_fld (pv 6) rfl) (pa_cons (pe_fld (pv 6) rfl) pa_nil))))))
      (pss_cons (ps_if (pt_cmpR op_ne (pe_callB (call_reprA hG hr.units) (by rfl) T.repr (by decide +kernel) (pa_cons (pv 7) pa_nil)) (pe_callB (call_reprA hG hr.units) (by rfl) T.repr (by decide +kernel) (pa_cons (pe_lst (pa_cons (pv 5) (pa_cons (pe_callTy call_tuple_of (by rfl) T.tuple (by decide +kernel) (pa_cons (pe_dget hu (pv 4) pe_str (fun _ _ => rfl)) pa_nil)) (pa_cons (pe_callTy call_tuple_of (by rfl) T.tuple (by decide +kernel) (pa_cons (pe_dget hu (pv 4) pe_str (fun _ _ => rfl)) pa_nil)) (pa_cons (pe_dget hu (pv 4) pe_str (fun _ _ => rfl)) pa_nil))))) pa_nil)) (nomark _)) (pss_one (ps_ret pe_bl)) pss_nil)
      (pss_cons (ps_set (i := 8) scLaw.nd rfl (Or.inl rfl) (pv 5))
      (pss_cons (ps_for PassesOwn.never rfl (pi_range1 rfl T.range (pa_cons (pe_op op_add pe_int (pe_call G.draw (hr.mono (by decide)) rfl G.mdraw G.kdraw G.bdraw .nil pass0 (pa_cons (pv 1) (pa_cons pe_int pa_nil)))) pa_nil)) (pg_name (i := 9) scLaw.nd rfl (Or.inl rfl)) (pss_one (ps_set (i := 8) scLaw.nd rfl (Or.inl rfl) (pe_call G.bent (hr.mono (by decide)) rfl G.mbent G.kbent G.bbent .nil pass0 (pa_cons (pv 1) (pa_cons (pv 8) (pa_cons (pv 2) pa_nil)))))))
      (pss_one (ps_for PassesOwn.never rfl (pi_tup (pe_tup (pa_cons (pv 8) (pa_cons (pe_op op_add_str (pv 5) pe_str) (pa_cons (pe_op op_add_str (pv 5) pe_str) (pa_cons (pe_op op_add_str (pe_op op_add_str (pv 5) pe_str) (pe_op op_mulS pe_str pe_int)) (pa_cons (pe_op op_add_str pe_str (pv 5)) (pa_cons pe_str pa_nil)))))))) (pg_name (i := 10) scLaw.nd rfl (Or.inl rfl)) (pss_cons (ps_asg (pe_call G.read (hr.mono (by decide)) rfl G.mread G.kread G.bread .nil pass0 (pa_cons (pv 10) pa_nil)) (pg_tup rfl (pgs_cons (pg_name (i := 11) scLaw.nd rfl (Or.inl rfl)) (pgs_cons (pg_name (i := 12) scLaw.nd rfl (Or.inl rfl)) (pgs_cons (pg_name (i := 13) scLaw.nd rfl (Or.inl rfl)) (pgs_cons (pg_name (i := 14) scLaw.nd rfl (Or.inl rfl)) pgs_nil))))))
      (pss_cons (ps_if (pt_cmpR op_ne (pe_callB (call_reprA hG hr.units) (by rfl) T.repr (by decide +kernel) (pa_cons (pe_call G.told (hr.mono (by decide)) rfl G.mtold G.ktold G.btold .nil pass0 (pa_cons (pv 10) pa_nil)) pa_nil)) (pe_callB (call_reprA hG hr.units) (by rfl) T.repr (by decide +kernel) (pa_cons (pe_ifExp (pt_cmpR op_gt (pv 11) pe_int (nomark _)) (pv 11) (pe_tup (pa_cons (pv 10) (pa_cons (pe_callTy call_tuple_of (by rfl) T.tuple (by decide +kernel) (pa_cons (pv 12) pa_nil)) (pa_cons (pe_callTy call_tuple_of (by rfl) T.tuple (by decide +kernel) (pa_cons (pv 13) pa_nil)) (pa_cons (pv 14) pa_nil)))))) pa_nil)) (nomark _)) (pss_one (ps_ret pe_bl)) pss_nil)
      (pss_cons (ps_set (i := 15) scLaw.nd rfl (Or.inl rfl) (pe_cmpR op_eq (pv 10) (pv 5) (nomark _)))
      (pss_one (ps_if (PW.pt (pw_and (pt_cmpR op_eq (pv 11) pe_int (nomark _)) (pw_and1 (pt_cmpR (op_neD hr.units) (pe_lst (pa_cons (pe_cmpR (op_ownEq GE TE (hr.mono (by decide)) bE pass0) (pe_make M GS (hr.mono (by decide)) rfl mC bS .nil passL (pa_cons (pv 10) pa_nil)) (pv 6) (nomark _)) (pa_cons (pe_cmpR (op_ownNe GE TE (hr.mono (by decide)) bE pass0) (pv 6) (pe_make M GS (hr.mono (by decide)) rfl mC bS .nil passL (pa_cons (pv 10) pa_nil)) (nomark _)) pa_nil))) (pe_lst (pa_cons (pv 15) (pa_cons (pe_not (pv 15)) pa_nil))) (nomark _))))) (pss_one (ps_ret pe_bl)) pss_nil)))))))))))))))
      (pss_one (ps_ret pe_bl))))), ?_⟩
  have sz : sizeLine = 16777216 := sizeLine_eq
  have oneq : ("q" : Str).length = 1 := by decide +kernel
  refine ⟨_, rfl, a, ns, rfl, hS, hl, fun p c H1 hp0 hP1 s1 => ?_⟩
  refine ⟨_, _, rfl, rfl, XS.mul_q 12 (by decide) (by decide), _, _, rfl, rfl, XS.mul_q 13 (by decide) (by decide), (by show 12 ≤ sizeLine; decide), fun od hod0 => ?_⟩
  have sO : Same H1 (upd H1 od (.lst (XS.ODD.map V.str))) := XP.Same.new hod0
  have hP2 : XP.Pen (upd H1 od (.lst (XS.ODD.map V.str))) p c 0 := hP1.same sO
  have hod2 : upd H1 od (.lst (XS.ODD.map V.str)) od = some (.lst (XS.ODD.map V.str)) := upd_same
  clear sO s1 hP1 hp0
  refine ⟨10, rfl, (by decide), (by decide), for_range (lo := 0) (n := 10) (fun i σ H' => ∃ x3 x4 x5 x6 x7 x8 x9 x10 x11 x12 x13 x14 x15 : Option V, σ = [some (.ref a), some (.ref p), some (.ref od), x3, x4, x5, x6, x7, x8, x9, x10, x11, x12, x13, x14, x15] ∧ XP.Pen H' p c (40 * i) ∧ H' od = some (.lst (XS.ODD.map V.str)))
    ⟨_, _, _, _, _, _, _, _, _, _, _, _, _, rfl, hP2, hod2⟩ ?_ (fun σ H' _ => q H')⟩
  rintro i σ H2 hi ⟨x3, x4, x5, x6, x7, x8, x9, x10, x11, x12, x13, x14, x15, rfl, hP2, hod2⟩
  -- a scene, its text
  refine ⟨_, rfl, p, c, 40 * i, 3, 2, true, rfl, hP2, by omega, by decide, by decide, by decide, by decide, fun d r m rs ms b H3 hd0 hr0 hm0 S g _ _ _ hP3 hb3 => ?_⟩
  have hod3 := hb3 _ _ hod2 (XS.lst_ne hP2 hod2)
  refine ⟨_, rfl, d, r, m, rs, ms, b, rfl, S, g, fun H4 s4 => ?_⟩
  have S := S.same s4
  have hP4 := hP3.same s4
  have hod4 := s4 _ _ hod3
  obtain ⟨tOk, tLen⟩ := XS.scText_ok (lots := b) g
  have good := XS.readScene_good (lots := b) g
  generalize XS.scText rs ms b = text at tOk tLen good ⊢
  clear hd0 hr0 hm0 hb3 hP3 hod3 hP2 hod2 s4
  -- the scene
  refine ⟨_, rfl, fun x dx hx hdx ne => ⟨x, dx, text, rfl, upd_same, by omega, tOk, ?_⟩⟩
  rw [good]
  intro r2 m2 H5 keep _ _ hx5 hr5 hm5
  have s5 : Same H4 H5 := fun b o e => keep b o (ne_of_none e hx) (by
    rw [upd_ne (ne_of_none e hx), upd_ne (ne_of_none e hdx)]
    exact e)
  have S := S.same s5
  have hP5 := hP4.same s5
  have hod5 := s5 _ _ hod4
  clear keep s5 hP4 hod4 hx hdx
  refine ⟨rfl, ?_⟩
  have asT : ∀ {H : Hp} {a : Addr} {l : List Str}, H a = some (.tup (l.map V.str)) → SqT K H a (l.map V.str) := fun h => SqT.of h
  -- shown
  refine ⟨_, rfl, x, C, dx, _, _, rfl, hx5, TC.cl, TC.nt, XS.sc_text _ _ _ _, _, rfl, x, C, dx, _, _, rfl, hx5, TC.cl, TC.nr, XS.sc_rows _ _ _ _, _, rfl, x, C, dx, _, _, rfl, hx5, TC.cl, TC.nm, XS.sc_marks _ _ _ _,
    _, rfl, x, C, dx, _, _, rfl, hx5, TC.cl, TC.nl, XS.sc_lots _ _ _ _, (by show 4 ≤ sizeLine; decide), fun sh hsh => ?_⟩
  have sS : Same H5 (upd H5 sh (.lst [.str text, .ref r2, .ref m2, .bl b])) := XP.Same.new hsh
  have esh : upd H5 sh (.lst [.str text, .ref r2, .ref m2, .bl b]) sh = some (.lst [V.str text, V.ref r2, V.ref m2, V.bl b]) := upd_same
  have S := S.same sS
  have hP6 := hP5.same sS
  have hod6 := sS _ _ hod5
  have hx6 := sS _ _ hx5
  have hr6 := sS _ _ hr5
  have hm6 := sS _ _ hm5
  show (tSeq _ _) _ _ (upd H5 sh (.lst [.str text, .ref r2, .ref m2, .bl b]))
  generalize upd H5 sh (.lst [.str text, .ref r2, .ref m2, .bl b]) = H6 at esh S hP6 hod6 hx6 hr6 hm6 ⊢
  clear sS hsh hP5 hod5 hx5 hr5 hm5
  refine ⟨_, rfl, .inr (XS.sc_reprL (SqL.of esh) (asT hr6) (asT hm6) tOk (by omega) g.r3 g.m2 g.ok ?_)⟩
  refine ⟨_, rfl, _, rfl, d, _, rfl, XS.gR S.d, r, _, rfl, .inl ⟨SqL.of S.r, fun t1 ht1 => ?_⟩⟩
  have s7 : Same H6 (upd H6 t1 (.tup (rs.map V.str))) := XP.Same.new ht1
  have e1 : upd H6 t1 (.tup (rs.map V.str)) t1 = some (.tup (rs.map V.str)) := upd_same
  have S := S.same s7
  have hP7 := hP6.same s7
  have hod7 := s7 _ _ hod6
  have hx7 := s7 _ _ hx6
  generalize upd H6 t1 (.tup (rs.map V.str)) = H7 at e1 S hP7 hod7 hx7 ⊢
  clear s7 ht1 hP6 hod6 hx6 hr6 hm6 esh
  refine ⟨_, rfl, d, _, rfl, XS.gM S.d, m, _, rfl, .inl ⟨SqL.of S.m, fun t2 ht2 => ?_⟩⟩
  have s8 : Same H7 (upd H7 t2 (.tup (ms.map V.str))) := XP.Same.new ht2
  have e2 : upd H7 t2 (.tup (ms.map V.str)) t2 = some (.tup (ms.map V.str)) := upd_same
  have e1 := s8 _ _ e1
  have S := S.same s8
  have hP8 := hP7.same s8
  have hod8 := s8 _ _ hod7
  have hx8 := s8 _ _ hx7
  generalize upd H7 t2 (.tup (ms.map V.str)) = H8 at e1 e2 S hP8 hod8 hx8 ⊢
  clear s8 ht2 hP7 hod7 hx7
  refine ⟨_, rfl, d, _, rfl, XS.gO S.d, (by show 4 ≤ sizeLine; decide), fun l2 hl2 => ?_⟩
  have s9 : Same H8 (upd H8 l2 (.lst [.str text, .ref t1, .ref t2, .bl b])) := XP.Same.new hl2
  have el : upd H8 l2 (.lst [.str text, .ref t1, .ref t2, .bl b]) l2 = some (.lst [V.str text, V.ref t1, V.ref t2, V.bl b]) := upd_same
  have e1 := s9 _ _ e1
  have e2 := s9 _ _ e2
  have hP9 := hP8.same s9
  have hod9 := s9 _ _ hod8
  have hx9 := s9 _ _ hx8
  generalize upd H8 l2 (.lst [.str text, .ref t1, .ref t2, .bl b]) = H9 at e1 e2 el hP9 hod9 hx9 ⊢
  clear s9 hl2 hP8 hod8 hx8 S
  refine .inr (XS.sc_reprL (SqL.of el) (asT e1) (asT e2) tOk (by omega) g.r3 g.m2 g.ok ?_)
  refine ⟨rfl, _, rfl, iteNS rfl ⟨_, rfl, ?_⟩⟩
  clear e1 e2 el
  have nxp : ∀ {H : Hp} {U : Nat} {fs : List (Str × V)}, XP.Pen H p c U → H x = some (.ins C dx fs) → x ≠ p := fun P h => by
    obtain ⟨cs, t, z, h1, _⟩ := P
    exact ne_of h h1 (by intro z; cases z)
  have p5 : ∀ j : Nat, j ≤ 2 → 200 * 5 ^ j ≤ 5000 := fun j hj => by
    have : j = 0 ∨ j = 1 ∨ j = 2 := by omega
    rcases this with rfl | rfl | rfl <;> decide
  refine ⟨_, rfl, p, c, 40 * i + 14, 2, rfl, hP9, by omega, by decide, by decide, fun n H10 n0 nn hP10 hb10 => ⟨1, n, rfl, rfl, 1 + n, rfl, by omega, by omega, ?_⟩⟩
  have hod10 := hb10 _ _ hod9 (XS.lst_ne hP9 hod9)
  have hx10 := hb10 _ _ hx9 (nxp hP9 hx9)
  clear hb10 hP9 hod9 hx9
  refine for_range (lo := 0) (n := (1 + n).toNat) (fun j σ H' => ∃ (y9 : Option V) (u : Str), σ = [some (.ref a), some (.ref p), some (.ref od), some (.int (0 + (i : Nat))), some (.ref d), some (.str text), some (.ref x), some (.ref sh), some (.str u), y9, x10, x11, x12, x13, x14, x15] ∧
      PyData.strOk u = true ∧ u.length ≤ 200 * 5 ^ j ∧ XP.Pen H' p c (40 * i + 15 + 10 * j) ∧ H' od = some (.lst (XS.ODD.map V.str)) ∧ H' x = some (.ins C dx (XS.scF text r2 m2 b)))
    ⟨x9, text, rfl, tOk, by omega, hP10, hod10, hx10⟩ ?_ ?_
  · rintro j σ H' hj ⟨y9, u, rfl, uOk, uLen, hP, hod, hx⟩
    have pj := p5 j (by omega)
    refine ⟨_, rfl, _, rfl, _, rfl, p, c, od, 40 * i + 15 + 10 * j, u, XS.ODD, rfl, hP, by omega, uOk, by omega, hod, XS.odd_ok, XS.odd_len, by decide, by decide, fun u' H'' ok' len' hP' hb' => ?_⟩
    refine ⟨_, u', rfl, ok', ?_, hP', hb' _ _ hod (XS.lst_ne hP hod), hb' _ _ hx (nxp hP hx)⟩
    rw [Nat.pow_succ]
    have : 0 < 5 ^ j := Nat.pow_pos (by decide)
    omega
  rintro σ H' ⟨y9, u, rfl, uOk, uLen, hP, hod, hx⟩
  have uLen : u.length ≤ 5000 := Nat.le_trans uLen (p5 _ (by omega))
  have hP : XP.Pen H' p c (40 * (i + 1)) := hP.mono (by omega)
  clear hP10 hod10 hx10 n0 nn H10
  -- the six texts
  have l1 : ("\n" : Str).length = 1 := by decide +kernel
  have l2 : ("\nlots" : Str).length = 5 := by decide +kernel
  have l3 : ("\nmark q" : Str).length = 7 := by decide +kernel
  have l4 : ("row zz\n" : Str).length = 7 := by decide +kernel
  have l5 : (Txt.mul "q" 11 : Str).length = 11 := by decide +kernel
  refine ⟨_, rfl, _, rfl, _, _, rfl, rfl, (by omega), _, rfl, _, _, rfl, rfl, (by omega), _, rfl, _, _, rfl, rfl, (by omega), _, _, rfl, rfl, XS.mul_q 11 (by decide) (by decide), _, _, rfl, rfl, (by rw [strLen_append]; omega), _, rfl, _, _, rfl, rfl, (by omega), (by show 6 ≤ sizeLine; decide), fun tp htp => ?_⟩
  obtain ⟨ones, hones⟩ : ∃ ones : List Str, ones = [u, text ++ "\n", text ++ "\nlots", text ++ "\nmark q" ++ Txt.mul "q" 11, "row zz\n" ++ text, ""] := ⟨_, rfl⟩
  have onesOk : ∀ y ∈ ones, PyData.strOk y = true ∧ y.length ≤ 5000 := by
    rw [hones]
    intro y hy
    simp only [List.mem_cons, List.not_mem_nil, or_false] at hy
    rcases hy with rfl | rfl | rfl | rfl | rfl | rfl
    · exact ⟨uOk, uLen⟩
    · exact ⟨XS.ok_append tOk (by decide +kernel), by rw [strLen_append]; omega⟩
    · exact ⟨XS.ok_append tOk (by decide +kernel), by rw [strLen_append]; omega⟩
    · exact ⟨XS.ok_append (XS.ok_append tOk (by decide +kernel)) (by decide +kernel), by rw [strLen_append, strLen_append]; omega⟩
    · exact ⟨XS.ok_append (by decide +kernel) tOk, by rw [strLen_append]; omega⟩
    · exact ⟨by decide +kernel, by decide +kernel⟩
  have sT : Same H' (upd H' tp (.tup [.str u, .str (text ++ "\n"), .str (text ++ "\nlots"), .str (text ++ "\nmark q" ++ Txt.mul "q" 11), .str ("row zz\n" ++ text), .str ""])) := XP.Same.new htp
  have etp : upd H' tp (.tup [.str u, .str (text ++ "\n"), .str (text ++ "\nlots"), .str (text ++ "\nmark q" ++ Txt.mul "q" 11), .str ("row zz\n" ++ text), .str ""]) tp = some (.tup (ones.map V.str)) := by
    rw [hones]
    exact upd_same
  have hP := hP.same sT
  have hod := sT _ _ hod
  have hx := sT _ _ hx
  generalize upd H' tp (.tup [.str u, .str (text ++ "\n"), .str (text ++ "\nlots"), .str (text ++ "\nmark q" ++ Txt.mul "q" 11), .str ("row zz\n" ++ text), .str ""]) = H11 at sT etp hP hod hx ⊢
  clear sT htp hones
  refine ⟨tp, rfl, ⟨_, SqT.of etp⟩, for_tup (K := K) (a := tp) (xs := ones.map V.str) (fun j σ H' => ∃ y10 y11 y12 y13 y14 y15 : Option V, σ = [some (.ref a), some (.ref p), some (.ref od), some (.int (0 + (i : Nat))), some (.ref d), some (.str text), some (.ref x), some (.ref sh), some (.str u), y9, y10, y11, y12, y13, y14, y15] ∧ Same H11 H')
    ⟨_, _, _, _, _, _, rfl, fun _ _ z => z⟩ (fun j σ H' _ h => by obtain ⟨_, _, _, _, _, _, _, s⟩ := h; exact SqT.of (s _ _ etp)) ?_ ?_⟩
  rotate_left
  · rintro σ H' ⟨y10, y11, y12, y13, y14, y15, rfl, s⟩
    exact ⟨_, _, _, _, _, _, _, _, _, _, _, _, _, rfl, hP.same s, s _ _ hod⟩
  rintro j v σ H12 hj ⟨y10, y11, y12, y13, y14, y15, rfl, s12⟩
  rw [List.getElem?_map] at hj
  obtain ⟨one, hone, rfl⟩ := Option.map_eq_some_iff.mp hj
  obtain ⟨oneOk, oneLen⟩ := onesOk one (List.mem_of_getElem? hone)
  have hx12 := s12 _ _ hx
  clear hj hone onesOk hx etp hod hP uLen uOk
  -- the law's own reader
  refine ⟨_, rfl, one, rfl, by omega, oneOk, fun tr r3 m3 J H13 hJ s13 et er em => ⟨tr, _, rfl, SqT.of et, rfl, _, _, rfl, _, _, rfl, _, _, rfl, _, _, rfl, rfl, ?_⟩⟩
  have JQ := XS.judge_eq one
  rw [← hJ] at JQ
  clear hJ
  obtain ⟨j1, jr, jm, jl⟩ := J
  have hx13 := s13 _ _ hx12
  have s13 := s12.trans s13
  clear s12 hx12
  refine ⟨_, rfl, one, rfl, by omega, oneOk, ?_⟩
  cases e : XS.readScene one with
  | inl n =>
    rw [e] at JQ
    obtain ⟨npos, rfl⟩ := JQ
    have nle := XS.readScene_le e
    have small : ((j1 : Nat) : Int).natAbs.log2 < 1920 := by
      refine Nat.lt_of_lt_of_le (PySem.Flt.log2_lt_of (k := 20) (by decide) ?_) (by decide)
      have : (2 : Nat) ^ 20 = 1048576 := by decide
      omega
    intro H14 s14
    refine .inl ⟨_, _, rfl, .inl ⟨_, rfl, small, rfl⟩, ?_⟩
    refine ⟨_, rfl, _, _, rfl, rfl, _, rfl, ?_⟩
    rw [decide_eq_true (show (0 : Int) < ((j1 : Nat) : Int) by omega)]
    refine iteT ⟨_, rfl, .inl ⟨_, _, rfl, .inl ⟨_, rfl, small, rfl⟩, ?_⟩⟩
    refine ⟨rfl, _, rfl, iteNS rfl ?_⟩
    refine ⟨_, rfl, _, rfl, rfl, ?_⟩
    refine ⟨_, rfl, rfl, _, rfl, ?_⟩
    rw [decide_eq_false (show ¬ V.int ((j1 : Nat) : Int) = V.int 0 from fun z => by
      have := V.int.inj z
      omega)]
    exact iteF ⟨_, _, _, _, _, _, rfl, s13.trans s14⟩
  | inr s =>
    rw [e] at JQ
    cases JQ
    obtain ⟨h3, h2, hn⟩ := XS.readScene_small e
    intro t3 r4 m4 H14 s14 et3 er4 em4
    have hx14 := s14 _ _ hx13
    have er := s14 _ _ er
    have em := s14 _ _ em
    have s14 := s13.trans s14
    clear s13 hx13 et
    refine .inr (XS.sc_reprT (SqT.of et3) (asT er4) (asT em4) oneOk (by omega) h3 h2 hn ?_)
    refine ⟨_, rfl, _, _, rfl, rfl, _, rfl, ?_⟩
    rw [decide_eq_false (show ¬ (0 : Int) < ((0 : Nat) : Int) by decide)]
    refine iteF ⟨_, rfl, _, rfl, r3, _, rfl, .inl ⟨SqL.of er, fun t5 ht5 => ?_⟩⟩
    have sA : Same H14 (upd H14 t5 (.tup (s.rows.map V.str))) := XP.Same.new ht5
    have e5 : upd H14 t5 (.tup (s.rows.map V.str)) t5 = some (.tup (s.rows.map V.str)) := upd_same
    have em := sA _ _ em
    have hx15 := sA _ _ hx14
    have s15 := s14.trans sA
    generalize upd H14 t5 (.tup (s.rows.map V.str)) = H15 at e5 em hx15 s15 ⊢
    clear sA ht5 s14 hx14 er et3 er4 em4
    refine ⟨_, rfl, m3, _, rfl, .inl ⟨SqL.of em, fun t6 ht6 => ?_⟩⟩
    have sA : Same H15 (upd H15 t6 (.tup (s.marks.map V.str))) := XP.Same.new ht6
    have e6 : upd H15 t6 (.tup (s.marks.map V.str)) t6 = some (.tup (s.marks.map V.str)) := upd_same
    have e5 := sA _ _ e5
    have hx16 := sA _ _ hx15
    have s16 := s15.trans sA
    generalize upd H15 t6 (.tup (s.marks.map V.str)) = H16 at e5 e6 hx16 s16 ⊢
    clear sA ht6 s15 hx15 em
    refine ⟨_, rfl, (by show 4 ≤ sizeLine; decide), fun t7 ht7 => ?_⟩
    have sA : Same H16 (upd H16 t7 (.tup [.str one, .ref t5, .ref t6, .bl s.lots])) := XP.Same.new ht7
    have e7 : upd H16 t7 (.tup [.str one, .ref t5, .ref t6, .bl s.lots]) t7 = some (.tup [V.str one, V.ref t5, V.ref t6, V.bl s.lots]) := upd_same
    have e5 := sA _ _ e5
    have e6 := sA _ _ e6
    have hx17 := sA _ _ hx16
    have s17 := s16.trans sA
    generalize upd H16 t7 (.tup [.str one, .ref t5, .ref t6, .bl s.lots]) = H17 at e5 e6 e7 hx17 s17 ⊢
    clear sA ht7 s16 hx16
    refine .inr (XS.sc_reprT (SqT.of e7) (asT e5) (asT e6) oneOk (by omega) h3 h2 hn ?_)
    refine ⟨rfl, _, rfl, iteNS rfl ?_⟩
    refine ⟨_, rfl, _, rfl, rfl, ?_⟩
    have es : decide (V.str one = V.str text) = decide (one = text) := decide_eq_decide.mpr ⟨fun z => V.str.inj z, fun z => congrArg V.str z⟩
    rw [es]
    clear es e5 e6 e7
    refine ⟨_, rfl, rfl, _, rfl, ?_⟩
    rw [decide_eq_true (show V.int (((0 : Nat) : Nat) : Int) = V.int 0 from rfl)]
    refine iteT ?_
    -- Scene(one) == made
    refine ⟨_, rfl, fun x' dx' hx' hdx' ne' => ⟨x', dx', one, rfl, upd_same, by omega, oneOk, ?_⟩⟩
    rw [e]
    intro r5 m5 H18 keep _ _ hx18' _ _
    have s18 : Same H17 H18 := fun b o e => keep b o (ne_of_none e hx') (by
      rw [upd_ne (ne_of_none e hx'), upd_ne (ne_of_none e hdx')]
      exact e)
    have hx18 := s18 _ _ hx17
    have s18 := s17.trans s18
    clear keep hx' hdx' s17 hx17
    refine ⟨rfl, _, rfl, x', x, dx', dx, _, _, rfl, rfl, hx18', hx18, x', x, dx', dx, _, _, one, text, rfl, hx18', hx18, XS.sc_text _ _ _ _, XS.sc_text _ _ _ _, _, rfl, ?_⟩
    -- made != Scene(one)
    refine ⟨_, rfl, _, rfl, fun y dy hy hdy ney => ⟨y, dy, one, rfl, upd_same, by omega, oneOk, ?_⟩⟩
    rw [e]
    intro r6 m6 H19 keep _ _ hy19 _ _
    have s19 : Same H18 H19 := fun b o e => keep b o (ne_of_none e hy) (by
      rw [upd_ne (ne_of_none e hy), upd_ne (ne_of_none e hdy)]
      exact e)
    have hx19 := s19 _ _ hx18
    have s19 := s18.trans s19
    clear keep hy hdy s18 hx18 hx18'
    refine ⟨rfl, x, y, dx, dy, _, _, rfl, rfl, hx19, hy19, x, y, dx, dy, _, _, text, one, rfl, hx19, hy19, XS.sc_text _ _ _ _, XS.sc_text _ _ _ _, _, rfl, ?_⟩
    have b1 : (decide (one = text) != false) = decide (one = text) := Bool.bne_false _
    have b2 : (decide (text = one) != true) = !decide (one = text) := by
      rw [Bool.bne_true]
      congr 1
      exact decide_eq_decide.mpr ⟨fun z => z.symm, fun z => z.symm⟩
    rw [b1, b2]
    generalize decide (one = text) = bb
    refine ⟨(by show 2 ≤ sizeLine; decide), fun q1 hq1 => ?_⟩
    have sA : Same H19 (upd H19 q1 (.lst [.bl bb, .bl (!bb)])) := XP.Same.new hq1
    have f1 : upd H19 q1 (.lst [.bl bb, .bl (!bb)]) q1 = some (.lst [V.bl bb, V.bl (!bb)]) := upd_same
    have s20 := s19.trans sA
    generalize upd H19 q1 (.lst [.bl bb, .bl (!bb)]) = H20 at f1 s20 ⊢
    refine ⟨_, rfl, _, rfl, _, rfl, (by show 2 ≤ sizeLine; decide), fun q2 hq2 => ?_⟩
    have f1 := XP.Same.new (o := .lst [.bl bb, .bl (!bb)]) hq2 _ _ f1
    have s21 := s20.trans (XP.Same.new (o := .lst [.bl bb, .bl (!bb)]) hq2)
    refine ⟨.list [.bool bb, .bool (!bb)], .list [.bool bb, .bool (!bb)], .lst (SqL.of f1) (.cons (.bl _) (.cons (.bl _) .nil)), .lst (SqL.of upd_same) (.cons (.bl _) (.cons (.bl _) .nil)), (by cases bb <;> decide), (by cases bb <;> decide), _, rfl, ?_⟩
    rw [XS.two_bools]
    exact iteF ⟨_, _, _, _, _, _, rfl, s21⟩
end
end K01
set_option linter.all false
set_option maxRecDepth 100000
set_option maxHeartbeats 4000000
namespace K01
open PySem L2 NdefX XE 
abbrev sBegun : Stmt := top 14
abbrev sDraw : Stmt := top 15
section
variable {P : Program} {w : World} {K : PySem.W.Frag} {mg : Str → Option Value} {base : Heap}
theorem scBegun : FnScope ["script"] ["script"] (defScope sBegun) := ⟨rfl, rfl, rfl, by decide +kernel, rfl, by decide +kernel, by decide +kernel⟩
theorem okBegun {f : Addr} {fd : FuncData} (F : Fun K "_law_begun_pen" "_law_begun_pen" sBegun f fd) (ml : mg "list" = none) : FnOk P w K mg base CX0 1 f fd ["script"] (XP.spBegun K) := by
  refine F.ok scBegun (fun vs H Q E h => by obtain ⟨a, ns, rfl, _⟩ := h; rfl) (fun cdv A outer s H vs Q E hr h => ?_)
  obtain ⟨a, ns, rfl, hS, hl, k⟩ := h
  refine ⟨_, pss_one (ps_ret (pe_disp (pps_cons pe_str (pe_callTy call_list_of (by rfl) ml (by decide +kernel) (pa_cons (pe_slice sl_list (pv 0) po_none (po_some pe_int)) pa_nil)) (pps_cons pe_str pe_int (pps_cons pe_str pe_int pps_nil))) (by rfl) (by rfl) (fun z => by cases z) (by decide))), ?_⟩
  intro p hp
  have s1 : Same H (upd H p (.dK [])) := XP.Same.new hp
  refine ⟨_, rfl, 63, rfl, a, _, rfl, s1.seq hS, fun b hb => ⟨b, _, rfl, .inl (SqL.of upd_same), fun c hc => ?_⟩⟩
  have npb : p ≠ b := ne_of_none upd_same hb
  have hc1 := hc
  have ncb : c ≠ b := fun z => by
    rw [z, upd_same] at hc
    cases hc
  rw [upd_ne ncb] at hc
  have npc : p ≠ c := ne_of_none upd_same hc
  have hcut : ∃ cs : List Int, cutV (ns.map V.int) none (some 63) = cs.map V.int ∧ cs.length ≤ 63 := by
    refine ⟨(ns.drop _).take _, by unfold cutV; rw [← List.map_drop, ← List.map_take], ?_⟩
    rw [List.length_take, List.length_drop]
    omega
  obtain ⟨cs, ecs, lcs⟩ := hcut
  refine ⟨?_, XP.kvs c 0 0, rfl, (show 3 ≤ 15 by decide), ?_⟩
  · rw [upd_ne npc, upd_ne npb, upd_same]
  have em : mergeK [] (XP.kvs c 0 0) = XP.kvs c 0 0 := by
    have h1 : ¬ Str.ofString "cells" = Str.ofString "turn" := by decide +kernel
    have h2 : ¬ Str.ofString "cells" = Str.ofString "left" := by decide +kernel
    have h3 : ¬ Str.ofString "turn" = Str.ofString "left" := by decide +kernel
    simp [mergeK, XP.kvs, putK, h1, h2, h3]
  rw [em]
  refine k p c _ hp ⟨cs, 0, 0, upd_same, ?_, lcs, Int.le_refl 0, Int.le_refl 0, Int.le_refl 0⟩ fun d o e => ?_
  · rw [upd_ne (Ne.symm npc), upd_same, ecs]
  · have ndp := ne_of_none e hp
    have e1 : upd H p (.dK []) d = some o := (upd_ne ndp).trans e
    rw [upd_ne ndp, upd_ne (ne_of_none e1 hc), upd_ne (ne_of_none e1 hb)]
    exact e1
theorem scDraw : FnScope ["pen", "span", "digit", "turn", "cell", "mixed"] ["pen", "span"] (defScope sDraw) := ⟨rfl, rfl, rfl, by decide +kernel, rfl, by decide +kernel, by decide +kernel⟩
theorem okDraw {f : Addr} {fd : FuncData} (F : Fun K "_law_draw" "_law_draw" sDraw f fd) (mi : mg "int" = none) (ml : mg "len" = none) (ma : mg "abs" = none) : FnOk P w K mg base CX0 1 f fd ["pen", "span"] XP.spDraw := by
  refine F.ok scDraw (fun vs H Q E h => by obtain ⟨p, c, T, n, rfl, _⟩ := h; rfl) (fun cdv A outer s H vs Q E hr h => ?_)
  obtain ⟨p, c, T, n, rfl, ⟨cs, t, l, hp, hc, hcs, ht, htT, hl⟩, hT, hn, hn2, k⟩ := h
  have hu := hu_of hr
  have ncp : c ≠ p := ne_of hc hp (by intro z; cases z)
  have nz : n ≠ 0 := by omega
  have gL : ∀ {H : Hp} {u v : Int}, H p = some (.dK (XP.kvs c u v)) → DGet H p (V.str "left") (some (.int v)) := fun {H u v} e => by
    have z := DGet.k (k := XP.kL) e
    rw [XP.vL] at z
    exact z
  have gT : ∀ {H : Hp} {u v : Int}, H p = some (.dK (XP.kvs c u v)) → DGet H p (V.str "turn") (some (.int u)) := fun {H u v} e => by
    have z := DGet.k (k := XP.kT) e
    rw [XP.vT] at z
    exact z
  have gC : ∀ {H : Hp} {u v : Int}, H p = some (.dK (XP.kvs c u v)) → DGet H p (V.str "cells") (some (.ref c)) := fun {H u v} e => by
    have z := DGet.k (k := XP.kC) e
    rw [XP.vC] at z
    exact z
  have low : ∀ x : Int, 0 ≤ x.fmod n ∧ x.fmod n < n := fun x => by
    rw [Int.fmod_eq_emod_of_nonneg x (by omega)]
    exact ⟨Int.emod_nonneg x nz, Int.emod_lt_of_pos x hn⟩
  have sz3 : ∀ u v : Int, (XP.kvs c u v).length < sizeLine := fun u v => small1000 (show 3 ≤ 1000 by decide)
  refine ⟨_, pss_cons (ps_if (pt_cmpR op_gt (pe_dget hu (pv 0) pe_str (fun _ _ => rfl)) pe_int (nomark _))
      (pss_cons (ps_set (i := 2) scDraw.nd rfl (Or.inl rfl) (pe_op op_modN (pe_callTy call_int1 (by rfl) mi (by decide +kernel) (pa_cons (pe_dget hu (pv 0) pe_str (fun _ _ => rfl)) pa_nil)) (pv 1)))
      (pss_cons (ps_dput hu (pv 0) pe_str (pe_op op_fdivW (pe_dget hu (pv 0) pe_str (fun _ _ => rfl)) (pv 1)) rfl)
      (pss_one (ps_ret (pv 2))))) pss_nil)
    (pss_cons (ps_set (i := 3) scDraw.nd rfl (Or.inl rfl) (pe_dget hu (pv 0) pe_str (fun _ _ => rfl)))
    (pss_cons (ps_dput hu (pv 0) pe_str (pe_op op_add (pv 3) pe_int) rfl)
    (pss_cons (ps_set (i := 4) scDraw.nd rfl (Or.inl rfl) (pe_op op_add (pe_op op_mul pe_int (pv 3)) pe_int))
    (pss_cons (ps_if (pt_cmpR (op_neD hr.units) (pe_dget hu (pv 0) pe_str (fun _ _ => rfl)) (pe_lst pa_nil) (nomark _))
      (pss_one (ps_set (i := 4) scDraw.nd rfl (Or.inl rfl) (pe_ix ix_list (pe_dget hu (pv 0) pe_str (fun _ _ => rfl)) (pe_op op_modN (pe_callTy call_int1 (by rfl) mi (by decide +kernel) (pa_cons (pv 3) pa_nil)) (pe_callB call_len_seq (by rfl) ml PySem.boot_len (pa_cons (pe_dget hu (pv 0) pe_str (fun _ _ => rfl)) pa_nil))) (fun _ _ => rfl)))) pss_nil)
    (pss_cons (ps_if (PW.pt (pw_and (pt_cmpR op_lt (pv 3) (pe_callB call_len_seq (by rfl) ml PySem.boot_len (pa_cons (pe_dget hu (pv 0) pe_str (fun _ _ => rfl)) pa_nil)) (nomark _)) (pw_and1 (pt_cmpR op_ge (pe_callB call_abs (by rfl) ma (by decide +kernel) (pa_cons (pv 4) pa_nil)) (pe_op op_pow pe_int pe_int) (nomark _)))))
      (pss_cons (ps_dput hu (pv 0) pe_str (pe_op op_fdivW (pe_op op_sub (pe_callB call_abs (by rfl) ma (by decide +kernel) (pa_cons (pv 4) pa_nil)) (pe_op op_pow pe_int pe_int)) (pv 1)) rfl)
      (pss_one (ps_ret (pe_op op_modN (pe_callTy call_int1 (by rfl) mi (by decide +kernel) (pa_cons (pe_op op_sub (pe_callB call_abs (by rfl) ma (by decide +kernel) (pa_cons (pv 4) pa_nil)) (pe_op op_pow pe_int pe_int)) pa_nil)) (pv 1))))) pss_nil)
    (pss_cons (ps_set (i := 5) scDraw.nd rfl (Or.inl rfl) (pe_op op_mul (pe_op op_modN (pe_callTy call_int1 (by rfl) mi (by decide +kernel) (pa_cons (pv 4) pa_nil)) pe_int) pe_int))
    (pss_cons (ps_set (i := 5) scDraw.nd rfl (Or.inl rfl) (pe_op op_modN (pe_callTy call_int1 (by rfl) mi (by decide +kernel) (pa_cons (pe_op op_add (pe_op op_add (pv 5) (pe_op op_mul (pv 3) (pe_op op_add (pe_op op_mul (pv 3) pe_int) pe_int))) pe_int) pa_nil)) pe_int))
    (pss_cons (ps_set (i := 5) scDraw.nd rfl (Or.inl rfl) (pe_op op_modN (pe_callTy call_int1 (by rfl) mi (by decide +kernel) (pa_cons (pe_op op_mul (pv 5) (pe_op op_add (pv 5) pe_int)) pa_nil)) pe_int))
    (pss_cons (ps_set (i := 5) scDraw.nd rfl (Or.inl rfl) (pe_op op_modN (pe_callTy call_int1 (by rfl) mi (by decide +kernel) (pa_cons (pe_op op_add (pe_op op_add (pe_op op_mul (pv 5) (pv 5)) (pe_op op_mul pe_int (pv 5))) (pe_op op_mul pe_int (pv 3))) pa_nil)) pe_int))
    (pss_one (ps_ret (pe_op op_modN (pe_callTy call_int1 (by rfl) mi (by decide +kernel) (pa_cons (pe_op op_fdivN (pe_op op_modN (pe_callTy call_int1 (by rfl) mi (by decide +kernel) (pa_cons (pe_op op_mul (pv 5) (pe_op op_add (pv 5) pe_int)) pa_nil)) pe_int) pe_int) pa_nil)) (pv 1))))))))))))), ?_⟩
  -- if pen['left'] > 0
  refine ⟨_, rfl, p, _, rfl, gL hp, _, _, rfl, rfl, _, rfl, ?_⟩
  refine ite2 (fun hl0 => ?_) (fun hl0 => ?_)
  · refine ⟨_, rfl, p, _, rfl, gL hp, .inl ⟨l, rfl, _, rfl, _, _, rfl, rfl, nz, ?_⟩⟩
    refine ⟨_, rfl, p, _, rfl, gL hp, _, rfl, _, _, rfl, rfl, wide_div hn hn2 (by decide) (by decide), _, rfl, p, _, rfl, DPut.k (k := XP.kL) hp (sz3 _ _), ?_⟩
    rw [XP.pL]
    refine ⟨_, rfl, k _ _ (low l).1 (low l).2 ⟨cs, t, l / n, upd_same, ?_, hcs, ht, by omega, Int.ediv_nonneg hl (by omega)⟩ (XP.But.upd _ _ _)⟩
    rw [upd_ne ncp]
    exact hc
  -- turn = pen['turn']; pen['turn'] = turn + 1; cell = 61 * turn + 13
  refine ⟨_, rfl, p, _, rfl, gT hp, ?_⟩
  refine ⟨_, rfl, _, _, rfl, rfl, _, rfl, p, _, rfl, DPut.k (k := XP.kT) hp (sz3 _ _), ?_⟩
  rw [XP.pT]
  have hp1 : upd H p (.dK (XP.kvs c (t + 1) l)) p = some (.dK (XP.kvs c (t + 1) l)) := upd_same
  have hc1 : upd H p (.dK (XP.kvs c (t + 1) l)) c = some (.lst (cs.map V.int)) := (upd_ne ncp).trans hc
  have b1 : XP.But p H (upd H p (.dK (XP.kvs c (t + 1) l))) := XP.But.upd _ _ _
  generalize upd H p (.dK (XP.kvs c (t + 1) l)) = H1 at hp1 hc1 b1 ⊢
  refine ⟨_, rfl, _, _, rfl, rfl, .inl ⟨by decide, by decide⟩, _, _, rfl, rfl, ?_⟩
  show gName 4 (V.int (61 * t + 13)) _ _ _
  generalize (61 * t + 13 : Int) = cell
  have rng : ∀ x m : Int, 0 < m → 0 ≤ x.fmod m ∧ x.fmod m < m := fun x m hm => by
    rw [Int.fmod_eq_emod_of_nonneg x (by omega)]
    exact ⟨Int.emod_nonneg x (by omega), Int.emod_lt_of_pos x hm⟩
  -- if pen['cells'] != []
  refine ⟨_, rfl, p, _, rfl, gC hp1, Nat.zero_le _, fun b hb => ⟨.list (cs.map PyData.int), .list [], .lst (SqL.of ?_) (XP.dp_ints cs), .lst (SqL.of upd_same) .nil, PySem.W.ke_shaped_ints cs, by decide, _, rfl, ?_⟩⟩
  · rw [upd_ne (ne_of_none hc1 hb)]
    exact hc1
  have hp2 : upd H1 b (.lst []) p = some (.dK (XP.kvs c (t + 1) l)) := (upd_ne (ne_of_none hp1 hb)).trans hp1
  have hc2 : upd H1 b (.lst []) c = some (.lst (cs.map V.int)) := (upd_ne (ne_of_none hc1 hb)).trans hc1
  have b2 : XP.But p H (upd H1 b (.lst [])) := b1.trans (XP.But.same (XP.Same.new hb))
  generalize upd H1 b (.lst []) = H2 at hp2 hc2 b2 ⊢
  refine ite2 (fun hq => ?brA) (fun hq => ?brB)
  case' brA =>
    have hne : cs ≠ [] := by
      intro z
      subst z
      revert hq
      decide
    have hlen : 0 < cs.length := List.length_pos_iff.mpr hne
    have hr2 := rng t (cs.length : Int) (by omega)
    have hj : (t.fmod (cs.length : Int)).toNat < cs.length := by omega
    have hat : atI (cs.map V.int) (t.fmod (cs.length : Int)) = some (.int cs[(t.fmod (cs.length : Int)).toNat]) := by
      have z : atI (cs.map V.int) (((t.fmod (cs.length : Int)).toNat : Nat) : Int) = some (.int cs[(t.fmod (cs.length : Int)).toNat]) := atI_nat (by rw [List.getElem?_map, List.getElem?_eq_getElem hj] <;> rfl)
      rwa [show (((t.fmod (cs.length : Int)).toNat : Nat) : Int) = t.fmod (cs.length : Int) by omega] at z
    refine ⟨_, rfl, p, _, rfl, gC hp2, _, rfl, .inl ⟨t, rfl, _, rfl, p, _, rfl, gC hp2, c, _, rfl, .inl (SqL.of hc2), _, _, rfl, rfl, (by rw [List.length_map]; omega), c, _, _, _, rfl, rfl, SqL.of hc2, (by rw [List.length_map]; exact hat), ?_⟩⟩
    generalize cs[(t.fmod (cs.length : Int)).toNat] = cell
  all_goals
    -- if turn < len(pen['cells']) and abs(cell) >= 10 ** 18
    refine ⟨_, rfl, _, rfl, p, _, rfl, gC hp2, c, _, rfl, .inl (SqL.of hc2), _, _, rfl, rfl, _, rfl, ?_⟩
    refine ite2 (fun h1 => ?_) (fun h1 => ?_)
    refine ⟨_, rfl, cell, rfl, _, _, rfl, rfl, ⟨by decide, by decide, by decide⟩, _, _, rfl, rfl, _, rfl, ?_⟩
    refine ite2 (fun h2 => ?_) (fun h2 => ?_)
    have h3 := of_decide_eq_true h2
    refine ⟨_, rfl, cell, rfl, _, _, rfl, rfl, ⟨by decide, by decide, by decide⟩, _, _, rfl, rfl, _, rfl, _, _, rfl, rfl, wide_div hn hn2 (by decide) (by decide), _, rfl, p, _, rfl, DPut.k (k := XP.kL) hp2 (sz3 _ _), ?_⟩
    rw [XP.pL]
    refine ⟨_, rfl, cell, rfl, _, _, rfl, rfl, ⟨by decide, by decide, by decide⟩, _, _, rfl, rfl, .inl ⟨_, rfl, _, rfl, _, _, rfl, rfl, nz, ?_⟩⟩
    refine k _ _ (low _).1 (low _).2 ⟨cs, t + 1, _, upd_same, (upd_ne ncp).trans hc2, hcs, by omega, by omega, Int.ediv_nonneg (by omega) (by omega)⟩ (b2.trans (XP.But.upd _ _ _))
    all_goals
      have m1 := rng cell 4294967087 (by decide)
      refine ⟨_, rfl, .inl ⟨cell, rfl, _, _, rfl, rfl, (show (4294967087 : Int) ≠ 0 by decide), _, _, rfl, rfl, .inl ⟨by omega, by omega⟩, ?_⟩⟩
      show gName 5 (V.int (cell.fmod 4294967087 * 48611)) _ _ _
      generalize cell.fmod 4294967087 * 48611 = x1
      have m2 := rng (x1 + t * (t * 27919 + 10601) + 41) 4294967029 (by decide)
      refine ⟨_, rfl, _, rfl, _, rfl, _, _, rfl, rfl, .inl ⟨by omega, by omega⟩, _, _, rfl, rfl, _, _, rfl, rfl, .inl ⟨by omega, by omega⟩, _, _, rfl, rfl, _, _, rfl, rfl, .inl ⟨_, rfl, _, _, rfl, rfl, (show (4294967029 : Int) ≠ 0 by decide), ?_⟩⟩
      show gName 5 (V.int ((x1 + t * (t * 27919 + 10601) + 41).fmod 4294967029)) _ _ _
      generalize (x1 + t * (t * 27919 + 10601) + 41).fmod 4294967029 = x2 at m2 ⊢
      have m3 := rng (x2 * (x2 + 75013)) 4294966997 (by decide)
      refine ⟨_, rfl, _, rfl, _, _, rfl, rfl, _, _, rfl, rfl, .inl ⟨by omega, by omega⟩, .inl ⟨_, rfl, _, _, rfl, rfl, (show (4294966997 : Int) ≠ 0 by decide), ?_⟩⟩
      show gName 5 (V.int ((x2 * (x2 + 75013)).fmod 4294966997)) _ _ _
      generalize (x2 * (x2 + 75013)).fmod 4294966997 = x3 at m3 ⊢
      have m4 := rng (x3 * x3 + 30427 * x3 + 19 * t) 4294966981 (by decide)
      refine ⟨_, rfl, _, rfl, _, _, rfl, rfl, .inl ⟨by omega, by omega⟩, _, rfl, _, _, rfl, rfl, .inl ⟨by decide, by decide⟩, _, _, rfl, rfl, _, rfl, _, _, rfl, rfl, .inl ⟨by decide, by decide⟩, _, _, rfl, rfl, .inl ⟨_, rfl, _, _, rfl, rfl, (show (4294966981 : Int) ≠ 0 by decide), ?_⟩⟩
      show gName 5 (V.int ((x3 * x3 + 30427 * x3 + 19 * t).fmod 4294966981)) _ _ _
      generalize (x3 * x3 + 30427 * x3 + 19 * t).fmod 4294966981 = x4 at m4 ⊢
      refine ⟨_, rfl, _, rfl, _, _, rfl, rfl, _, _, rfl, rfl, .inl ⟨by omega, by omega⟩, .inl ⟨_, rfl, _, _, rfl, rfl, (show (4294966943 : Int) ≠ 0 by decide), _, _, rfl, rfl, (show (64 : Int) ≠ 0 ∧ (64 : Int).natAbs < 1073741824 by decide), .inl ⟨_, rfl, _, rfl, _, _, rfl, rfl, nz, ?_⟩⟩⟩
      exact k _ _ (low _).1 (low _).2 ⟨cs, t + 1, l, hp2, hc2, hcs, by omega, by omega, hl⟩ b2
end
end K01
set_option linter.all false
set_option maxRecDepth 100000
set_option maxHeartbeats 4000000
namespace K01
open PySem L2 NdefX XE 
abbrev sShuf : Stmt := top 17
abbrev sNames : Stmt := top 19
section
variable {P : Program} {w : World} {K : PySem.W.Frag} {mg : Str → Option Value} {base : Heap}
theorem scShuf : FnScope ["pen", "items", "left", "found"] ["pen", "items"] (defScope sShuf) := ⟨rfl, rfl, rfl, by decide +kernel, rfl, by decide +kernel, by decide +kernel⟩
theorem okShuf {f fD : Addr} {fd fdD : FuncData} (F : Fun K "_law_shuffled" "_law_shuffled" sShuf f fd) (ml : mg "len" = none) (mL : mg "list" = none) (GD : FnOk P w K mg base CX0 1 fD fdD ["pen", "span"] XP.spDraw) (bD : Binds K fdD ["pen", "span"] []) (kD : PySem.W.keepIn K (.ref fD) = true)
    (mD : mg "_law_draw" = some (.ref fD)) : FnOk P w K mg base CX0 2 f fd ["pen", "items"] (XP.spShuf K) := by
  refine F.ok scShuf (fun vs H Q E h => by obtain ⟨p, c, a, T, ys, rfl, _⟩ := h; rfl) (fun cdv A outer s H vs Q E hr h => ?_)
  obtain ⟨p, c, a, T, ys, rfl, hP, hT, hS, hy, hx, k⟩ := h
  refine ⟨_, pss_cons (ps_par (i := 2) (j := 3) rfl scShuf.nd rfl rfl (by decide) rfl rfl (pa_cons (pe_callTy call_list_of (by rfl) mL (by decide +kernel) (pa_cons (pv 1) pa_nil)) (pa_cons (pe_lst pa_nil) pa_nil)) (by rfl))
    (pss_cons (ps_while PassesOwn.never (pt_cmpR (op_neD hr.units) (pv 2) (pe_lst pa_nil) (nomark _))
      (pss_one (ps_expr (pe_bm PySem.F.plainAttrs_list PySem.F.slot_list_append PySem.F.type_list_append mt_append (pv 3)
        (pa_cons (pe_bm PySem.F.plainAttrs_list PySem.F.slot_list_pop PySem.F.type_list_pop mt_popAt (pv 2) (pa_cons (pe_call GD hr rfl mD kD bD .nil pass0 (pa_cons (pv 0) (pa_cons (pe_callB call_len_seq (by rfl) ml PySem.boot_len (pa_cons (pv 2) pa_nil)) pa_nil))) pa_nil)) pa_nil)))))
    (pss_one (ps_ret (pv 3)))), ?_⟩
  refine ⟨_, rfl, a, _, rfl, .inl (hP.seq (XP.But.refl p H) hS), fun lf hlf => ?_⟩
  refine ⟨Nat.zero_le _, fun fd' hfd => ⟨_, _, rfl, ?_⟩⟩
  have nlf : fd' ≠ lf := fun z => by
    rw [z, upd_same] at hfd
    cases hfd
  have hfd0 : H fd' = none := by
    rw [upd_ne nlf] at hfd
    exact hfd
  have s0 : Same H (upd (upd H lf (.lst (ys.map V.str))) fd' (.lst [])) := fun b o e => by
    rw [upd_ne (ne_of_none e hfd0), upd_ne (ne_of_none e hlf)]
    exact e
  -- while left != []
  refine ⟨fun m σ H1 => ∃ ls fs : List Str, σ = [some (.ref p), some (.ref a), some (.ref lf), some (.ref fd')] ∧ m = ls.length ∧ H1 lf = some (.lst (ls.map V.str)) ∧ H1 fd' = some (.lst (fs.map V.str)) ∧ (fs ++ ls).Perm ys ∧ XP.Pen H1 p c (T + fs.length) ∧ XP.But p H H1,
    ⟨ys.length, ys, [], rfl, rfl, by rw [upd_ne (Ne.symm nlf), upd_same], upd_same, List.Perm.refl _, hP.same s0, XP.But.same s0⟩, ?_⟩
  rintro m σ H1 ⟨ls, fs, rfl, rfl, h1, h2, hpm, hP1, hb1⟩
  have hlen := hpm.length_eq
  rw [List.length_append] at hlen
  have hxl : XP.Txs ls := fun y hy => hx y (hpm.mem_iff.mp (List.mem_append_right _ hy))
  refine ⟨_, rfl, Nat.zero_le _, fun b hb => ⟨.list (ls.map PyData.str), .list ([].map PyData.str), .lst (SqL.of ((XP.Same.new hb) _ _ h1)) (XP.dp_strs ls), .lst (SqL.of upd_same) .nil, XP.shaped_strs hxl, by decide, _, rfl, ?_⟩⟩
  rw [XP.eqv_strs]
  have s1 : Same H1 (upd H1 b (.lst [])) := XP.Same.new hb
  have h1' := s1 _ _ h1
  have h2' := s1 _ _ h2
  have hP1' := hP1.same s1
  have hb1' := hb1.trans (XP.But.same s1)
  generalize upd H1 b (.lst []) = H2 at h1' h2' hP1' hb1' ⊢
  by_cases hne : ls = []
  · subst hne
    refine iteNS rfl ?_
    rw [List.append_nil] at hpm
    rw [List.length_nil, Nat.add_zero] at hlen
    refine ⟨_, rfl, k fd' fs H2 hpm hfd0 h2' ?_ hb1'⟩
    rw [← hlen]
    exact hP1'
  · have hpos : 0 < ls.length := List.length_pos_iff.mpr hne
    rw [decide_eq_false hne]
    refine iteT ⟨_, fun σ' H' hN => ⟨ls.length - 1, by omega, hN⟩, ?_⟩
    refine ⟨_, rfl, .inl ⟨rfl, _, SqL.of h2'⟩, _, rfl, .inl ⟨rfl, _, SqL.of h1'⟩, ?_⟩
    refine ⟨_, rfl, _, rfl, lf, _, rfl, .inl (SqL.of h1'), p, c, T + fs.length, _, rfl, hP1', by omega, (by rw [List.length_map]; omega), ?_, fun r H3 r0 rn hP3 hb3 => ?_⟩
    · rw [List.length_map]
      show ((ls.length : Nat) : Int).natAbs < 2 ^ 250
      have : (2 : Nat) ^ 250 > 1000 := by decide
      omega
    rw [List.length_map] at rn
    obtain ⟨q1, hq1⟩ := hP.at
    have nlp : lf ≠ p := Ne.symm (ne_of_none hq1 hlf)
    have nfp : fd' ≠ p := Ne.symm (ne_of_none hq1 hfd0)
    have h31 := hb3 _ _ h1' nlp
    have h32 := hb3 _ _ h2' nfp
    have hk : r.toNat < ls.length := by omega
    refine ⟨lf, _, r, r.toNat, .str ls[r.toNat], rfl, rfl, h31, by omega, by omega, by rw [List.length_map]; exact XP.seq_in r0 rn, by rw [List.getElem?_map, List.getElem?_eq_getElem hk] <;> rfl, ?_⟩
    refine ⟨fd', _, _, rfl, rfl, (upd_ne nlf).trans h32, ?_, ?_⟩
    · rw [List.length_map]
      exact small1000 (by omega)
    refine ⟨ls.eraseIdx r.toNat, fs ++ [ls[r.toNat]], rfl, ?_, ?_, ?_, ?_, ?_, ?_⟩
    · rw [List.length_eraseIdx, if_pos hk]
    · rw [upd_ne (Ne.symm nlf), upd_same, XP.map_erase]
    · rw [upd_same, List.map_append]
      rfl
    · refine List.Perm.trans ?_ hpm
      rw [List.append_assoc]
      refine List.Perm.append_left fs ?_
      exact XP.erase_perm hk
    · rw [List.length_append, List.length_singleton]
      obtain ⟨cs, t, l, a1, a2, a3⟩ := hP3
      have ncl : c ≠ lf := fun z => by
        obtain ⟨cs0, t0, l0, b1, b2, _⟩ := hP
        rw [z, hlf] at b2
        cases b2
      have ncf : c ≠ fd' := fun z => by
        obtain ⟨cs0, t0, l0, b1, b2, _⟩ := hP
        rw [z, hfd0] at b2
        cases b2
      exact ⟨cs, t, l, by rw [upd_ne (Ne.symm nfp), upd_ne (Ne.symm nlp)]; exact a1, by rw [upd_ne ncf, upd_ne ncl]; exact a2, a3⟩
    · intro d o e hd
      rw [upd_ne (ne_of_none e hfd0), upd_ne (ne_of_none e hlf)]
      exact hb3 _ _ (hb1' d o e hd) hd
end
end K01
set_option linter.all false
set_option maxRecDepth 100000
set_option maxHeartbeats 4000000
namespace K01
open PySem L2 NdefX XE 
section
variable {P : Program} {w : World} {K : PySem.W.Frag} {mg : Str → Option Value} {base : Heap}
theorem scNames : FnScope ["pen", "many", "names"] ["pen", "many"] (defScope sNames) := ⟨rfl, rfl, rfl, by decide +kernel, rfl, by decide +kernel, by decide +kernel⟩
theorem okNames {f fS : Addr} {fd fdS : FuncData} (F : Fun K "_law_new_names" "_law_new_names" sNames f fd) (GS : FnOk P w K mg base CX0 2 fS fdS ["pen", "items"] (XP.spShuf K)) (bS : Binds K fdS ["pen", "items"] []) (kS : PySem.W.keepIn K (.ref fS) = true)
    (mS : mg "_law_shuffled" = some (.ref fS)) : FnOk P w K mg base CX0 3 f fd ["pen", "many"] XP.spNames := by
  refine F.ok scNames (fun vs H Q E h => by obtain ⟨p, c, T, m, rfl, _⟩ := h; rfl) (fun cdv A outer s H vs Q E hr h => ?_)
  obtain ⟨p, c, T, m, rfl, hP, hT, m0, m11, k⟩ := h
  refine ⟨_, pss_cons (ps_set (i := 2) scNames.nd rfl (Or.inl rfl) (pe_lst (pa_cons pe_str (pa_cons pe_str (pa_cons pe_str (pa_cons pe_str (pa_cons pe_str (pa_cons pe_str (pa_cons pe_str (pa_cons pe_str (pa_cons pe_str (pa_cons pe_str (pa_cons pe_str pa_nil)))))))))))))
    (pss_one (ps_ret (pe_slice sl_list (pe_call GS hr rfl mS kS bS .nil pass0 (pa_cons (pv 0) (pa_cons (pv 2) pa_nil))) po_none (po_some (pv 1))))), ?_⟩
  refine ⟨(by show 11 ≤ sizeLine; decide), fun l hl => ?_⟩
  have s1 : Same H (upd H l (.lst (XP.names.map V.str))) := XP.Same.new hl
  have hP1 := hP.same s1
  refine ⟨_, rfl, _, rfl, p, c, l, T, XP.names, rfl, hP1, (show T + 11 ≤ 1000000 from hT), SqL.of upd_same, (by decide), XP.names_ok, fun r zs H2 hz r0 hr2 hP2 hb2 => ?_⟩
  refine ⟨_, rfl, m, rfl, r, _, rfl, SqL.of hr2, fun q hq => ?_⟩
  rw [XP.cut_take _ m0, ← List.map_take]
  have hb : XP.But p H H2 := (XP.But.same s1).trans hb2
  have n0 : H q = none := by
    cases e : H q with
    | none => rfl
    | some o =>
      by_cases z : q = p
      · obtain ⟨o2, e2⟩ := hP2.at
        rw [z, e2] at hq
        cases hq
      · rw [hb q o e z] at hq
        cases hq
  exact k q zs _ hz n0 upd_same (hP2.same (XP.Same.new hq)) (hb.trans (XP.But.same (XP.Same.new hq)))
end
end K01
set_option linter.all false
set_option maxRecDepth 100000
set_option maxHeartbeats 4000000
namespace XE
open PySem PySem.Spec PyProof.Rows L2 NdefX
/-! ### what stands in the written part, by one look each -/
theorem kit_meta : PySem.W.kitMeta "ValueError" = true := by decide +kernel
theorem kit_ve {K : PySem.W.Frag} {C : Addr} (h : PySem.W.subIn K (.ref C) (.type "ValueError") = some true) : PySem.W.kitOne K (.ref C) (.type "ValueError") = some true := by
  unfold PySem.W.kitOne
  rw [if_neg (by simp)]
  show (if PySem.W.kitMeta "ValueError" = true then PySem.W.subIn K (.ref C) (.type "ValueError") else none) = some true
  rw [if_pos kit_meta]
  exact h
/-- a tuple of these texts -/
def tupB (o : Obj) (l : List Str) : Bool := (o.cls == .type "tuple") && match o.data with
  | .seq its _ => decide (its.toList.map absV = l.map fun x => some (V.str x)) && decide (its.size ≤ 1000)
  | _ => false
theorem rel_abs {u : Value} {x : Str} (h : absV u = some (V.str x)) : L2.RelV (.str x) u := by
  cases u <;> first | (cases h; exact ⟨_, rfl⟩) | cases h
theorem vals_abs : ∀ {us : List Value} {l : List Str}, us.map absV = l.map (fun x => some (V.str x)) → Vals (l.map V.str) us
  | [], [], _ => .nil
  | [], _ :: _, h => by cases h
  | _ :: _, [], h => by cases h
  | u :: us, x :: l, h => by
    rw [List.map_cons, List.map_cons] at h
    exact .cons (rel_abs (List.cons.inj h).1) (vals_abs (List.cons.inj h).2)
theorem tup_at {K : PySem.W.Frag} {W : Addr} {o : Obj} {l : List Str} (h : K.lookup W = some o) (b : tupB o l = true) (H : Hp) : SqT K H W (l.map V.str) := by
  unfold tupB at b
  rw [Bool.and_eq_true] at b
  obtain ⟨b1, b2⟩ := b
  split at b2
  · rename_i its n hd
    rw [Bool.and_eq_true, decide_eq_true_eq, decide_eq_true_eq] at b2
    exact .inr ⟨o, its, n, h, beq_iff_eq.mp b1, hd, Nat.le_trans b2.2 (by decide), vals_abs b2.1⟩
  · cases b2
/-- an own class with plain attributes, made by its __init__ at f -/
def insB (K : PySem.W.Frag) (C f : Addr) (attrs : List Str) : Bool := PySem.W.plainGet K C Str.empty && PySem.W.hasDictIn K C && PySem.W.plainOver K C && decide (PySem.W.findIn K (.ref C) "__setattr__" = some (some (.builtin "object.__setattr__"))) &&
  PySem.W.makesIn K C && decide (PySem.W.findIn K (.ref C) "__init__" = some (some (.ref f))) && PySem.W.isFn K (.ref f) && PySem.W.keepIn K (.ref C) && attrs.all fun a => decide (PySem.W.findIn K (.ref C) a = some none)
theorem ins_of {K : PySem.W.Frag} {C f : Addr} {attrs : List Str} (h : insB K C f attrs = true) : Cls K C ∧ Mk K C f ∧ ∀ a ∈ attrs, NoAttr K C a := by
  unfold insB at h
  simp only [Bool.and_eq_true, decide_eq_true_eq, List.all_eq_true] at h
  obtain ⟨⟨⟨⟨⟨⟨⟨⟨h1, h2⟩, h3⟩, h4⟩, h5⟩, h6⟩, h7⟩, h8⟩, h9⟩ := h
  exact ⟨⟨h1, h2, h3, h4⟩, ⟨h5, h6, h7, h8⟩, h9⟩
/-- it is asked by isinstance, compared by its own == at e -/
def eqB (K : PySem.W.Frag) (C e : Addr) : Bool := decide (PySem.W.findIn K (.ref C) "__class__" = some (some (.builtin "object.__class__"))) && decide (PySem.W.mroIn K C (.type "object") = some true) && decide (PySem.W.kitOne K (.ref C) (.ref C) = some true) &&
  decide (PySem.W.findIn K (.ref C) "__eq__" = some (some (.ref e))) && decide (PySem.W.findIn K (.ref C) "__ne__" = some (some (.builtin "object.__ne__"))) && PySem.W.isFn K (.ref e)
theorem eq_of_b {K : PySem.W.Frag} {C e : Addr} (h0 : b0 K = true) (c : Cls K C) (h : eqB K C e = true) : C8.InsC K C ∧ OwnC K C e := by
  unfold b0 at h0
  unfold eqB at h
  simp only [Bool.and_eq_true, decide_eq_true_eq] at h0 h
  obtain ⟨⟨z1, z2⟩, _⟩ := h0
  obtain ⟨⟨⟨⟨⟨h1, h2⟩, h3⟩, h4⟩, h5⟩, h6⟩ := h
  exact ⟨⟨c, h1, z1, z2, h2, h3⟩, ⟨h4, h5, h6, h2⟩⟩
/-- an error's class as a suite asks it; S the base of all errors -/
def catB (K : PySem.W.Frag) (B S : Addr) : Bool := xfB K B && decide (PySem.W.kitOne K (.ref B) (.ref S) = some true) && decide (PySem.W.subIn K (.ref B) (.type "ValueError") = some true) && decide (PySem.W.exmOne K (.ref B) (.ref B) = some true)
theorem cat_of {K : PySem.W.Frag} {B S : Addr} (h : catB K B S = true) : XfC K B ∧ PySem.W.kitOne K (.ref B) (.ref S) = some true ∧ PySem.W.kitOne K (.ref B) (.type "ValueError") = some true ∧ PySem.W.exmOne K (.ref B) (.ref B) = some true := by
  unfold catB at h
  simp only [Bool.and_eq_true, decide_eq_true_eq] at h
  exact ⟨xfB_ok h.1.1.1, h.1.1.2, kit_ve h.1.2, h.2⟩
end XE
set_option linter.all false
set_option maxRecDepth 100000
set_option maxHeartbeats 4000000
namespace K01
open PySem L2 NdefX XE 
set_option maxHeartbeats 16000000 in
theorem all_mk {l : PySem.W.OpenLaw} {w : World} {K : PySem.W.Frag} {h : Heap} {mg : Str → Option Value} {fa : Addr} (X : K.In h) (G : h.Ns mainGlobals mg) (hfa : mg "law" = some (.ref fa))
    {S C W : Addr} {tM tR tK : Tok} {cBadScene fBadScene cdaBadScene ccBadScene : Addr} {fdBadScene : FuncData}
    {fLines fIsName fReadN fBegun fDraw fShuf fNames fPick fBarred fNewScene fScText fLawIsName fBent fLawRead fTold fLaw fScI fScE : Addr}
    {odLines anLines : Option Addr} {slLines : Array (Option Value)} {ocLines kVLines dcLines pmLines cdLines ctLines : Value}
    {odIsName anIsName : Option Addr} {slIsName : Array (Option Value)} {ocIsName kVIsName dcIsName pmIsName cdIsName ctIsName : Value}
    {odReadN anReadN : Option Addr} {slReadN : Array (Option Value)} {ocReadN kVReadN dcReadN pmReadN cdReadN ctReadN : Value}
    {odBegun anBegun : Option Addr} {slBegun : Array (Option Value)} {ocBegun kVBegun dcBegun pmBegun cdBegun ctBegun : Value}
    {odDraw anDraw : Option Addr} {slDraw : Array (Option Value)} {ocDraw kVDraw dcDraw pmDraw cdDraw ctDraw : Value}
    {odShuf anShuf : Option Addr} {slShuf : Array (Option Value)} {ocShuf kVShuf dcShuf pmShuf cdShuf ctShuf : Value}
    {odNames anNames : Option Addr} {slNames : Array (Option Value)} {ocNames kVNames dcNames pmNames cdNames ctNames : Value}
    {odPick anPick : Option Addr} {slPick : Array (Option Value)} {ocPick kVPick dcPick pmPick cdPick ctPick : Value}
    {odBarred anBarred : Option Addr} {slBarred : Array (Option Value)} {ocBarred kVBarred dcBarred pmBarred cdBarred ctBarred : Value}
    {odNewScene anNewScene : Option Addr} {slNewScene : Array (Option Value)} {ocNewScene kVNewScene dcNewScene pmNewScene cdNewScene ctNewScene : Value}
    {odScText anScText : Option Addr} {slScText : Array (Option Value)} {ocScText kVScText dcScText pmScText cdScText ctScText : Value}
    {odLawIsName anLawIsName : Option Addr} {slLawIsName : Array (Option Value)} {ocLawIsName kVLawIsName dcLawIsName pmLawIsName cdLawIsName ctLawIsName : Value}
    {odBent anBent : Option Addr} {slBent : Array (Option Value)} {ocBent kVBent dcBent pmBent cdBent ctBent : Value}
    {odLawRead anLawRead : Option Addr} {slLawRead : Array (Option Value)} {ocLawRead kVLawRead dcLawRead pmLawRead cdLawRead ctLawRead : Value}
    {odTold anTold : Option Addr} {slTold : Array (Option Value)} {ocTold kVTold dcTold pmTold cdTold ctTold : Value}
    {odLaw anLaw : Option Addr} {slLaw : Array (Option Value)} {ocLaw kVLaw dcLaw pmLaw cdLaw ctLaw : Value}
    {odScI anScI : Option Addr} {slScI : Array (Option Value)} {ocScI kVScI dcScI pmScI cdScI ctScI : Value}
    {odScE anScE : Option Addr} {slScE : Array (Option Value)} {ocScE kVScE dcScE pmScE cdScE ctScE : Value}
    (aBadScene : PySem.W.nsIn K mainGlobals "BadScene" = some (some (.ref cBadScene))) (xBadScene : ClsAt K cBadScene) (p1BadScene : b1 K cBadScene = true) (p2BadScene : b2 K cBadScene = true)
    (jBadScene : PySem.W.findIn K (.ref cBadScene) "__init__" = some (some (.ref fBadScene))) (iBadScene : InAt l.prog K sBadScene "BadScene.__init__" cBadScene fBadScene cdaBadScene ccBadScene fdBadScene) (p3BadScene : b3 K cBadScene = true) (p4BadScene : b4 K cBadScene fBadScene cdaBadScene "line" "BadScene.__init__" = true) (p5BadScene : catB K cBadScene S = true)
    (aS : PySem.W.nsIn K mainGlobals "SeatError" = some (some (.ref S))) (p0 : b0 K = true) (ht : (l.prog.main.scope.names.lookup ("super" : Str)).isSome = false)
    (aC : PySem.W.nsIn K mainGlobals "Scene" = some (some (.ref C))) (_iScI : PySem.W.findIn K (.ref C) "__init__" = some (some (.ref fScI))) (_iScE : PySem.W.findIn K (.ref C) "__eq__" = some (some (.ref fScE))) (pC : insB K C fScI ["text", "rows", "marks", "has_lots"] = true) (pE : eqB K C fScE = true)
    (aM : PySem.W.nsIn K mainGlobals "LONGEST" = some (some (.int 12 tM))) (aR : PySem.W.nsIn K mainGlobals "MOST_ROWS" = some (some (.int 3 tR))) (aK : PySem.W.nsIn K mainGlobals "MOST_MARKS" = some (some (.int 2 tK)))
    (aW : PySem.W.nsIn K mainGlobals "WORDS" = some (some (.ref W))) (dW : He.dicW K W = some (He.keysIn w.params XS.WORDS))
    (zlen : PySem.W.nsIn K mainGlobals "len" = some none)
    (zall : PySem.W.nsIn K mainGlobals "all" = some none)
    (ztuple : PySem.W.nsIn K mainGlobals "tuple" = some none)
    (zint : PySem.W.nsIn K mainGlobals "int" = some none)
    (zlist : PySem.W.nsIn K mainGlobals "list" = some none)
    (zabs : PySem.W.nsIn K mainGlobals "abs" = some none)
    (zrange : PySem.W.nsIn K mainGlobals "range" = some none)
    (zrepr : PySem.W.nsIn K mainGlobals "repr" = some none)
    (zenumerate : PySem.W.nsIn K mainGlobals "enumerate" = some none)
    (zisinstance : PySem.W.nsIn K mainGlobals "isinstance" = some none)
    (zValueError : PySem.W.nsIn K mainGlobals "ValueError" = some none)
    (zsuper : PySem.W.nsIn K mainGlobals "super" = some none)
    (aLines : PySem.W.nsIn K mainGlobals "lines_of" = some (some (.ref fLines))) (lLines : K.lookup fLines = some ⟨ocLines, odLines, .func (PySem.W.fnOf "lines_of" "lines_of" (defArgs sLines) (defBody sLines) (defScope sLines) .none kVLines dcLines pmLines anLines cdLines ctLines), slLines⟩) (cLines : PySem.W.codeIn K cdLines "lines_of" = true) (kLines : PySem.W.keepIn K (.ref fLines) = true)
    (aIsName : PySem.W.nsIn K mainGlobals "is_name" = some (some (.ref fIsName))) (lIsName : K.lookup fIsName = some ⟨ocIsName, odIsName, .func (PySem.W.fnOf "is_name" "is_name" (defArgs sIsName) (defBody sIsName) (defScope sIsName) .none kVIsName dcIsName pmIsName anIsName cdIsName ctIsName), slIsName⟩) (cIsName : PySem.W.codeIn K cdIsName "is_name" = true) (kIsName : PySem.W.keepIn K (.ref fIsName) = true)
    (aReadN : PySem.W.nsIn K mainGlobals "read_names" = some (some (.ref fReadN))) (lReadN : K.lookup fReadN = some ⟨ocReadN, odReadN, .func (PySem.W.fnOf "read_names" "read_names" (defArgs sReadN) (defBody sReadN) (defScope sReadN) .none kVReadN dcReadN pmReadN anReadN cdReadN ctReadN), slReadN⟩) (cReadN : PySem.W.codeIn K cdReadN "read_names" = true) (kReadN : PySem.W.keepIn K (.ref fReadN) = true)
    (aBegun : PySem.W.nsIn K mainGlobals "_law_begun_pen" = some (some (.ref fBegun))) (lBegun : K.lookup fBegun = some ⟨ocBegun, odBegun, .func (PySem.W.fnOf "_law_begun_pen" "_law_begun_pen" (defArgs sBegun) (defBody sBegun) (defScope sBegun) .none kVBegun dcBegun pmBegun anBegun cdBegun ctBegun), slBegun⟩) (cBegun : PySem.W.codeIn K cdBegun "_law_begun_pen" = true) (kBegun : PySem.W.keepIn K (.ref fBegun) = true)
    (aDraw : PySem.W.nsIn K mainGlobals "_law_draw" = some (some (.ref fDraw))) (lDraw : K.lookup fDraw = some ⟨ocDraw, odDraw, .func (PySem.W.fnOf "_law_draw" "_law_draw" (defArgs sDraw) (defBody sDraw) (defScope sDraw) .none kVDraw dcDraw pmDraw anDraw cdDraw ctDraw), slDraw⟩) (cDraw : PySem.W.codeIn K cdDraw "_law_draw" = true) (kDraw : PySem.W.keepIn K (.ref fDraw) = true)
    (aShuf : PySem.W.nsIn K mainGlobals "_law_shuffled" = some (some (.ref fShuf))) (lShuf : K.lookup fShuf = some ⟨ocShuf, odShuf, .func (PySem.W.fnOf "_law_shuffled" "_law_shuffled" (defArgs sShuf) (defBody sShuf) (defScope sShuf) .none kVShuf dcShuf pmShuf anShuf cdShuf ctShuf), slShuf⟩) (cShuf : PySem.W.codeIn K cdShuf "_law_shuffled" = true) (kShuf : PySem.W.keepIn K (.ref fShuf) = true)
    (aNames : PySem.W.nsIn K mainGlobals "_law_new_names" = some (some (.ref fNames))) (lNames : K.lookup fNames = some ⟨ocNames, odNames, .func (PySem.W.fnOf "_law_new_names" "_law_new_names" (defArgs sNames) (defBody sNames) (defScope sNames) .none kVNames dcNames pmNames anNames cdNames ctNames), slNames⟩) (cNames : PySem.W.codeIn K cdNames "_law_new_names" = true) (kNames : PySem.W.keepIn K (.ref fNames) = true)
    (aPick : PySem.W.nsIn K mainGlobals "_law_pick" = some (some (.ref fPick))) (lPick : K.lookup fPick = some ⟨ocPick, odPick, .func (PySem.W.fnOf "_law_pick" "_law_pick" (defArgs sPick) (defBody sPick) (defScope sPick) .none kVPick dcPick pmPick anPick cdPick ctPick), slPick⟩) (cPick : PySem.W.codeIn K cdPick "_law_pick" = true) (kPick : PySem.W.keepIn K (.ref fPick) = true)
    (aBarred : PySem.W.nsIn K mainGlobals "_law_barred" = some (some (.ref fBarred))) (lBarred : K.lookup fBarred = some ⟨ocBarred, odBarred, .func (PySem.W.fnOf "_law_barred" "_law_barred" (defArgs sBarred) (defBody sBarred) (defScope sBarred) .none kVBarred dcBarred pmBarred anBarred cdBarred ctBarred), slBarred⟩) (cBarred : PySem.W.codeIn K cdBarred "_law_barred" = true) (kBarred : PySem.W.keepIn K (.ref fBarred) = true)
    (aNewScene : PySem.W.nsIn K mainGlobals "_law_new_scene" = some (some (.ref fNewScene))) (lNewScene : K.lookup fNewScene = some ⟨ocNewScene, odNewScene, .func (PySem.W.fnOf "_law_new_scene" "_law_new_scene" (defArgs sNewScene) (defBody sNewScene) (defScope sNewScene) .none kVNewScene dcNewScene pmNewScene anNewScene cdNewScene ctNewScene), slNewScene⟩) (cNewScene : PySem.W.codeIn K cdNewScene "_law_new_scene" = true) (kNewScene : PySem.W.keepIn K (.ref fNewScene) = true)
    (aScText : PySem.W.nsIn K mainGlobals "_law_scene_text" = some (some (.ref fScText))) (lScText : K.lookup fScText = some ⟨ocScText, odScText, .func (PySem.W.fnOf "_law_scene_text" "_law_scene_text" (defArgs sScText) (defBody sScText) (defScope sScText) .none kVScText dcScText pmScText anScText cdScText ctScText), slScText⟩) (cScText : PySem.W.codeIn K cdScText "_law_scene_text" = true) (kScText : PySem.W.keepIn K (.ref fScText) = true)
    (aLawIsName : PySem.W.nsIn K mainGlobals "_law_is_name" = some (some (.ref fLawIsName))) (lLawIsName : K.lookup fLawIsName = some ⟨ocLawIsName, odLawIsName, .func (PySem.W.fnOf "_law_is_name" "_law_is_name" (defArgs sLawIsName) (defBody sLawIsName) (defScope sLawIsName) .none kVLawIsName dcLawIsName pmLawIsName anLawIsName cdLawIsName ctLawIsName), slLawIsName⟩) (cLawIsName : PySem.W.codeIn K cdLawIsName "_law_is_name" = true) (kLawIsName : PySem.W.keepIn K (.ref fLawIsName) = true)
    (aBent : PySem.W.nsIn K mainGlobals "_law_bent" = some (some (.ref fBent))) (lBent : K.lookup fBent = some ⟨ocBent, odBent, .func (PySem.W.fnOf "_law_bent" "_law_bent" (defArgs sBent) (defBody sBent) (defScope sBent) .none kVBent dcBent pmBent anBent cdBent ctBent), slBent⟩) (cBent : PySem.W.codeIn K cdBent "_law_bent" = true) (kBent : PySem.W.keepIn K (.ref fBent) = true)
    (aLawRead : PySem.W.nsIn K mainGlobals "_law_read" = some (some (.ref fLawRead))) (lLawRead : K.lookup fLawRead = some ⟨ocLawRead, odLawRead, .func (PySem.W.fnOf "_law_read" "_law_read" (defArgs sLawRead) (defBody sLawRead) (defScope sLawRead) .none kVLawRead dcLawRead pmLawRead anLawRead cdLawRead ctLawRead), slLawRead⟩) (cLawRead : PySem.W.codeIn K cdLawRead "_law_read" = true) (kLawRead : PySem.W.keepIn K (.ref fLawRead) = true)
    (aTold : PySem.W.nsIn K mainGlobals "_law_told" = some (some (.ref fTold))) (lTold : K.lookup fTold = some ⟨ocTold, odTold, .func (PySem.W.fnOf "_law_told" "_law_told" (defArgs sTold) (defBody sTold) (defScope sTold) .none kVTold dcTold pmTold anTold cdTold ctTold), slTold⟩) (cTold : PySem.W.codeIn K cdTold "_law_told" = true) (kTold : PySem.W.keepIn K (.ref fTold) = true)
    (aLaw : PySem.W.nsIn K mainGlobals "law" = some (some (.ref fLaw))) (lLaw : K.lookup fLaw = some ⟨ocLaw, odLaw, .func (PySem.W.fnOf "law" "law" (defArgs sLaw) (defBody sLaw) (defScope sLaw) .none kVLaw dcLaw pmLaw anLaw cdLaw ctLaw), slLaw⟩) (cLaw : PySem.W.codeIn K cdLaw "law" = true) (kLaw : PySem.W.keepIn K (.ref fLaw) = true)
    (lScI : K.lookup fScI = some ⟨ocScI, odScI, .func (PySem.W.fnOf "__init__" "Scene.__init__" (defArgs sScI) (defBody sScI) (defScope sScI) .none kVScI dcScI pmScI anScI cdScI ctScI), slScI⟩) (cScI : PySem.W.codeIn K cdScI "Scene.__init__" = true) (kScI : PySem.W.keepIn K (.ref fScI) = true)
    (lScE : K.lookup fScE = some ⟨ocScE, odScE, .func (PySem.W.fnOf "__eq__" "Scene.__eq__" (defArgs sScE) (defBody sScE) (defScope sScE) .none kVScE dcScE pmScE anScE cdScE ctScE), slScE⟩) (cScE : PySem.W.codeIn K cdScE "Scene.__eq__" = true) (kScE : PySem.W.keepIn K (.ref fScE) = true) :
    ∃ fd : FuncData, (∀ (s : Shared) (v : Value), BindsTo s fd ⟨[v], []⟩ [("script", v)]) ∧ ∀ base : Heap, K.In base → base.Ns mainGlobals mg → FnG l.prog w K mg base 6 fa fd ["script"] (spLaw K) := by
  have e := hfa.symm.trans (PySem.W.mg_of X G aLaw)
  cases e
  obtain ⟨uBadScene, nBadScene, j2BadScene, tBadScene⟩ := func_of p4BadScene iBadScene
  have SBadScene : SupK l.prog K mg cBadScene fBadScene cdaBadScene ccBadScene := sup_of p0 p1BadScene p3BadScene xBadScene iBadScene (PySem.W.mg_none_of X G zsuper) ht
  obtain ⟨xfBadScene, kSBadScene, kVBadScene, emBadScene⟩ := cat_of p5BadScene
  have oeBadScene := oex_of p1BadScene xBadScene
  have eaBadScene := exA_of p0 p1BadScene p2BadScene
  have mBadScene := PySem.W.mg_of X G aBadScene
  obtain ⟨clC, mkC, naC⟩ := ins_of pC
  obtain ⟨inC, owC⟩ := eq_of_b p0 clC pE
  have mC := PySem.W.mg_of X G aC
  have mlen := PySem.W.mg_none_of X G zlen
  have mall := PySem.W.mg_none_of X G zall
  have mtuple := PySem.W.mg_none_of X G ztuple
  have mint := PySem.W.mg_none_of X G zint
  have mlist := PySem.W.mg_none_of X G zlist
  have mabs := PySem.W.mg_none_of X G zabs
  have mrange := PySem.W.mg_none_of X G zrange
  have mrepr := PySem.W.mg_none_of X G zrepr
  have menumerate := PySem.W.mg_none_of X G zenumerate
  have misinstance := PySem.W.mg_none_of X G zisinstance
  have mValueError := PySem.W.mg_none_of X G zValueError
  have msuper := PySem.W.mg_none_of X G zsuper
  have FLines := fun_mk (st := sLines) lLines cLines kLines
  have bLines := FLines.binds (ps := ["text"]) fun _ _ _ _ _ _ us hl => match us, hl with | [_], _ => rfl
  have mLines := PySem.W.mg_of X G aLines
  have FIsName := fun_mk (st := sIsName) lIsName cIsName kIsName
  have bIsName := FIsName.binds (ps := ["text"]) fun _ _ _ _ _ _ us hl => match us, hl with | [_], _ => rfl
  have mIsName := PySem.W.mg_of X G aIsName
  have FReadN := fun_mk (st := sReadN) lReadN cReadN kReadN
  have bReadN := FReadN.binds (ps := ["lines", "word", "most", "taken"]) fun _ _ _ _ _ _ us hl => match us, hl with | [_, _, _, _], _ => rfl
  have mReadN := PySem.W.mg_of X G aReadN
  have FBegun := fun_mk (st := sBegun) lBegun cBegun kBegun
  have bBegun := FBegun.binds (ps := ["script"]) fun _ _ _ _ _ _ us hl => match us, hl with | [_], _ => rfl
  have mBegun := PySem.W.mg_of X G aBegun
  have FDraw := fun_mk (st := sDraw) lDraw cDraw kDraw
  have bDraw := FDraw.binds (ps := ["pen", "span"]) fun _ _ _ _ _ _ us hl => match us, hl with | [_, _], _ => rfl
  have mDraw := PySem.W.mg_of X G aDraw
  have FShuf := fun_mk (st := sShuf) lShuf cShuf kShuf
  have bShuf := FShuf.binds (ps := ["pen", "items"]) fun _ _ _ _ _ _ us hl => match us, hl with | [_, _], _ => rfl
  have mShuf := PySem.W.mg_of X G aShuf
  have FNames := fun_mk (st := sNames) lNames cNames kNames
  have bNames := FNames.binds (ps := ["pen", "many"]) fun _ _ _ _ _ _ us hl => match us, hl with | [_, _], _ => rfl
  have mNames := PySem.W.mg_of X G aNames
  have FPick := fun_mk (st := sPick) lPick cPick kPick
  have bPick := FPick.binds (ps := ["pen", "options"]) fun _ _ _ _ _ _ us hl => match us, hl with | [_, _], _ => rfl
  have mPick := PySem.W.mg_of X G aPick
  have FBarred := fun_mk (st := sBarred) lBarred cBarred kBarred
  have bBarred := FBarred.binds (ps := []) fun _ _ _ _ _ _ us hl => match us, hl with | [], _ => rfl
  have mBarred := PySem.W.mg_of X G aBarred
  have FNewScene := fun_mk (st := sNewScene) lNewScene cNewScene kNewScene
  have bNewScene := FNewScene.binds (ps := ["pen", "rows", "marks", "lots"]) fun _ _ _ _ _ _ us hl => match us, hl with | [_, _, _, _], _ => rfl
  have mNewScene := PySem.W.mg_of X G aNewScene
  have FScText := fun_mk (st := sScText) lScText cScText kScText
  have bScText := FScText.binds (ps := ["scene"]) fun _ _ _ _ _ _ us hl => match us, hl with | [_], _ => rfl
  have mScText := PySem.W.mg_of X G aScText
  have FLawIsName := fun_mk (st := sLawIsName) lLawIsName cLawIsName kLawIsName
  have bLawIsName := FLawIsName.binds (ps := ["word"]) fun _ _ _ _ _ _ us hl => match us, hl with | [_], _ => rfl
  have mLawIsName := PySem.W.mg_of X G aLawIsName
  have FBent := fun_mk (st := sBent) lBent cBent kBent
  have bBent := FBent.binds (ps := ["pen", "text", "odd"]) fun _ _ _ _ _ _ us hl => match us, hl with | [_, _, _], _ => rfl
  have mBent := PySem.W.mg_of X G aBent
  have FLawRead := fun_mk (st := sLawRead) lLawRead cLawRead kLawRead
  have bLawRead := FLawRead.binds (ps := ["text"]) fun _ _ _ _ _ _ us hl => match us, hl with | [_], _ => rfl
  have mLawRead := PySem.W.mg_of X G aLawRead
  have FTold := fun_mk (st := sTold) lTold cTold kTold
  have bTold := FTold.binds (ps := ["text"]) fun _ _ _ _ _ _ us hl => match us, hl with | [_], _ => rfl
  have mTold := PySem.W.mg_of X G aTold
  have FLaw := fun_mk (st := sLaw) lLaw cLaw kLaw
  have mLaw := PySem.W.mg_of X G aLaw
  have FScI := fun_mk (st := sScI) lScI cScI kScI
  have bScI := FScI.binds (ps := ["self", "text"]) fun _ _ _ _ _ _ us hl => match us, hl with | [_, _], _ => rfl
  have FScE := fun_mk (st := sScE) lScE cScE kScE
  have bScE := FScE.binds (ps := ["self", "other"]) fun _ _ _ _ _ _ us hl => match us, hl with | [_, _], _ => rfl
  have TC : ScC K mg C := ⟨clC, naC _ (by simp), naC _ (by simp), naC _ (by simp), naC _ (by simp), ⟨_, PySem.W.mg_of X G aR⟩, ⟨_, PySem.W.mg_of X G aK⟩⟩
  have T : Con K w mg W := ⟨⟨_, PySem.W.mg_of X G aM⟩, PySem.W.mg_of X G aW, He.dicW_ok dW, fun z => XS.dicW_in dW z, mlen⟩
  have D : BadC K mg cBadScene S := ⟨eaBadScene, xfBadScene, nBadScene, kSBadScene, kVBadScene, emBadScene, mBadScene, PySem.W.mg_of X G aS, mValueError, misinstance⟩
  refine ⟨PySem.W.fnOf "law" "law" (defArgs sLaw) (defBody sLaw) (defScope sLaw) .none kVLaw dcLaw pmLaw anLaw cdLaw ctLaw, fun s v => .of_eq rfl, fun base _ _ => ?_⟩
  have IB : Ini l.prog w K mg base cBadScene ["self", "line"] (spErr cBadScene "line" FmtI) := ⟨fBadScene, fdBadScene, jBadScene, tBadScene, okBadScene uBadScene SBadScene nBadScene, uBadScene.binds fun _ _ _ _ _ us hl => match us, hl with | [_, _], _ => rfl⟩
  have GLines : FnOk l.prog w K mg base CX0 1 _ _ ["text"] XS.spLines := okLines FLines
  have GIsName : FnOk l.prog w K mg base CX0 1 _ _ ["text"] XS.spIsName := okIsName FIsName T
  have GReadN : FnOk l.prog w K mg base CX0 2 _ _ ["lines", "word", "most", "taken"] (XS.spReadN K) := okReadN FReadN mlen GIsName bIsName kIsName mIsName
  have GS : FnOk l.prog w K mg base (L2.CX l.prog w) 3 _ _ ["self", "text"] (XS.spScene C cBadScene) := okScI FScI TC mlen mtuple IB oeBadScene mBadScene GLines bLines kLines mLines GReadN bReadN kReadN mReadN
  have GE : FnOk l.prog w K mg base CX0 1 _ _ ["self", "other"] (XS.spScEq C) := okScE FScE TC inC mC misinstance
  have GBegun : FnOk l.prog w K mg base CX0 1 _ _ ["script"] (XP.spBegun K) := okBegun FBegun mlist
  have GDraw : FnOk l.prog w K mg base CX0 1 _ _ ["pen", "span"] XP.spDraw := okDraw FDraw mint mlen mabs
  have GShuf : FnOk l.prog w K mg base CX0 2 _ _ ["pen", "items"] (XP.spShuf K) := okShuf FShuf mlen mlist GDraw bDraw kDraw mDraw
  have GNames : FnOk l.prog w K mg base CX0 3 _ _ ["pen", "many"] XP.spNames := okNames FNames GShuf bShuf kShuf mShuf
  have GPick : FnOk l.prog w K mg base CX0 2 _ _ ["pen", "options"] (XS.spPick K) := okPick FPick mlen GDraw bDraw kDraw mDraw
  have GBarred : FnOk l.prog w K mg base CX0 1 _ _ [] XS.spBarred := okBarred FBarred
  have GNewScene : FnOk l.prog w K mg base CX0 4 _ _ ["pen", "rows", "marks", "lots"] XS.spNewScene := okNewScene FNewScene GNames bNames kNames mNames GDraw bDraw kDraw mDraw
  have GScText : FnOk l.prog w K mg base CX0 1 _ _ ["scene"] XS.spScText := okScText FScText mint
  have GLawIsName : FnOk l.prog w K mg base CX0 2 _ _ ["word"] XS.spLawIsName := okLawIsName FLawIsName mlen GBarred bBarred kBarred mBarred
  have GBent : FnOk l.prog w K mg base CX0 3 _ _ ["pen", "text", "odd"] XS.spBent := okBent FBent mlen mlist GDraw bDraw kDraw mDraw GPick bPick kPick mPick
  have GLawRead : FnOk l.prog w K mg base CX0 3 _ _ ["text"] XS.spRead := okLawRead FLawRead mlen mint menumerate GLawIsName bLawIsName kLawIsName mLawIsName
  have GTold : FnOk l.prog w K mg base CX0 5 _ _ ["text"] XS.spTold := okTold FTold TC mkC mC D GS bScI
  exact okLaw FLaw ⟨mrepr, mtuple, mrange⟩ ⟨GBegun, bBegun, kBegun, mBegun, GDraw, bDraw, kDraw, mDraw, GNewScene, bNewScene, kNewScene, mNewScene, GScText, bScText, kScText, mScText, GBent, bBent, kBent, mBent, GLawRead, bLawRead, kLawRead, mLawRead, GTold, bTold, kTold, mTold⟩ TC mkC mC GS bScI GE bScE owC
theorem walk {l : PySem.W.OpenLaw} {q : Program} {loose : List Str} {XP : (Str → Option Value) → Heap → Prop} {YP : World → Heap → Prop} {d : DefRec} {K : Params → PySem.W.Frag} (hn : l.most = some 63) (hdf : d.params.defaults = [])
    (hY : ∀ (w : World) (h : Heap), YP w h → (K w.params).In h)
    (F : ∀ (w : World) (mg : Str → Option Value) (fa : Addr) (h : Heap), (K w.params).In h → h.Ns mainGlobals mg → mg d.name = some (.ref fa) →
      ∃ fd : FuncData, (∀ (s : Shared) (u : Value), BindsTo s fd ⟨[u], []⟩ [("script", u)]) ∧ ∀ base : Heap, (K w.params).In base → base.Ns mainGlobals mg → FnG l.prog w (K w.params) mg base 6 fa fd ["script"] (spLaw (K w.params))) :
    PySem.W.WalkO q loose XP YP l.row.toRowW d [] (fun f vs => PySem.call f vs) :=
  walk_ofG (n := 63) (k := 6) (x := "script") (sp := fun w => spLaw (K w.params)) hn (by decide) hdf ⟨rfl, by decide, by decide⟩ hY F (fun _ _ a ns hl _ hS => ⟨a, ns, rfl, hS, hl, fun _ => rfl⟩)
end K01
open PySem PySem.W PyProof.Rows
set_option maxRecDepth 100000 in
set_option maxHeartbeats 0 in
theorem PySem.Challenge.cw_seatedtwice_k01_scenes_holds : PySem.Challenge.rw_seatedtwice_k01_scenes.Holds := by
  w_on; o_law; k_head; (case hw => w_witness2)
  k_fill
  refine K01.walk (l := PySem.Challenge.rw_seatedtwice_k01_scenes) rfl rfl (fun w h Y => PySem.W.kIn_of Y) ?F
  case F =>
    intro w mg fa h KX G hmg
    refine' K01.all_mk KX G hmg ?aBadScene ?xBadScene ?p1BadScene ?p2BadScene ?jBadScene ?iBadScene ?p3BadScene ?p4BadScene ?p5BadScene ?aS ?p0 ?ht ?aC ?iScI ?iScE ?pC ?pE ?aM ?aR ?aK ?aW ?dW ?zlen ?zall ?ztuple ?zint ?zlist ?zabs ?zrange ?zrepr ?zenumerate ?zisinstance ?zValueError ?zsuper ?aLines ?lLines ?cLines ?kLines ?aIsName ?lIsName ?cIsName ?kIsName ?aReadN ?lReadN ?cReadN ?kReadN ?aBegun ?lBegun ?cBegun ?kBegun ?aDraw ?lDraw ?cDraw ?kDraw ?aShuf ?lShuf ?cShuf ?kShuf ?aNames ?lNames ?cNames ?kNames ?aPick ?lPick ?cPick ?kPick ?aBarred ?lBarred ?cBarred ?kBarred ?aNewScene ?lNewScene ?cNewScene ?kNewScene ?aScText ?lScText ?cScText ?kScText ?aLawIsName ?lLawIsName ?cLawIsName ?kLawIsName ?aBent ?lBent ?cBent ?kBent ?aLawRead ?lLawRead ?cLawRead ?kLawRead ?aTold ?lTold ?cTold ?kTold ?aLaw ?lLaw ?cLaw ?kLaw ?lScI ?cScI ?kScI ?lScE ?cScE ?kScE
    (case aBadScene => k_is); (case jBadScene => k_is)
    (case aS => k_is); (case aC => k_is)
    (case aLines => k_is); (case lLines => k_is); (case cLines => k_is); (case kLines => k_is)
    (case aIsName => k_is); (case lIsName => k_is); (case cIsName => k_is); (case kIsName => k_is)
    (case aReadN => k_is); (case lReadN => k_is); (case cReadN => k_is); (case kReadN => k_is)
    (case aBegun => k_is); (case lBegun => k_is); (case cBegun => k_is); (case kBegun => k_is)
    (case aDraw => k_is); (case lDraw => k_is); (case cDraw => k_is); (case kDraw => k_is)
    (case aShuf => k_is); (case lShuf => k_is); (case cShuf => k_is); (case kShuf => k_is)
    (case aNames => k_is); (case lNames => k_is); (case cNames => k_is); (case kNames => k_is)
    (case aPick => k_is); (case lPick => k_is); (case cPick => k_is); (case kPick => k_is)
    (case aBarred => k_is); (case lBarred => k_is); (case cBarred => k_is); (case kBarred => k_is)
    (case aNewScene => k_is); (case lNewScene => k_is); (case cNewScene => k_is); (case kNewScene => k_is)
    (case aScText => k_is); (case lScText => k_is); (case cScText => k_is); (case kScText => k_is)
    (case aLawIsName => k_is); (case lLawIsName => k_is); (case cLawIsName => k_is); (case kLawIsName => k_is)
    (case aBent => k_is); (case lBent => k_is); (case cBent => k_is); (case kBent => k_is)
    (case aLawRead => k_is); (case lLawRead => k_is); (case cLawRead => k_is); (case kLawRead => k_is)
    (case aTold => k_is); (case lTold => k_is); (case cTold => k_is); (case kTold => k_is)
    (case aLaw => k_is); (case lLaw => k_is); (case cLaw => k_is); (case kLaw => k_is)
    (case xBadScene => exact ⟨_, _, _, _, _, _, _, _, _, _, _, _, _, _, _, by k_is, by decide +kernel⟩); (case p1BadScene => kernel_rfl); (case p2BadScene => kernel_rfl)
    (case iBadScene => exact ⟨⟨_, _, _, _, _, _, _, _, rfl, by k_is⟩, ⟨_, rfl, rfl⟩, ⟨_, _, _, _, _, _, by k_is, rfl, by decide +kernel⟩, ⟨_, _, _, by k_is⟩⟩); (case p3BadScene => kernel_rfl); (case p4BadScene => kernel_rfl); (case p5BadScene => kernel_rfl)
    (case p0 => kernel_rfl); (case ht => kernel_rfl)
    (case iScI => k_is); (case iScE => k_is); (case pC => kernel_rfl); (case pE => kernel_rfl)
    (case aM => k_is); (case aR => k_is); (case aK => k_is); (case aW => k_is); (case dW => kernel_rfl)
    (case lScI => k_is); (case cScI => k_is); (case kScI => k_is)
    (case lScE => k_is); (case cScE => k_is); (case kScE => k_is)
    (case zlen => k_is)
    (case zall => k_is)
    (case ztuple => k_is)
    (case zint => k_is)
    (case zlist => k_is)
    (case zabs => k_is)
    (case zrange => k_is)
    (case zrepr => k_is)
    (case zenumerate => k_is)
    (case zisinstance => k_is)
    (case zValueError => k_is)
    (case zsuper => k_is)
