import PyProof.Rows.All
import Wide.All
import OpenK.AllK
import Wide.FinOn
import PyProof.EqAt
import PyProof.EqKinds
import PyProof.TupleCall
import KE.KFromBytes
import KE.KExcSuper
import HandS.ForExc
import HandS.ExcInit
import HandS.ExcSuper
import KE.KExcIs
import HandS.ExcField
import HandS.ExcIs
import HandS.TryMany
import HandS.IsInst
import HandS.ForMost
import PySem.Challenge.RW_holekinds_k01_errors_each_of_its_own
import PyProof.ReprLen
import HandS.Zip
import KE.GoesNew
import KE.GoesMore
import HandS.ExcOwn
import PyProof.ExcBaseAll.ValueError
set_option Elab.async false
set_option linter.all false
set_option maxRecDepth 100000
set_option maxHeartbeats 4000000
/-! an own error class over HoleError over ValueError, whose __init__ says super().__init__(text) and stores what it is made with -/
namespace PySem
namespace ErrX
open PySem.W PySem.Calls PyProof.Rows PySem.HandSPX

/-- the text of __init__: its parameters, its first row, its stores -/
def eA (ps : List (Str × Pos)) : Arguments := { posonlyargs := [], args := ps.map fun p => { arg := p.1, annotation := none, pos := p.2 }, vararg := none, kwonlyargs := [], kw_defaults := [], kwarg := none, defaults := [] }
abbrev eSup (txt : Str) (p0 p1 p2 p3 p4 p5 : Pos) : Stmt := .Expr (.Call (.Attribute (.Call (.Name "super" p0) [] [] p1) "__init__" p2) [.Constant (.str txt) 0 p3] [] p4) p5
abbrev eSet (f : Str) (q0 q1 q2 q3 : Pos) : Stmt := .Assign [.Attribute (.Name "self" q0) f q1] (.Name f q2) q3
def eScope (ps : List Str) : Scope := { kind := .function, names := ps.map (fun x => (x, NameKind.local)) ++ [(Str.ofString "__class__", .free), (Str.ofString "super", .globalImplicit)], isGenerator := false, isCoroutine := false, more := [] }

abbrev pN (ps : List (Str × Pos)) : List Str := ps.map fun p => p.1
structure ErrTxt (main : PySem.Module) (K : Frag) (C fI : Addr) (ps : List (Str × Pos)) (body : List Stmt) : Prop where
  cls : ∃ nm q N bs bm sn sub ab col dd k0 k1 k2 k3 k5, K.lookup C = some (excClassObj nm q C N bs bm true sn sub ab col dd k0 k1 k2 k3 k5 "ValueError.__new__") ∧ refsVE bm = true
  sa : findIn K (.ref C) "__setattr__" = some (some (.builtin "object.__setattr__"))
  iC : findIn K (.ref C) "__init__" = some (some (.ref fI))
  tC : typeIn K (.ref fI) = some (.type "function")
  kC : keepIn K (.ref C) = true
  sub : mroIn K C (.ref C) = some true
  subV : subIn K (.ref C) (.type "ValueError") = some true
  sup : ks_superIn K C C "__init__" = some (some (.builtin "ValueError.__init__"))
  tp : nsIn K cStatics "thirdparty.any" = some none
  su : nsIn K mainGlobals "super" = some none
  top : (main.scope.names.lookup ("super" : Str)).isSome = false
  fn : ∃ (oc cl ccl : Value) (od cld cdd : Option Addr) (doc pm : Value) (an : Option Addr) (ct : Value) (osl csl ccs : Array (Option Value)) (cc cda : Addr) (qual : Str) (vs : Array Value) (file : Str) (tf : Tok),
    K.lookup fI = some ⟨oc, od, .func (ksFn "__init__" qual (eA ps) body (eScope (pN ps)) .none .none doc pm an (.ref cda) ct cc), osl⟩ ∧ codeIn K (.ref cda) qual = true ∧
    K.lookup cc = some ⟨cl, cld, .cell (some (.ref C)), csl⟩ ∧ K.lookup cda = some ⟨ccl, cdd, .fields vs, ccs⟩ ∧ vs[2]? = some (.str file tf) ∧ ((main.file : Str) == file) = true

section
variable {prog : Program} {w : World} {A : Around} {E : Value → Shared → Prop} {R : Result → Shared → Prop} {s : Shared} {K : Frag} {mg : Str → Option Value} {base : Heap} {C fI : Addr}
/-- the bound ValueError.__init__ is called: the args are laid anew -/
theorem call_mw {h : Heap} {g : Array GenState} {d : Drawn} {t : Nat} {os : OsState} {u e t0 : Addr} {rest : List Value} {Q : Value → Shared → Prop}
    {nm q : Str} {N : Addr} {bs bm : List Value} {hdct : Bool} {sn : List Str} {sub : List Value} {ab : Bool} {col : Option Bool} {dd : Option Addr} {k0 k1 k2 k3 k5 : Option Value}
    (hC : h.get? C = some (excClassObj nm q C N bs bm hdct sn sub ab col dd k0 k1 k2 k3 k5 "ValueError.__new__")) (he : h.get? e = some (HandSPX.excO C t0)) (hu : h.get? u = some (kxs_mw "ValueError.__init__" e)) (hrest : rest.length ≤ sizeLine)
    (hq : ∀ h' t1, (∀ b o, b ≠ e → h.get? b = some o → h'.get? b = some o) → h'.get? e = some (HandSPX.excO C t1) → Q .none ⟨h', g, d, t, os⟩) :
    wpAny (model prog w) A (call (.ref u) rest) Q E ⟨h, g, d, t, os⟩ := by
  refine wpAny_call (codeAny_of_tree ?_)
  show wpAny _ A.in1 (callAny (.ref u) ⟨rest, []⟩) _ _ _
  simp only [callAny]
  refine wpAny_bind (wpAny_load hu ?_)
  simp only [kxs_mw, show (Value.type "method-wrapper" == Value.type "method" || Value.type "method-wrapper" == Value.type "builtin_function_or_method" || Value.type "method-wrapper" == Value.type "method-wrapper") = true by decide, if_true]
  refine W.KFB.if_so (by decide) ?_
  refine wpAny_bind (check_bound_init F.excBase_ValueError.toExcCallFacts hC he rfl ?_)
  refine wpAny_bind (wpAny_pure (wpAny_pure ?_))
  refine ⟨plainId_quiet F.excBase_ValueError.init.plain _, codeAny_builtin F.excBase_ValueError.initEntry ?_⟩
  exact exc_init_tree (cls := .ref C) (t0 := t0) (dv := none) (c2 := .none) (c3 := .none) (b4 := .bool false) he hrest fun h' k e' _ => hq h' _ k e'

/-- how the row's call is read: its places stand on one line -/
def SupEq (txt : Str) (p0 p1 p2 p3 p4 : Pos) : Prop := ∀ env : Env, eval (.Call (.Attribute (.Call (.Name "super" p0) [] [] p1) "__init__" p2) [.Constant (.str txt) 0 p3] [] p4) env = (do
      let ov ← attributeBase (.Call (.Name "super" p0) [] [] p1) "__init__" env (eval (.Call (.Name "super" p0) [] [] p1) env)
      standAt p2.atName
      let (f, first) ← holding [ov] (getMethod ov "__init__" (do return (← importBound (.Call (.Name "super" p0) [] [] p1) env).getD true))
      callWith p4 f first (backTo p4 (starEach [.Constant (.str txt) 0 p3] env)) [])
/-- super().__init__(text): the rest of the body runs behind it -/
theorem sup_row {ps : List (Str × Pos)} {body body' : List Stmt} {txt : Str} {p0 p1 p2 p3 p4 p5 : Pos} {x t0 L : Addr} {m : Str → Option Value} {arS : Pos} {cc cda : Addr} {qual : Str} {oc cl ccl : Value} {od cld cdd : Option Addr} {doc pm : Value} {an : Option Addr} {ct : Value} {osl csl ccs : Array (Option Value)} {vs : Array Value} {file : Str} {tf : Tok} {Q : Flow → Shared → Prop}
    (T : ErrTxt prog.main K C fI ps body) (hps : ps.head? = some (Str.ofString "self", arS)) (hsc : (eScope (pN ps)).names.lookup ("super" : Str) = some .globalImplicit) (hcc : (eScope (pN ps)).names.lookup ("__class__" : Str) = some .free) (hss : (eScope (pN ps)).names.lookup ("self" : Str) = some .local)
    (heq : SupEq txt p0 p1 p2 p3 p4)
    (l1 : K.lookup fI = some ⟨oc, od, .func (ksFn "__init__" qual (eA ps) body (eScope (pN ps)) .none .none doc pm an (.ref cda) ct cc), osl⟩)
    (l2 : K.lookup cc = some ⟨cl, cld, .cell (some (.ref C)), csl⟩) (l3 : K.lookup cda = some ⟨ccl, cdd, .fields vs, ccs⟩) (hvs : vs[2]? = some (.str file tf)) (hfile : ((prog.main.file : Str) == file) = true)
    (hM : L2.Mod K mg base) (k0 : ∀ b o, base.get? b = some o → s.heap.get? b = some o) (hn : s.heap.Ns L m) (hx : m "self" = some (.ref x)) (hxo : s.heap.get? x = some (excO C t0))
    (h : ∀ h' tk t1, (∀ b o, b ≠ x → s.heap.get? b = some o → h'.get? b = some o) → h'.get? x = some (excO C t1) → Q .next { s with heap := h', toks := tk }) :
    _root_.PySem.wpAt (model prog w) A (.func body' (ksEnv qual (eScope (pN ps)) L fI (.ref cda) cc)) (exec (eSup txt p0 p1 p2 p3 p4 p5) (ksEnv qual (eScope (pN ps)) L fI (.ref cda) cc)) Q E s := by
  have X : K.In s.heap := hM.kin.keeps k0
  obtain ⟨mb, hb1, hb2⟩ := hM.blt
  obtain ⟨nm, q, N, bs, bm, sn, sub, ab, col, dd, kk0, kk1, kk2, kk3, kk5, hC, hbm⟩ := T.cls
  have hcl : clsIn K C = some { name := nm, bases := bs, mro := .ref C :: bm, ns := N, qualname := q, hasDict := true, slotNames := sn, subclasses := sub, abstract := ab, collection := col, hasDel := false } := by unfold clsIn; rw [hC] <;> rfl
  obtain ⟨hh, g, d, t, os⟩ := s
  refine ks_wpAt_Expr_any (hs := by rfl) (hi := by rfl) ?_
  refine ks_wpAt_MethodCall (args := [.Constant (.str txt) 0 p3]) ?_ (heq _)
  have har : (((ksFn "__init__" qual (eA ps) body (eScope (pN ps)) .none .none doc pm an (.ref cda) ct cc).params.posonlyargs ++ (ksFn "__init__" qual (eA ps) body (eScope (pN ps)) .none .none doc pm an (.ref cda) ct cc).params.args).head?) = some ({ arg := "self", annotation := none, pos := arS } : Arg) := by
    show (ps.map fun p => ({ arg := p.1, annotation := none, pos := p.2 } : Arg)).head? = _
    rw [List.head?_map, hps]
    rfl
  refine ks_wpAt_super_base (env := ksEnv qual (eScope (pN ps)) L fI (.ref cda) cc) (ar := { arg := "self", annotation := none, pos := arS }) hsc hcc rfl rfl (X _ _ l1) rfl har rfl (X _ _ l3) rfl hvs hfile T.top ?_
  refine ks_loadName_global rfl hsc (loadGlobal_builtin (env := ksEnv qual (eScope (pN ps)) L fI (.ref cda) cc) (hM.glob.keeps k0) (mg_none_of hM.kin hM.glob T.su) (hb1.keeps k0) ((hb2 _ (by decide +kernel)).trans (by kernel_rfl)) ⟨rfl, ?_⟩)
  refine wpAny_loadName_free rfl hcc rfl ⟨_, X _ _ l2, rfl⟩ ?_
  refine wpAny_loadName_local rfl hss hn hx ?_
  refine ks_wpAny_isType_cls (X _ _ hC) rfl ⟨rfl, ?_⟩
  have hx0 : hh.get? x = some (excO C t0) := hxo
  refine ks_wpAny_call_super (X _ _ hC) rfl hx0 rfl (fun c e => by cases e) (looks_mroIn X T.sub) (fun h2 e2 k2 => ?_)
  have hx2 := k2 _ _ hx0
  have X2 : K.In h2 := X.keeps k2
  have I2 : W.InstAt h2 x (excO C t0) C none := ⟨hx2, rfl, rfl, trivial⟩
  have hI : Looks (model prog w) h2 (isInstance (.ref x) (.type "ValueError")) true := I2.type.andThen (looks_subIn X2 T.subV)
  have hsup := T.sup
  unfold ks_superIn at hsup
  rw [hcl] at hsup
  refine kxs_getMethod kxs_ValueError e2 (looks_opaque X2 T.tp) (l₀ := .ref C :: bm) ((W.looks_clsIn X2 hcl).andThen .now) rfl X2 hsup hI (ks_ne X2 I2 hcl) rfl ?_
  have hx3 : (h2.push (kxs_mw "ValueError.__init__" x)).get? x = some (excO C t0) := Heap.get?_push_of_some _ hx2
  have hu3 : (h2.push (kxs_mw "ValueError.__init__" x)).get? h2.objs.size = some (kxs_mw "ValueError.__init__" x) := Heap.get?_push_at rfl rfl
  refine kxs_callWith (i := "ValueError.__init__") (x := x) (by rfl) (evalArgs_plain (Calls.spliced_cons (Calls.Constant_str (k := 0) (pos := p3) (Calls.spliced_nil ⟨hu3, ?_⟩))))
  show wpAny _ _ (call (.ref h2.objs.size) [Value.str txt _]) _ _ _
  refine call_mw (X2.keeps (fun b o e => Heap.get?_push_of_some _ e) _ _ hC) hx3 hu3 (by show 1 ≤ sizeLine; rw [sizeLine_eq]; omega) fun h' t1 k hx' => ?_
  exact h h' _ t1 (fun b o hb e => k b o hb (Heap.get?_push_of_some _ (k2 b o e))) hx'

/-- what __init__ leaves of a fresh exception at x: its dict at dx, with the fields m -/
structure InitEnd (h h' : Heap) (x C dx t1 : Addr) (m : Str → Option Value) : Prop where
  keep : ∀ b o, b ≠ x → h.get? b = some o → h'.get? b = some o
  obj : h'.get? x = some { cls := .ref C, dict := some dx, data := .fields #[.ref t1, .none, .none, .none, .bool false, .none] }
  dbig : h.objs.size ≤ dx
  dne : dx ≠ x
  ns : h'.Ns1 dx m
theorem ldX {M : Model} {s : Shared} {q : Str} {scope : Scope} {L a : Addr} {cd : Value} {cc : Addr} {m : Str → Option Value} {x : Str} {pos : Pos} {v : Value} {Q : Value → Shared → Prop} {A : Around} {E : Value → Shared → Prop} (hn : s.heap.Ns L m) (hv : m x = some v) (h : Q v s)
    (hk : scope.kind = .function) (hl : scope.names.lookup x = some .local) (hd : (x == ("__debug__" : Str)) = false) :
    wpAny M A (eval (.Name x pos) (ksEnv q scope L a cd cc)) Q E s := wpAny_Name (wpAny_loadName_local hk hl hn hv h) hd
abbrev bd1 (f : Str) (txt : Str) (p : Nat → Pos) : List Stmt := [eSup txt (p 0) (p 1) (p 2) (p 3) (p 4) (p 5), eSet f (p 6) (p 7) (p 8) (p 9)]
abbrev ps1 (f : Str) (a b : Pos) : List (Str × Pos) := [(Str.ofString "self", a), (f, b)]
/-- which names of the scope a field's name is not -/
structure FldOk (f : Str) : Prop where
  sc : (eScope [Str.ofString "self", f]).names.lookup ("super" : Str) = some .globalImplicit
  cl : (eScope [Str.ofString "self", f]).names.lookup ("__class__" : Str) = some .free
  se : (eScope [Str.ofString "self", f]).names.lookup ("self" : Str) = some .local
  fl : (eScope [Str.ofString "self", f]).names.lookup f = some .local
  ne : f ≠ Str.ofString "self"
  db : (f == ("__debug__" : Str)) = false
  noc : ∀ x ∈ (eScope [Str.ofString "self", f]).names, x.2 ≠ .cell
  bi : ∀ (qual : Str) (body : List Stmt) (sc : Scope) (doc pm : Value) (an : Option Addr) (cdv ct : Value) (cc : Addr) (a b : Pos) (u v : Value), bindArgs (ksFn "__init__" qual (eA (ps1 f a b)) body sc .none .none doc pm an cdv ct cc) ⟨[u, v], []⟩ = pure [(Str.ofString "self", u), (f, v)]
  bk : ∀ (qual : Str) (body : List Stmt) (sc : Scope) (doc pm : Value) (an : Option Addr) (cdv ct : Value) (cc : Addr) (a b : Pos) (u v : Value), bindArgs (ksFn "__init__" qual (eA (ps1 f a b)) body sc .none .none doc pm an cdv ct cc) ⟨[u], [(f, v)]⟩ = pure [(Str.ofString "self", u), (f, v)]
theorem init1 {f txt : Str} {p : Nat → Pos} {pa pb : Pos} {x t0 : Addr} {v : Value} (T : ErrTxt prog.main K C fI (ps1 f pa pb) (bd1 f txt p)) (FO : FldOk f) (hno : findIn K (.ref C) f = some none)
    (heq : SupEq txt (p 0) (p 1) (p 2) (p 3) (p 4)) (hM : L2.Mod K mg base) (k0 : ∀ b o, base.get? b = some o → s.heap.get? b = some o) (hx : s.heap.get? x = some (excO C t0)) (hnx : K.lookup x = none) (hroom : A.depth < recursionLimit)
    (args : Args) (hb : ∀ s' qual body sc doc pm an cdv ct cc, BindsTo s' (ksFn "__init__" qual (eA (ps1 f pa pb)) body sc .none .none doc pm an cdv ct cc) args [(Str.ofString "self", .ref x), (f, v)])
    (hq : ∀ h' tk dx t1, InitEnd s.heap h' x C dx t1 (fun y => if y = f then some v else none) → R (.ok (.ret .none)) { s with heap := h', toks := tk }) :
    codeAny (model prog w) A (.call (.ref fI) args) R s := by
  obtain ⟨oc, cl, ccl, od, cld, cdd, doc, pm, an, ct, osl, csl, ccs, cc, cda, qual, vs, file, tf, l1, hcd, l2, l3, hvs, hfile⟩ := T.fn
  have X : K.In s.heap := hM.kin.keeps k0
  refine ks_codeAny_call_defAt (fd := ksFn "__init__" qual (eA (ps1 f pa pb)) (bd1 f txt p) (eScope (pN (ps1 f pa pb))) .none .none doc pm an (.ref cda) ct cc) (body := bd1 f txt p) (binds := [(Str.ofString "self", .ref x), (f, v)])
    hroom (X _ _ l1) rfl (hM.nolimit.keeps k0) (codeRec_of X hcd) rfl (hb _ _ _ _ _ _ _ _ _ _) FO.noc ?_ (fun h₁ hns hk₁ => ?_) rfl rfl rfl
  · intro y hy
    rcases List.mem_cons.mp hy with rfl | hy
    · exact FO.se
    · rcases List.mem_cons.mp hy with rfl | hy
      · exact FO.fl
      · cases hy
  have hnf : ((Str.ofString "self") == f) = false := by simpa using (Ne.symm FO.ne)
  have hm1 : (fun y => List.lookup y ([(Str.ofString "self", Value.ref x), (f, v)] : List (Str × Value)).reverse) (Str.ofString "self") = some (.ref x) := by
    show List.lookup (Str.ofString "self") [(f, v), (Str.ofString "self", Value.ref x)] = _
    simp [List.lookup, hnf]
  have hm2 : (fun y => List.lookup y ([(Str.ofString "self", Value.ref x), (f, v)] : List (Str × Value)).reverse) f = some v := by
    show List.lookup f [(f, v), (Str.ofString "self", Value.ref x)] = _
    simp [List.lookup]
  have hxL : s.heap.objs.size ≠ x := Nat.ne_of_gt (Heap.lt_size hx)
  refine ks_wpAt_execs_cons (sup_row (s := { s with heap := h₁, toks := s.toks + _ }) T rfl FO.sc FO.cl FO.se heq l1 l2 l3 hvs hfile hM (fun b o e => hk₁ b o (k0 b o e)) hns hm1 (hk₁ _ _ hx) fun h2 tk2 t1 k2 hx2 => ?_)
  show _root_.PySem.wpAt _ _ _ (execs _ _) _ _ _
  refine wpAt_of_wpAny (wpAny_execs_cons (plainObj_wpAny_Assign_Attribute ?_ (by rfl)))
  have hns2 : h2.Ns s.heap.objs.size (fun y => List.lookup y ([(Str.ofString "self", Value.ref x), (f, v)] : List (Str × Value)).reverse) := by
    obtain ⟨oL, es, ep, hL, r⟩ := hns
    exact ⟨oL, es, ep, k2 _ _ hxL hL, r⟩
  obtain ⟨nm, q, N, bs, bm, sn, sub, ab, col, dd, kk0, kk1, kk2, kk3, kk5, hC, hbm⟩ := T.cls
  have hcl : clsIn K C = some { name := nm, bases := bs, mro := .ref C :: bm, ns := N, qualname := q, hasDict := true, slotNames := sn, subclasses := sub, abstract := ab, collection := col, hasDel := false } := by unfold clsIn; rw [hC] <;> rfl
  refine ldX (v := v) hns2 hm2 ?_ rfl FO.fl FO.db
  refine ldX (v := .ref x) hns2 hm1 ?_ rfl FO.se (by decide +kernel)
  have nxK : ∀ b o, K.lookup b = some o → b ≠ x := fun b o e z => by rw [z, hnx] at e; cases e
  have X2 : K.In h2 := fun b o e => k2 b o (nxK b o e) (hk₁ b o (X b o e))
  refine set_plain X2 (ox := excO C t1) (od := none) ⟨hx2, rfl, rfl, trivial⟩ T.sa ?_
  refine exc_osa X2 hx2 hcl (show refsVE (.ref C :: bm) = true from hbm) rfl hno (fun h3 tk3 dx k3 dn dne hx3 hn3 => ?_)
  show wpAny _ _ (execs _ _) _ _ _
  refine wpAny_execs_nil (hq h3 tk3 dx t1 ⟨fun b o hb e => k3 b o hb (k2 b o hb (hk₁ b o e)), hx3, Nat.le_of_lt (Nat.lt_of_lt_of_le hns2.lt dn), dne, hn3⟩)

/-! two fields -/
abbrev bd2 (f1 f2 : Str) (txt : Str) (p : Nat → Pos) : List Stmt := [eSup txt (p 0) (p 1) (p 2) (p 3) (p 4) (p 5), eSet f1 (p 6) (p 7) (p 8) (p 9), eSet f2 (p 10) (p 11) (p 12) (p 13)]
abbrev ps2 (f1 f2 : Str) (a b c : Pos) : List (Str × Pos) := [(Str.ofString "self", a), (f1, b), (f2, c)]
structure Fld2 (f1 f2 : Str) : Prop where
  bi : ∀ (qual : Str) (body : List Stmt) (sc : Scope) (doc pm : Value) (an : Option Addr) (cdv ct : Value) (cc : Addr) (a b c : Pos) (u v w : Value), bindArgs (ksFn "__init__" qual (eA (ps2 f1 f2 a b c)) body sc .none .none doc pm an cdv ct cc) ⟨[u, v, w], []⟩ = pure [(Str.ofString "self", u), (f1, v), (f2, w)]
  bk : ∀ (qual : Str) (body : List Stmt) (sc : Scope) (doc pm : Value) (an : Option Addr) (cdv ct : Value) (cc : Addr) (a b c : Pos) (u v w : Value), bindArgs (ksFn "__init__" qual (eA (ps2 f1 f2 a b c)) body sc .none .none doc pm an cdv ct cc) ⟨[u], [(f2, w), (f1, v)]⟩ = pure [(Str.ofString "self", u), (f1, v), (f2, w)]
  sc : (eScope [Str.ofString "self", f1, f2]).names.lookup ("super" : Str) = some .globalImplicit
  cl : (eScope [Str.ofString "self", f1, f2]).names.lookup ("__class__" : Str) = some .free
  se : (eScope [Str.ofString "self", f1, f2]).names.lookup ("self" : Str) = some .local
  fl1 : (eScope [Str.ofString "self", f1, f2]).names.lookup f1 = some .local
  fl2 : (eScope [Str.ofString "self", f1, f2]).names.lookup f2 = some .local
  ne1 : f1 ≠ Str.ofString "self"
  ne2 : f2 ≠ Str.ofString "self"
  ne12 : f1 ≠ f2
  db1 : (f1 == ("__debug__" : Str)) = false
  db2 : (f2 == ("__debug__" : Str)) = false
  noc : ∀ x ∈ (eScope [Str.ofString "self", f1, f2]).names, x.2 ≠ .cell
theorem init2 {f1 f2 txt : Str} {p : Nat → Pos} {pa pb pc : Pos} {x t0 : Addr} {v1 v2 : Value} (T : ErrTxt prog.main K C fI (ps2 f1 f2 pa pb pc) (bd2 f1 f2 txt p)) (FO : Fld2 f1 f2) (hno1 : findIn K (.ref C) f1 = some none) (hno2 : findIn K (.ref C) f2 = some none)
    (heq : SupEq txt (p 0) (p 1) (p 2) (p 3) (p 4)) (hM : L2.Mod K mg base) (k0 : ∀ b o, base.get? b = some o → s.heap.get? b = some o) (hx : s.heap.get? x = some (excO C t0)) (hnx : K.lookup x = none) (hroom : A.depth < recursionLimit)
    (args : Args) (hb : ∀ s' qual body sc doc pm an cdv ct cc, BindsTo s' (ksFn "__init__" qual (eA (ps2 f1 f2 pa pb pc)) body sc .none .none doc pm an cdv ct cc) args [(Str.ofString "self", .ref x), (f1, v1), (f2, v2)])
    (hq : ∀ h' tk dx t1, InitEnd s.heap h' x C dx t1 (fun y => if y = f2 then some v2 else if y = f1 then some v1 else none) → R (.ok (.ret .none)) { s with heap := h', toks := tk }) :
    codeAny (model prog w) A (.call (.ref fI) args) R s := by
  obtain ⟨oc, cl, ccl, od, cld, cdd, doc, pm, an, ct, osl, csl, ccs, cc, cda, qual, vs, file, tf, l1, hcd, l2, l3, hvs, hfile⟩ := T.fn
  have X : K.In s.heap := hM.kin.keeps k0
  refine ks_codeAny_call_defAt (fd := ksFn "__init__" qual (eA (ps2 f1 f2 pa pb pc)) (bd2 f1 f2 txt p) (eScope (pN (ps2 f1 f2 pa pb pc))) .none .none doc pm an (.ref cda) ct cc) (body := bd2 f1 f2 txt p) (binds := [(Str.ofString "self", .ref x), (f1, v1), (f2, v2)])
    hroom (X _ _ l1) rfl (hM.nolimit.keeps k0) (codeRec_of X hcd) rfl (hb _ _ _ _ _ _ _ _ _ _) FO.noc ?_ (fun h₁ hns hk₁ => ?_) rfl rfl rfl
  · intro y hy
    rcases List.mem_cons.mp hy with rfl | hy
    · exact FO.se
    · rcases List.mem_cons.mp hy with rfl | hy
      · exact FO.fl1
      · rcases List.mem_cons.mp hy with rfl | hy
        · exact FO.fl2
        · cases hy
  have hnf1 : ((Str.ofString "self") == f1) = false := by simpa using (Ne.symm FO.ne1)
  have hnf2 : ((Str.ofString "self") == f2) = false := by simpa using (Ne.symm FO.ne2)
  have hn12 : (f1 == f2) = false := by simpa using FO.ne12
  have hm1 : (fun y => List.lookup y ([(Str.ofString "self", Value.ref x), (f1, v1), (f2, v2)] : List (Str × Value)).reverse) (Str.ofString "self") = some (.ref x) := by
    show List.lookup (Str.ofString "self") [(f2, v2), (f1, v1), (Str.ofString "self", Value.ref x)] = _
    simp [List.lookup, hnf1, hnf2]
  have hm2 : (fun y => List.lookup y ([(Str.ofString "self", Value.ref x), (f1, v1), (f2, v2)] : List (Str × Value)).reverse) f1 = some v1 := by
    show List.lookup f1 [(f2, v2), (f1, v1), (Str.ofString "self", Value.ref x)] = _
    simp [List.lookup, hn12]
  have hm3 : (fun y => List.lookup y ([(Str.ofString "self", Value.ref x), (f1, v1), (f2, v2)] : List (Str × Value)).reverse) f2 = some v2 := by
    show List.lookup f2 [(f2, v2), (f1, v1), (Str.ofString "self", Value.ref x)] = _
    simp [List.lookup]
  have hxL : s.heap.objs.size ≠ x := Nat.ne_of_gt (Heap.lt_size hx)
  refine ks_wpAt_execs_cons (sup_row (s := { s with heap := h₁, toks := s.toks + _ }) T rfl FO.sc FO.cl FO.se heq l1 l2 l3 hvs hfile hM (fun b o e => hk₁ b o (k0 b o e)) hns hm1 (hk₁ _ _ hx) fun h2 tk2 t1 k2 hx2 => ?_)
  show _root_.PySem.wpAt _ _ _ (execs _ _) _ _ _
  refine wpAt_of_wpAny (wpAny_execs_cons (plainObj_wpAny_Assign_Attribute ?_ (by rfl)))
  have hns2 : h2.Ns s.heap.objs.size (fun y => List.lookup y ([(Str.ofString "self", Value.ref x), (f1, v1), (f2, v2)] : List (Str × Value)).reverse) := by
    obtain ⟨oL, es, ep, hL, r⟩ := hns
    exact ⟨oL, es, ep, k2 _ _ hxL hL, r⟩
  obtain ⟨nm, q, N, bs, bm, sn, sub, ab, col, dd, kk0, kk1, kk2, kk3, kk5, hC, hbm⟩ := T.cls
  have hcl : clsIn K C = some { name := nm, bases := bs, mro := .ref C :: bm, ns := N, qualname := q, hasDict := true, slotNames := sn, subclasses := sub, abstract := ab, collection := col, hasDel := false } := by unfold clsIn; rw [hC] <;> rfl
  refine ldX (v := v1) hns2 hm2 ?_ rfl FO.fl1 FO.db1
  refine ldX (v := .ref x) hns2 hm1 ?_ rfl FO.se (by decide +kernel)
  have nxK : ∀ b o, K.lookup b = some o → b ≠ x := fun b o e z => by rw [z, hnx] at e; cases e
  have X2 : K.In h2 := fun b o e => k2 b o (nxK b o e) (hk₁ b o (X b o e))
  refine set_plain X2 (ox := excO C t1) (od := none) ⟨hx2, rfl, rfl, trivial⟩ T.sa ?_
  refine exc_osa X2 hx2 hcl (show refsVE (.ref C :: bm) = true from hbm) rfl hno1 (fun h3 tk3 dx k3 dn dne hx3 hn3 => ?_)
  show wpAny _ _ (execs _ _) _ _ _
  have X3 : K.In h3 := fun b o e => k3 b o (nxK b o e) (X2 b o e)
  have hns3 : h3.Ns s.heap.objs.size (fun y => List.lookup y ([(Str.ofString "self", Value.ref x), (f1, v1), (f2, v2)] : List (Str × Value)).reverse) := by
    obtain ⟨oL, es, ep, hL, r⟩ := hns2
    exact ⟨oL, es, ep, k3 _ _ hxL hL, r⟩
  refine wpAny_execs_cons (plainObj_wpAny_Assign_Attribute ?_ (by rfl))
  refine ldX (v := v2) hns3 hm3 ?_ rfl FO.fl2 FO.db2
  refine ldX (v := .ref x) hns3 hm1 ?_ rfl FO.se (by decide +kernel)
  obtain ⟨oD, esD, epD, hoD, hdD⟩ := id hn3
  have hw : Within (fun y => if y = f1 then some v1 else none) [f1] := Within.cons f1 v1 Within.nil
  refine set_plain X3 (ox := { cls := .ref C, dict := some dx, data := .fields #[.ref t1, .none, .none, .none, .bool false, .none] }) (od := some oD) ⟨hx3, rfl, rfl, hoD⟩ T.sa ?_
  refine PySem.OEX.osa_old X3 hx3 hn3 hw (by show 1 ≤ 1000; decide) hcl (show refsVE (.ref C :: bm) = true from hbm) rfl hno2 (fun h4 tk4 k4 hn4 => ?_)
  show wpAny _ _ (execs _ _) _ _ _
  refine wpAny_execs_nil (hq h4 tk4 dx t1 ⟨fun b o hb e => k4 b o ?_ (k3 b o hb (k2 b o hb (hk₁ b o e))), k4 _ _ dne.symm hx3, Nat.le_of_lt (Nat.lt_of_lt_of_le hns2.lt dn), dne, hn4⟩)
  exact Nat.ne_of_lt (Nat.lt_of_lt_of_le (Heap.lt_size (k2 b o hb (hk₁ b o e))) dn)
end
end ErrX
end PySem

namespace PySem
namespace ErrX
open PySem.W PySem.Calls PyProof.Rows PySem.HandSPX
/-! ### such a class called, keywords too -/
section
variable {M : Model} {A : Around} {E : Value → Shared → Prop} {h : Heap} {g : Array GenState} {d : Drawn} {t : Nat} {os : OsState}
variable {nm q : Str} {C N : Addr} {bs bm bmB : List Value} {hdct : Bool} {sn : List Str} {sub : List Value} {ab : Bool} {col : Option Bool} {dd : Option Addr} {k0 k1 k2 k3 k5 : Option Value} {B newId initId : String}
theorem check_newK (F : ExcBaseFacts B newId initId bmB) (hT : ∀ X : String, bm.contains (.type X) = bmB.contains (.type X)) {rest : List Value} {kw : List (Str × Value)} {Q : Unit → Shared → Prop}
    (hC : h.get? C = some (excClassObj nm q C N bs bm hdct sn sub ab col dd k0 k1 k2 k3 k5 newId)) (hq : Q () ⟨h, g, d, t, os⟩) : wpAny M A (checkBuiltinCall newId ⟨.ref C :: rest, kw⟩) Q E ⟨h, g, d, t, os⟩ := by
  have hcont : (Value.ref C :: bm).contains (.type B) = true := by rw [List.contains_cons, hT, F.hasB, Bool.or_true]
  have hstar := F.noStar
  simp only [checkBuiltinCall, F.newKind, F.newSplit, F.newRow]
  repeat (first | refine wpAny_loadPart_at hC ?_ | (refine wpAny_isSubtype_exc hC ?_; rw [hcont]) | refine wpAny_staticBase_exc hC ?_ | refine wpAny_madeBy_exc hC ?_ | simp only [bne_self_eq_false, Bool.false_eq_true, if_false] | wp_step)
  exact hq
end
section
variable {prog : Program} {w : World} {A : Around} {E : Value → Shared → Prop} {R : Result → Shared → Prop} {h : Heap} {g : Array GenState} {d : Drawn} {t : Nat} {os : OsState}
variable {nm q : Str} {C N : Addr} {bs bm bmB : List Value} {hdct : Bool} {sn : List Str} {sub : List Value} {ab : Bool} {col : Option Bool} {dd : Option Addr} {k0 k1 k2 k3 k5 : Option Value} {B newId initId : String}
theorem new_K (F : ExcBaseFacts B newId initId bmB) (hT : ∀ X : String, bm.contains (.type X) = bmB.contains (.type X)) {rest : List Value} {kw : List (Str × Value)}
    (hC : h.get? C = some (excClassObj nm q C N bs bm hdct sn sub ab col dd k0 k1 k2 k3 k5 newId))
    (hq : R (.ok (.ret (.ref (h.objs.size + 1)))) ⟨(h.push { cls := .type "tuple", data := .seq rest.toArray }).push
      { cls := .ref C, data := .fields #[.ref h.objs.size, .none, .none, .none, .bool false, .none] }, g, d, t, os⟩) (hrest : rest.length ≤ sizeLine) :
    codeAny (model prog w) A (.builtin newId ⟨.ref C :: rest, kw⟩) R ⟨h, g, d, t, os⟩ := by
  have hends := F.ends
  have hcB : (Value.ref C :: bm).contains (.type B) = true := by rw [List.contains_cons, hT, F.hasB, Bool.or_true]
  have hcA : (Value.ref C :: bm).contains (.type "AttributeError") = false := by rw [List.contains_cons, hT, F.noAttr]; rfl
  have hcN : (Value.ref C :: bm).contains (.type "NameError") = false := by rw [List.contains_cons, hT, F.noName]; rfl
  refine codeAny_builtinAt F.entry ?_
  unfold Builtin.«BaseException.__new__»
  refine wpAt_bind ?_
  show wpAt _ _ _ (stack >>= _) _ _ _
  refine wpAt_bind (wpAt_stack fun p below => wpAt_of_wpAny ?_)
  wp_walk
  refine wpAt_of_wpAny ?_
  rw [F.owner]
  repeat (first | with_reducible refine wpAny_madeHere_exc F.canon hC ?_ | with_reducible refine wpAny_loadPart_at hC ?_ | (with_reducible refine wpAny_isSubtype_exc hC ?_; first | rw [hcB] | rw [hcA] | rw [hcN]) | wp_step)
  show R _ _
  rw [Heap.size_push]
  exact hq
theorem type_callK (F : ExcBaseFacts B newId initId bmB) (hT : ∀ X : String, bm.contains (.type X) = bmB.contains (.type X)) {rest : List Value} {kw : List (Str × Value)} {fI : Addr} {Q : Fin → Shared → Prop}
    (hC : h.get? C = some (excClassObj nm q C N bs bm hdct sn sub ab col dd k0 k1 k2 k3 k5 newId))
    (hi : W.Looks (model prog w) h (typeLookup (.ref C) "__init__") (some (.ref fI))) (hb : ∀ self, W.Looks (model prog w) h (bindSpecial (.ref fI) self) (.ref fI, [self])) (hrest : rest.length ≤ sizeLine)
    (hq : codeAny (model prog w) A (.call (.ref fI) ⟨.ref (h.objs.size + 1) :: rest, kw⟩)
      (fun r s' => match r with | .ok (.ret v) => v = .none ∧ Q (.done (.ret (.ref (h.objs.size + 1)))) s' | .ok _ => False | .error e => E e s')
      ⟨(h.push (W.kdv_tup rest)).push (excO C h.objs.size), g, d, t, os⟩) :
    wpAny (model prog w) A (Builtin.«type.__call__» ⟨.ref C :: rest, kw⟩) Q E ⟨h, g, d, t, os⟩ := by
  repeat (first | with_reducible refine wpAny_loadPart_at hC ?_ | with_reducible refine wpAny_madeBy_exc hC ?_ | wp_step)
  refine codeAny_call_builtin_code (Code.quiet_builtin _ F.quiet) (check_newK F hT hC ?_)
  refine new_K F hT hC ?_ hrest
  show wpAny _ _ _ _ _ _
  have k : ∀ b o, h.get? b = some o → ((h.push (W.kdv_tup rest)).push (excO C h.objs.size)).get? b = some o := fun b o e => Heap.get?_push_of_some _ (Heap.get?_push_of_some _ e)
  have hC₁ := k _ _ hC
  have hget : ((h.push (W.kdv_tup rest)).push (excO C h.objs.size)).get? (h.objs.size + 1) = some (excO C h.objs.size) := by heap_get
  have hcC : (Value.ref C :: bm).contains (.ref C) = true := by simp
  have i1 := hi.keeps k
  have b1 := (hb (.ref (h.objs.size + 1))).keeps k
  unfold isInstance
  repeat (first | with_reducible refine wpAny_loadPart_at hget ?_ | (with_reducible refine wpAny_isSubtype_exc hC₁ ?_; rw [hcC]) | wp_step)
  show wpAny _ _ (typeLookup (.ref C) _) _ _ _
  refine i1.at ?_
  refine wpAny_holding (wpAny_bind (b1.at ?_))
  refine wpAny_bind (wpAny_call (codeAny_mono hq fun r s' z => ?_))
  rcases r with e | (v | _ | _ | _) <;> first | exact z | exact z.elim | skip
  obtain ⟨rfl, z⟩ := z
  first
    | exact wpAny_pure (wpAny_pure z)
    | (wp_walk; exact z)
theorem call_K (F : ExcBaseFacts B newId initId bmB) (hT : ∀ X : String, bm.contains (.type X) = bmB.contains (.type X)) {rest : List Value} {kw : List (Str × Value)} {fI : Addr}
    (hC : h.get? C = some (excClassObj nm q C N bs bm hdct sn sub ab col dd k0 k1 k2 k3 k5 newId))
    (hi : W.Looks (model prog w) h (typeLookup (.ref C) "__init__") (some (.ref fI))) (hb : ∀ self, W.Looks (model prog w) h (bindSpecial (.ref fI) self) (.ref fI, [self])) (hrest : rest.length ≤ sizeLine)
    (hq : codeAny (model prog w) (A.under (.builtin "type.__call__" ⟨.ref C :: rest, kw⟩)) (.call (.ref fI) ⟨.ref (h.objs.size + 1) :: rest, kw⟩) (W.InitBack (h.objs.size + 1) R)
      ⟨(h.push (W.kdv_tup rest)).push (excO C h.objs.size), g, d, t, os⟩) :
    codeAny (model prog w) A (.call (.ref C) ⟨rest, kw⟩) R ⟨h, g, d, t, os⟩ := by
  have f1 := tc_lookup
  have f2 := tc_bind (.ref C)
  have hTy : (⟨h, g, d, t, os⟩ : Shared).TypeIs (.ref C) "type" := ⟨_, hC, rfl⟩
  refine codeAny_of_tree ?_
  show wpAny _ _ (callAny (.ref C) _) _ _ _
  repeat (any_goals (first | assumption | with_reducible refine wpAny_loadPart_at hC ?_ | wp_step))
  refine ⟨rfl, ?_⟩
  refine codeAny_call_builtin_at (Code.quiet_builtin _ (by decide +kernel)) entry_typeCall (wpAny_check_type_call_sub hC (type_callK F hT hC hi hb hrest ?_))
  refine codeAny_mono hq fun r s' z => ?_
  rcases r with e | (v | _ | _ | _) <;> exact z
end

/-- what stands behind the making of such an error -/
structure ErMade (h h' : Heap) (e C d : Addr) (m : Str → Option Value) : Prop where
  keep : ∀ b o, h.get? b = some o → h'.get? b = some o
  new : h.objs.size ≤ e
  obj : ∃ t1 : Addr, h'.get? e = some { cls := .ref C, dict := some d, data := .fields #[.ref t1, .none, .none, .none, .bool false, .none] }
  dbig : h.objs.size ≤ d
  dne : d ≠ e
  ns : h'.Ns1 d m
section
variable {prog : Program} {w : World} {A : Around} {R : Result → Shared → Prop} {s : Shared} {K : Frag} {mg : Str → Option Value} {base : Heap} {C fI : Addr}
theorem made_of {m : Str → Option Value} {us : List Value} {kw : List (Str × Value)} {ps : List (Str × Pos)} {body : List Stmt} (T : ErrTxt prog.main K C fI ps body)
    (hM : L2.Mod K mg base) (k0 : ∀ b o, base.get? b = some o → s.heap.get? b = some o) (hroom : A.depth + 1 < recursionLimit) (hl : us.length ≤ sizeLine)
    (hI : ∀ (s' : Shared) (A' : Around) (R' : Result → Shared → Prop) (x t0 : Addr), (∀ b o, base.get? b = some o → s'.heap.get? b = some o) → s'.heap.get? x = some (excO C t0) → K.lookup x = none → A'.depth < recursionLimit →
      (∀ h' tk dx t1, InitEnd s'.heap h' x C dx t1 m → R' (.ok (.ret .none)) { s' with heap := h', toks := tk }) → codeAny (model prog w) A' (.call (.ref fI) ⟨.ref x :: us, kw⟩) R' s')
    (hq : ∀ h' tk e d, ErMade s.heap h' e C d m → R (.ok (.ret (.ref e))) { s with heap := h', toks := tk }) :
    codeAny (model prog w) A (.call (.ref C) ⟨us, kw⟩) R s := by
  obtain ⟨nm, q, N, bs, bm, sn, sub, ab, col, dd, kk0, kk1, kk2, kk3, kk5, hC, hbm⟩ := T.cls
  have X : K.In s.heap := hM.kin.keeps k0
  obtain ⟨hp, g, dr, tk, os⟩ := s
  have k : ∀ b o, hp.get? b = some o → ((hp.push (kdv_tup us)).push (excO C hp.objs.size)).get? b = some o := fun b o e => Heap.get?_push_of_some _ (Heap.get?_push_of_some _ e)
  have hget : ((hp.push (kdv_tup us)).push (excO C hp.objs.size)).get? (hp.objs.size + 1) = some (excO C hp.objs.size) := by heap_get
  have hnx : K.lookup (hp.objs.size + 1) = none := by
    cases e : K.lookup (hp.objs.size + 1) with
    | none => rfl
    | some o =>
      have z : hp.get? (hp.objs.size + 1) = some o := X _ _ e
      exact absurd (Nat.lt_of_succ_lt (Heap.lt_size z)) (Nat.lt_irrefl _)
  refine call_K F.excBase_ValueError (fun X => refsVE_contains X bm hbm) (X _ _ hC) (looks_findIn X T.iC) (fun self => bind_fn X self T.tC) hl ?_
  refine hI ⟨(hp.push (kdv_tup us)).push (excO C hp.objs.size), g, dr, tk, os⟩ _ _ _ _ (fun b o e => k b o (k0 b o e)) hget hnx ?_ fun h' tk' dx t1 ⟨k', hx, dn, dne, hns⟩ => ?_
  · show A.depth + 1 < recursionLimit
    exact hroom
  · have old : ∀ b o, hp.get? b = some o → h'.get? b = some o := fun b o e => k' b o (Nat.ne_of_lt (Nat.lt_succ_of_lt (Heap.lt_size e))) (k b o e)
    have z : hp.objs.size + 1 + 1 ≤ dx := by
      first
        | (simpa only [Heap.size_push] using dn)
        | exact dn
        | (have q := dn; rw [Heap.size_push, Heap.size_push] at q; exact q)
    exact ⟨rfl, hq h' tk' (hp.objs.size + 1) dx ⟨old, Nat.le_succ _, ⟨t1, hx⟩, Nat.le_trans (Nat.le_trans (Nat.le_succ _) (Nat.le_succ _)) z, dne, hns⟩⟩
theorem made1 {f txt : Str} {p : Nat → Pos} {pa pb : Pos} {us : List Value} {kw : List (Str × Value)} {v : Value} (T : ErrTxt prog.main K C fI (ps1 f pa pb) (bd1 f txt p)) (FO : FldOk f) (hno : findIn K (.ref C) f = some none)
    (heq : SupEq txt (p 0) (p 1) (p 2) (p 3) (p 4)) (hM : L2.Mod K mg base) (k0 : ∀ b o, base.get? b = some o → s.heap.get? b = some o) (hroom : A.depth + 1 < recursionLimit) (hl : us.length ≤ sizeLine)
    (hb : ∀ x s' qual body sc doc pm an cdv ct cc, BindsTo s' (ksFn "__init__" qual (eA (ps1 f pa pb)) body sc .none .none doc pm an cdv ct cc) ⟨.ref x :: us, kw⟩ [(Str.ofString "self", .ref x), (f, v)])
    (hq : ∀ h' tk e d, ErMade s.heap h' e C d (fun y => if y = f then some v else none) → R (.ok (.ret (.ref e))) { s with heap := h', toks := tk }) :
    codeAny (model prog w) A (.call (.ref C) ⟨us, kw⟩) R s :=
  made_of T hM k0 hroom hl (fun s' A' R' x t0 k0' hx hnx hr hq' => init1 T FO hno heq hM k0' hx hnx hr _ (hb x) hq') hq
theorem made2 {f1 f2 txt : Str} {p : Nat → Pos} {pa pb pc : Pos} {us : List Value} {kw : List (Str × Value)} {v1 v2 : Value} (T : ErrTxt prog.main K C fI (ps2 f1 f2 pa pb pc) (bd2 f1 f2 txt p)) (FO : Fld2 f1 f2) (hno1 : findIn K (.ref C) f1 = some none) (hno2 : findIn K (.ref C) f2 = some none)
    (heq : SupEq txt (p 0) (p 1) (p 2) (p 3) (p 4)) (hM : L2.Mod K mg base) (k0 : ∀ b o, base.get? b = some o → s.heap.get? b = some o) (hroom : A.depth + 1 < recursionLimit) (hl : us.length ≤ sizeLine)
    (hb : ∀ x s' qual body sc doc pm an cdv ct cc, BindsTo s' (ksFn "__init__" qual (eA (ps2 f1 f2 pa pb pc)) body sc .none .none doc pm an cdv ct cc) ⟨.ref x :: us, kw⟩ [(Str.ofString "self", .ref x), (f1, v1), (f2, v2)])
    (hq : ∀ h' tk e d, ErMade s.heap h' e C d (fun y => if y = f2 then some v2 else if y = f1 then some v1 else none) → R (.ok (.ret (.ref e))) { s with heap := h', toks := tk }) :
    codeAny (model prog w) A (.call (.ref C) ⟨us, kw⟩) R s :=
  made_of T hM k0 hroom hl (fun s' A' R' x t0 k0' hx hnx hr hq' => init2 T FO hno1 hno2 heq hM k0' hx hnx hr _ (hb x) hq') hq
end
end ErrX
end PySem

namespace L2
open PySem PySem.Spec PyProof.Rows PySem.ErrX
/-! ### two new objects laid at once -/
section
variable {X : Cx} {pins : List (Addr × Obj)} {σ : St} {H : Hp} {s : Shared}
theorem Inv.lay2 {h' : Heap} {a d : Addr} {oa od : HO} {t' : Nat} (I : Inv X pins σ H s) (k : ∀ b u, s.heap.get? b = some u → h'.get? b = some u) (ha : s.heap.objs.size ≤ a) (hd : s.heap.objs.size ≤ d) (ne : d ≠ a)
    (na : ObjOk X.prog X.w (upd (upd H d od) a oa) h' a oa) (nd : ObjOk X.prog X.w (upd (upd H d od) a oa) h' d od) : Inv X pins σ (upd (upd H d od) a oa) { s with heap := h', toks := t' } := by
  have Ha : H a = none := I.hok.fresh ha
  have Hd : H d = none := I.hok.fresh hd
  have old : ∀ {b u}, s.heap.get? b = some u → b ≠ a ∧ b ≠ d := fun {b u} e => ⟨Nat.ne_of_lt (Nat.lt_of_lt_of_le (Heap.lt_size e) ha), Nat.ne_of_lt (Nat.lt_of_lt_of_le (Heap.lt_size e) hd)⟩
  have up : ∀ {b o}, H b = some o → upd (upd H d od) a oa b = some o := fun {b o} e => by rw [upd_ne (ne_of_none e Ha), upd_ne (ne_of_none e Hd)]; exact e
  refine I.un (h' := h') ⟨fun b o q _ _ _ => k b o q, fun b o q _ _ _ => ⟨o.slots, k b o q⟩, fun b o q n _ => by rw [upd_ne (old q).1, upd_ne (old q).2]; exact n, fun b o q _ => ⟨o, k b o q⟩,
    fun b xs q => up q, fun b o u q => up q, fun b ps q => ⟨#[], by rw [up q]; simp⟩⟩ fun b u e => ?_
  by_cases h1 : b = a
  · subst h1
    rw [upd_same] at e
    cases e
    exact na
  · by_cases h2 : b = d
    · subst h2
      rw [upd_ne h1, upd_same] at e
      cases e
      exact nd
    · rw [upd_ne h1, upd_ne h2] at e
      exact (I.hok b u e).stay (fun c v _ q => k c v q) (fun c q => up q) fun c xs q => up q
end

/-- the class at C is made with n values by position and those named ks: fsOf tells the fields that stand then -/
def Mkr (P : Program) (w : World) (K : PySem.W.Frag) (mg : Str → Option Value) (base : Heap) (C : Addr) (n : Nat) (ks : List Str) (fsOf : List V → List (Str × V)) : Prop :=
  ∀ (A : Around) (R : Result → Shared → Prop) (s : Shared) (us ws : List Value) (vs zs : List V), Vals vs us → Vals zs ws → vs.length = n → zs.length = ks.length → Mod K mg base → (∀ b o, base.get? b = some o → s.heap.get? b = some o) → A.depth + 1 < recursionLimit →
    (∀ h' tk e d m, ErMade s.heap h' e C d m → (∀ f, RelO ((fsOf (vs ++ zs)).lookup f) (m f)) → R (.ok (.ret (.ref e))) { s with heap := h', toks := tk }) → codeAny (model P w) A (.call (.ref C) ⟨us, ks.zip ws⟩) R s
section
variable {P : Program} {w : World} {K : PySem.W.Frag} {mg : Str → Option Value} {base : Heap} {C fI : Addr}
theorem relO1 {f : Str} {x : V} {u : Value} (r : RelV x u) (g : Str) : RelO ([(f, x)].lookup g) (if g = f then some u else none) := relO_put (fs := []) (mA := fun _ => none) r (fun _ => True.intro) g
/-- by position -/
theorem mkr1 {f txt : Str} {p : Nat → Pos} {pa pb : Pos} (T : ErrTxt P.main K C fI (ps1 f pa pb) (bd1 f txt p)) (FO : FldOk f) (hno : PySem.W.findIn K (.ref C) f = some none) (heq : SupEq txt (p 0) (p 1) (p 2) (p 3) (p 4)) :
    Mkr P w K mg base C 1 [] (fun vs => match vs with | [x] => [(f, x)] | _ => []) := fun A R s us ws vs zs r rz l1 l2 hM k0 hr hq => by
  cases rz with
  | cons _ _ => cases l2
  | nil =>
    cases r with
    | nil => cases l1
    | cons r rr =>
      cases rr with
      | cons _ _ => cases l1
      | nil =>
        rename_i x u
        refine made1 (v := u) (kw := []) T FO hno heq hM k0 hr (by show 1 ≤ sizeLine; rw [sizeLine_eq]; omega) (fun x s' qual body sc doc pm an cdv ct cc => .of_eq (FO.bi _ _ _ _ _ _ _ _ _ _ _ _ _)) fun h' tk e d M => hq h' tk e d _ M (relO1 r)
theorem mkr1k {f txt : Str} {p : Nat → Pos} {pa pb : Pos} (T : ErrTxt P.main K C fI (ps1 f pa pb) (bd1 f txt p)) (FO : FldOk f) (hno : PySem.W.findIn K (.ref C) f = some none) (heq : SupEq txt (p 0) (p 1) (p 2) (p 3) (p 4)) :
    Mkr P w K mg base C 0 [f] (fun vs => match vs with | [x] => [(f, x)] | _ => []) := fun A R s us ws vs zs r rz l1 l2 hM k0 hr hq => by
  cases r with
  | cons _ _ => cases l1
  | nil =>
    cases rz with
    | nil => cases l2
    | cons r rr =>
      cases rr with
      | cons _ _ => cases l2
      | nil =>
        rename_i x u
        refine made1 (v := u) (kw := [(f, u)]) T FO hno heq hM k0 hr (by show 0 ≤ sizeLine; omega) (fun x s' qual body sc doc pm an cdv ct cc => .of_eq (FO.bk _ _ _ _ _ _ _ _ _ _ _ _ _)) fun h' tk e d M => hq h' tk e d _ M (relO1 r)
theorem relO2 {f1 f2 : Str} {x y : V} {u v : Value} (r1 : RelV x u) (r2 : RelV y v) (g : Str) : RelO ([(f2, y), (f1, x)].lookup g) (if g = f2 then some v else if g = f1 then some u else none) := relO_put (fs := [(f1, x)]) r2 (relO1 r1) g
theorem mkr2 {f1 f2 txt : Str} {p : Nat → Pos} {pa pb pc : Pos} (T : ErrTxt P.main K C fI (ps2 f1 f2 pa pb pc) (bd2 f1 f2 txt p)) (FO : Fld2 f1 f2) (hno1 : PySem.W.findIn K (.ref C) f1 = some none) (hno2 : PySem.W.findIn K (.ref C) f2 = some none) (heq : SupEq txt (p 0) (p 1) (p 2) (p 3) (p 4)) :
    Mkr P w K mg base C 2 [] (fun vs => match vs with | [x, y] => [(f2, y), (f1, x)] | _ => []) := fun A R s us ws vs zs r rz l1 l2 hM k0 hr hq => by
  cases rz with
  | cons _ _ => cases l2
  | nil =>
    match vs, us, r, l1 with
    | [x, y], [u, v], .cons r1 (.cons r2 .nil), _ =>
      exact made2 (v1 := u) (v2 := v) (kw := []) T FO hno1 hno2 heq hM k0 hr (by show 2 ≤ sizeLine; rw [sizeLine_eq]; omega) (fun x s' qual body sc doc pm an cdv ct cc => .of_eq (FO.bi _ _ _ _ _ _ _ _ _ _ _ _ _ _ _)) fun h' tk e d M => hq h' tk e d _ M (relO2 r1 r2)
theorem mkr2k {f1 f2 txt : Str} {p : Nat → Pos} {pa pb pc : Pos} (T : ErrTxt P.main K C fI (ps2 f1 f2 pa pb pc) (bd2 f1 f2 txt p)) (FO : Fld2 f1 f2) (hno1 : PySem.W.findIn K (.ref C) f1 = some none) (hno2 : PySem.W.findIn K (.ref C) f2 = some none) (heq : SupEq txt (p 0) (p 1) (p 2) (p 3) (p 4)) :
    Mkr P w K mg base C 0 [f2, f1] (fun vs => match vs with | [y, x] => [(f2, y), (f1, x)] | _ => []) := fun A R s us ws vs zs r rz l1 l2 hM k0 hr hq => by
  cases r with
  | cons _ _ => cases l1
  | nil =>
    match zs, ws, rz, l2 with
    | [y, x], [v, u], .cons r2 (.cons r1 .nil), _ =>
      exact made2 (v1 := u) (v2 := v) (kw := [(f2, v), (f1, u)]) T FO hno1 hno2 heq hM k0 hr (by show 0 ≤ sizeLine; omega) (fun x s' qual body sc doc pm an cdv ct cc => .of_eq (FO.bk _ _ _ _ _ _ _ _ _ _ _ _ _ _ _)) fun h' tk e d M => hq h' tk e d _ M (relO2 r1 r2)
end

/-! ### such a class called -/
/-- C(..): a new error at a, its dict at d -/
def tMkE (C : Addr) (n m : Nat) (fsOf : List V → List (Str × V)) (t tk : TA) : TE := fun σ H Q => t σ H fun vs H1 => tk σ H1 fun zs H2 => vs.length = n ∧ zs.length = m ∧
  ∀ a d, H2 a = none → H2 d = none → d ≠ a → Q (.ref a) (upd (upd H2 d (exd d (fsOf (vs ++ zs)))) a (exo a C (some d)))
section
variable {X : Cx} {C : Addr} {n : Nat} {ks : List Str} {fsOf : List V → List (Str × V)} {x : Str} {p pos : Pos} {e : Expr} {es : List Expr} {kws : List Keyword} {t tk : TA} {k : Nat}
theorem run_mkr {pins : List (Addr × Obj)} {σ : St} {H : Hp} {s : Shared} {Q : VK} {us ws : List Value} {vs zs : List V} {E : Value → Shared → Prop} (M : Mkr X.prog X.w X.K X.mg X.base C n ks fsOf) (hr : Room (k + 1) X.A) (I : Inv X pins σ H s) (r : Vals vs us) (rz : Vals zs ws)
    (l1 : vs.length = n) (l2 : zs.length = ks.length) (h : ∀ a d, H a = none → H d = none → d ≠ a → Q (.ref a) (upd (upd H d (exd d (fsOf (vs ++ zs)))) a (exo a C (some d)))) :
    wpAny (model X.prog X.w) X.A (call (.ref C) us (ks.zip ws)) (EP X pins σ Q) E s := by
  refine wpAny_call (M X.A _ s us ws vs zs r rz l1 l2 I.ok.mod I.bk (by have := hr.dp; omega) fun h' tk a d m R hm => ?_)
  obtain ⟨t1, ho⟩ := R.obj
  exact ⟨.ref a, _, I.lay2 R.keep R.new R.dbig R.dne (exo_ok ho) (exd_ok R.ns hm), rfl, h a d (I.hok.fresh R.new) (I.hok.fresh R.dbig) R.dne⟩
theorem pe_mkr (M : Mkr X.prog X.w X.K X.mg X.base C n [] fsOf) (hr : Room (k + 1) X.A) (hg : Gl X x) (hm : X.mg x = some (.ref C)) (hk : PySem.W.keepIn X.K (.ref C) = true) (ha : PA X (e :: es) t)
    (hdb : (x == ("__debug__" : Str)) = false := by decide) (he : starEach (e :: es) X.env = (false, eval e X.env) :: starEach es X.env := by rfl) (hpl : (backTo pos (starEach es X.env)).any (·.1) = false := by rfl) :
    PE X (.Call (.Name x p) (e :: es) [] pos) (tMkE C n 0 fsOf t tNil) := by
  refine ⟨fun pins s σ H Q I h => ?_⟩
  refine wpAny_Call_Name_kw (ld_glob I hg hm ?_ hdb)
  refine PySem.W.callWith_K (h₀ := X.base) I.ok.mod.kin hk (thn (ha.run pos pins s σ H _ I h) fun us s1 ⟨vs, H1, I1, r, l1, _, q⟩ => ⟨I1.kIn, ?_⟩) he hpl
  exact run_mkr (ws := []) (zs := []) M hr I1 r .nil l1 rfl q
theorem pe_mkrK (M : Mkr X.prog X.w X.K X.mg X.base C 0 ks fsOf) (hr : Room (k + 1) X.A) (hg : Gl X x) (hm : X.mg x = some (.ref C)) (hk : PySem.W.keepIn X.K (.ref C) = true) (hkw : PK X kws tk)
    (hall : (backToKw pos (keywordEach kws X.env)).all (·.1.isSome) = true := by rfl) (hks : (backToKw pos (keywordEach kws X.env)).filterMap (·.1) = ks := by rfl) (hdb : (x == ("__debug__" : Str)) = false := by decide)
    (hpl : ((backTo pos (starEach [] X.env)).any (·.1) || (backToKw pos (keywordEach kws X.env)).any (·.1.isNone)) = false := by rfl) :
    PE X (.Call (.Name x p) [] kws pos) (tMkE C 0 ks.length fsOf tNil tk) := by
  refine ⟨fun pins s σ H Q I h => ?_⟩
  refine wpAny_Call_Name_kw (ld_glob I hg hm ?_ hdb)
  refine PySem.W.callWith_KW0 (h₀ := X.base) I.ok.mod.kin hk hall ?_ hpl
  refine thn (hkw.run pos pins s σ H _ I h) fun ws s2 ⟨zs, H2, I2, rz, _, l2, q2⟩ => ⟨I2.kIn, ?_⟩
  rw [hks]
  exact run_mkr (us := []) (vs := []) M hr I2 .nil rz rfl l2 q2
end

/-! ### its fields -/
/-- at a: an object of the class at C with its dict at d (an error that flew has other fields) -/
def exl (a C d : Addr) : HO := .ext fun h => ∃ o vs, h.get? a = some o ∧ o.cls = .ref C ∧ o.dict = some d ∧ o.data = .fields vs
theorem exl_ok {P : Program} {w : World} {H : Hp} {h : Heap} {a C d : Addr} {o : Obj} {vs : Array Value} (e : h.get? a = some o) (hc : o.cls = .ref C) (hd : o.dict = some d) (hv : o.data = .fields vs) : ObjOk P w H h a (exl a C d) :=
  ⟨⟨o, vs, e, hc, hd, hv⟩, ⟨o, e⟩, fun h1 h2 z k => by
    obtain ⟨o, vs, q, r⟩ := z
    exact ⟨o, vs, k _ q, r⟩⟩
/-- at a (read): an error of the class at C with the fields fs -/
def ErAt (H : Hp) (a C : Addr) (fs : List (Str × V)) : Prop := ∃ d, (Rd H a (exo a C (some d)) ∨ Rd H a (exl a C d)) ∧ (H d = some (exd d fs) ∨ H d = some (.xd fs))
theorem ErAt.look {X : Cx} {pins : List (Addr × Obj)} {σ : St} {H : Hp} {s : Shared} {a C : Addr} {fs : List (Str × V)} (I : Inv X pins σ H s) (e : ErAt H a C fs) :
    ∃ ox od, PySem.W.InstAt s.heap a ox C (some od) ∧ ∃ m : Str → Option Value, (∀ n, PySem.W.lookIn n od = some (m n)) ∧ ∀ f, RelO (fs.lookup f) (m f) := by
  obtain ⟨d, ha, hd⟩ := e
  have oa : ∃ o vs, s.heap.get? a = some o ∧ o.cls = .ref C ∧ o.dict = some d ∧ o.data = .fields vs := by
    rcases ha with ha | ha
    · have oa : ObjOk X.prog X.w H s.heap a (exo a C (some d)) := ha.ok I.hok
      have oa' : ObjOk X.prog X.w H s.heap a (.ext fun h => ∃ t1 : Addr, h.get? a = some ({ cls := .ref C, dict := some d, data := .fields #[.ref t1, .none, .none, .none, .bool false, .none] } : Obj)) := oa
      obtain ⟨t1, hx⟩ := oa'.1
      exact ⟨_, _, hx, rfl, rfl, rfl⟩
    · have oa : ObjOk X.prog X.w H s.heap a (exl a C d) := ha.ok I.hok
      have oa' : ObjOk X.prog X.w H s.heap a (.ext fun h => ∃ o vs, h.get? a = some o ∧ o.cls = .ref C ∧ o.dict = some d ∧ o.data = .fields vs) := oa
      exact oa'.1
  obtain ⟨ox, vs, hx, hc, hdd, hv⟩ := oa
  have od : ∃ mA, s.heap.Ns1 d mA ∧ ∀ f, RelO (fs.lookup f) (mA f) := by
    rcases hd with hd | hd
    · exact exd_at I.hok hd
    · exact I.hok d _ hd
  obtain ⟨mA, hn, hr⟩ := od
  obtain ⟨o, ho, hl⟩ := lookIn_ns hn
  exact ⟨ox, o, ⟨hx, hc, by unfold PySem.W.notCls; rw [hv] <;> rfl, by rw [hdd]; exact ho⟩, mA, hl, hr⟩
/-- e.f -/
def tEf (C : Addr) (f : Str) (te : TE) : TE := fun σ H Q => te σ H fun x H1 => ∃ a fs v, x = .ref a ∧ ErAt H1 a C fs ∧ fs.lookup f = some v ∧ Q v H1
section
variable {X : Cx}
theorem pe_ef {e : Expr} {te : TE} {pos : Pos} {n : Str} (he : PE X e te) (hb : attributeBase e n X.env (eval e X.env) = eval e X.env := by rfl) :
    PE X (.Attribute e n pos) (fun σ H Q => te σ H fun x H1 => ∃ a C fs v, x = .ref a ∧ XfC X.K C ∧ PySem.W.findIn X.K (.ref C) n = some none ∧ ErAt H1 a C fs ∧ fs.lookup n = some v ∧ Q v H1) := by
  refine ⟨fun pins s σ H Q I h => ?_⟩
  refine attr_of hb (thn (he.run pins s σ H _ I h) fun u s1 hh => ?_)
  obtain ⟨x, H1, I1, rx, a, C, fs, v, rfl, T, hno, ea, l, q⟩ := hh
  obtain rfl : u = Value.ref a := rx
  obtain ⟨ox, od, J, m, hl, hr⟩ := ea.look I1
  obtain ⟨u, hu, ru⟩ := RelO.some_of (v := v) (o := m n) (by rw [← l]; exact hr n)
  exact HandSPX.exc_get I1.kIn J T.ga T.gg T.exC (PySem.W.findObj_own T.hdC hno rfl (by rw [hl, hu])) (handed_of ru) ⟨v, H1, I1.tok _, ru, q⟩
/-- at a: an error of the class at D, with a dict or (not stored to) without -/
def ErI (H : Hp) (a D : Addr) : Prop := (∃ fs, ErAt H a D fs) ∨ H a = some (exo a D none)
theorem ErI.look {pins : List (Addr × Obj)} {σ : St} {H : Hp} {s : Shared} {a D : Addr} (I : Inv X pins σ H s) (e : ErI H a D) : ∃ ox od, PySem.W.InstAt s.heap a ox D od := by
  rcases e with ⟨fs, e⟩ | e
  · obtain ⟨ox, od, J, _⟩ := e.look I
    exact ⟨ox, some od, J⟩
  · obtain ⟨t1, hx⟩ := exo_at I.hok e
    exact ⟨_, none, ⟨hx, rfl, rfl, trivial⟩⟩
/-- isinstance(e, c) -/
def rIsErr (K : PySem.W.Frag) : List V → Hp → VK → Prop := fun xs H Q => ∃ (a D : Addr) (c : V) (cv : Value) (b : Bool), xs = [.ref a, c] ∧ ExcC K D ∧ ErI H a D ∧ (∀ u, RelV c u → u = cv) ∧ PySem.W.kitOne K (.ref D) cv = some b ∧ Q (.bl b) H
theorem call_isErr : CallR X (.builtin "isinstance") (rIsErr X.K) := by
  intro pins s σ H xs us Q I r h
  obtain ⟨a, D, c, cv, b, rfl, C, ea, hcv, e, q⟩ := h
  cases r with
  | cons rx rr =>
    cases rr with
    | cons rt rr =>
      cases rr
      cases rx
      have ec := hcv _ rt
      subst ec
      obtain ⟨ox, od, J⟩ := ea.look I
      have hcl : (PySem.W.clsIn X.K D).isSome = true := by
        obtain ⟨cd, hc, _⟩ := PySem.W.any_some C.hd
        rw [hc]; rfl
      exact PySem.W.kia_one (PySem.W.kitx_exc hcl C.hg C.hk C.hs C.ha C.hn C.ht C.hm) I.kIn J e (fun z => nomatch z) fun tk => ⟨.bl b, H, I.kept (t' := tk) fun _ _ z => z, rfl, q⟩
/-- .. of the error that a suite holds -/
def rIsHeld (K : PySem.W.Frag) (a : Addr) (cls : Value) (d : Option Addr) : List V → Hp → VK → Prop := fun xs H Q => ∃ (D dd : Addr) (c : V) (cv : Value) (b : Bool) (fs : List (Str × V)), cls = .ref D ∧ d = some dd ∧ ExcC K D ∧ xs = [.ref a, c] ∧ H dd = some (.xd fs) ∧ (∀ u, RelV c u → u = cv) ∧ PySem.W.kitOne K (.ref D) cv = some b ∧ Q (.bl b) H
theorem call_isHeld {a : Addr} {cls : Value} {d : Option Addr} {oe : Obj} {pn : List (Addr × Obj)} (hz : Zc cls d oe) (hf : ∃ vs, oe.data = .fields vs) : CallR (X.suite a ((a, oe) :: pn)) (.builtin "isinstance") (rIsHeld X.K a cls d) := by
  intro pins s σ H xs us Q I r h
  obtain ⟨D, dd, c, cv, b, fs, rfl, rfl, C, rfl, hd, hcv, e, q⟩ := h
  cases r with
  | cons rx rr =>
    cases rr with
    | cons rt rr =>
      cases rr
      cases rx
      have ec := hcv _ rt
      subst ec
      obtain ⟨hat, _⟩ := I.pin (a, oe) (List.mem_append.mpr (.inl List.mem_cons_self))
      obtain ⟨vs, hv⟩ := hf
      obtain ⟨mA, hn, _⟩ : ∃ mA, s.heap.Ns1 dd mA ∧ ∀ f, RelO (fs.lookup f) (mA f) := I.hok dd _ hd
      obtain ⟨od, ho, _⟩ := lookIn_ns hn
      have J : PySem.W.InstAt s.heap a oe D (some od) := ⟨hat, hz.1, by unfold PySem.W.notCls; rw [hv] <;> rfl, by rw [hz.2]; exact ho⟩
      have hcl : (PySem.W.clsIn X.K D).isSome = true := by
        obtain ⟨cd, hc, _⟩ := PySem.W.any_some C.hd
        rw [hc]; rfl
      exact PySem.W.kia_one (PySem.W.kitx_exc hcl C.hg C.hk C.hs C.ha C.hn C.ht C.hm) I.kIn J e (fun z => nomatch z) fun tk => ⟨.bl b, H, I.kept (t' := tk) fun _ _ z => z, rfl, q⟩
end
end L2

namespace PySem.ErrX
open PySem PySem.W
theorem fo_given : FldOk (Str.ofString "given") := ⟨rfl, rfl, rfl, rfl, by decide +kernel, by decide +kernel, by decide +kernel, fun _ _ _ _ _ _ _ _ _ _ _ _ _ => rfl, fun _ _ _ _ _ _ _ _ _ _ _ _ _ => rfl⟩
theorem fo_index : FldOk (Str.ofString "index") := ⟨rfl, rfl, rfl, rfl, by decide +kernel, by decide +kernel, by decide +kernel, fun _ _ _ _ _ _ _ _ _ _ _ _ _ => rfl, fun _ _ _ _ _ _ _ _ _ _ _ _ _ => rfl⟩
theorem fo_text : Fld2 (Str.ofString "line") (Str.ofString "column") := ⟨fun _ _ _ _ _ _ _ _ _ _ _ _ _ _ _ => rfl, fun _ _ _ _ _ _ _ _ _ _ _ _ _ _ _ => rfl, rfl, rfl, rfl, rfl, rfl, by decide +kernel, by decide +kernel, by decide +kernel, by decide +kernel, by decide +kernel, by decide +kernel⟩
end PySem.ErrX
namespace L2
open PySem PySem.Spec PyProof.Rows PySem.ErrX
/-! ### such an error raised -/
section
variable {X : Cx} {C : Addr} {n : Nat} {ks : List Str} {fsOf : List V → List (Str × V)} {x : Str} {p pos : Pos} {e : Expr} {es : List Expr} {kws : List Keyword} {t tk : TA} {k : Nat}
theorem mkp_of {pins : List (Addr × Obj)} {σ : St} {H : Hp} {Q : XK} {hp h' : Heap} {g : Array GenState} {dr : Drawn} {t1 t2 : Nat} {os : OsState} {a d : Addr} {m : Str → Option Value} {fs : List (Str × V)} (I : Inv X pins σ H ⟨hp, g, dr, t1, os⟩) (M : ErMade hp h' a C d m)
    (hr : Raises X (.ref C)) (hm : ∀ f, RelO (fs.lookup f) (m f)) (q : ∀ d, H d = none → Q (.ref C) (some d) (upd H d (.xd fs))) : MkP X pins σ Q (.ref a) ⟨h', g, dr, t2, os⟩ := by
  obtain ⟨u, ho⟩ := M.obj
  have hns := M.ns
  obtain ⟨G, g1, g2⟩ := restrict h' fun b => decide (b ≠ a)
  have gk : ∀ b, b ≠ a → G.get? b = h'.get? b := fun b hb => g1 b (decide_eq_true hb)
  have ge : G.get? a = none := g2 a (by simp)
  have old : ∀ b o, hp.get? b = some o → G.get? b = some o := fun b o q => (gk b (Nat.ne_of_lt (Nat.lt_of_lt_of_le (Heap.lt_size q) M.new))).trans (M.keep b o q)
  have ob : ObjOk X.prog X.w (upd H d (.xd fs)) G d (.xd fs) := ⟨_, hns.at (fun o q => (gk d M.dne).trans q), hm⟩
  have J : Inv X pins σ (upd H d (.xd fs)) ⟨G, g, dr, t2, os⟩ := I.laid (t' := t2) old M.dbig ob
  refine ⟨a, _, _, ⟨G, g, dr, t2, os⟩, _, .ref C, some d, rfl, J, fun b o q => ?_, ge, ho, ⟨rfl, rfl⟩, rfl, rfl, ?_, rfl, I.bare, hr, q d (I.hok.fresh M.dbig)⟩
  · by_cases hb : b = a
    · have q' : G.get? b = some o := q
      rw [hb, ge] at q'; cases q'
    · exact (gk b hb).symm.trans q
  · rw [upd_ne (Ne.symm M.dne)]
    exact I.hok.fresh M.new
/-- C(..) to be raised -/
def tMkX (C : Addr) (n m : Nat) (fsOf : List V → List (Str × V)) (t tk : TA) : St → Hp → XK → Prop := fun σ H Q => t σ H fun vs H1 => tk σ H1 fun zs H2 => vs.length = n ∧ zs.length = m ∧
  ∀ d, H2 d = none → Q (.ref C) (some d) (upd H2 d (.xd (fsOf (vs ++ zs))))
theorem pmk_mkr (M : Mkr X.prog X.w X.K X.mg X.base C n [] fsOf) (hR : Raises X (.ref C)) (hr : Room (k + 1) X.A) (hg : Gl X x) (hm : X.mg x = some (.ref C)) (hk : PySem.W.keepIn X.K (.ref C) = true) (ha : PA X (e :: es) t)
    (hdb : (x == ("__debug__" : Str)) = false := by decide) (he : starEach (e :: es) X.env = (false, eval e X.env) :: starEach es X.env := by rfl) (hpl : (backTo pos (starEach es X.env)).any (·.1) = false := by rfl) :
    PMk X (.Call (.Name x p) (e :: es) [] pos) (tMkX C n 0 fsOf t tNil) := by
  intro pins s σ H Q I h
  refine wpAny_Call_Name_kw (ld_glob I hg hm ?_ hdb)
  refine PySem.W.callWith_K (h₀ := X.base) I.ok.mod.kin hk (thn (ha.run pos pins s σ H _ I h) fun us s1 ⟨vs, H1, I1, r, l1, _, q⟩ => ⟨I1.kIn, ?_⟩) he hpl
  show wpAny _ _ (call (.ref C) us ([].zip [])) _ _ _
  refine wpAny_call (M X.A _ s1 us [] vs [] r .nil l1 rfl I1.ok.mod I1.bk (by have := hr.dp; omega) fun h' tk a d m R hm => ?_)
  obtain ⟨hp, g, dr, t1, os⟩ := s1
  exact mkp_of I1 R hR hm q
theorem pmk_mkrK (M : Mkr X.prog X.w X.K X.mg X.base C 0 ks fsOf) (hR : Raises X (.ref C)) (hr : Room (k + 1) X.A) (hg : Gl X x) (hm : X.mg x = some (.ref C)) (hk : PySem.W.keepIn X.K (.ref C) = true) (hkw : PK X kws tk)
    (hall : (backToKw pos (keywordEach kws X.env)).all (·.1.isSome) = true := by rfl) (hks : (backToKw pos (keywordEach kws X.env)).filterMap (·.1) = ks := by rfl) (hdb : (x == ("__debug__" : Str)) = false := by decide)
    (hpl : ((backTo pos (starEach [] X.env)).any (·.1) || (backToKw pos (keywordEach kws X.env)).any (·.1.isNone)) = false := by rfl) :
    PMk X (.Call (.Name x p) [] kws pos) (tMkX C 0 ks.length fsOf tNil tk) := by
  intro pins s σ H Q I h
  refine wpAny_Call_Name_kw (ld_glob I hg hm ?_ hdb)
  refine PySem.W.callWith_KW0 (h₀ := X.base) I.ok.mod.kin hk hall ?_ hpl
  refine thn (hkw.run pos pins s σ H _ I h) fun ws s2 ⟨zs, H2, I2, rz, _, l2, q2⟩ => ⟨I2.kIn, ?_⟩
  rw [hks]
  refine wpAny_call (M X.A _ s2 [] ws [] zs .nil rz rfl l2 I2.ok.mod I2.bk (by have := hr.dp; omega) fun h' tk a d m R hm => ?_)
  obtain ⟨hp, g, dr, t1, os⟩ := s2
  exact mkp_of I2 R hR hm q2
end
end L2

namespace L2
open PySem PySem.Spec PyProof.Rows PySem.ErrX
/-! ### several except clauses, some with a name -/
abbrev Su := Addr → Value → Option Addr → TS
/-- what the clauses wish, one after the other; a named one has its slot -/
def wMix (K : PySem.W.Frag) (D : Ends) : List (Value × Option Nat × Su) → WX
  | [] => fun _ _ _ _ => False
  | (c, none, ts) :: r => fun cls d σ H => ∃ b, PySem.W.exmOne K cls c = some b ∧ (b = true → ∀ a, H a = none → ts a cls d D σ H) ∧ (b = false → wMix K D r cls d σ H)
  | (c, some i, ts) :: r => fun cls d σ H => ∃ b, PySem.W.exmOne K cls c = some b ∧
      (b = true → ∀ a, H a = none → ts a cls d { nx := fun σ' H' => D.nx (σ'.set i none) H', rt := D.rt, bk := fun σ' H' => D.bk (σ'.set i none) H', ct := fun σ' H' => D.ct (σ'.set i none) H' } (σ.set i (some (.ref a))) H) ∧ (b = false → wMix K D r cls d σ H)
inductive HdsMix (X : Cx) : List ExceptHandler → List (Value × Option Nat × Su) → Prop
  | nil : HdsMix X [] []
  | cons {x : Str} {c : Value} {ts : Su} {b₀ : Stmt} {suite : List Stmt} {np pos' : Pos} {hds : List ExceptHandler} {l : List (Value × Option Nat × Su)} (hc : Names X x c)
      (hsu : ∀ (a : Addr) (oe : Obj) (cls : Value) (d : Option Addr) (pn : List (Addr × Obj)), Zc cls d oe → (∃ vs, oe.data = .fields vs) → X.base.get? a = none → PSs (X.suite a ((a, oe) :: pn)) (b₀ :: suite) (ts a cls d)) (r : HdsMix X hds l) :
      HdsMix X (.ExceptHandler (some (.Name x np)) none (b₀ :: suite) pos' :: hds) ((c, none, ts) :: l)
  | named {x n : Str} {i : Nat} {c : Value} {ts : Su} {b₀ : Stmt} {suite : List Stmt} {np pos' : Pos} {hds : List ExceptHandler} {l : List (Value × Option Nat × Su)} (hc : Names X x c) (hi : X.N[i]? = some n) (hln : X.env.kindOf n = some .local)
      (hsu : ∀ (a : Addr) (oe : Obj) (cls : Value) (d : Option Addr) (pn : List (Addr × Obj)), Zc cls d oe → (∃ vs, oe.data = .fields vs) → X.base.get? a = none → PSs (X.suite a ((a, oe) :: pn)) (b₀ :: suite) (ts a cls d)) (r : HdsMix X hds l) :
      HdsMix X (.ExceptHandler (some (.Name x np)) (some n) (b₀ :: suite) pos' :: hds) ((c, some i, ts) :: l)
section
variable {X : Cx} {body : List Stmt} {h₀ : ExceptHandler} {hds : List ExceptHandler} {l : List (Value × Option Nat × Su)} {pos : Pos} {tb : WX → TS}
theorem ps_try_mix (hs : X.stack = X.env :: X.outer) (hf : X.env.frame = some X.env.locals) (hN : X.N.Nodup)
    (hb : ∀ (W : WX) (pn : List (Addr × Obj)) (xe : Value → Shared → Prop), Takes (X.tr pn xe) W → PassesOwn (model X.prog X.w) X.A X.env xe → PSs (X.tr pn xe) body (tb W))
    (hh : HdsMix X (h₀ :: hds) l) : PS X (.Try body (h₀ :: hds) [] [] pos) (fun D σ H => tb (wMix X.K D l) D σ H) := by
  refine ⟨fun pins s σ H D I h => ?_⟩
  have ok := I.ok
  have fr : X.A.frames = some (X.env :: X.outer) := ok.frames.trans (congrArg some hs)
  refine wpAny_Try_except ?_
  have caught : ∀ u s', XE (X.tr (X.pn ++ pins) (fun e s₁ => wpAny (model X.prog X.w) X.A (noteFrame e X.env) (fun _ s₂ => wpAny (model X.prog X.w) X.A (setFlight e none) (fun _ s₃ => wpAny (model X.prog X.w) X.A (handleBy e X.env (h₀ :: hds)) (SP X pins D) X.xe s₃) X.xe s₂) X.xe s₁)) (wMix X.K D l) u s' →
      wpAny (model X.prog X.w) X.A (noteFrame u X.env) (fun _ s₂ => wpAny (model X.prog X.w) X.A (setFlight u none) (fun _ s₃ => wpAny (model X.prog X.w) X.A (handleBy u X.env (h₀ :: hds)) (SP X pins D) X.xe s₃) X.xe s₂) X.xe s' := by
    rintro u s' ⟨a, B, sI, _, σ', H', cls, d, rfl, J', nb, up, sky, na, os, ag, wish⟩
    have J : Inv X pins σ' H' sI := J'.ofTry ok
    have sky' : Sky B (X.env :: X.outer) a (Zc cls d) X.env.locals s'.heap := hs ▸ sky
    refine Sky.land Zc.steady fr hf sky' fun h3 fl3 up3 => ?_
    have J3 : Inv X pins σ' H' { s' with heap := h3 } := J.landed nb fl3.1 (up.trans up3) os ag
    obtain ⟨oe3, vs3, he3, hz3, hd3⟩ := fl3.there
    have off : a ∉ frs (X.env :: X.outer) := fun hm => by
      obtain ⟨_, o', e', no⟩ := fl3.2.2.1.mem hm
      cases he3.symm.trans e'
      exact no _ hd3
    have nL : a ≠ X.env.locals := fun z => off (List.mem_filterMap.mpr ⟨X.env, List.mem_cons_self, by rw [hf, z]⟩)
    have nF : a ∉ X.fs := fun hm => by
      obtain ⟨e, he, q⟩ := List.mem_filterMap.mp hm
      exact off (List.mem_filterMap.mpr ⟨e, List.mem_cons_of_mem _ he, q⟩)
    have nB : X.base.get? a = none := by
      cases q : X.base.get? a with
      | none => rfl
      | some o =>
        have z := nb a o (J.bk a o q) fun hm => by
          have y := (J.stack.mem hm).1
          rw [q] at y
          cases y
        rw [fl3.2.1] at z
        cases z
    have S3 := J3.suite he3 hd3 na nL nF
    have LT : PySem.W.Looks (model X.prog X.w) h3 (typeOf (.ref a)) cls := fun A Q E s k q => wpAny_typeOf_ref (k _ _ he3) (by rw [hz3.1]; exact q)
    have asked : ∀ {x : Str} {c : Value} {np : Pos} {Q : Value → Shared → Prop} {E : Value → Shared → Prop}, Names X x c → Q c { s' with heap := h3 } → wpAny (model X.prog X.w) (X.A.mark (some (.ref a))) (eval (.Name x np) X.env) Q E { s' with heap := h3 } := fun {x c np Q E} hc q => by
      obtain ⟨hg, hdbg, hm | ⟨hm, hv, hnn⟩⟩ := hc
      · exact ld_glob (X := X.suite a ((a, oe3) :: (X.pn ++ pins))) S3 hg hm q hdbg
      · exact ld_blt (X := X.suite a ((a, oe3) :: (X.pn ++ pins))) S3 hg hm hv q hnn hdbg
    have fourth : ∀ {h4 : Heap}, HandSPX.FlyingZ B (X.env :: X.outer) a (Zc cls d) h4 → h3.UpToSlots h4 → ∃ oe4, Zc cls d oe4 ∧ (∃ vs, oe4.data = .fields vs) ∧ Inv (X.suite a ((a, oe4) :: (X.pn ++ pins))) [] σ' H' { s' with heap := h4 } := fun {h4} fl4 up4 => by
      have J4 : Inv X pins σ' H' { s' with heap := h4 } := J.landed nb fl4.1 ((up.trans up3).trans up4) os ag
      obtain ⟨oe4, vs4, he4, hz4, hd4⟩ := fl4.there
      exact ⟨oe4, hz4, ⟨_, hd4⟩, J4.suite he4 hd4 na nL nF⟩
    have go : ∀ {hds' : List ExceptHandler} {l' : List (Value × Option Nat × Su)}, HdsMix X hds' l' → wMix X.K D l' cls d σ' H' → wpAny (model X.prog X.w) X.A (handleBy (.ref a) X.env hds') (SP X pins D) X.xe { s' with heap := h3 } := by
      intro hds' l' hk
      induction hk with
      | nil => exact fun z => z.elim
      | @cons x c ts b₀ suite np pos' hds2 l2 hc hsu r ih =>
        rintro ⟨b, hb1, hyes, hno⟩
        refine wpAny_handleBy_cons (codeAny_handlers_test ?_) (by intro q; cases q)
        refine asked hc ((PySem.W.exm_one (M := model X.prog X.w) J3.kIn LT hb1).here ?_)
        cases b with
        | false => exact ih (hno rfl)
        | true =>
          refine codeAny_handlers_suite (HandSPX.lands_againZ fl3 fun h4 fl4 up4 => ?_)
          obtain ⟨oe4, hz4, hd4, S4⟩ := fourth fl4 up4
          refine wpAny_mono ((hsu a oe4 cls d (X.pn ++ pins) hz4 hd4 nB).run [] _ _ H' _ S4 (hyes rfl a na)) (fun f s6 hsp => ?_) (fun _ _ z => False.elim z)
          match f, hsp with
          | .next, ⟨_, _, S6, q6⟩ => exact ⟨_, _, S6.unsuite ok, q6⟩
          | .brk, ⟨_, _, S6, q6⟩ => exact ⟨_, _, S6.unsuite ok, q6⟩
          | .cont, ⟨_, _, S6, q6⟩ => exact ⟨_, _, S6.unsuite ok, q6⟩
          | .ret u, ⟨_, _, _, S6, r6, q6⟩ => exact ⟨_, _, _, S6.unsuite ok, r6, q6⟩
      | @named x n i c ts b₀ suite np pos' hds2 l2 hc hi hln hsu r ih =>
        rintro ⟨b, hb1, hyes, hno⟩
        refine wpAny_handleBy_cons (codeAny_handlers_test ?_) (by intro q; cases q)
        refine asked hc ((PySem.W.exm_one (M := model X.prog X.w) J3.kIn LT hb1).here ?_)
        cases b with
        | false => exact ih (hno rfl)
        | true =>
          refine codeAny_handlers_suite_as (HandSPX.lands_againZ fl3 fun h4 fl4 up4 => ?_)
          obtain ⟨oe4, hz4, hd4, S4⟩ := fourth fl4 up4
          refine store_ok (X := X.suite a ((a, oe4) :: (X.pn ++ pins))) (v := .ref a) S4 hN hi (.inl hln) rfl (fun s5 S5 => ?_) (.inr hln)
          refine wpAny_mono ((hsu a oe4 cls d (X.pn ++ pins) hz4 hd4 nB).run [] s5 _ H' _ S5 (hyes rfl a na)) (fun f s6 hsp => ?_) (fun _ _ z => False.elim z)
          match f, hsp with
          | .next, ⟨_, _, S6, q6⟩ => exact gone_ok (S6.unsuite ok) hN hi hln fun s7 J7 => ⟨_, _, J7, q6⟩
          | .brk, ⟨_, _, S6, q6⟩ => exact gone_ok (S6.unsuite ok) hN hi hln fun s7 J7 => ⟨_, _, J7, q6⟩
          | .cont, ⟨_, _, S6, q6⟩ => exact gone_ok (S6.unsuite ok) hN hi hln fun s7 J7 => ⟨_, _, J7, q6⟩
          | .ret u, ⟨_, _, _, S6, r6, q6⟩ => exact gone_ok (S6.unsuite ok) hN hi hln fun s7 J7 => ⟨_, _, _, J7, r6, q6⟩
    exact go hh wish
  refine wpAny_mono ((hb (wMix X.K D l) (X.pn ++ pins) _ caught PassesOwn.looking).run [] s σ H D (I.toTry _) h) (fun f s1 hsp => ?_) (fun e s1 he => he)
  match f, hsp with
  | .next, ⟨σ', H', J', q⟩ => exact wpAny_execs_nil ⟨σ', H', J'.ofTry ok, q⟩
  | .brk, ⟨σ', H', J', q⟩ => exact ⟨σ', H', J'.ofTry ok, q⟩
  | .cont, ⟨σ', H', J', q⟩ => exact ⟨σ', H', J'.ofTry ok, q⟩
  | .ret u, ⟨v, σ', H', J', r, q⟩ => exact ⟨v, σ', H', J'.ofTry ok, r, q⟩
end
end L2

namespace L2
open PySem PySem.Spec PyProof.Rows
/-! ### a def's promise where the state around (A) keeps a wish Z of one's own; nothing is raised -/
structure FnZ (Z : Around → Prop) (P : Program) (w : World) (K : PySem.W.Frag) (mg : Str → Option Value) (base : Heap) (f : Addr) (fd : FuncData) (ps : List Str) (sp : Sp) : Prop where
  len : ∀ vs H Q E, sp vs H Q E → vs.length = ps.length
  run : ∀ (A : Around) (outer : List Env) (s : Shared) (H : Hp) (args : Args) (us : List Value) (vs : List V) (Q : VK), Z A → Env0 P w K mg base A outer s H → BindsTo s fd args (ps.zip us) → Vals vs us → sp vs H Q E0 →
    codeAny (model P w) A (.call (.ref f) args) (CR CX0 outer P w H s Q E0) s
theorem FnOk.toZ {P : Program} {w : World} {K : PySem.W.Frag} {mg : Str → Option Value} {base : Heap} {k : Nat} {f : Addr} {fd : FuncData} {ps : List Str} {sp : Sp} {Z : Around → Prop} (F : FnOk P w K mg base CX0 k f fd ps sp) (h : ∀ A, Z A → Room k A) : FnZ Z P w K mg base f fd ps sp :=
  ⟨F.len, fun A outer s H args us vs Q z e b r q => F.run A outer s H args us vs Q E0 (h A z) e b r q⟩
/-- a def's body, calm or not -/
theorem Fun.okZ {Z : Around → Prop} (b : Bool) {P : Program} {w : World} {K : PySem.W.Frag} {mg : Str → Option Value} {base : Heap} {x qual : Str} {st : Stmt} {f : Addr} {fd : FuncData} {N ps : List Str} {sp : Sp} (F : Fun K x qual st f fd) (S : FnScope N ps (defScope st))
    (hZ : ∀ A, Z A → A.depth < recursionLimit) (hC : b = true → ∀ A, Z A → A.handled = none) (len : ∀ vs H Q E, sp vs H Q E → vs.length = ps.length)
    (hbody : ∀ (cdv : Value) (A : Around) (outer : List Env) (s : Shared) (H : Hp) (vs : List V) (Q : VK), Z A → sp vs H Q E0 →
      ∃ t, PSs ({ cxOf CX0 P w K mg base N qual (defScope st) f cdv A outer s H E0 with calm := b } : Cx).nox (defBody st) t ∧ t { nx := fun _ H' => Q .non H', rt := Q } (start N vs) H) : FnZ Z P w K mg base f fd ps sp := by
  obtain ⟨oc, od, kV, doc, pm, an, cdv, ct, osl, rfl, lk, hcd⟩ := F.ex
  refine ⟨len, fun A outer s H args us vs Q hz e0 hb r hsp => ?_⟩
  have hl := len _ _ _ _ hsp
  have KX : K.In s.heap := e0.mod.kin.keeps fun b o e => (e0.bs b o e).1
  have hkind : ∀ y ∈ ps.zip us, (defScope st).names.lookup y.1 = some .local ∨ ((defScope st).names.lookup y.1 = some .cell ∧ ((cellsFrom (s.heap.objs.size + 1) (defScope st).names []).lookup y.1).isSome = true) := fun ⟨n, v⟩ hy =>
    (S.par n (List.of_mem_zip hy).1).elim .inl fun q => .inr ⟨q, PySem.W.cellsFrom_some _ _ _ (.inl q)⟩
  refine codeAny_call_function (hZ A hz) (KX _ _ lk) rfl S.co S.gen rfl (PySem.W.codeRec_of KX hcd) (hb _ _ _ _ ?_)
  refine wpAny_newFunctionEnv_cells S.kind hkind fun env he s1 x => ?_
  subst he
  refine ⟨(e0.mod.nolimit.keeps fun b o e => (e0.bs b o e).1).keeps x.toInCall.keep, codeAny_func ?_⟩
  obtain ⟨t, ht, hq⟩ := hbody cdv A outer s H vs Q hz hsp
  -- the start: as for any def, at an around that handles nothing
  have I0 : Inv (cxOf CX0 P w K mg base N qual (defScope st) f cdv { A with handled := none } outer s H E0) [] (start N vs) H s1 := inv_start S rfl ⟨e0.frames, e0.mod, e0.bs, e0.bsz, e0.funs, e0.frf, e0.hok, e0.bare⟩ hl r x
  have I : Inv ({ cxOf CX0 P w K mg base N qual (defScope st) f cdv A outer s H E0 with calm := b } : Cx) [] (start N vs) H s1 := by
    have ok := I0.ok
    exact ⟨⟨ok.mod, ok.kind, ok.glob, ok.blt, ok.above, ok.inj, ok.has, ok.cab, fun q => hC q A hz, Around.frames_deeper e0.frames, ok.stk, ok.exf, ok.bs, ok.bsz, ok.noex, ok.exfs, ok.funs, ok.frf⟩,
      I0.os, I0.bare, I0.base, I0.loc, I0.cell, I0.free, I0.freeC, I0.pin, I0.hok, I0.len⟩
  refine wpAny_mono (ht.nox.run [] s1 (start N vs) H _ I hq) (fun fl s' hs => ?_) fun e s' hs => hs
  match fl, hs with
  | .ret u, ⟨v, _, H', J, rv, q⟩ => exact ⟨v, H', J.os, J.bare, J.base, J.hok, rv, q⟩
  | .next, ⟨_, H', J, q⟩ => exact ⟨.non, H', J.os, J.bare, J.base, J.hok, rfl, q⟩
  | .brk, ⟨_, _, _, q⟩ => exact False.elim q
  | .cont, ⟨_, _, _, q⟩ => exact False.elim q
section
variable {X : Cx} {Z : Around → Prop} {f : Addr} {fd : FuncData} {ps : List Str} {sp : Sp} {x : Str} {p pos : Pos} {e : Expr} {es : List Expr} {t : TA}
theorem run_fnZ {pins : List (Addr × Obj)} {σ : St} {H : Hp} {s : Shared} {Q : VK} {us : List Value} {vs : List V} (F : FnZ Z X.prog X.w X.K X.mg X.base f fd ps sp) (hz : Z X.A) (hb : Binds X.K fd ps [])
    (I : Inv X pins σ H s) (r : Vals vs us) (h : sp vs H Q E0) {E : Value → Shared → Prop} : wpAny (model X.prog X.w) X.A (call (.ref f) us) (EP X pins σ Q) E s := by
  have hl : (us ++ []).length = ps.length := by
    rw [List.append_nil, ← r.length]
    exact F.len _ _ _ _ h
  have b := hb s us I.kIn hl
  rw [List.append_nil] at b
  refine wpAny_call (codeAny_mono (F.run X.A X.stack s H ⟨us, []⟩ us vs Q hz I.env0 b r h) fun r s' hq => ?_)
  match r, hq with
  | .ok (.ret u), hq => exact I.after hq
/-- f(e, ..) -/
theorem pe_callZ (F : FnZ Z X.prog X.w X.K X.mg X.base f fd ps sp) (hz : Z X.A) (hg : Gl X x) (hm : X.mg x = some (.ref f)) (hk : PySem.W.keepIn X.K (.ref f) = true) (hb : Binds X.K fd ps [])
    (ha : PA X (e :: es) t) (hdb : (x == ("__debug__" : Str)) = false := by decide) (he : starEach (e :: es) X.env = (false, eval e X.env) :: starEach es X.env := by rfl) (hpl : (backTo pos (starEach es X.env)).any (·.1) = false := by rfl) :
    PE X (.Call (.Name x p) (e :: es) [] pos) (fun σ H Q => t σ H fun vs H1 => sp vs H1 Q E0) := by
  refine ⟨fun pins s σ H Q I h => ?_⟩
  refine wpAny_Call_Name_kw (ld_glob I hg hm ?_ hdb)
  refine PySem.W.callWith_K (h₀ := X.base) I.ok.mod.kin hk (thn (ha.run pos pins s σ H _ I h) fun us s1 ⟨vs, H1, I1, r, q⟩ => ⟨I1.kIn, ?_⟩) he hpl
  exact run_fnZ F hz hb I1 r q
end
/-! ### the rooms -/
/-- nothing is handled, and no repr runs -/
structure RoomG (k : Nat) (A : Around) : Prop where
  room : Room k A
  gs : A.guards = some []
theorem RoomG.mono {j k : Nat} {A : Around} (r : RoomG k A) (h : j ≤ k) : RoomG j A := ⟨r.room.mono h, r.gs⟩
theorem deeper_guards {A : Around} {env : Env} : (A.deeper env).guards = A.guards := by
  cases A with
  | mk d h fr g u => cases g <;> rfl
theorem RoomG.deeper {k : Nat} {A : Around} (r : RoomG (k + 1) A) (env : Env) : RoomG k (A.deeper env) := ⟨r.room.deeper env, deeper_guards.trans r.gs⟩
theorem RoomG.depth {k : Nat} {A : Around} (r : RoomG k A) : A.depth < recursionLimit := r.room.depth
/-- room, whatever is handled -/
structure RoomA (k : Nat) (A : Around) : Prop where
  dp : A.depth + 3 * k + 5 < recursionLimit
  un : A.units + 16 * k + 200 < cLine
theorem RoomA.of {k : Nat} {A : Around} (r : Room k A) : RoomA k A := ⟨r.dp, r.un⟩
theorem RoomA.mark {k : Nat} {A : Around} (r : Room k A) (v : Option Value) : RoomA k (A.mark v) := ⟨r.dp, r.un⟩
theorem RoomA.depth {k : Nat} {A : Around} (r : RoomA k A) : A.depth < recursionLimit := by have := r.dp; omega
/-! ### a def called in a suite, the held error among what is passed -/
section
variable {X : Cx} {a : Addr} {oe : Obj} {pn : List (Addr × Obj)} {cls : Value} {d : Option Addr} {Z : Around → Prop} {f : Addr} {fd : FuncData} {ps : List Str} {sp : Sp} {x : Str} {p pos : Pos} {e : Expr} {es : List Expr} {t : TA}
def tHeld (a : Addr) (cls : Value) (d : Option Addr) (sp : Sp) (t : TA) : TE := fun σ H Q => t σ H fun vs H1 => ∃ C dd, cls = .ref C ∧ d = some dd ∧ ∀ o, sp vs (upd H1 a (.frz o (exl a C dd))) (fun v H2 => Q v (del H2 a)) E0
theorem pe_callHeld (hz : Zc cls d oe) (hv : ∃ vs, oe.data = .fields vs) (nB : X.base.get? a = none) (F : FnZ Z X.prog X.w X.K X.mg X.base f fd ps sp) (hr : Z (X.suite a ((a, oe) :: pn)).A) (hg : Gl (X.suite a ((a, oe) :: pn)) x) (hm : X.mg x = some (.ref f)) (hk : PySem.W.keepIn X.K (.ref f) = true) (hb : Binds X.K fd ps [])
    (ha : PA (X.suite a ((a, oe) :: pn)) (e :: es) t) (hdb : (x == ("__debug__" : Str)) = false := by decide) (he : starEach (e :: es) X.env = (false, eval e X.env) :: starEach es X.env := by rfl) (hpl : (backTo pos (starEach es X.env)).any (·.1) = false := by rfl) :
    PE (X.suite a ((a, oe) :: pn)) (.Call (.Name x p) (e :: es) [] pos) (tHeld a cls d sp t) := by
  refine ⟨fun pins s σ H Q I h => ?_⟩
  refine wpAny_Call_Name_kw (ld_glob I hg hm ?_ hdb)
  refine PySem.W.callWith_K (h₀ := X.base) I.ok.mod.kin hk (thn (ha.run pos pins s σ H _ I h) fun us s1 ⟨vs, H1, I1, r, C, dd, ec, ed, q⟩ => ⟨I1.kIn, ?_⟩) he hpl
  subst ec
  subst ed
  obtain ⟨fv, hv⟩ := hv
  obtain ⟨hat, hno, nL, nF, _⟩ := I1.pin (a, oe) (List.mem_append_left _ List.mem_cons_self)
  have hat : s1.heap.get? a = some oe := hat
  have hno : H1 a = none := hno
  have up : ∀ {b u}, H1 b = some u → upd H1 a (.frz oe (exl a C dd)) b = some u := fun {b u} z => by rw [upd_ne (ne_of_none z hno)]; exact z
  have hok : HOk X.prog X.w (upd H1 a (.frz oe (exl a C dd))) s1.heap := fun b u z => by
    by_cases hb : b = a
    · subst hb
      rw [upd_same] at z
      cases z
      exact ⟨hat, exl_ok hat hz.1 hz.2 hv⟩
    · rw [upd_ne hb] at z
      exact (I1.hok b u z).stay (fun _ _ _ y => y) (fun _ y => up y) fun _ _ y => up y
  have nfr : ∀ b ∈ frs X.stack, b ≠ a := fun b hb z => by
    rcases List.mem_cons.mp (I1.stkSub b hb) with y | y
    · exact nL (z.symm.trans y)
    · exact nF (by rw [← z]; exact y)
  have E : Env0 X.prog X.w X.K X.mg X.base (X.suite a ((a, oe) :: pn)).A X.stack s1 (upd H1 a (.frz oe (exl a C dd))) :=
    ⟨I1.ok.frames, I1.ok.mod, fun b o z => ⟨I1.bk b o z, by rw [upd_ne (fun y => by rw [y, nB] at z; cases z)]; exact (I1.bs b o z).2⟩, Nat.le_trans I1.ok.bsz I1.sz, I1.stack,
      fun b hb => by rw [upd_ne (nfr b hb)]; exact I1.stkFree b hb, hok, I1.bare⟩
  have hl : (us ++ []).length = ps.length := by
    rw [List.append_nil, ← r.length]
    exact F.len _ _ _ _ (q oe)
  have hb' := hb s1 us I1.kIn hl
  rw [List.append_nil] at hb'
  show wpAny _ _ (call (.ref f) us) _ _ _
  refine wpAny_call (codeAny_mono (F.run _ X.stack s1 _ ⟨us, []⟩ us vs _ hr E hb' r (q oe)) fun r s' hq => ?_)
  match r, hq with
  | .ok (.ret u), ⟨v, H2, os, bare, un, hok2, rv, qv⟩ =>
    have h2a : H2 a = some (.frz oe (exl a C dd)) := un.frzs a oe _ upd_same
    have ha2 : s'.heap.get? a = some oe := (hok2 a _ h2a).1
    have nown : ∀ {b c}, H2 b = some (.own c) → b ≠ a := fun {b c} z y => by rw [y, h2a] at z; cases z
    have dn : ∀ {b u}, H2 b = some u → b ≠ a → del H2 a b = some u := fun {b u} z y => by rw [del_ne y]; exact z
    have hok3 : HOk X.prog X.w (del H2 a) s'.heap := fun b u z => by
      by_cases hb : b = a
      · rw [hb, del_same] at z
        cases z
      · rw [del_ne hb] at z
        exact (hok2 b u z).stay (fun _ _ _ y => y) (fun c y => dn y (nown y)) fun c xs y => dn y fun w => by rw [w, h2a] at y; cases y
    have U : Un (frs X.stack) [] H1 (del H2 a) s1.heap s'.heap := {
      keep := fun b o z n hf hx => by
        by_cases hb : b = a
        · rw [hb] at z ⊢
          rw [hat] at z
          rw [ha2]
          exact z
        · exact un.keep b o z (by rw [upd_ne hb]; exact n) hf hx
      slot := fun b o z n hf hx => un.slot b o z (by rw [upd_ne (nfr b hf)]; exact n) hf hx
      free := fun b o z n hx => by
        by_cases hb : b = a
        · rw [hb, del_same]
        · rw [del_ne hb]
          exact un.free b o z (by rw [upd_ne hb]; exact n) hx
      there := un.there
      tups := fun b xs z => dn (un.tups b xs (up z)) (ne_of_none z hno)
      frzs := fun b o u z => dn (un.frzs b o u (up z)) (ne_of_none z hno)
      tbls := fun b pp z => by
        obtain ⟨more, y⟩ := un.tbls b pp (up z)
        exact ⟨more, dn y (ne_of_none z hno)⟩ }
    exact ⟨v, del H2 a, I1.call' (ch := []) os U hok3 bare (fun _ z => nomatch z), rv, qv⟩
end
end L2

namespace L2
open PySem PySem.Spec PyProof.Rows
/-! ### the law's own end, by such a promise -/
theorem law_callZ {Z : Around → Prop} {P : Program} {w : World} {K : PySem.W.Frag} {mg mb : Str → Option Value} {fa a : Addr} {fd : FuncData} {x : Str} {sp : Sp} {s₁ : Shared} {vs : List Value} {ns : List Int}
    (KX : K.In s₁.heap) (hns : s₁.heap.Ns mainGlobals mg) (hb : s₁.heap.Ns builtinsNs mb) (hbb : ∀ x : Str, x ≠ "__name__" → mb x = bootBuiltins x) (hlim : s₁.heap.NoLimit) (hg : s₁.gens = #[])
    (ha : s₁.heap.get? a = some { cls := .type "list", data := .seq vs.toArray }) (hi : IntsAre vs ns) (hl : ns.length ≤ sizeLine) (hz : Z callerA)
    (F : ∀ base : Heap, K.In base → base.Ns mainGlobals mg → FnZ Z P w K mg base fa fd [x] sp) (hbind : ∀ (s : Shared) (u : Value), BindsTo s fd ⟨[u], []⟩ [(x, u)])
    (hsp : ∀ H : Hp, Only H → SqL K H a (ns.map V.int) → sp [.ref a] H (fun v _ => v = .bl true) E0) :
    codeAny (model P w) callerA (.call (.ref fa) ⟨[.ref a], []⟩) (fun r s' => r = .ok (.ret (.bool true)) ∧ OldK s₁.heap s'.heap ∧ s'.os = s₁.os ∧ AllBare s'.gens) s₁ := by
  have rv := vals_ints hi
  -- the abstract heap: the script alone, where it is none of the module's own objects
  obtain ⟨H, hO, hS, hok, hA, hK⟩ : ∃ H : Hp, Only H ∧ SqL K H a (ns.map V.int) ∧ HOk P w H s₁.heap ∧ (∀ b, H b ≠ none → b = a) ∧ (H a ≠ none → K.lookup a = none) := by
    cases hk : K.lookup a with
    | some o =>
      have e := (KX a o hk).symm.trans ha
      cases e
      exact ⟨fun _ => none, fun _ => .inl rfl, .inr ⟨_, vs.toArray, _, hk, rfl, rfl, rfl, by rw [List.size_toArray, hi.length]; exact hl, by simpa using rv⟩, fun b u z => (nomatch z), fun b z => absurd rfl z, fun z => absurd rfl z⟩
    | none =>
      refine ⟨upd (fun _ => none) a (.frz { cls := .type "list", data := .seq vs.toArray } (.lst (ns.map V.int))), fun b => ?_, .inl (.inr ⟨_, upd_same⟩), fun b u z => ?_, fun b z => ?_, fun _ => rfl⟩
      · by_cases q : b = a
        · subst q
          exact .inr ⟨_, _, upd_same⟩
        · exact .inl (upd_ne q)
      · by_cases q : b = a
        · subst q
          rw [upd_same] at z
          cases z
          exact ⟨ha, by rw [List.length_map]; exact hl, vs, _, rv, ha⟩
        · rw [upd_ne q] at z
          cases z
      · by_cases q : b = a
        · exact q
        · exact absurd (upd_ne q) z
  have only : ∀ {b : Addr} {o : Obj}, s₁.heap.get? b = some o → (b = a → o = { cls := .type "list", data := .seq vs.toArray }) := fun {b o} e q => by
    subst q
    exact Option.some.inj (e.symm.trans ha)
  have free : ∀ {b : Addr}, b ≠ a → H b = none := fun {b} q => by
    cases z : H b with
    | none => rfl
    | some u => exact absurd (hA b (by rw [z]; simp)) q
  have ns_ : ∀ {b : Addr} {m : Str → Option Value}, s₁.heap.Ns b m → (hidT s₁.heap H).Ns b m := fun {b m} ⟨o, es, ep, e, d, r⟩ => ⟨o, es, ep, hidT_get e (free fun q => by rw [only e q] at d; cases d), d, r⟩
  have kb : K.In (hidT s₁.heap H) := fun b o e => hidT_get (KX b o e) (by
    cases z : H b with
    | none => rfl
    | some u =>
      have q := hA b (by rw [z]; simp)
      subst q
      rw [hK (by rw [z]; simp)] at e
      cases e)
  have md : Mod K mg (hidT s₁.heap H) := ⟨kb, ns_ hns, ⟨mb, ns_ hb, hbb⟩, let ⟨mc, h1, h2⟩ := hlim; ⟨mc, ns_ h1, h2⟩⟩
  have e0 : Env0 P w K mg (hidT s₁.heap H) callerA [] s₁ H := ⟨rfl, md, fun _ _ e => of_hidT e, Nat.le_of_eq (hidT_size _ _), trivial, (fun _ q => nomatch q), hok, .of_eq hg⟩
  refine codeAny_mono ((F _ kb (ns_ hns)).run callerA [] s₁ H ⟨[.ref a], []⟩ [.ref a] [.ref a] _ hz e0 (hbind s₁ (.ref a)) (.cons rfl .nil) (hsp H hO hS)) fun r s' h => ?_
  match r, h with
  | .ok (.ret u), ⟨v, H', os, bare, un, hok', r', q⟩ =>
    have q' : v = .bl true := q
    subst q'
    obtain rfl : u = Value.bool true := r'
    refine ⟨rfl, OldK.of_keep fun b o e => ?_, os, bare⟩
    cases z : H b with
    | none => exact un.keep b o e z (fun y => nomatch y) (fun y => nomatch y)
    | some u =>
      rcases hO b with y | ⟨ob, xs, y⟩
      · rw [z] at y
        cases y
      · have e1 := (hok b _ y).1
        have e2 := (hok' b _ (un.frzs b ob _ y)).1
        rw [e] at e1
        cases e1
        exact e2
theorem walk_ofZ {Z : Around → Prop} {l : PySem.W.OpenLaw} {n : Nat} {q : Program} {loose : List Str} {XP : (Str → Option Value) → Heap → Prop} {YP : World → Heap → Prop} {d : DefRec} {K : Params → PySem.W.Frag} {sp : World → Sp} {x : Str}
    (hn : l.most = some n) (hn2 : n ≤ sizeLine) (hdf : d.params.defaults = []) (hz : Z callerA) (hY : ∀ (w : World) (h : Heap), YP w h → (K w.params).In h)
    (F : ∀ (w : World) (mg : Str → Option Value) (fa : Addr) (h : Heap), (K w.params).In h → h.Ns mainGlobals mg → mg d.name = some (.ref fa) →
      ∃ fd : FuncData, (∀ (s : Shared) (u : Value), BindsTo s fd ⟨[u], []⟩ [(x, u)]) ∧ ∀ base : Heap, (K w.params).In base → base.Ns mainGlobals mg → FnZ Z l.prog w (K w.params) mg base fa fd [x] (sp w))
    (hsp : ∀ (w : World) (H : Hp) (a : Addr) (ns : List Int), ns.length ≤ n → Only H → SqL (K w.params) H a (ns.map V.int) → sp w [.ref a] H (fun v _ => v = .bl true) E0) :
    PySem.W.WalkO q loose XP YP l.row.toRowW d [] (fun f vs => PySem.call f vs) := by
  refine Att.attach_call hn hdf fun w s₀ s₁ mg mb fa o pm cd doc a vs ns G Y ho hd hcd hmg hobj hints hlen hg => ?_
  have KX := hY w _ Y
  obtain ⟨fd, hb, hF⟩ := F w mg fa _ KX G.T.g hmg
  exact law_callZ KX G.T.g G.T.b G.T.builtins G.T.nolimit hg hobj hints (Nat.le_trans hlen hn2) hz hF hb fun H hO hS => hsp w H a ns hlen hO hS
end L2

namespace L2
open PySem PySem.Spec PyProof.Rows
/-! ### data that is shown: none, bools, ints, texts, lists, tuples, empty dicts -/
mutual
inductive Dq (K : PySem.W.Frag) (H : Hp) : V → PyData → Prop
  | non : Dq K H .non .none
  | bl (b : Bool) : Dq K H (.bl b) (.bool b)
  | int (i : Int) : Dq K H (.int i) (.int i)
  | str (x : Str) : Dq K H (.str x) (.str x)
  | lst {a : Addr} {xs : List V} {ds : List PyData} : SqL K H a xs → DqAll K H xs ds → Dq K H (.ref a) (.list ds)
  | tup {a : Addr} {xs : List V} {ds : List PyData} : SqT K H a xs → DqAll K H xs ds → Dq K H (.ref a) (.tuple ds)
  | dic {a : Addr} : H a = some (.dK []) → Dq K H (.ref a) (.dict [])
inductive DqAll (K : PySem.W.Frag) (H : Hp) : List V → List PyData → Prop
  | nil : DqAll K H [] []
  | cons {v : V} {vs : List V} {d : PyData} {ds : List PyData} : Dq K H v d → DqAll K H vs ds → DqAll K H (v :: vs) (d :: ds)
end
section
variable {X : Cx} {pins : List (Addr × Obj)} {σ : St} {H : Hp} {s : Shared}
theorem dic_at (I : Inv X pins σ H s) {a : Addr} (h : H a = some (.dK [])) : ∃ o n, s.heap.get? a = some o ∧ o.cls = .type "dict" ∧ o.data = .dict #[] n ∧ (a == sysModules) = false := by
  obtain ⟨_, hs, vs, r, o, es, ep, ho, hx, hd, _, he, _⟩ : ([] : List (Key × V)).length ≤ sizeLine ∧ (a == sysModules) = false ∧ ∃ vs, KV ([] : List (Key × V)) vs ∧ s.heap.DictOf (mixKind X.prog X.w) a vs := I.hok a _ h
  cases r
  have e0 : es = #[] := by
    have z : es.toList = [] := by
      generalize es.toList = l at he
      cases he
      rfl
    simpa using congrArg List.toArray z
  subst e0
  exact ⟨o, ep, ho, hx.1, hd, hs⟩
mutual
theorem Dq.reads (I : Inv X pins σ H s) : ∀ (d : PyData) (v : V) (u : Value), Dq X.K H v d → RelV v u → ∃ as, Reads s.heap u d as
  | .none, _, _, .non, r => by cases r; exact ⟨_, Reads.none⟩
  | .bool b, _, _, .bl _, r => by cases r; exact ⟨_, Reads.bool b⟩
  | .int i, _, _, .int _, r => by obtain ⟨t, rfl⟩ := r; exact ⟨_, Reads.int i t⟩
  | .str x, _, _, .str _, r => by obtain ⟨t, rfl⟩ := r; exact ⟨_, Reads.str x t⟩
  | .list ds, _, _, .lst hs ha, r => by
    cases r
    obtain ⟨its, rv, ⟨o, n, ho, hc, _, hd⟩, _⟩ := I.list hs
    obtain ⟨as, hr⟩ := Dq.readsAll I ds _ its ha rv
    exact ⟨_, Reads.list ho hc hd hr⟩
  | .tuple ds, _, _, .tup hs ha, r => by
    cases r
    obtain ⟨its, rv, ⟨o, ho, hc, n, hd⟩, _⟩ := I.tuple hs
    obtain ⟨as, hr⟩ := Dq.readsAll I ds _ its ha rv
    exact ⟨_, Reads.tuple ho hc hd hr⟩
  | .dict [], _, _, .dic h, r => by
    cases r
    obtain ⟨o, n, ho, hc, hd, _⟩ := dic_at I h
    exact ⟨_, Reads.dict ho hc hd .nil .nil⟩
theorem Dq.readsAll (I : Inv X pins σ H s) : ∀ (ds : List PyData) (vs : List V) (us : List Value), DqAll X.K H vs ds → Vals vs us → ∃ as, ReadsAll s.heap us ds as
  | [], _, _, .nil, r => by cases r; exact ⟨_, ReadsAll.nil⟩
  | d :: ds, _, _, .cons h1 h2, r => by
    cases r with
    | cons r1 r2 =>
      obtain ⟨as, q1⟩ := Dq.reads I d _ _ h1 r1
      obtain ⟨bs, q2⟩ := Dq.readsAll I ds _ _ h2 r2
      exact ⟨_, ReadsAll.cons q1 q2⟩
end
/-- what is to be known of shown data -/
structure Fits (d : PyData) : Prop where
  ok : d.showable = true
  sz : d.shown.length ≤ sizeLine
mutual
theorem Dq.repr (I : Inv X pins σ H s) : ∀ (d : PyData) (v : V) (u : Value), Dq X.K H v d → RelV v u → d.showable = true → d.shown.length ≤ sizeLine → ∃ bs, ReadAtMost s.heap d.depth bs ∧ ReprK X.prog X.w bs s.heap d.depth u d.shown
  | .none, _, _, .non, r, _, _ => by cases r; exact ⟨[], (fun _ h => nomatch h), by simp only [PyData.shown]; exact .of_is ReprIs.none _ _ _⟩
  | .bool b, _, _, .bl _, r, _, _ => by cases r; exact ⟨[], (fun _ h => nomatch h), by simp only [PyData.shown]; exact .of_is (ReprIs.bool b) _ _ _⟩
  | .int i, _, _, .int _, r, hs, _ => by obtain ⟨t, rfl⟩ := r; exact ⟨[], (fun _ h => nomatch h), by simp only [PyData.shown]; exact .of_is (ReprIs.int t (by simpa [PyData.showable] using hs)) _ _ _⟩
  | .str x, _, _, .str _, r, _, hz => by obtain ⟨t, rfl⟩ := r; exact ⟨[], (fun _ h => nomatch h), by simp only [PyData.shown]; exact .of_is (ReprIs.str x t (by simpa only [PyData.shown] using hz)) _ _ _⟩
  | .list ds, _, _, .lst hs ha, r, ok, hz => by
    have D : Dq X.K H _ (.list ds) := .lst hs ha
    obtain ⟨as, R⟩ := Dq.reads I _ _ _ D r
    cases r
    have zt : (listText (PyData.shownAll ds)).length ≤ sizeLine := by simpa only [PyData.shown] using hz
    obtain ⟨its, rv, ⟨o, n, ho, hc, _, hd⟩, _⟩ := I.list hs
    obtain ⟨bs, hb, hk⟩ := Dq.reprAll I ds _ its ha rv (by simpa [PyData.showable] using ok) fun t ht => Nat.le_trans (listText_mem_le ht) zt
    have off := not_mem_of_deeper R (show PyData.depthAll ds < (PyData.list ds).depth by simp only [PyData.depth]; omega) hb
    refine ⟨_ :: bs, ReadAtMost.cons R (by simp only [PyData.depth]; omega) hb, ?_⟩
    simp only [PyData.depth, PyData.shown]
    cases its with
    | nil =>
      have e : PyData.shownAll ds = [] := List.eq_nil_of_length_eq_zero (by simpa using hk.length_eq)
      rw [e, listText_nil]
      exact ReprK.listEmpty ho hc hd
    | cons x l => exact ReprK.list ho hc hd off (by simpa using hk.length_eq) fun i y e => hk.item i y (by simpa using e)
  | .tuple ds, _, _, .tup hs ha, r, ok, hz => by
    have D : Dq X.K H _ (.tuple ds) := .tup hs ha
    obtain ⟨as, R⟩ := Dq.reads I _ _ _ D r
    cases r
    have zt : (tupleText (PyData.shownAll ds)).length ≤ sizeLine := by simpa only [PyData.shown] using hz
    obtain ⟨its, rv, ⟨o, ho, hc, n, hd⟩, _⟩ := I.tuple hs
    obtain ⟨bs, hb, hk⟩ := Dq.reprAll I ds _ its ha rv (by simpa [PyData.showable] using ok) fun t ht => Nat.le_trans (tupleText_mem_le ht) zt
    have off := not_mem_of_deeper R (show PyData.depthAll ds < (PyData.tuple ds).depth by simp only [PyData.depth]; omega) hb
    refine ⟨_ :: bs, ReadAtMost.cons R (by simp only [PyData.depth]; omega) hb, ?_⟩
    simp only [PyData.depth, PyData.shown]
    exact ReprK.tuple ho hc hd off hk
  | .dict [], _, _, .dic h, r, ok, hz => by
    have D : Dq X.K H _ (.dict []) := .dic h
    obtain ⟨as, R⟩ := Dq.reads I _ _ _ D r
    cases r
    obtain ⟨o, n, ho, hc, hd, hs⟩ := dic_at I h
    refine ⟨[_], ReadAtMost.cons (n := 0) R (Nat.zero_le _) (fun _ h => nomatch h), ?_⟩
    simp only [PyData.depth, PyData.depthKv, PyData.shown, PyData.shownKv]
    exact ReprK.dict ho hc hd hs (by simp) .nil
theorem Dq.reprAll (I : Inv X pins σ H s) : ∀ (ds : List PyData) (vs : List V) (us : List Value), DqAll X.K H vs ds → Vals vs us → PyData.showableAll ds = true → (∀ t ∈ PyData.shownAll ds, t.length ≤ sizeLine) →
    ∃ bs, ReadAtMost s.heap (PyData.depthAll ds) bs ∧ ReprAllK X.prog X.w bs s.heap (PyData.depthAll ds) us (PyData.shownAll ds)
  | [], _, _, .nil, r, _, _ => by cases r; exact ⟨[], (fun _ h => nomatch h), by simp only [PyData.shownAll]; exact .nil⟩
  | d :: ds, _, _, .cons h1 h2, r, ok, hz => by
    cases r with
    | cons r1 r2 =>
      have ok' : d.showable = true ∧ PyData.showableAll ds = true := by simpa [PyData.showableAll] using ok
      obtain ⟨b1, m1, k1⟩ := Dq.repr I d _ _ h1 r1 ok'.1 (hz _ (by simp only [PyData.shownAll]; exact List.mem_cons_self ..))
      obtain ⟨b2, m2, k2⟩ := Dq.reprAll I ds _ _ h2 r2 ok'.2 fun t ht => hz t (by simp only [PyData.shownAll]; exact List.mem_cons_of_mem _ ht)
      refine ⟨b1 ++ b2, ?_, ?_⟩
      · simp only [PyData.depthAll]
        exact (m1.mono (Nat.le_max_left _ _)).append (m2.mono (Nat.le_max_right _ _))
      · simp only [PyData.depthAll, PyData.shownAll]
        exact .cons ((k1.more fun b hb => List.mem_append_left _ hb).level_le (Nat.le_max_left _ _)) (k2.more_le (fun b hb => List.mem_append_right _ hb) (Nat.le_max_right _ _))
end
/-- repr of a list -/
def rRepL (K : PySem.W.Frag) : List V → Hp → VK → Prop := fun xs H Q => ∃ (a : Addr) (ds : List PyData), xs = [.ref a] ∧ Dq K H (.ref a) (.list ds) ∧ (PyData.list ds).showable = true ∧ (PyData.list ds).shown.length ≤ sizeLine ∧ (PyData.list ds).depth ≤ 60 ∧ Q (.str (PyData.list ds).shown) H
theorem call_repL (hu : X.A.units + 64 < cLine) (hg : X.A.guards = some []) : CallR X (.builtin "repr") (rRepL X.K) := by
  intro pins s σ H xs us Q I r h
  obtain ⟨a, ds, rfl, D, ok, hz, hdep, q⟩ := h
  cases r with
  | cons rx rr =>
    cases rr
    have ru := rx
    cases rx
    obtain ⟨as, R⟩ := Dq.reads I _ _ _ D ru
    have zt : (listText (PyData.shownAll ds)).length ≤ sizeLine := by simpa only [PyData.shown] using hz
    have fin : ∀ (h' : Heap) (u : Tok) (tk : Nat), (∀ b o, s.heap.get? b = some o → h'.get? b = some o) → EP X pins σ Q (.str (listText (PyData.shownAll ds)) u) { s with heap := h', toks := tk } := fun h' u tk k => by
      refine ⟨.str _, H, I.kept (t' := tk) k, ⟨u, rfl⟩, ?_⟩
      simpa only [PyData.shown] using q
    cases D with
    | @lst _ xs _ hs ha =>
      obtain ⟨its, rv, ⟨o, n, ho, hc, _, hd⟩, _⟩ := I.list hs
      obtain ⟨bs, hb, hk⟩ := Dq.reprAll I ds _ its ha rv (by simpa [PyData.showable] using ok) fun t ht => Nat.le_trans (listText_mem_le ht) zt
      have off := not_mem_of_deeper R (show PyData.depthAll ds < (PyData.list ds).depth by simp only [PyData.depth]; omega) hb
      have hdep' : PyData.depthAll ds + 1 ≤ 60 := by simp only [PyData.depth] at hdep; omega
      refine call_repr_slot (by omega) ⟨o, ho, hc⟩ F.slot_list_repr.toG ?_
      cases its with
      | nil =>
        have e : PyData.shownAll ds = [] := List.eq_nil_of_length_eq_zero (by simpa using hk.length_eq)
        have z := fin s.heap s.toks (s.toks + 1) (fun _ _ e => e)
        rw [e, listText_nil] at z
        exact call_list_repr_empty ⟨o, ho, hc⟩ ho hd ⟨_, _, rfl, z⟩
      | cons x l =>
        exact call_list_reprK ho hc hd off (by simpa using hk.length_eq) (fun i y e => hk.item i y (by simpa using e)) hg (fun b _ => Clear.nil b) (by show X.A.units + 1 + _ < cLine; omega) (fun _ _ e => e) (fun h' u tk k => ⟨_, _, rfl, fin h' u tk k⟩) zt
end
end L2

namespace Toy
open PySem L2
def top (i : Nat) : Stmt := PySem.Challenge.pw_holekinds_k01_errors_each_of_its_own.main.body.getD i (.Pass ⟨0, 0, 0, 0⟩)
abbrev sWell : Stmt := top 18
abbrev sDraw : Stmt := top 19
abbrev sPick : Stmt := top 20
abbrev sSame : Stmt := top 21
/-! ### the well: a list of three ints at wl -/
def WellAt (H : Hp) (wl : Addr) : Prop := ∃ a b c : Int, H wl = some (.lst [.int a, .int b, .int c])
/-- all but the well stays -/
def But (wl : Addr) (H H' : Hp) : Prop := ∀ b o, b ≠ wl → H b = some o → H' b = some o
theorem But.refl {wl : Addr} (H : Hp) : But wl H H := fun _ _ _ h => h
theorem But.trans {wl : Addr} {H H1 H2 : Hp} (a : But wl H H1) (b : But wl H1 H2) : But wl H H2 := fun c o n h => b c o n (a c o n h)
theorem But.of {wl : Addr} {H H' : Hp} (a : Same H H') : But wl H H' := fun c o _ h => a c o h
theorem But.well {wl : Addr} {H : Hp} {o : HO} : But wl H (upd H wl o) := fun b u n h => by rw [upd_ne n]; exact h
theorem same_new {H : Hp} {p : Addr} (h : H p = none) (o : HO) : Same H (upd H p o) := fun b u q => by rw [upd_ne (ne_of_none q h)]; exact q
theorem But.new {wl p : Addr} {H : Hp} (h : H p = none) (o : HO) : But wl H (upd H p o) := .of (same_new h o)
/-! ### promises -/
def spDraw : Sp := fun vs H Q _ => ∃ (wl : Addr) (m : Int), vs = [.ref wl, .int m] ∧ 1 ≤ m ∧ m < 1073741824 ∧ WellAt H wl ∧
  ∀ (f : Int) (H' : Hp), 0 ≤ f → f < m → WellAt H' wl → But wl H H' → Q (.int f) H'
def spPick (K : PySem.W.Frag) : Sp := fun vs H Q _ => ∃ (wl t : Addr) (xs : List V), vs = [.ref wl, .ref t] ∧ WellAt H wl ∧ SqT K H t xs ∧ 1 ≤ xs.length ∧ xs.length < 1073741824 ∧
  ∀ (v : V) (H' : Hp), v ∈ xs → WellAt H' wl → But wl H H' → Q v H'
def spWell (K : PySem.W.Frag) : Sp := fun vs H Q _ => ∃ (a : Addr) (ns : List Int) (t : Int), vs = [.ref a, .int t] ∧ SqL K H a (ns.map V.int) ∧ ns.length ≤ 63 ∧ 0 ≤ t ∧ t ≤ 1000 ∧
  ∀ (p : Addr) (H' : Hp), Same H H' → H p = none → WellAt H' p → Q (.ref p) H'
def spSame (K : PySem.W.Frag) : Sp := fun vs H Q _ => ∃ (a b : Addr) (ds : List PyData), vs = [.ref a, .ref b] ∧ Dq K H (.ref a) (.list ds) ∧ Dq K H (.ref b) (.list ds) ∧ (PyData.list ds).showable = true ∧ (PyData.list ds).shown.length ≤ sizeLine ∧ (PyData.list ds).depth ≤ 60 ∧ Q (.bl true) H
/-- the built-in names that the text uses -/
structure Nm (mg : Str → Option Value) : Prop where
  int : mg "int" = none
  len : mg "len" = none
  abs : mg "abs" = none
  divmod : mg "divmod" = none
  repr : mg "repr" = none
section
variable {P : Program} {w : World} {K : PySem.W.Frag} {mg : Str → Option Value} {base : Heap}
theorem scD : FnScope ["well", "many", "figure", "seed"] ["well", "many"] (defScope sDraw) := ⟨rfl, rfl, rfl, by decide +kernel, rfl, by decide +kernel, by decide +kernel⟩
theorem ok_draw {f : Addr} {fd : FuncData} (F : Fun K "_law_draw" "_law_draw" sDraw f fd) (T : Nm mg) : FnOk P w K mg base CX0 1 f fd ["well", "many"] spDraw := by
  refine F.ok scD (fun vs H Q E h => ?_) (fun cdv A outer s H vs Q E hr h => ?_)
  · obtain ⟨wl, m, rfl, _⟩ := h
    rfl
  obtain ⟨wl, m, rfl, h1, h2, ⟨a, b, c, hw⟩, q⟩ := h
  have ix : ∀ {X : Cx} (j : Int) {p1 p2 p3 : Pos} {k : Nat}, X.N[0]? = some (Str.ofString "well") → Vis X.env.scope "well" → PE X (.Subscript (.Name "well" p1) (.Constant (.int j) k p2) p3) (tOp (rIxL X.K) (tVar 0) (tC (.int j))) := fun j _ _ _ _ hN hv => pe_ix ix_list (pe_var hN hv) pe_int (fun _ _ => rfl)
  refine ⟨_, pss_cons (ps_if (pt_cmpR op_gt (ix 0 rfl (.inl rfl)) pe_int (nomark _))
      (pss_cons (ps_asg (pe_callB call_divmod rfl T.divmod (by decide +kernel) (pa_cons (ix 0 rfl (.inl rfl)) (pa_cons (pv 1) pa_nil))) (pg_tup rfl (pgs_cons (pg_sub (pv 0) pe_int set_list) (pgs_cons (pg_name (i := 2) scD.nd rfl (.inl rfl)) pgs_nil))))
      (pss_one (ps_ret (pv 2)))) pss_nil)
    (pss_cons (ps_asg (pe_op op_add (ix 2 rfl (.inl rfl)) pe_int) (pg_sub (pv 0) pe_int set_list))
    (pss_cons (ps_set (i := 3) scD.nd rfl (.inl rfl) (pe_op op_mod (pe_callTy call_int1 rfl T.int (by decide +kernel) (pa_cons (pe_op op_add (ix 1 rfl (.inl rfl)) (pe_op op_mul pe_int (ix 2 rfl (.inl rfl)))) pa_nil)) pe_int))
    (pss_cons (ps_asg (pe_op op_mod (pe_callTy call_int1 rfl T.int (by decide +kernel) (pa_cons (pe_op op_add (pe_op op_mul (pv 3) (pe_op op_add (pe_op op_mod (pe_callTy call_int1 rfl T.int (by decide +kernel) (pa_cons (pv 3) pa_nil)) pe_int) pe_int)) (pe_op op_mul pe_int (ix 2 rfl (.inl rfl)))) pa_nil)) pe_int) (pg_sub (pv 0) pe_int set_list))
    (pss_one (ps_ret (pe_op op_mod (pe_callTy call_int1 rfl T.int (by decide +kernel) (pa_cons (pe_op op_fdiv (ix 1 rfl (.inl rfl)) pe_int) pa_nil)) (pv 1))))))), ?_⟩
  refine ⟨_, rfl, wl, _, 0, _, rfl, rfl, SqL.of hw, rfl, _, _, rfl, rfl, _, rfl, ?_⟩
  refine ite2 (fun hc => ?_) (fun hc => ?_)
  · refine ⟨_, rfl, wl, _, 0, _, rfl, rfl, SqL.of hw, rfl, _, rfl, _, _, rfl, ⟨by omega, h2⟩, fun p hp => ?_⟩
    have hw' : upd H p (.tup [.int (a / m), .int (a % m)]) wl = some (.lst [.int a, .int b, .int c]) := by rw [upd_ne (ne_of_none hw hp)]; exact hw
    refine ⟨_, _, rfl, SqT.of upd_same, rfl, _, _, rfl, _, rfl, wl, _, 0, 0, rfl, rfl, hw', rfl, _, _, rfl, rfl, ?_⟩
    refine ⟨_, rfl, q (a % m) _ (Int.emod_nonneg _ (by omega)) (Int.emod_lt_of_pos _ (by omega)) ⟨_, _, _, upd_same⟩ ?_⟩
    exact (But.new hp _).trans But.well
  · have r31 : ∀ x : Int, 0 ≤ x % 2147483423 ∧ x % 2147483423 < 2147483423 := fun x => ⟨Int.emod_nonneg _ (by omega), Int.emod_lt_of_pos _ (by omega)⟩
    have hp31 : (0 : Int) < 2147483423 := by decide
    refine ⟨_, rfl, wl, _, 2, _, rfl, rfl, SqL.of hw, rfl, _, _, rfl, rfl, _, rfl, wl, _, 2, 2, rfl, rfl, hw, rfl, ?_⟩
    have h3 : upd H wl (.lst ([V.int a, V.int b, V.int c].set 2 (V.int (c + 1)))) wl = some (.lst [.int a, .int b, .int (c + 1)]) := upd_same
    refine ⟨_, rfl, wl, _, 1, _, rfl, rfl, SqL.of h3, rfl, _, rfl, wl, _, 2, _, rfl, rfl, SqL.of h3, rfl, _, _, rfl, rfl, .inl ⟨by decide, by decide⟩, _, _, rfl, rfl, .inl ⟨_, rfl, _, _, rfl, rfl, hp31, ?_⟩⟩
    obtain ⟨s1, s2⟩ := r31 (b + 50021 * (c + 1))
    refine ⟨_, rfl, _, rfl, .inl ⟨_, rfl, _, _, rfl, rfl, (by show (0 : Int) < 4001; decide), _, _, rfl, rfl, _, _, rfl, rfl, .inl ⟨by omega, by omega⟩, _, rfl, wl, _, 2, _, rfl, rfl, SqL.of h3, rfl, _, _, rfl, rfl, .inl ⟨by decide, by decide⟩, _, _, rfl, rfl, .inl ⟨_, rfl, _, _, rfl, rfl, hp31, _, rfl, wl, _, 1, 1, rfl, rfl, h3, rfl, ?_⟩⟩⟩
    refine ⟨_, rfl, wl, _, 1, _, rfl, rfl, SqL.of upd_same, rfl, _, _, rfl, rfl, ⟨by decide, by decide⟩, .inl ⟨_, rfl, _, rfl, _, _, rfl, rfl, by show (0 : Int) < m; omega, ?_⟩⟩
    exact q _ _ (Int.emod_nonneg _ (by omega)) (Int.emod_lt_of_pos _ (by omega)) ⟨_, _, _, upd_same⟩ (But.well.trans But.well)
theorem scP : FnScope ["well", "some"] ["well", "some"] (defScope sPick) := ⟨rfl, rfl, rfl, by decide +kernel, rfl, by decide +kernel, by decide +kernel⟩
theorem ok_pick {f g : Addr} {fd gd : FuncData} (F : Fun K "_law_pick" "_law_pick" sPick f fd) (T : Nm mg) (G : FnOk P w K mg base CX0 1 g gd ["well", "many"] spDraw) (bG : Binds K gd ["well", "many"] []) (kG : PySem.W.keepIn K (.ref g) = true) (mG : mg "_law_draw" = some (.ref g)) :
    FnOk P w K mg base CX0 2 f fd ["well", "some"] (spPick K) := by
  refine F.ok scP (fun vs H Q E h => ?_) (fun cdv A outer s H vs Q E hr h => ?_)
  · obtain ⟨wl, t, xs, rfl, _⟩ := h
    rfl
  obtain ⟨wl, t, xs, rfl, hw, ht, h1, h2, q⟩ := h
  refine ⟨_, pss_one (ps_ret (pe_ix ix_tup (pv 1) (pe_call G hr rfl mG kG bG .nil pass0 (pa_cons (pv 0) (pa_cons (pe_callB call_len_seq rfl T.len PySem.boot_len (pa_cons (pv 1) pa_nil)) pa_nil))) (fun _ _ => rfl))), ?_⟩
  refine ⟨_, rfl, _, rfl, _, rfl, t, _, rfl, .inr ht, wl, _, rfl, by omega, by omega, hw, fun i H' hi0 hi1 hw' hb => ?_⟩
  obtain ⟨a, b, c, hw0⟩ := hw
  have ht' : SqT K H' t xs := by
    rcases ht with (z | ⟨o, z⟩) | z
    · exact .inl (.inl (hb t _ (ne_of z hw0 (by intro y; cases y)) z))
    · exact .inl (.inr ⟨o, hb t _ (ne_of z hw0 (by intro y; cases y)) z⟩)
    · exact .inr z
  have hlt : i.toNat < xs.length := by omega
  have e : i = ((i.toNat : Nat) : Int) := by omega
  refine ⟨t, xs, i, xs[i.toNat], rfl, rfl, ht', ?_, q _ H' (List.getElem_mem hlt) hw' hb⟩
  have z := atI_nat (xs := xs) (j := i.toNat) (v := xs[i.toNat]) (List.getElem?_eq_getElem hlt)
  rw [← e] at z
  exact z
theorem scS : FnScope ["told", "due"] ["told", "due"] (defScope sSame) := ⟨rfl, rfl, rfl, by decide +kernel, rfl, by decide +kernel, by decide +kernel⟩
theorem ok_same {f : Addr} {fd : FuncData} (F : Fun K "_law_same" "_law_same" sSame f fd) (T : Nm mg) : FnZ (RoomG 1) P w K mg base f fd ["told", "due"] (spSame K) := by
  refine F.okZ true scS (fun A z => z.depth) (fun _ A z => z.room.hd) (fun vs H Q E h => ?_) (fun cdv A outer s H vs Q hz h => ?_)
  · obtain ⟨a, b, ds, rfl, _⟩ := h
    rfl
  obtain ⟨a, b, ds, rfl, ha, hb, ok, sz, dp, q⟩ := h
  have hz' : ∀ env, RoomG 0 (A.deeper env) := fun env => hz.deeper env
  have hu : ∀ env, (A.deeper env).units + 64 < cLine := fun env => by
    have y := (hz' env).room.un
    omega
  refine ⟨_, pss_one (ps_ret (pe_cmpR op_eq (pe_callB (call_repL (hu _) (hz' _).gs) rfl T.repr (by decide +kernel) (pa_cons (pv 0) pa_nil)) (pe_callB (call_repL (hu _) (hz' _).gs) rfl T.repr (by decide +kernel) (pa_cons (pv 1) pa_nil)) (nomark _))), ?_⟩
  refine ⟨_, rfl, a, ds, rfl, ha, ok, sz, dp, _, rfl, b, ds, rfl, hb, ok, sz, dp, rfl, ?_⟩
  rw [decide_eq_true rfl]
  exact q
theorem cut_int {ns : List Int} {lo hi : Option Int} {i : Nat} {y : V} (h : (cutV (ns.map V.int) lo hi)[i]? = some y) : ∃ z, y = V.int z := by
  have m : y ∈ cutV (ns.map V.int) lo hi := List.mem_of_getElem? h
  unfold cutV at m
  have m2 := List.mem_of_mem_drop (List.mem_of_mem_take m)
  obtain ⟨z, _, e⟩ := List.mem_map.mp m2
  exact ⟨z, e.symm⟩
theorem pe_intc {X : Cx} {e : Expr} {te : TE} {p pos : Pos} (hm : X.mg "int" = none) (he : PE X e te) (hg : Gl X "int" := by rfl) (hs : starEach [e] X.env = (false, eval e X.env) :: starEach [] X.env := by rfl) :
    PE X (.Call (.Name "int" p) [e] [] pos) (tCB (fun xs H Q => (∃ i, xs = [.int i] ∧ Q (.int i) H) ∨ ∃ k, xs = [.bl k] ∧ Q (.int (if k then 1 else 0)) H) (tCons te tNil)) := pe_callTy call_int1 hg hm (by decide +kernel) (pa_cons he pa_nil (hs := hs)) (he := hs)
theorem scW : FnScope ["script", "turn", "mixed", "cell", "own"] ["script", "turn"] (defScope sWell) := ⟨rfl, rfl, rfl, by decide +kernel, rfl, by decide +kernel, by decide +kernel⟩
theorem ok_well {f : Addr} {fd : FuncData} (F : Fun K "_law_well" "_law_well" sWell f fd) (T : Nm mg) : FnOk P w K mg base CX0 1 f fd ["script", "turn"] (spWell K) := by
  refine F.ok scW (fun vs H Q E h => ?_) (fun cdv A outer s H vs Q E hr h => ?_)
  · obtain ⟨a, ns, t, rfl, _⟩ := h
    rfl
  obtain ⟨a, ns, t, rfl, hS, h63, ht0, ht1, q⟩ := h
  refine ⟨_, pss_cons (ps_set (i := 2) scW.nd rfl (.inl rfl) (pe_op op_add pe_int (pe_op op_mul pe_int (pv 1))))
    (pss_cons (ps_for PassesOwn.never rfl (pi_list (pe_slice sl_list (pv 0) po_none (po_some pe_int))) (pg_name (i := 3) scW.nd rfl (.inl rfl))
      (pss_one (ps_set (i := 2) scW.nd rfl (.inl rfl) (pe_op op_mod (pe_intc T.int (pe_op op_add (pe_op op_add (pe_op op_mul (pv 2) pe_int) (pe_op op_mod (pe_intc T.int (pv 3)) pe_int)) pe_int)) pe_int))))
    (pss_cons (ps_set (i := 4) scW.nd rfl (.inl rfl) (pe_ifExp (pt_cmpR op_lt (pv 1) (pe_callB call_len_seq rfl T.len PySem.boot_len (pa_cons (pv 0) pa_nil)) (nomark _)) (pe_intc T.int (pe_ix ix_list (pv 0) (pv 1) (fun _ _ => rfl))) pe_int))
    (pss_cons (ps_set (i := 2) scW.nd rfl (.inl rfl) (pe_op op_mod (pe_intc T.int (pe_op op_add (pe_op op_add (pe_op op_mul (pv 2) pe_int) (pe_op op_mul (pe_op op_mod (pe_intc T.int (pv 4)) pe_int) pe_int)) pe_int)) pe_int))
    (pss_one (ps_ret (pe_lst (pa_cons (pe_ifExp (PW.pt (pw_or (pt_cmpR op_lt (pv 4) pe_int (nomark _)) (pw_or1 (pt_cmpR op_ge (pv 4) (pe_op op_pow pe_int pe_int) (nomark _))))) (pe_callB call_abs rfl T.abs (by decide +kernel) (pa_cons (pv 4) pa_nil)) pe_int) (pa_cons (pv 2) (pa_cons pe_int pa_nil))))))))), ?_⟩
  have hp1 : (0 : Int) < 2147483477 := by decide
  have hp2 : (0 : Int) < 2147483423 := by decide
  refine ⟨_, rfl, _, _, rfl, rfl, .inl ⟨by decide, by decide⟩, _, _, rfl, rfl, ?_⟩
  refine ⟨_, rfl, _, rfl, a, _, rfl, hS, fun p hp => ?_⟩
  have hp' : upd H p (.lst (cutV (ns.map V.int) none (some 10))) p = some (.lst (cutV (ns.map V.int) none (some 10))) := upd_same
  have sm := same_new hp (.lst (cutV (ns.map V.int) none (some 10)))
  have hS' := sm.seq hS
  generalize upd H p (.lst (cutV (ns.map V.int) none (some 10))) = H1 at hp' sm hS' ⊢
  refine ⟨p, rfl, ⟨_, SqL.of hp'⟩, for_list (K := K) (a := p) (xs := cutV (ns.map V.int) none (some 10)) (fun i σ H2 => H2 = H1 ∧ ∃ (m : Int) (c : Option V), σ = [some (.ref a), some (.int t), some (.int m), c, none])
    ⟨rfl, _, _, rfl⟩ (fun i σ H2 _ z => by obtain ⟨rfl, _⟩ := z; exact SqL.of hp') ?_ ?_⟩
  · rintro i y σ H2 hi ⟨rfl, m, c, rfl⟩
    obtain ⟨z, rfl⟩ := cut_int hi
    refine ⟨_, rfl, _, _, rfl, rfl, .inr ⟨by decide, by decide⟩, _, rfl, .inl ⟨_, rfl, _, _, rfl, rfl, hp1, _, _, rfl, rfl, _, _, rfl, rfl, .inl ⟨_, rfl, _, _, rfl, rfl, hp2, ?_⟩⟩⟩
    exact ⟨rfl, _, _, rfl⟩
  · rintro σ H2 ⟨rfl, m, c, rfl⟩
    refine ⟨_, rfl, _, rfl, a, _, rfl, .inl hS', _, _, rfl, rfl, _, rfl, ?_⟩
    have fin : ∀ (x y : Int) (p' : Addr), H2 p' = none → Q (.ref p') (upd H2 p' (.lst [.int x, .int y, .int 0])) := fun x y p' hn => by
      have s3 := sm.trans (same_new hn (.lst [.int x, .int y, .int 0]))
      exact q p' _ s3 (sm.free hn) ⟨_, _, _, upd_same⟩
    have sz : 3 ≤ sizeLine := by decide
    refine ite2 (fun hc => ?_) (fun hc => ?_)
    · have hc' : t < (((ns.map V.int).length : Nat) : Int) := of_decide_eq_true hc
      rw [List.length_map] at hc'
      have hlt : t.toNat < ns.length := by omega
      have e : t = ((t.toNat : Nat) : Int) := by omega
      have z := atI_nat (xs := ns.map V.int) (j := t.toNat) (v := .int ns[t.toNat]) (by rw [List.getElem?_map, List.getElem?_eq_getElem hlt] <;> rfl)
      rw [← e] at z
      refine ⟨_, rfl, _, rfl, a, _, _, _, rfl, rfl, hS', z, .inl ⟨_, rfl, ?_⟩⟩
      refine ⟨_, rfl, _, _, rfl, rfl, .inr ⟨by decide, by decide⟩, _, rfl, .inl ⟨_, rfl, _, _, rfl, rfl, hp1, _, _, rfl, rfl, .inr ⟨by decide, by decide⟩, _, _, rfl, rfl, _, _, rfl, rfl, .inl ⟨_, rfl, _, _, rfl, rfl, hp2, ?_⟩⟩⟩
      refine ⟨_, rfl, _, _, rfl, rfl, _, rfl, ?_⟩
      refine ite2 (fun _ => ?_) (fun _ => ?_)
      · exact iteT ⟨_, rfl, _, rfl, _, rfl, sz, fun p' hn => fin _ _ p' hn⟩
      · refine ⟨_, rfl, _, _, rfl, rfl, ⟨by decide, by decide, by decide⟩, _, _, rfl, rfl, _, rfl, ?_⟩
        refine ite2 (fun _ => ?_) (fun _ => ?_)
        · exact ⟨_, rfl, _, rfl, _, rfl, sz, fun p' hn => fin _ _ p' hn⟩
        · exact ⟨_, rfl, sz, fun p' hn => fin _ _ p' hn⟩
    · refine ⟨_, rfl, _, _, rfl, rfl, .inr ⟨by decide, by decide⟩, _, rfl, .inl ⟨_, rfl, _, _, rfl, rfl, hp1, _, _, rfl, rfl, .inr ⟨by decide, by decide⟩, _, _, rfl, rfl, _, _, rfl, rfl, .inl ⟨_, rfl, _, _, rfl, rfl, hp2, ?_⟩⟩⟩
      refine ⟨_, rfl, _, _, rfl, rfl, _, rfl, ?_⟩
      refine ite2 (fun _ => ?_) (fun _ => ?_)
      · exact iteT ⟨_, rfl, _, rfl, _, rfl, sz, fun p' hn => fin _ _ p' hn⟩
      · refine ⟨_, rfl, _, _, rfl, rfl, ⟨by decide, by decide, by decide⟩, _, _, rfl, rfl, _, rfl, ?_⟩
        refine ite2 (fun _ => ?_) (fun _ => ?_)
        · exact ⟨_, rfl, _, rfl, _, rfl, sz, fun p' hn => fin _ _ p' hn⟩
        · exact ⟨_, rfl, sz, fun p' hn => fin _ _ p' hn⟩
end
end Toy

namespace L2
open PySem PySem.Spec PyProof.Rows
theorem PE.imp {X : Cx} {e : Expr} {t t' : TE} (h : PE X e t) (i : ∀ σ H Q, t' σ H Q → t σ H Q) : PE X e t' := ⟨fun pins s σ H Q I q => h.run pins s σ H Q I (i σ H Q q)⟩
theorem PA.imp {X : Cx} {es : List Expr} {t t' : TA} (h : PA X es t) (i : ∀ σ H Q, t' σ H Q → t σ H Q) : PA X es t' := ⟨fun pos pins s σ H Q I q => h.run pos pins s σ H Q I (i σ H Q q)⟩
theorem Same.seqT {K : PySem.W.Frag} {H H' : Hp} {a : Addr} {xs : List V} (e : Same H H') (h : SqT K H a xs) : SqT K H' a xs := by
  rcases h with (h | ⟨o, h⟩) | h
  · exact .inl (.inl (e _ _ h))
  · exact .inl (.inr ⟨o, e _ _ h⟩)
  · exact .inr h
mutual
theorem Dq.mono {K : PySem.W.Frag} {H H' : Hp} (e : Same H H') : ∀ (d : PyData) (v : V), Dq K H v d → Dq K H' v d
  | .none, _, .non => .non
  | .bool _, _, .bl b => .bl b
  | .int _, _, .int i => .int i
  | .str _, _, .str x => .str x
  | .list ds, _, .lst h a => .lst (e.seq h) (DqAll.mono e ds _ a)
  | .tuple ds, _, .tup h a => .tup (e.seqT h) (DqAll.mono e ds _ a)
  | .dict [], _, .dic h => .dic (e _ _ h)
theorem DqAll.mono {K : PySem.W.Frag} {H H' : Hp} (e : Same H H') : ∀ (ds : List PyData) (vs : List V), DqAll K H vs ds → DqAll K H' vs ds
  | [], _, .nil => .nil
  | d :: ds, _, .cons h r => .cons (Dq.mono e d _ h) (DqAll.mono e ds _ r)
end
theorem DqAll.append {K : PySem.W.Frag} {H : Hp} : ∀ {vs ws : List V} {ds es : List PyData}, DqAll K H vs ds → DqAll K H ws es → DqAll K H (vs ++ ws) (ds ++ es)
  | [], _, [], _, .nil, s => s
  | _ :: _, _, _ :: _, _, .cons r t, s => .cons r (DqAll.append t s)
theorem DqAll.get {K : PySem.W.Frag} {H : Hp} : ∀ {vs : List V} {ds : List PyData} {v : V}, DqAll K H vs ds → v ∈ vs → ∃ d, d ∈ ds ∧ Dq K H v d
  | v :: vs, d :: ds, x, .cons r t, m => by
    rcases List.mem_cons.mp m with rfl | m
    · exact ⟨d, List.mem_cons_self, r⟩
    · obtain ⟨d', h1, h2⟩ := DqAll.get t m
      exact ⟨d', List.mem_cons_of_mem _ h1, h2⟩
theorem DqAll.len {K : PySem.W.Frag} {H : Hp} : ∀ {vs : List V} {ds : List PyData}, DqAll K H vs ds → vs.length = ds.length
  | [], [], .nil => rfl
  | _ :: _, _ :: _, .cons _ t => congrArg Nat.succ (DqAll.len t)
/-- what is new in H' -/
def newer (H H' : Hp) : Hp := fun b => match H b with | none => H' b | some _ => none
theorem newer_of {H H' : Hp} {b : Addr} (h : H b = none) : newer H H' b = H' b := by unfold newer; rw [h]
theorem newer_same {H H1 H2 : Hp} (e : Same H1 H2) : Same (newer H H1) (newer H H2) := fun b o h => by
  unfold newer at h ⊢
  cases q : H b with
  | none => rw [q] at h; exact e _ _ h
  | some u => rw [q] at h; cases h
theorem newer_ahead {H H1 H2 : Hp} (e : Same H H1) : Same (newer H1 H2) (newer H H2) := fun b o h => by
  unfold newer at h ⊢
  cases q : H1 b with
  | none => rw [q] at h; rw [e.free q]; exact h
  | some u => rw [q] at h; cases h
theorem newer_all {H H' : Hp} : Same (newer H H') H' := fun b o h => by
  unfold newer at h
  cases q : H b with
  | none => rw [q] at h; exact h
  | some u => rw [q] at h; cases h
/-! ### written data -/
mutual
inductive ED : Expr → PyData → Prop
  | non {j p} : ED (.Constant .none j p) .none
  | bl {b j p} : ED (.Constant (.bool b) j p) (.bool b)
  | int {i j p} : ED (.Constant (.int i) j p) (.int i)
  | str {x j p} : ED (.Constant (.str x) j p) (.str x)
  | neg {i j p p'} : ED (.UnaryOp .USub (.Constant (.int i) j p) p') (.int (-i))
  | pow {i j k k' p p' p''} : CPow i j → ED (.BinOp (.Constant (.int i) k p) .Pow (.Constant (.int j) k' p') p'') (.int (i ^ j.toNat))
  | tup {es ds k p} : EDs es ds → ds.length ≤ 1000 → ED (.Tuple es k p) (.tuple ds)
  | lst {es ds p} : EDs es ds → ds.length ≤ 1000 → ED (.List es p) (.list ds)
  | dic {p} : ED (.Dict [] [] p) (.dict [])
inductive EDs : List Expr → List PyData → Prop
  | nil : EDs [] []
  | cons {e es d ds} : ED e d → EDs es ds → EDs (e :: es) (d :: ds)
end
theorem ED.star {e : Expr} {d : PyData} (h : ED e d) (es : List Expr) (env : Env) : starEach (e :: es) env = (false, eval e env) :: starEach es env := by
  cases h <;> rfl
def tData (K : PySem.W.Frag) (d : PyData) : TE := fun σ H Q => ∀ v H', Same H H' → Dq K (newer H H') v d → Q v H'
def tDatas (K : PySem.W.Frag) (ds : List PyData) : TA := fun σ H Q => ∀ vs H', Same H H' → DqAll K (newer H H') vs ds → Q vs H'
theorem sz1000 {n : Nat} (h : n ≤ 1000) : n ≤ sizeLine := Nat.le_of_lt (small1000 h)
mutual
theorem ED.pe {X : Cx} : ∀ {e : Expr} {d : PyData}, ED e d → PE X e (tData X.K d)
  | _, _, .non => pe_non.imp fun σ H Q q => q _ H (Same.refl H) .non
  | _, _, .bl => pe_bl.imp fun σ H Q q => q _ H (Same.refl H) (.bl _)
  | _, _, .int => pe_int.imp fun σ H Q q => q _ H (Same.refl H) (.int _)
  | _, _, .str => pe_str.imp fun σ H Q q => q _ H (Same.refl H) (.str _)
  | _, _, .neg => (pe_un un_neg pe_int).imp fun σ H Q q => ⟨_, rfl, q _ H (Same.refl H) (.int _)⟩
  | _, _, .pow c => (pe_op op_pow pe_int pe_int).imp fun σ H Q q => ⟨_, _, rfl, rfl, c, q _ H (Same.refl H) (.int _)⟩
  | _, _, .dic => pe_dnewK.imp fun σ H Q q => fun p hp => q _ _ (fun b o h => by rw [upd_ne (ne_of_none h hp)]; exact h) (.dic (by rw [newer_of hp]; exact upd_same))
  | _, _, .tup h z => (pe_tup (EDs.pa h)).imp fun σ H Q q => fun vs H1 s1 D => ⟨by rw [D.len]; exact sz1000 z, fun p hp => by
      have s2 : Same H1 (upd H1 p (.tup vs)) := fun b o h => by rw [upd_ne (ne_of_none h hp)]; exact h
      refine q _ _ (s1.trans s2) (.tup (SqT.of (by rw [newer_of (s1.free hp)]; exact upd_same)) (DqAll.mono (newer_same s2) _ _ D))⟩
  | _, _, .lst h z => (pe_lst (EDs.pa h)).imp fun σ H Q q => fun vs H1 s1 D => ⟨by rw [D.len]; exact sz1000 z, fun p hp => by
      have s2 : Same H1 (upd H1 p (.lst vs)) := fun b o h => by rw [upd_ne (ne_of_none h hp)]; exact h
      refine q _ _ (s1.trans s2) (.lst (SqL.of (by rw [newer_of (s1.free hp)]; exact upd_same)) (DqAll.mono (newer_same s2) _ _ D))⟩
theorem EDs.pa {X : Cx} : ∀ {es : List Expr} {ds : List PyData}, EDs es ds → PA X es (tDatas X.K ds)
  | _, _, .nil => pa_nil.imp fun σ H Q q => q [] H (Same.refl H) .nil
  | _, _, .cons h r => (pa_cons (ED.pe h) (EDs.pa r) (hs := h.star _ _)).imp fun σ H Q q => fun v H1 s1 D => fun vs H2 s2 Ds => q _ _ (s1.trans s2) (.cons (Dq.mono (newer_same s2) _ _ D) (DqAll.mono (newer_ahead s1) _ _ Ds))
end
end L2

namespace Toy
open PySem L2
abbrev sOdd : Stmt := top 22
def asgVal : Stmt → Expr
  | .Assign _ e _ => e
  | _ => .Constant .none 0 ⟨0, 0, 0, 0⟩
def oddVal (i : Nat) : Expr := asgVal ((defBody sOdd).getD i (.Pass ⟨0, 0, 0, 0⟩))
abbrev ds (x : String) : PyData := .str (Str.ofString x)
abbrev dt (l : List PyData) : PyData := .tuple l
abbrev di (i : Int) : PyData := .int i
def dSome : List PyData := [.none, .bool true, .bool false, di 0, di 1, di (-1), di 12, di (10 ^ 30), ds "", ds "thing", ds "Row", ds "Row'", ds "Row'Tree", ds "row", ds "left", dt [], dt [di 0]]
def dMore : List PyData := [dt [ds "thing"], dt [ds "thing", dt []], dt [ds "none"], dt [ds "name", ds "Row"], dt [ds "name", ds "row"], dt [ds "unit", di 1], dt [ds "pair", dt [ds "thing"]]]
def dEnds : List PyData := [dt [ds "pair", di 5, di 6], dt [ds "either", dt [ds "unit"], dt [ds "thing"]], dt [ds "left", dt []], dt [ds "right", .bool true], .list [], .list [ds "thing"], .dict [], dt [dt []]]
def dLast : List PyData := [dt [di 1, di 2], dt [di 1, .bool true], dt [ds "next"], dt [ds "put", di 3], dt [dt [ds "Row", dt [ds "unit"]]], dt [dt [ds "unit"]], dt [.none], dt [ds "left", di 1, di 2]]
def dOdd : List PyData := dSome ++ dMore ++ dEnds ++ dLast
theorem hSome : ED (oddVal 0) (.tuple dSome) := by
  refine ED.tup ?_ (by decide)
  repeat' (first | exact ED.non | exact ED.bl | exact ED.int | exact ED.str | exact ED.neg | exact ED.dic | exact ED.pow ⟨by decide, by decide, by decide⟩ | refine ED.tup ?_ (by decide) | refine ED.lst ?_ (by decide) | exact EDs.nil | refine EDs.cons ?_ ?_)
theorem hMore : ED (oddVal 1) (.tuple dMore) := by
  refine ED.tup ?_ (by decide)
  repeat' (first | exact ED.non | exact ED.bl | exact ED.int | exact ED.str | exact ED.neg | exact ED.dic | refine ED.tup ?_ (by decide) | refine ED.lst ?_ (by decide) | exact EDs.nil | refine EDs.cons ?_ ?_)
theorem hEnds : ED (oddVal 2) (.tuple dEnds) := by
  refine ED.tup ?_ (by decide)
  repeat' (first | exact ED.non | exact ED.bl | exact ED.int | exact ED.str | exact ED.neg | exact ED.dic | refine ED.tup ?_ (by decide) | refine ED.lst ?_ (by decide) | exact EDs.nil | refine EDs.cons ?_ ?_)
theorem hLast : ED (oddVal 3) (.tuple dLast) := by
  refine ED.tup ?_ (by decide)
  repeat' (first | exact ED.non | exact ED.bl | exact ED.int | exact ED.str | exact ED.neg | exact ED.dic | refine ED.tup ?_ (by decide) | refine ED.lst ?_ (by decide) | exact EDs.nil | refine EDs.cons ?_ ?_)
/-- data that may be shown: how long its text is, how deep it is -/
structure Fit (d : PyData) (n k : Nat) : Prop where
  ok : d.showable = true
  sz : d.shown.length ≤ n
  dp : d.depth ≤ k
def fitB (d : PyData) (n k : Nat) : Bool := d.showable && (decide (d.shown.length ≤ n) && decide (d.depth ≤ k))
theorem fitB_ok {d : PyData} {n k : Nat} (h : fitB d n k = true) : Fit d n k := by
  unfold fitB at h
  obtain ⟨h1, h2⟩ := Bool.and_eq_true_iff.mp h
  obtain ⟨h3, h4⟩ := Bool.and_eq_true_iff.mp h2
  exact ⟨h1, of_decide_eq_true h3, of_decide_eq_true h4⟩
theorem odd_fits : dOdd.all (fun d => fitB d 60 5) = true := by decide +kernel
theorem odd_fit {d : PyData} (h : d ∈ dOdd) : Fit d 60 5 := fitB_ok (List.all_eq_true.mp odd_fits d h)
theorem But.free {wl b : Addr} {H H' : Hp} (e : But wl H H') (w : WellAt H' wl) (h : H' b = none) : H b = none := by
  cases q : H b with
  | none => rfl
  | some o =>
    by_cases n : b = wl
    · obtain ⟨_, _, _, z⟩ := w
      rw [n, z] at h
      cases h
    · rw [e b o n q] at h
      cases h
theorem newerB {wl : Addr} {H H1 H2 : Hp} (w : WellAt H wl) (e : But wl H1 H2) : Same (newer H H1) (newer H H2) := fun b o h => by
  unfold newer at h ⊢
  cases q : H b with
  | none =>
    rw [q] at h
    exact e b o (fun n => by obtain ⟨_, _, _, z⟩ := w; rw [n, z] at q; cases q) h
  | some u => rw [q] at h; cases h
theorem aheadB {wl : Addr} {H H1 H2 : Hp} (e : But wl H H1) (w : WellAt H1 wl) : Same (newer H1 H2) (newer H H2) := fun b o h => by
  unfold newer at h ⊢
  cases q : H1 b with
  | none => rw [q] at h; rw [e.free w q]; exact h
  | some u => rw [q] at h; cases h
/-- a piece made between H and H' -/
def Pn (K : PySem.W.Frag) (H H' : Hp) (v : V) (n k : Nat) : Prop := ∃ d, Dq K (newer H H') v d ∧ Fit d n k
theorem Pn.up {K : PySem.W.Frag} {H H' : Hp} {v : V} {n k n' k' : Nat} (h : Pn K H H' v n k) (a : n ≤ n') (b : k ≤ k') : Pn K H H' v n' k' := let ⟨d, x, y⟩ := h; ⟨d, x, ⟨y.ok, Nat.le_trans y.sz a, Nat.le_trans y.dp b⟩⟩
theorem Pn.on {K : PySem.W.Frag} {H H1 H2 : Hp} {v : V} {n k : Nat} (h : Pn K H H1 v n k) (e : Same (newer H H1) (newer H H2)) : Pn K H H2 v n k := let ⟨d, x, y⟩ := h; ⟨d, Dq.mono e _ _ x, y⟩
theorem Pn.from {K : PySem.W.Frag} {H H1 H2 : Hp} {v : V} {n k : Nat} (h : Pn K H1 H2 v n k) (e : Same (newer H1 H2) (newer H H2)) : Pn K H H2 v n k := let ⟨d, x, y⟩ := h; ⟨d, Dq.mono e _ _ x, y⟩
def spOdd (K : PySem.W.Frag) : Sp := fun vs H Q _ => ∃ (wl : Addr), vs = [.ref wl] ∧ WellAt H wl ∧ ∀ (v : V) (H' : Hp), Pn K H H' v 60 5 → WellAt H' wl → But wl H H' → Q v H'
section
variable {P : Program} {w : World} {K : PySem.W.Frag} {mg : Str → Option Value} {base : Heap}
theorem scO : FnScope ["well", "some", "more", "ends", "last"] ["well"] (defScope sOdd) := ⟨rfl, rfl, rfl, by decide +kernel, rfl, by decide +kernel, by decide +kernel⟩
theorem dq_tup {H : Hp} {v : V} {l : List PyData} (h : Dq K H v (.tuple l)) : ∃ a xs, v = .ref a ∧ SqT K H a xs ∧ DqAll K H xs l := by
  cases h with
  | tup h a => exact ⟨_, _, rfl, h, a⟩
theorem ok_odd {f g : Addr} {fd gd : FuncData} (F : Fun K "_law_odd" "_law_odd" sOdd f fd) (G : FnOk P w K mg base CX0 2 g gd ["well", "some"] (spPick K)) (bG : Binds K gd ["well", "some"] []) (kG : PySem.W.keepIn K (.ref g) = true) (mG : mg "_law_pick" = some (.ref g)) :
    FnOk P w K mg base CX0 3 f fd ["well"] (spOdd K) := by
  refine F.ok scO (fun vs H Q E h => ?_) (fun cdv A outer s H vs Q E hr h => ?_)
  · obtain ⟨wl, rfl, _⟩ := h
    rfl
  obtain ⟨wl, rfl, hw, q⟩ := h
  refine ⟨_, pss_cons (ps_set (i := 1) scO.nd rfl (.inl rfl) (ED.pe hSome)) (pss_cons (ps_set (i := 2) scO.nd rfl (.inl rfl) (ED.pe hMore)) (pss_cons (ps_set (i := 3) scO.nd rfl (.inl rfl) (ED.pe hEnds)) (pss_cons (ps_set (i := 4) scO.nd rfl (.inl rfl) (ED.pe hLast))
    (pss_one (ps_ret (pe_call G hr rfl mG kG bG .nil pass0 (pa_cons (pv 0) (pa_cons (pe_op op_catT (pe_op op_catT (pe_op op_catT (pv 1) (pv 2)) (pv 3)) (pv 4)) pa_nil)))))))), ?_⟩
  intro v1 H1 s1 D1 v2 H2 s2 D2 v3 H3 s3 D3 v4 H4 s4 D4
  obtain ⟨a1, x1, rfl, t1, A1⟩ := dq_tup (Dq.mono (newer_same (s2.trans (s3.trans s4))) _ _ D1)
  obtain ⟨a2, x2, rfl, t2, A2⟩ := dq_tup (Dq.mono (newer_same (s3.trans s4)) _ _ (Dq.mono (newer_ahead s1) _ _ D2))
  obtain ⟨a3, x3, rfl, t3, A3⟩ := dq_tup (Dq.mono (newer_same s4) _ _ (Dq.mono (newer_ahead (s1.trans s2)) _ _ D3))
  obtain ⟨a4, x4, rfl, t4, A4⟩ := dq_tup (Dq.mono (newer_ahead (s1.trans (s2.trans s3))) _ _ D4)
  have S : Same H H4 := s1.trans (s2.trans (s3.trans s4))
  have l1 : x1.length = 17 := A1.len
  have l2 : x2.length = 7 := A2.len
  have l3 : x3.length = 8 := A3.len
  have l4 : x4.length = 8 := A4.len
  have ne : ∀ {l : List V} {n : Nat}, l.length = n + 1 → l ≠ [] := fun h z => by rw [z] at h; cases h
  refine ⟨_, rfl, _, rfl, _, rfl, _, _, _, _, rfl, rfl, newer_all.seqT t1, newer_all.seqT t2, ne l1, sz1000 (by omega), fun z => absurd z (ne l2), fun _ p hp => ?_⟩
  have u1 := same_new hp (.tup (x1 ++ x2))
  refine ⟨_, rfl, _, _, _, _, rfl, rfl, SqT.of upd_same, u1.seqT (newer_all.seqT t3), (by rw [← List.length_pos_iff, List.length_append]; omega), sz1000 (by rw [List.length_append]; omega), fun z => absurd z (ne l3), fun _ p2 hp2 => ?_⟩
  have u2 := same_new hp2 (.tup (x1 ++ x2 ++ x3))
  refine ⟨_, rfl, _, _, _, _, rfl, rfl, SqT.of upd_same, u2.seqT (u1.seqT (newer_all.seqT t4)), (by rw [← List.length_pos_iff, List.length_append, List.length_append]; omega), sz1000 (by rw [List.length_append, List.length_append]; omega), fun z => absurd z (ne l4), fun _ p3 hp3 => ?_⟩
  have u3 := same_new hp3 (.tup (x1 ++ x2 ++ x3 ++ x4))
  have S' : Same H4 (upd (upd (upd H4 p (.tup (x1 ++ x2))) p2 (.tup (x1 ++ x2 ++ x3))) p3 (.tup (x1 ++ x2 ++ x3 ++ x4))) := u1.trans (u2.trans u3)
  obtain ⟨wa, wb, wc, hw0⟩ := id hw
  have len4 : (x1 ++ x2 ++ x3 ++ x4).length = 40 := by simp only [List.length_append]; omega
  refine ⟨wl, p3, _, rfl, ⟨wa, wb, wc, (S.trans S') _ _ hw0⟩, SqT.of upd_same, by omega, by omega, fun v H' hv hw' hb => ?_⟩
  have AA : DqAll K (newer H H4) (x1 ++ x2 ++ x3 ++ x4) (dSome ++ dMore ++ dEnds ++ dLast) := ((A1.append A2).append A3).append A4
  obtain ⟨d, hd, D⟩ := AA.get hv
  have bb : But wl H4 H' := (But.of S').trans hb
  refine q v H' ⟨d, Dq.mono (newerB hw bb) _ _ D, odd_fit hd⟩ hw' ((But.of S).trans bb)
end
end Toy

namespace Toy
open PySem L2
abbrev sPiece : Stmt := top 23
/-! ### how long shown tuples are -/
def bndN : Nat → Nat
  | 0 => 60
  | n + 1 => 3 * bndN n + 10
theorem join_le (N : Nat) : ∀ ts : List Str, (∀ t ∈ ts, t.length ≤ N) → (Str.join ", " ts).length ≤ ts.length * N + 2 * ts.length
  | [], _ => Nat.zero_le _
  | [x], h => by
    have := h x List.mem_cons_self
    show x.length ≤ _
    simp only [List.length_cons, List.length_nil]
    omega
  | x :: y :: r, h => by
    have h1 := h x List.mem_cons_self
    have h2 := join_le N (y :: r) fun t ht => h t (List.mem_cons_of_mem _ ht)
    show (x ++ ", " ++ Str.join ", " (y :: r)).length ≤ _
    rw [strLen_append, strLen_append]
    have h3 : (", " : Str).length = 2 := by decide
    simp only [List.length_cons] at h2 ⊢
    rw [Nat.add_mul, Nat.one_mul]
    omega
theorem shownAll_le {N : Nat} : ∀ (l : List PyData), (∀ d ∈ l, d.shown.length ≤ N) → (∀ t ∈ PyData.shownAll l, t.length ≤ N) ∧ (PyData.shownAll l).length = l.length
  | [], _ => by
    have e : PyData.shownAll [] = [] := by simp only [PyData.shownAll]
    rw [e]
    exact ⟨(fun t h => by cases h), rfl⟩
  | d :: r, h => by
    obtain ⟨a, b⟩ := shownAll_le r fun x hx => h x (List.mem_cons_of_mem _ hx)
    have e : PyData.shownAll (d :: r) = d.shown :: PyData.shownAll r := by simp only [PyData.shownAll]
    rw [e]
    refine ⟨fun t ht => ?_, by simp only [List.length_cons, b]⟩
    rcases List.mem_cons.mp ht with rfl | ht
    · exact h d List.mem_cons_self
    · exact a t ht
theorem showAll_ok : ∀ {l : List PyData}, (∀ d ∈ l, d.showable = true) → PyData.showableAll l = true
  | [], _ => by simp only [PyData.showableAll]
  | d :: r, h => by
    simp only [PyData.showableAll, h d List.mem_cons_self, showAll_ok (l := r) fun x hx => h x (List.mem_cons_of_mem _ hx), Bool.and_self]
theorem depthAll_le {k : Nat} : ∀ {l : List PyData}, (∀ d ∈ l, d.depth ≤ k) → PyData.depthAll l ≤ k
  | [], _ => by simp only [PyData.depthAll]; exact Nat.zero_le _
  | d :: r, h => by
    have h1 := h d List.mem_cons_self
    have h2 := depthAll_le (l := r) fun x hx => h x (List.mem_cons_of_mem _ hx)
    simp only [PyData.depthAll]
    omega
theorem tup_fit {l : List PyData} {N k : Nat} (hl : l.length ≤ 3) (h : ∀ d ∈ l, Fit d N k) : Fit (.tuple l) (3 * N + 10) (k + 1) := by
  refine ⟨by simp only [PyData.showable]; exact showAll_ok fun d hd => (h d hd).ok, ?_, by have := depthAll_le fun d hd => (h d hd).dp; simp only [PyData.depth]; omega⟩
  obtain ⟨a, b⟩ := shownAll_le (N := N) l fun d hd => (h d hd).sz
  have j := join_le N _ a
  rw [b] at j
  have j2 : l.length * N ≤ 3 * N := Nat.mul_le_mul_right _ hl
  simp only [PyData.shown]
  unfold tupleText
  rw [strLen_append, strLen_append]
  have h1 : ("(" : Str).length = 1 := by decide
  have h2 : (",)" : Str).length = 2 := by decide
  have h3 : (")" : Str).length = 1 := by decide
  split <;> omega
theorem sum_le (N : Nat) : ∀ ts : List Str, (∀ t ∈ ts, t.length ≤ N) → (ts.map (·.length)).sum ≤ ts.length * N
  | [], _ => Nat.zero_le _
  | x :: r, h => by
    have h1 := h x List.mem_cons_self
    have h2 := sum_le N r fun t ht => h t (List.mem_cons_of_mem _ ht)
    simp only [List.map_cons, List.sum_cons, List.length_cons]
    rw [Nat.add_mul, Nat.one_mul]
    omega
theorem lst_fit {l : List PyData} {N k : Nat} (hl : l.length ≤ 4) (h : ∀ d ∈ l, Fit d N k) : Fit (.list l) (4 * N + 20) (k + 1) := by
  refine ⟨by simp only [PyData.showable]; exact showAll_ok fun d hd => (h d hd).ok, ?_, by have := depthAll_le fun d hd => (h d hd).dp; simp only [PyData.depth]; omega⟩
  obtain ⟨a, b⟩ := shownAll_le (N := N) l fun d hd => (h d hd).sz
  have j := textFrom_len_le (PyData.shownAll l) 0 "["
  have j1 := sum_le N _ a
  rw [b] at j j1
  have j2 : l.length * N ≤ 4 * N := Nat.mul_le_mul_right _ hl
  simp only [PyData.shown]
  unfold listText
  rw [strLen_append]
  have h1 : ("[" : Str).length = 1 := by decide
  have h2 : ("]" : Str).length = 1 := by decide
  omega
theorem int_fit {x : Int} (h1 : -4194304 < x) (h2 : x < 4194304) : Fit (.int x) 60 5 := by
  have hn : x.natAbs < 10 ^ 7 := by omega
  have hz : x.natAbs < 2 ^ 22 := by omega
  refine ⟨?_, ?_, by simp only [PyData.depth]; omega⟩
  · simp only [PyData.showable]
    refine decide_eq_true ?_
    by_cases h0 : x.natAbs = 0
    · rw [h0]; decide
    · have := (Nat.log2_lt h0).mpr hz
      omega
  · simp only [PyData.shown]
    have := int_text_length_le10 (a := x) (k := 7) (by decide) hn
    show (Str.ofString (toString x)).length ≤ 60
    rw [ofString_length]
    omega
theorem newer_sub {A B C D : Hp} (h : ∀ b o, A b = none → B b = some o → C b = none ∧ D b = some o) : Same (newer A B) (newer C D) := fun b o e => by
  unfold newer at e
  cases q : A b with
  | none =>
    rw [q] at e
    obtain ⟨x, y⟩ := h b o q e
    rw [newer_of x]
    exact y
  | some u => rw [q] at e; cases e
theorem Pn.move {K : PySem.W.Frag} {A B C D : Hp} {v : V} {n k : Nat} (h : Pn K A B v n k) (e : Same (newer A B) (newer C D)) : Pn K C D v n k := let ⟨d, x, y⟩ := h; ⟨d, Dq.mono e _ _ x, y⟩
/-! ### a piece -/
def spPiece (K : PySem.W.Frag) (n : Nat) : Sp := fun vs H Q _ => ∃ (wl : Addr), vs = [.ref wl, .int n] ∧ WellAt H wl ∧ ∀ (v : V) (H' : Hp), Pn K H H' v (bndN n) (5 + n) → WellAt H' wl → But wl H H' → Q v H'
section
variable {P : Program} {w : World} {K : PySem.W.Frag} {mg : Str → Option Value} {base : Heap}
theorem scPc : FnScope ["well", "deep", "branch", "made", "turn"] ["well", "deep"] (defScope sPiece) := ⟨rfl, rfl, rfl, by decide +kernel, rfl, by decide +kernel, by decide +kernel⟩
/-- what is known of a def that is called: its promise, its place -/
structure Gv (P : Program) (w : World) (K : PySem.W.Frag) (mg : Str → Option Value) (base : Heap) (k : Nat) (x : Str) (f : Addr) (fd : FuncData) (ps : List Str) (sp : Sp) : Prop where
  ok : FnOk P w K mg base CX0 k f fd ps sp
  b : Binds K fd ps []
  k : PySem.W.keepIn K (.ref f) = true
  m : mg x = some (.ref f)
theorem bnd_up (n : Nat) : 60 ≤ bndN n := by
  induction n with
  | zero => exact Nat.le_refl _
  | succ n ih => show 60 ≤ 3 * bndN n + 10; omega
theorem dqAll_tuple {H : Hp} {vs : List V} {N k : Nat} : (∀ v ∈ vs, ∃ d, Dq K H v d ∧ Fit d N k) → ∃ ds, DqAll K H vs ds ∧ (∀ d ∈ ds, Fit d N k) ∧ ds.length = vs.length := by
  induction vs with
  | nil => exact fun _ => ⟨[], .nil, (fun _ h => nomatch h), rfl⟩
  | cons v r ih =>
    intro h
    obtain ⟨d, a, b⟩ := h v List.mem_cons_self
    obtain ⟨ds, c, e, g⟩ := ih fun x hx => h x (List.mem_cons_of_mem _ hx)
    refine ⟨d :: ds, .cons a c, fun x hx => ?_, congrArg Nat.succ g⟩
    rcases List.mem_cons.mp hx with rfl | hx
    · exact b
    · exact e x hx
theorem ok_piece {f fD fO : Addr} {fd dD dO : FuncData} {n k : Nat} {sp' : Sp} (hk : 3 ≤ k) (F : Fun K "_law_piece" "_law_piece" sPiece f fd) (D : Gv P w K mg base 1 "_law_draw" fD dD ["well", "many"] spDraw) (O : Gv P w K mg base 3 "_law_odd" fO dO ["well"] (spOdd K))
    (R : Gv P w K mg base k "_law_piece" f fd ["well", "deep"] sp') (hR : n ≠ 0 → sp' = spPiece K (n - 1)) (mr : mg "range" = none) (mt : mg "tuple" = none) : FnOk P w K mg base CX0 (k + 1) f fd ["well", "deep"] (spPiece K n) := by
  refine F.ok scPc (fun vs H Q E h => ?_) (fun cdv A outer s H vs Q E hr h => ?_)
  · obtain ⟨wl, rfl, _⟩ := h
    rfl
  obtain ⟨wl, rfl, hw, q⟩ := h
  have hr1 : Room 1 (A.deeper _) := hr.mono (by omega)
  have hr3 : Room 3 (A.deeper _) := hr.mono hk
  refine ⟨_, pss_cons (ps_set (i := 2) scPc.nd rfl (.inl rfl) (pe_call D.ok hr1 rfl D.m D.k D.b .nil pass0 (pa_cons (pv 0) (pa_cons pe_int pa_nil))))
    (pss_cons (ps_if (pt_cmpR op_lt (pv 2) pe_int (nomark _)) (pss_one (ps_ret (pe_op op_sub (pe_call D.ok hr1 rfl D.m D.k D.b .nil pass0 (pa_cons (pv 0) (pa_cons pe_int pa_nil))) pe_int))) pss_nil)
    (pss_cons (ps_if (PW.pt (pw_or (pt_cmpR op_lt (pv 2) pe_int (nomark _)) (pw_or1 (pt_cmpR op_eq (pv 1) pe_int (nomark _))))) (pss_one (ps_ret (pe_call O.ok hr3 rfl O.m O.k O.b .nil pass0 (pa_cons (pv 0) pa_nil)))) pss_nil)
    (pss_cons (ps_set (i := 3) scPc.nd rfl (.inl rfl) (pe_lst pa_nil))
    (pss_cons (ps_for PassesOwn.never rfl (pi_range1 (by rfl) mr (pa_cons (pe_call D.ok hr1 rfl D.m D.k D.b .nil pass0 (pa_cons (pv 0) (pa_cons pe_int pa_nil))) pa_nil)) (pg_name (i := 4) scPc.nd rfl (.inl rfl))
      (pss_one (ps_expr (pe_bm PySem.F.plainAttrs_list PySem.F.slot_list_append PySem.F.type_list_append mt_append (pv 3) (pa_cons (pe_call R.ok hr rfl R.m R.k R.b .nil pass0 (pa_cons (pv 0) (pa_cons (pe_op op_sub (pv 1) pe_int) pa_nil))) pa_nil)))))
    (pss_one (ps_ret (pe_callTy call_tuple_of (by rfl) mt (by decide +kernel) (pa_cons (pv 3) pa_nil)))))))), ?_⟩
  refine ⟨_, rfl, wl, 6, rfl, by decide, by decide, hw, fun br H1 b0 b1 w1 e1 => ?_⟩
  refine ⟨_, rfl, _, _, rfl, rfl, _, rfl, ?_⟩
  refine ite2 (fun _ => ?_) (fun _ => ?_)
  · refine ⟨_, rfl, wl, 3000017, rfl, by decide, by decide, w1, fun x H2 x0 x1 w2 e2 => ⟨_, _, rfl, rfl, ?_⟩⟩
    exact q _ H2 ⟨_, .int _, by have := int_fit (x := x - 1500008) (by omega) (by omega); exact ⟨this.ok, Nat.le_trans this.sz (bnd_up n), Nat.le_trans this.dp (by omega)⟩⟩ w2 (e1.trans e2)
  · -- an odd thing, or a tuple of pieces
    have pieces : n ≠ 0 → (∃ l0 : Unit, True) := fun _ => ⟨(), trivial⟩
    have odd : ∀ {Q' : VK}, (∀ v H', Pn K H H' v (bndN n) (5 + n) → WellAt H' wl → But wl H H' → Q' v H') → spOdd K [.ref wl] H1 Q' E0 := fun {Q'} hq => ⟨wl, rfl, w1, fun v H' p w' e => hq v H' ((p.from (aheadB e1 w1)).up (bnd_up n) (by omega)) w' (e1.trans e)⟩
    refine ⟨_, rfl, _, _, rfl, rfl, _, rfl, ?_⟩
    refine ite2 (fun _ => ?_) (fun _ => ?_)
    · exact iteT ⟨_, rfl, odd q⟩
    · refine ⟨_, rfl, rfl, _, rfl, ?_⟩
      refine ite2 (fun _ => ?_) (fun hn => ?_)
      · exact ⟨_, rfl, odd q⟩
      · have n0 : n ≠ 0 := fun z => hn (by rw [z]; exact decide_eq_true rfl)
        obtain rfl := hR n0
        refine ⟨by show 0 ≤ sizeLine; decide, fun l hl => ?_⟩
        have w2 : WellAt (upd H1 l (.lst [])) wl := by
          obtain ⟨x, y, z, h⟩ := w1
          exact ⟨x, y, z, by rw [upd_ne (ne_of_none h hl)]; exact h⟩
        have e2 : But wl H1 (upd H1 l (.lst [])) := But.new hl _
        have nl : l ≠ wl := fun z => by
          obtain ⟨_, _, _, h⟩ := w1
          rw [z, h] at hl
          cases hl
        have hl0 : H l = none := e1.free w1 hl
        refine ⟨_, rfl, wl, 4, rfl, by decide, by decide, w2, fun m H3 m0 m1 w3 e3 => ⟨m, rfl, by omega, by omega, ?_⟩⟩
        have hl3 : H3 l = some (.lst []) := e3 l _ nl upd_same
        -- the loop: made holds pieces made behind H3
        refine for_range (lo := 0) (n := m.toNat) (fun i σ H' => ∃ (xs : List V) (c : Option V), σ = [some (.ref wl), some (.int n), some (.int br), some (.ref l), c] ∧ xs.length = i ∧ H' l = some (.lst xs) ∧ WellAt H' wl ∧
          (∀ b o, b ≠ wl → b ≠ l → H3 b = some o → H' b = some o) ∧ ∀ v ∈ xs, Pn K H3 H' v (bndN (n - 1)) (5 + (n - 1)))
          ⟨[], none, rfl, rfl, hl3, w3, fun _ _ _ _ h => h, fun _ h => nomatch h⟩ ?_ ?_
        · rintro i σ H4 hi ⟨xs, c, rfl, hx, hl4, w4, k4, p4⟩
          have hm : xs.length < 4 := by omega
          have en : (V.int ((n : Int) - 1)) = V.int ((n - 1 : Nat) : Int) := by
            have : (n : Int) - 1 = ((n - 1 : Nat) : Int) := by omega
            rw [this]
          refine ⟨_, rfl, .inl ⟨rfl, _, SqL.of hl4⟩, _, rfl, _, rfl, _, _, rfl, rfl, wl, (by show [V.ref wl, V.int ((n : Int) - 1)] = _; rw [en]), w4, fun v H5 p5 w5 e5 => ?_⟩
          have hl5 := e5 l _ nl hl4
          refine ⟨l, xs, v, rfl, rfl, hl5, Nat.lt_of_lt_of_le hm (by decide), ?_⟩
          have some3 : ∀ {b}, H4 b = none → H3 b = none := fun {b} h => by
            cases z : H3 b with
            | none => rfl
            | some o =>
              by_cases y1 : b = wl
              · obtain ⟨_, _, _, y⟩ := w4
                rw [y1, y] at h
                cases h
              · by_cases y2 : b = l
                · rw [y2, hl4] at h
                  cases h
                · rw [k4 b o y1 y2 z] at h
                  cases h
          have ne4 : ∀ {b}, H4 b = none → b ≠ l := fun {b} h z => by rw [z, hl4] at h; cases h
          have w3l : ∀ {b}, H3 b = none → b ≠ l ∧ b ≠ wl := fun {b} h => ⟨(fun z => by rw [z, hl3] at h; cases h), (fun z => by obtain ⟨_, _, _, y⟩ := w3; rw [z, y] at h; cases h)⟩
          refine ⟨xs ++ [v], some (.int (0 + (i : Int))), rfl, by rw [List.length_append, hx]; rfl, upd_same, ?_, fun b o h1 h2 h3 => ?_, fun u hu => ?_⟩
          · obtain ⟨x, y, z, h⟩ := w5
            exact ⟨x, y, z, by rw [upd_ne (Ne.symm nl)]; exact h⟩
          · rw [upd_ne h2]
            exact e5 b o h1 (k4 b o h1 h2 h3)
          · rcases List.mem_append.mp hu with hu | hu
            · exact (p4 u hu).on (newer_sub (D := upd H5 l (.lst (xs ++ [v]))) fun b o h1 h2 => ⟨h1, by rw [upd_ne (w3l h1).1]; exact e5 b o (w3l h1).2 h2⟩)
            · have e : u = v := by simpa using hu
              subst e
              exact p5.move (newer_sub (D := upd H5 l (.lst (xs ++ [u]))) fun b o h1 h2 => ⟨some3 h1, by rw [upd_ne (ne4 h1)]; exact h2⟩)
        · rintro σ H4 ⟨xs, c, rfl, hx, hl4, w4, k4, p4⟩
          refine ⟨_, rfl, l, xs, rfl, .inl ⟨SqL.of hl4, fun t ht => ?_⟩⟩
          obtain ⟨ds, D1, D2, D3⟩ := dqAll_tuple p4
          have e13 : But wl H H3 := (e1.trans e2).trans e3
          have kk : ∀ b o, b ≠ wl → H b = some o → H4 b = some o := fun b o h1 h2 => k4 b o h1 (fun z => by rw [z, hl0] at h2; cases h2) (e13 b o h1 h2)
          have fr : ∀ {b}, H4 b = none → H b = none := fun {b} h => But.free (wl := wl) kk w4 h
          have n1 : bndN n = 3 * bndN (n - 1) + 10 := by
            obtain ⟨j, rfl⟩ : ∃ j, n = j + 1 := ⟨n - 1, by omega⟩
            rfl
          refine q _ _ ⟨.tuple ds, .tup (SqT.of (by rw [newer_of (fr ht)]; exact upd_same)) (DqAll.mono (newer_sub (C := H) (D := upd H4 t (.tup xs)) fun b o h1 h2 => ⟨e13.free w3 h1, by rw [upd_ne (ne_of_none h2 ht)]; exact h2⟩) _ _ D1), ?_⟩ ?_ fun b o h1 h2 => ?_
          · have z := tup_fit (l := ds) (N := bndN (n - 1)) (k := 5 + (n - 1)) (by omega) D2
            exact ⟨z.ok, by rw [n1]; exact z.sz, Nat.le_trans z.dp (by omega)⟩
          · obtain ⟨x, y, z, h⟩ := w4
            exact ⟨x, y, z, by rw [upd_ne (ne_of_none h ht)]; exact h⟩
          · rw [upd_ne (ne_of_none (kk b o h1 h2) ht)]
            exact kk b o h1 h2
/-- nothing can be asked of it -/
theorem none_left {f : Addr} {fd : FuncData} {k : Nat} : FnOk P w K mg base CX0 k f fd ["well", "deep"] (fun _ _ _ _ => False) := ⟨fun _ _ _ _ h => h.elim, fun _ _ _ _ _ _ _ _ _ _ _ _ _ h => h.elim⟩
theorem pieces {f fD fO : Addr} {fd dD dO : FuncData} (F : Fun K "_law_piece" "_law_piece" sPiece f fd) (bF : Binds K fd ["well", "deep"] []) (mF : mg "_law_piece" = some (.ref f)) (D : Gv P w K mg base 1 "_law_draw" fD dD ["well", "many"] spDraw) (O : Gv P w K mg base 3 "_law_odd" fO dO ["well"] (spOdd K))
    (mr : mg "range" = none) (mt : mg "tuple" = none) : ∀ n : Nat, Gv P w K mg base (4 + n) "_law_piece" f fd ["well", "deep"] (spPiece K n)
  | 0 => ⟨ok_piece (n := 0) (Nat.le_refl 3) F D O ⟨none_left, bF, F.kp, mF⟩ (fun h => absurd rfl h) mr mt, bF, F.kp, mF⟩
  | n + 1 => ⟨ok_piece (n := n + 1) (k := 4 + n) (by omega) F D O (pieces F bF mF D O mr mt n) (fun _ => rfl) mr mt, bF, F.kp, mF⟩
end
end Toy

namespace Toy
open PySem L2
abbrev sPlace : Stmt := top 24
abbrev sName : Stmt := top 25
abbrev sKept : Stmt := top 26
abbrev sCls : Stmt := top 27
abbrev sIsOf : Stmt := top 28
/-- the errors by their numbers -/
def nmE : Nat → Str
  | 0 => "InvalidKind"
  | 1 => "InvalidName"
  | 2 => "InvalidHole"
  | 3 => "InvalidValue"
  | 4 => "InvalidNumber"
  | 5 => "NoSpot"
  | 6 => "NoShape"
  | 7 => "TooMany"
  | 8 => "InvalidLine"
  | 9 => "InvalidRule"
  | 10 => "NotApart"
  | 11 => "InvalidBook"
  | 12 => "InvalidDeeds"
  | 13 => "InvalidAlgebra"
  | _ => "InvalidText"
/-- the fields that stand behind the making -/
def fsOf (n : Nat) (x y : V) : List (Str × V) := if n < 11 then [("given", x)] else if n < 14 then [("index", x)] else [("column", y), ("line", x)]
def kept (n : Nat) (x y : V) : List V := if n < 14 then [x] else [x, y]
abbrev f1 (f : Str) : List V → List (Str × V) := fun vs => match vs with | [x] => [(f, x)] | _ => []
abbrev f2 : List V → List (Str × V) := fun vs => match vs with | [x, y] => [("column", y), ("line", x)] | _ => []
abbrev f2k : List V → List (Str × V) := fun vs => match vs with | [y, x] => [("column", y), ("line", x)] | _ => []
/-- what the classes of errors are known by -/
structure Er (P : Program) (w : World) (K : PySem.W.Frag) (mg : Str → Option Value) (base : Heap) (Cs : Nat → Addr) (HE : Addr) : Prop where
  m : ∀ i, i < 15 → mg (nmE i) = some (.ref (Cs i))
  k : ∀ i, i < 15 → PySem.W.keepIn K (.ref (Cs i)) = true
  g1 : ∀ i, i < 11 → Mkr P w K mg base (Cs i) 1 [] (f1 "given")
  g1k : ∀ i, i < 11 → Mkr P w K mg base (Cs i) 0 [Str.ofString "given"] (f1 "given")
  i1 : ∀ i, 11 ≤ i → i < 14 → Mkr P w K mg base (Cs i) 1 [] (f1 "index")
  i1k : ∀ i, 11 ≤ i → i < 14 → Mkr P w K mg base (Cs i) 0 [Str.ofString "index"] (f1 "index")
  t2 : Mkr P w K mg base (Cs 14) 2 [] f2
  t2k : Mkr P w K mg base (Cs 14) 0 [Str.ofString "column", Str.ofString "line"] f2k
  xf : ∀ i, i < 15 → XfC K (Cs i)
  ng : ∀ i, i < 11 → PySem.W.findIn K (.ref (Cs i)) "given" = some none
  ni : ∀ i, 11 ≤ i → i < 14 → PySem.W.findIn K (.ref (Cs i)) "index" = some none
  nl : PySem.W.findIn K (.ref (Cs 14)) "line" = some none
  nc : PySem.W.findIn K (.ref (Cs 14)) "column" = some none
  ec : ∀ i, i < 15 → ExcC K (Cs i)
  eh : ExcC K HE
  mh : mg "HoleError" = some (.ref HE)
  kit : ∀ n i, n < 15 → i < 15 → PySem.W.kitOne K (.ref (Cs n)) (.ref (Cs i)) = some (decide (i = n))
  kitH : ∀ n, n < 15 → PySem.W.kitOne K (.ref (Cs n)) (.ref HE) = some true
  kitT : ∀ n, n < 15 → PySem.W.kitOne K (.ref (Cs n)) (.type "ValueError") = some true ∧ PySem.W.kitOne K (.ref (Cs n)) (.type "Exception") = some true ∧ PySem.W.kitOne K (.ref (Cs n)) (.type "ArithmeticError") = some false ∧
    PySem.W.kitOne K (.ref (Cs n)) (.type "LookupError") = some false ∧ PySem.W.kitOne K (.ref (Cs n)) (.type "TypeError") = some false ∧ PySem.W.kitOne K (.ref (Cs n)) (.type "RuntimeError") = some false ∧ PySem.W.kitOne K (.ref (Cs n)) (.type "AttributeError") = some false
  hkit : ∀ i, i < 15 → PySem.W.kitOne K (.ref HE) (.ref (Cs i)) = some false
  hval : PySem.W.kitOne K (.ref HE) (.type "ValueError") = some true
def spMk (Cs : Nat → Addr) : Sp := fun vs H Q _ => ∃ (n : Nat) (x y : V), vs = [.int n, x, y] ∧ n < 15 ∧ ∀ (a : Addr) (H' : Hp), Same H H' → H a = none → ErAt H' a (Cs n) (fsOf n x y) → Q (.ref a) H'
def spKept (Cs : Nat → Addr) : Sp := fun vs H Q _ => ∃ (n : Nat) (a : Addr) (x y : V), vs = [.int n, .ref a] ∧ n < 15 ∧ ErAt H a (Cs n) (fsOf n x y) ∧ ∀ p, H p = none → Q (.ref p) (upd H p (.lst (kept n x y)))
theorem er_new {H : Hp} {a d C : Addr} {fs : List (Str × V)} (ha : H a = none) (hd : H d = none) (ne : d ≠ a) : Same H (upd (upd H d (exd d fs)) a (exo a C (some d))) ∧ ErAt (upd (upd H d (exd d fs)) a (exo a C (some d))) a C fs :=
  ⟨fun b o e => by rw [upd_ne (ne_of_none e ha), upd_ne (ne_of_none e hd)]; exact e, d, .inl (.inl upd_same), .inl (by rw [upd_ne ne]; exact upd_same)⟩
theorem num_eq {n : Nat} {i : Int} (h : decide (V.int (n : Int) = V.int i) = true) : (n : Int) = i := by
  have z := of_decide_eq_true h
  injection z
theorem num_ne {n : Nat} {i : Int} (h : ¬ decide (V.int (n : Int) = V.int i) = true) : (n : Int) ≠ i := fun e => h (by rw [e]; exact decide_eq_true rfl)
section
variable {P : Program} {w : World} {K : PySem.W.Frag} {mg : Str → Option Value} {base : Heap} {Cs : Nat → Addr} {HE : Addr}
theorem scPl : FnScope ["number", "one", "two"] ["number", "one", "two"] (defScope sPlace) := ⟨rfl, rfl, rfl, by decide +kernel, rfl, by decide +kernel, by decide +kernel⟩
theorem scNm : FnScope ["number", "one", "two"] ["number", "one", "two"] (defScope sName) := ⟨rfl, rfl, rfl, by decide +kernel, rfl, by decide +kernel, by decide +kernel⟩
theorem ok_place {f : Addr} {fd : FuncData} (F : Fun K "_law_by_place" "_law_by_place" sPlace f fd) (T : Er P w K mg base Cs HE) : FnOk P w K mg base CX0 2 f fd ["number", "one", "two"] (spMk Cs) := by
  refine F.ok scPl (fun vs H Q E h => ?_) (fun cdv A outer s H vs Q E hr h => ?_)
  · obtain ⟨n, x, y, rfl, _⟩ := h
    rfl
  obtain ⟨n, x, y, rfl, hn, q⟩ := h
  refine ⟨_, pss_cons (ps_if (pt_cmpR op_eq (pv 0) pe_int (nomark _)) (pss_one (ps_ret (pe_mkr (T.g1 0 (by decide)) hr rfl (T.m 0 (by decide)) (T.k 0 (by decide)) (pa_cons (pv 1) pa_nil)))) pss_nil) (
    pss_cons (ps_if (pt_cmpR op_eq (pv 0) pe_int (nomark _)) (pss_one (ps_ret (pe_mkr (T.g1 1 (by decide)) hr rfl (T.m 1 (by decide)) (T.k 1 (by decide)) (pa_cons (pv 1) pa_nil)))) pss_nil) (
    pss_cons (ps_if (pt_cmpR op_eq (pv 0) pe_int (nomark _)) (pss_one (ps_ret (pe_mkr (T.g1 2 (by decide)) hr rfl (T.m 2 (by decide)) (T.k 2 (by decide)) (pa_cons (pv 1) pa_nil)))) pss_nil) (
    pss_cons (ps_if (pt_cmpR op_eq (pv 0) pe_int (nomark _)) (pss_one (ps_ret (pe_mkr (T.g1 3 (by decide)) hr rfl (T.m 3 (by decide)) (T.k 3 (by decide)) (pa_cons (pv 1) pa_nil)))) pss_nil) (
    pss_cons (ps_if (pt_cmpR op_eq (pv 0) pe_int (nomark _)) (pss_one (ps_ret (pe_mkr (T.g1 4 (by decide)) hr rfl (T.m 4 (by decide)) (T.k 4 (by decide)) (pa_cons (pv 1) pa_nil)))) pss_nil) (
    pss_cons (ps_if (pt_cmpR op_eq (pv 0) pe_int (nomark _)) (pss_one (ps_ret (pe_mkr (T.g1 5 (by decide)) hr rfl (T.m 5 (by decide)) (T.k 5 (by decide)) (pa_cons (pv 1) pa_nil)))) pss_nil) (
    pss_cons (ps_if (pt_cmpR op_eq (pv 0) pe_int (nomark _)) (pss_one (ps_ret (pe_mkr (T.g1 6 (by decide)) hr rfl (T.m 6 (by decide)) (T.k 6 (by decide)) (pa_cons (pv 1) pa_nil)))) pss_nil) (
    pss_cons (ps_if (pt_cmpR op_eq (pv 0) pe_int (nomark _)) (pss_one (ps_ret (pe_mkr (T.g1 7 (by decide)) hr rfl (T.m 7 (by decide)) (T.k 7 (by decide)) (pa_cons (pv 1) pa_nil)))) pss_nil) (
    pss_cons (ps_if (pt_cmpR op_eq (pv 0) pe_int (nomark _)) (pss_one (ps_ret (pe_mkr (T.g1 8 (by decide)) hr rfl (T.m 8 (by decide)) (T.k 8 (by decide)) (pa_cons (pv 1) pa_nil)))) pss_nil) (
    pss_cons (ps_if (pt_cmpR op_eq (pv 0) pe_int (nomark _)) (pss_one (ps_ret (pe_mkr (T.g1 9 (by decide)) hr rfl (T.m 9 (by decide)) (T.k 9 (by decide)) (pa_cons (pv 1) pa_nil)))) pss_nil) (
    pss_cons (ps_if (pt_cmpR op_eq (pv 0) pe_int (nomark _)) (pss_one (ps_ret (pe_mkr (T.g1 10 (by decide)) hr rfl (T.m 10 (by decide)) (T.k 10 (by decide)) (pa_cons (pv 1) pa_nil)))) pss_nil) (
    pss_cons (ps_if (pt_cmpR op_eq (pv 0) pe_int (nomark _)) (pss_one (ps_ret (pe_mkr (T.i1 11 (by decide) (by decide)) hr rfl (T.m 11 (by decide)) (T.k 11 (by decide)) (pa_cons (pv 1) pa_nil)))) pss_nil) (
    pss_cons (ps_if (pt_cmpR op_eq (pv 0) pe_int (nomark _)) (pss_one (ps_ret (pe_mkr (T.i1 12 (by decide) (by decide)) hr rfl (T.m 12 (by decide)) (T.k 12 (by decide)) (pa_cons (pv 1) pa_nil)))) pss_nil) (
    pss_cons (ps_if (pt_cmpR op_eq (pv 0) pe_int (nomark _)) (pss_one (ps_ret (pe_mkr (T.i1 13 (by decide) (by decide)) hr rfl (T.m 13 (by decide)) (T.k 13 (by decide)) (pa_cons (pv 1) pa_nil)))) pss_nil) (
    pss_one (ps_ret (pe_mkr T.t2 hr rfl (T.m 14 (by decide)) (T.k 14 (by decide)) (pa_cons (pv 1) (pa_cons (pv 2) pa_nil)))))))))))))))))), ?_⟩
  refine ⟨_, rfl, rfl, _, rfl, ?_⟩
  refine ite2 (fun h0 => ?_) (fun h0 => ?_)
  · obtain rfl : n = 0 := by have := num_eq h0; omega
    exact ⟨_, rfl, rfl, rfl, fun a d ha hd ne => q a _ (er_new ha hd ne).1 ha (er_new ha hd ne).2⟩
  refine ⟨_, rfl, rfl, _, rfl, ?_⟩
  refine ite2 (fun h1 => ?_) (fun h1 => ?_)
  · obtain rfl : n = 1 := by have := num_eq h1; omega
    exact ⟨_, rfl, rfl, rfl, fun a d ha hd ne => q a _ (er_new ha hd ne).1 ha (er_new ha hd ne).2⟩
  refine ⟨_, rfl, rfl, _, rfl, ?_⟩
  refine ite2 (fun h2 => ?_) (fun h2 => ?_)
  · obtain rfl : n = 2 := by have := num_eq h2; omega
    exact ⟨_, rfl, rfl, rfl, fun a d ha hd ne => q a _ (er_new ha hd ne).1 ha (er_new ha hd ne).2⟩
  refine ⟨_, rfl, rfl, _, rfl, ?_⟩
  refine ite2 (fun h3 => ?_) (fun h3 => ?_)
  · obtain rfl : n = 3 := by have := num_eq h3; omega
    exact ⟨_, rfl, rfl, rfl, fun a d ha hd ne => q a _ (er_new ha hd ne).1 ha (er_new ha hd ne).2⟩
  refine ⟨_, rfl, rfl, _, rfl, ?_⟩
  refine ite2 (fun h4 => ?_) (fun h4 => ?_)
  · obtain rfl : n = 4 := by have := num_eq h4; omega
    exact ⟨_, rfl, rfl, rfl, fun a d ha hd ne => q a _ (er_new ha hd ne).1 ha (er_new ha hd ne).2⟩
  refine ⟨_, rfl, rfl, _, rfl, ?_⟩
  refine ite2 (fun h5 => ?_) (fun h5 => ?_)
  · obtain rfl : n = 5 := by have := num_eq h5; omega
    exact ⟨_, rfl, rfl, rfl, fun a d ha hd ne => q a _ (er_new ha hd ne).1 ha (er_new ha hd ne).2⟩
  refine ⟨_, rfl, rfl, _, rfl, ?_⟩
  refine ite2 (fun h6 => ?_) (fun h6 => ?_)
  · obtain rfl : n = 6 := by have := num_eq h6; omega
    exact ⟨_, rfl, rfl, rfl, fun a d ha hd ne => q a _ (er_new ha hd ne).1 ha (er_new ha hd ne).2⟩
  refine ⟨_, rfl, rfl, _, rfl, ?_⟩
  refine ite2 (fun h7 => ?_) (fun h7 => ?_)
  · obtain rfl : n = 7 := by have := num_eq h7; omega
    exact ⟨_, rfl, rfl, rfl, fun a d ha hd ne => q a _ (er_new ha hd ne).1 ha (er_new ha hd ne).2⟩
  refine ⟨_, rfl, rfl, _, rfl, ?_⟩
  refine ite2 (fun h8 => ?_) (fun h8 => ?_)
  · obtain rfl : n = 8 := by have := num_eq h8; omega
    exact ⟨_, rfl, rfl, rfl, fun a d ha hd ne => q a _ (er_new ha hd ne).1 ha (er_new ha hd ne).2⟩
  refine ⟨_, rfl, rfl, _, rfl, ?_⟩
  refine ite2 (fun h9 => ?_) (fun h9 => ?_)
  · obtain rfl : n = 9 := by have := num_eq h9; omega
    exact ⟨_, rfl, rfl, rfl, fun a d ha hd ne => q a _ (er_new ha hd ne).1 ha (er_new ha hd ne).2⟩
  refine ⟨_, rfl, rfl, _, rfl, ?_⟩
  refine ite2 (fun h10 => ?_) (fun h10 => ?_)
  · obtain rfl : n = 10 := by have := num_eq h10; omega
    exact ⟨_, rfl, rfl, rfl, fun a d ha hd ne => q a _ (er_new ha hd ne).1 ha (er_new ha hd ne).2⟩
  refine ⟨_, rfl, rfl, _, rfl, ?_⟩
  refine ite2 (fun h11 => ?_) (fun h11 => ?_)
  · obtain rfl : n = 11 := by have := num_eq h11; omega
    exact ⟨_, rfl, rfl, rfl, fun a d ha hd ne => q a _ (er_new ha hd ne).1 ha (er_new ha hd ne).2⟩
  refine ⟨_, rfl, rfl, _, rfl, ?_⟩
  refine ite2 (fun h12 => ?_) (fun h12 => ?_)
  · obtain rfl : n = 12 := by have := num_eq h12; omega
    exact ⟨_, rfl, rfl, rfl, fun a d ha hd ne => q a _ (er_new ha hd ne).1 ha (er_new ha hd ne).2⟩
  refine ⟨_, rfl, rfl, _, rfl, ?_⟩
  refine ite2 (fun h13 => ?_) (fun h13 => ?_)
  · obtain rfl : n = 13 := by have := num_eq h13; omega
    exact ⟨_, rfl, rfl, rfl, fun a d ha hd ne => q a _ (er_new ha hd ne).1 ha (er_new ha hd ne).2⟩
  obtain rfl : n = 14 := by
    have z0 := num_ne h0
    have z1 := num_ne h1
    have z2 := num_ne h2
    have z3 := num_ne h3
    have z4 := num_ne h4
    have z5 := num_ne h5
    have z6 := num_ne h6
    have z7 := num_ne h7
    have z8 := num_ne h8
    have z9 := num_ne h9
    have z10 := num_ne h10
    have z11 := num_ne h11
    have z12 := num_ne h12
    have z13 := num_ne h13
    omega
  exact ⟨_, rfl, _, rfl, rfl, rfl, fun a d ha hd ne => q a _ (er_new ha hd ne).1 ha (er_new ha hd ne).2⟩
theorem ok_name {f : Addr} {fd : FuncData} (F : Fun K "_law_by_name" "_law_by_name" sName f fd) (T : Er P w K mg base Cs HE) : FnOk P w K mg base CX0 2 f fd ["number", "one", "two"] (spMk Cs) := by
  refine F.ok scNm (fun vs H Q E h => ?_) (fun cdv A outer s H vs Q E hr h => ?_)
  · obtain ⟨n, x, y, rfl, _⟩ := h
    rfl
  obtain ⟨n, x, y, rfl, hn, q⟩ := h
  refine ⟨_, pss_cons (ps_if (pt_cmpR op_eq (pv 0) pe_int (nomark _)) (pss_one (ps_ret (pe_mkrK (T.g1k 0 (by decide)) hr rfl (T.m 0 (by decide)) (T.k 0 (by decide)) (pk_cons (pv 1) pk_nil)))) pss_nil) (
    pss_cons (ps_if (pt_cmpR op_eq (pv 0) pe_int (nomark _)) (pss_one (ps_ret (pe_mkrK (T.g1k 1 (by decide)) hr rfl (T.m 1 (by decide)) (T.k 1 (by decide)) (pk_cons (pv 1) pk_nil)))) pss_nil) (
    pss_cons (ps_if (pt_cmpR op_eq (pv 0) pe_int (nomark _)) (pss_one (ps_ret (pe_mkrK (T.g1k 2 (by decide)) hr rfl (T.m 2 (by decide)) (T.k 2 (by decide)) (pk_cons (pv 1) pk_nil)))) pss_nil) (
    pss_cons (ps_if (pt_cmpR op_eq (pv 0) pe_int (nomark _)) (pss_one (ps_ret (pe_mkrK (T.g1k 3 (by decide)) hr rfl (T.m 3 (by decide)) (T.k 3 (by decide)) (pk_cons (pv 1) pk_nil)))) pss_nil) (
    pss_cons (ps_if (pt_cmpR op_eq (pv 0) pe_int (nomark _)) (pss_one (ps_ret (pe_mkrK (T.g1k 4 (by decide)) hr rfl (T.m 4 (by decide)) (T.k 4 (by decide)) (pk_cons (pv 1) pk_nil)))) pss_nil) (
    pss_cons (ps_if (pt_cmpR op_eq (pv 0) pe_int (nomark _)) (pss_one (ps_ret (pe_mkrK (T.g1k 5 (by decide)) hr rfl (T.m 5 (by decide)) (T.k 5 (by decide)) (pk_cons (pv 1) pk_nil)))) pss_nil) (
    pss_cons (ps_if (pt_cmpR op_eq (pv 0) pe_int (nomark _)) (pss_one (ps_ret (pe_mkrK (T.g1k 6 (by decide)) hr rfl (T.m 6 (by decide)) (T.k 6 (by decide)) (pk_cons (pv 1) pk_nil)))) pss_nil) (
    pss_cons (ps_if (pt_cmpR op_eq (pv 0) pe_int (nomark _)) (pss_one (ps_ret (pe_mkrK (T.g1k 7 (by decide)) hr rfl (T.m 7 (by decide)) (T.k 7 (by decide)) (pk_cons (pv 1) pk_nil)))) pss_nil) (
    pss_cons (ps_if (pt_cmpR op_eq (pv 0) pe_int (nomark _)) (pss_one (ps_ret (pe_mkrK (T.g1k 8 (by decide)) hr rfl (T.m 8 (by decide)) (T.k 8 (by decide)) (pk_cons (pv 1) pk_nil)))) pss_nil) (
    pss_cons (ps_if (pt_cmpR op_eq (pv 0) pe_int (nomark _)) (pss_one (ps_ret (pe_mkrK (T.g1k 9 (by decide)) hr rfl (T.m 9 (by decide)) (T.k 9 (by decide)) (pk_cons (pv 1) pk_nil)))) pss_nil) (
    pss_cons (ps_if (pt_cmpR op_eq (pv 0) pe_int (nomark _)) (pss_one (ps_ret (pe_mkrK (T.g1k 10 (by decide)) hr rfl (T.m 10 (by decide)) (T.k 10 (by decide)) (pk_cons (pv 1) pk_nil)))) pss_nil) (
    pss_cons (ps_if (pt_cmpR op_eq (pv 0) pe_int (nomark _)) (pss_one (ps_ret (pe_mkrK (T.i1k 11 (by decide) (by decide)) hr rfl (T.m 11 (by decide)) (T.k 11 (by decide)) (pk_cons (pv 1) pk_nil)))) pss_nil) (
    pss_cons (ps_if (pt_cmpR op_eq (pv 0) pe_int (nomark _)) (pss_one (ps_ret (pe_mkrK (T.i1k 12 (by decide) (by decide)) hr rfl (T.m 12 (by decide)) (T.k 12 (by decide)) (pk_cons (pv 1) pk_nil)))) pss_nil) (
    pss_cons (ps_if (pt_cmpR op_eq (pv 0) pe_int (nomark _)) (pss_one (ps_ret (pe_mkrK (T.i1k 13 (by decide) (by decide)) hr rfl (T.m 13 (by decide)) (T.k 13 (by decide)) (pk_cons (pv 1) pk_nil)))) pss_nil) (
    pss_one (ps_ret (pe_mkrK T.t2k hr rfl (T.m 14 (by decide)) (T.k 14 (by decide)) (pk_cons (pv 2) (pk_cons (pv 1) pk_nil)))))))))))))))))), ?_⟩
  refine ⟨_, rfl, rfl, _, rfl, ?_⟩
  refine ite2 (fun h0 => ?_) (fun h0 => ?_)
  · obtain rfl : n = 0 := by have := num_eq h0; omega
    exact ⟨_, rfl, rfl, rfl, fun a d ha hd ne => q a _ (er_new ha hd ne).1 ha (er_new ha hd ne).2⟩
  refine ⟨_, rfl, rfl, _, rfl, ?_⟩
  refine ite2 (fun h1 => ?_) (fun h1 => ?_)
  · obtain rfl : n = 1 := by have := num_eq h1; omega
    exact ⟨_, rfl, rfl, rfl, fun a d ha hd ne => q a _ (er_new ha hd ne).1 ha (er_new ha hd ne).2⟩
  refine ⟨_, rfl, rfl, _, rfl, ?_⟩
  refine ite2 (fun h2 => ?_) (fun h2 => ?_)
  · obtain rfl : n = 2 := by have := num_eq h2; omega
    exact ⟨_, rfl, rfl, rfl, fun a d ha hd ne => q a _ (er_new ha hd ne).1 ha (er_new ha hd ne).2⟩
  refine ⟨_, rfl, rfl, _, rfl, ?_⟩
  refine ite2 (fun h3 => ?_) (fun h3 => ?_)
  · obtain rfl : n = 3 := by have := num_eq h3; omega
    exact ⟨_, rfl, rfl, rfl, fun a d ha hd ne => q a _ (er_new ha hd ne).1 ha (er_new ha hd ne).2⟩
  refine ⟨_, rfl, rfl, _, rfl, ?_⟩
  refine ite2 (fun h4 => ?_) (fun h4 => ?_)
  · obtain rfl : n = 4 := by have := num_eq h4; omega
    exact ⟨_, rfl, rfl, rfl, fun a d ha hd ne => q a _ (er_new ha hd ne).1 ha (er_new ha hd ne).2⟩
  refine ⟨_, rfl, rfl, _, rfl, ?_⟩
  refine ite2 (fun h5 => ?_) (fun h5 => ?_)
  · obtain rfl : n = 5 := by have := num_eq h5; omega
    exact ⟨_, rfl, rfl, rfl, fun a d ha hd ne => q a _ (er_new ha hd ne).1 ha (er_new ha hd ne).2⟩
  refine ⟨_, rfl, rfl, _, rfl, ?_⟩
  refine ite2 (fun h6 => ?_) (fun h6 => ?_)
  · obtain rfl : n = 6 := by have := num_eq h6; omega
    exact ⟨_, rfl, rfl, rfl, fun a d ha hd ne => q a _ (er_new ha hd ne).1 ha (er_new ha hd ne).2⟩
  refine ⟨_, rfl, rfl, _, rfl, ?_⟩
  refine ite2 (fun h7 => ?_) (fun h7 => ?_)
  · obtain rfl : n = 7 := by have := num_eq h7; omega
    exact ⟨_, rfl, rfl, rfl, fun a d ha hd ne => q a _ (er_new ha hd ne).1 ha (er_new ha hd ne).2⟩
  refine ⟨_, rfl, rfl, _, rfl, ?_⟩
  refine ite2 (fun h8 => ?_) (fun h8 => ?_)
  · obtain rfl : n = 8 := by have := num_eq h8; omega
    exact ⟨_, rfl, rfl, rfl, fun a d ha hd ne => q a _ (er_new ha hd ne).1 ha (er_new ha hd ne).2⟩
  refine ⟨_, rfl, rfl, _, rfl, ?_⟩
  refine ite2 (fun h9 => ?_) (fun h9 => ?_)
  · obtain rfl : n = 9 := by have := num_eq h9; omega
    exact ⟨_, rfl, rfl, rfl, fun a d ha hd ne => q a _ (er_new ha hd ne).1 ha (er_new ha hd ne).2⟩
  refine ⟨_, rfl, rfl, _, rfl, ?_⟩
  refine ite2 (fun h10 => ?_) (fun h10 => ?_)
  · obtain rfl : n = 10 := by have := num_eq h10; omega
    exact ⟨_, rfl, rfl, rfl, fun a d ha hd ne => q a _ (er_new ha hd ne).1 ha (er_new ha hd ne).2⟩
  refine ⟨_, rfl, rfl, _, rfl, ?_⟩
  refine ite2 (fun h11 => ?_) (fun h11 => ?_)
  · obtain rfl : n = 11 := by have := num_eq h11; omega
    exact ⟨_, rfl, rfl, rfl, fun a d ha hd ne => q a _ (er_new ha hd ne).1 ha (er_new ha hd ne).2⟩
  refine ⟨_, rfl, rfl, _, rfl, ?_⟩
  refine ite2 (fun h12 => ?_) (fun h12 => ?_)
  · obtain rfl : n = 12 := by have := num_eq h12; omega
    exact ⟨_, rfl, rfl, rfl, fun a d ha hd ne => q a _ (er_new ha hd ne).1 ha (er_new ha hd ne).2⟩
  refine ⟨_, rfl, rfl, _, rfl, ?_⟩
  refine ite2 (fun h13 => ?_) (fun h13 => ?_)
  · obtain rfl : n = 13 := by have := num_eq h13; omega
    exact ⟨_, rfl, rfl, rfl, fun a d ha hd ne => q a _ (er_new ha hd ne).1 ha (er_new ha hd ne).2⟩
  obtain rfl : n = 14 := by
    have z0 := num_ne h0
    have z1 := num_ne h1
    have z2 := num_ne h2
    have z3 := num_ne h3
    have z4 := num_ne h4
    have z5 := num_ne h5
    have z6 := num_ne h6
    have z7 := num_ne h7
    have z8 := num_ne h8
    have z9 := num_ne h9
    have z10 := num_ne h10
    have z11 := num_ne h11
    have z12 := num_ne h12
    have z13 := num_ne h13
    omega
  exact ⟨_, rfl, _, rfl, rfl, rfl, fun a d ha hd ne => q a _ (er_new ha hd ne).1 ha (er_new ha hd ne).2⟩
end
end Toy

namespace L2
open PySem PySem.Spec PyProof.Rows
theorem Rd.mono {H H' : Hp} {a : Addr} {u : HO} (e : Same H H') (h : Rd H a u) : Rd H' a u := by
  rcases h with h | ⟨o, h⟩
  · exact .inl (e _ _ h)
  · exact .inr ⟨o, e _ _ h⟩
theorem ErAt.mono {H H' : Hp} {a C : Addr} {fs : List (Str × V)} (e : Same H H') (h : ErAt H a C fs) : ErAt H' a C fs := by
  obtain ⟨d, h1, h2⟩ := h
  refine ⟨d, ?_, ?_⟩
  · rcases h1 with h1 | h1
    · exact .inl (h1.mono e)
    · exact .inr (h1.mono e)
  · rcases h2 with h2 | h2
    · exact .inl (e _ _ h2)
    · exact .inr (e _ _ h2)
theorem ErI.mono {H H' : Hp} {a D : Addr} (e : Same H H') (h : ErI H a D) : ErI H' a D := by
  rcases h with ⟨fs, h⟩ | h
  · exact .inl ⟨fs, h.mono e⟩
  · exact .inr (e _ _ h)
/-- isinstance(e, C), e in slot i, C a class of the text or a built-in one -/
def tIs (K : PySem.W.Frag) (i : Nat) (cv : Value) : TE := fun σ H Q => ∃ (a D : Addr) (b : Bool), σ[i]? = some (some (.ref a)) ∧ ExcC K D ∧ ErI H a D ∧ PySem.W.kitOne K (.ref D) cv = some b ∧ Q (.bl b) H
section
variable {X : Cx} {x y : Str} {p p1 p2 pos : Pos} {C : Addr} {i : Nat}
theorem pe_is (mi : X.mg "isinstance" = none) (hm : X.mg x = some (.ref C)) (hN : X.N[i]? = some y) (hg : Gl X "isinstance") (hv : Vis X.env.scope y := by exact Or.inl rfl) (hx : Gl X x := by rfl) (hd : (y == ("__debug__" : Str)) = false := by decide) (hcd : (y == ("__classdict__" : Str)) = false := by decide) (hdb : (x == ("__debug__" : Str)) = false := by decide)
    (h1 : starEach [.Name y p1, .Name x p2] X.env = (false, eval (.Name y p1) X.env) :: starEach [.Name x p2] X.env := by rfl) (h2 : starEach [.Name x p2] X.env = (false, eval (.Name x p2) X.env) :: starEach [] X.env := by rfl) (h3 : (backTo pos (starEach [.Name x p2] X.env)).any (·.1) = false := by rfl) :
    PE X (.Call (.Name "isinstance" p) [.Name y p1, .Name x p2] [] pos) (tIs X.K i (.ref C)) :=
  (pe_callB call_isErr hg mi (by decide +kernel) (pa_cons (pe_var hN hv hd hcd) (pa_cons (pe_glob (v := .ref C) hx hm rfl hdb) pa_nil (hs := h2)) (hs := h1)) (he := h1) (hpl := h3)).imp fun σ H Q ⟨a, D, b, e1, ec, ei, k, q⟩ => ⟨_, e1, a, D, _, _, b, rfl, ec, ei, fun _ z => z, k, q⟩
theorem pe_isT {n : String} (mi : X.mg "isinstance" = none) (hm : X.mg x = none) (hb : bootBuiltins x = some (.type n)) (hN : X.N[i]? = some y) (hg : Gl X "isinstance") (hv : Vis X.env.scope y := by exact Or.inl rfl) (hx : Gl X x := by rfl) (hd : (y == ("__debug__" : Str)) = false := by decide) (hcd : (y == ("__classdict__" : Str)) = false := by decide) (hdb : (x == ("__debug__" : Str)) = false := by decide) (hnn : x ≠ "__name__" := by decide)
    (h1 : starEach [.Name y p1, .Name x p2] X.env = (false, eval (.Name y p1) X.env) :: starEach [.Name x p2] X.env := by rfl) (h2 : starEach [.Name x p2] X.env = (false, eval (.Name x p2) X.env) :: starEach [] X.env := by rfl) (h3 : (backTo pos (starEach [.Name x p2] X.env)).any (·.1) = false := by rfl) :
    PE X (.Call (.Name "isinstance" p) [.Name y p1, .Name x p2] [] pos) (tIs X.K i (.type n)) :=
  (pe_callB call_isErr hg mi (by decide +kernel) (pa_cons (pe_var hN hv hd hcd) (pa_cons (pe_bltn (v := .ty n) hx hm hb rfl hnn hdb) pa_nil (hs := h2)) (hs := h1)) (he := h1) (hpl := h3)).imp fun σ H Q ⟨a, D, b, e1, ec, ei, k, q⟩ => ⟨_, e1, a, D, _, _, b, rfl, ec, ei, fun _ z => z, k, q⟩
end
end L2
namespace Toy
open PySem L2
section
variable {P : Program} {w : World} {K : PySem.W.Frag} {mg : Str → Option Value} {base : Heap} {Cs : Nat → Addr} {HE : Addr}
theorem scK : FnScope ["number", "error"] ["number", "error"] (defScope sKept) := ⟨rfl, rfl, rfl, by decide +kernel, rfl, by decide +kernel, by decide +kernel⟩
theorem ok_kept {f : Addr} {fd : FuncData} (F : Fun K "_law_kept" "_law_kept" sKept f fd) (T : Er P w K mg base Cs HE) : FnZ (RoomA 1) P w K mg base f fd ["number", "error"] (spKept Cs) := by
  refine F.okZ false scK (fun A z => z.depth) (fun z => by cases z) (fun vs H Q E h => ?_) (fun cdv A outer s H vs Q hz h => ?_)
  · obtain ⟨n, a, x, y, rfl, _⟩ := h
    rfl
  obtain ⟨n, a, x, y, rfl, hn, ea, q⟩ := h
  refine ⟨_, pss_cons (ps_if (pt_cmpR op_lt (pv 0) pe_int (nomark _)) (pss_one (ps_ret (pe_lst (pa_cons (pe_ef (pv 1)) pa_nil)))) pss_nil)
    (pss_one (ps_ret (pe_ifExp (pt_cmpR op_lt (pv 0) pe_int (nomark _)) (pe_lst (pa_cons (pe_ef (pv 1)) pa_nil)) (pe_lst (pa_cons (pe_ef (pv 1)) (pa_cons (pe_ef (pv 1)) pa_nil)))))), ?_⟩
  have k1 : n < 14 → kept n x y = [x] := fun h => if_pos h
  have k2 : ¬ n < 14 → kept n x y = [x, y] := fun h => if_neg h
  refine ⟨_, rfl, _, _, rfl, rfl, _, rfl, ?_⟩
  refine ite2 (fun h => ?_) (fun h => ?_)
  · have h' : (n : Int) < 11 := of_decide_eq_true h
    have hf : fsOf n x y = [(Str.ofString "given", x)] := if_pos (by omega)
    rw [hf] at ea
    rw [k1 (by omega)] at q
    exact ⟨_, rfl, a, _, _, x, rfl, T.xf n hn, T.ng n (by omega), ea, rfl, (by show 1 ≤ sizeLine; decide), q⟩
  · have h' : ¬ (n : Int) < 11 := of_decide_eq_false (Bool.eq_false_iff.mpr h)
    refine ⟨_, rfl, _, _, rfl, rfl, _, rfl, ?_⟩
    refine ite2 (fun g => ?_) (fun g => ?_)
    · have g' : (n : Int) < 14 := of_decide_eq_true g
      have hf : fsOf n x y = [(Str.ofString "index", x)] := (if_neg (by omega)).trans (if_pos (by omega))
      rw [hf] at ea
      rw [k1 (by omega)] at q
      exact ⟨_, rfl, a, _, _, x, rfl, T.xf n hn, T.ni n (by omega) (by omega), ea, rfl, (by show 1 ≤ sizeLine; decide), q⟩
    · have g' : ¬ (n : Int) < 14 := of_decide_eq_false (Bool.eq_false_iff.mpr g)
      have hf : fsOf n x y = [(Str.ofString "column", y), (Str.ofString "line", x)] := (if_neg (by omega)).trans (if_neg (by omega))
      rw [hf] at ea
      rw [k2 (by omega)] at q
      obtain rfl : n = 14 := by omega
      exact ⟨_, rfl, a, _, _, x, rfl, T.xf 14 hn, T.nl, ea, rfl, _, rfl, a, _, _, y, rfl, T.xf 14 hn, T.nc, ea, rfl, (by show 2 ≤ sizeLine; decide), q⟩
theorem scC : FnScope ["error", "found"] ["error"] (defScope sCls) := ⟨rfl, rfl, rfl, by decide +kernel, rfl, by decide +kernel, by decide +kernel⟩
/-- what isinstance tells of an object of the class at D, class by class -/
def spCls (K : PySem.W.Frag) (Cs : Nat → Addr) : Sp := fun vs H Q _ => ∃ (a D : Addr) (bs : Nat → Bool), vs = [.ref a] ∧ ExcC K D ∧ ErI H a D ∧ (∀ i, i < 15 → PySem.W.kitOne K (.ref D) (.ref (Cs i)) = some (bs i)) ∧
  ∀ p H', Same H H' → H p = none → H' p = some (.lst ((List.range 15).map fun i => V.bl (bs i))) → Q (.ref p) H'
theorem ok_cls {f : Addr} {fd : FuncData} (F : Fun K "_law_of_classes" "_law_of_classes" sCls f fd) (T : Er P w K mg base Cs HE) (mi : mg "isinstance" = none) : FnOk P w K mg base CX0 1 f fd ["error"] (spCls K Cs) := by
  refine F.ok scC (fun vs H Q E h => ?_) (fun cdv A outer s H vs Q E hr h => ?_)
  · obtain ⟨a, D, bs, rfl, _⟩ := h
    rfl
  obtain ⟨a, D, bs, rfl, ec, ei, kt, q⟩ := h
  refine ⟨_, pss_cons (ps_set (i := 1) scC.nd rfl (.inl rfl) (pe_lst (pa_cons (pe_is (i := 0) mi (T.m 0 (by decide)) rfl rfl) (pa_cons (pe_is (i := 0) mi (T.m 1 (by decide)) rfl rfl) (pa_cons (pe_is (i := 0) mi (T.m 2 (by decide)) rfl rfl) (pa_nil)))))) (
    pss_cons (ps_set (i := 1) scC.nd rfl (.inl rfl) (pe_op op_cat (pv 1) (pe_lst (pa_cons (pe_is (i := 0) mi (T.m 3 (by decide)) rfl rfl) (pa_cons (pe_is (i := 0) mi (T.m 4 (by decide)) rfl rfl) (pa_cons (pe_is (i := 0) mi (T.m 5 (by decide)) rfl rfl) (pa_nil))))))) (
    pss_cons (ps_set (i := 1) scC.nd rfl (.inl rfl) (pe_op op_cat (pv 1) (pe_lst (pa_cons (pe_is (i := 0) mi (T.m 6 (by decide)) rfl rfl) (pa_cons (pe_is (i := 0) mi (T.m 7 (by decide)) rfl rfl) (pa_cons (pe_is (i := 0) mi (T.m 8 (by decide)) rfl rfl) (pa_nil))))))) (
    pss_cons (ps_set (i := 1) scC.nd rfl (.inl rfl) (pe_op op_cat (pv 1) (pe_lst (pa_cons (pe_is (i := 0) mi (T.m 9 (by decide)) rfl rfl) (pa_cons (pe_is (i := 0) mi (T.m 10 (by decide)) rfl rfl) (pa_cons (pe_is (i := 0) mi (T.m 11 (by decide)) rfl rfl) (pa_nil))))))) (
    pss_cons (ps_set (i := 1) scC.nd rfl (.inl rfl) (pe_op op_cat (pv 1) (pe_lst (pa_cons (pe_is (i := 0) mi (T.m 12 (by decide)) rfl rfl) (pa_cons (pe_is (i := 0) mi (T.m 13 (by decide)) rfl rfl) (pa_nil)))))) (
    pss_one (ps_ret (pe_op op_cat (pv 1) (pe_lst (pa_cons (pe_is (i := 0) mi (T.m 14 (by decide)) rfl rfl) (pa_nil)))))))))), ?_⟩
  have z5 : ∀ {n : Nat}, n ≤ 20 → n ≤ sizeLine := fun h => Nat.le_trans h (by decide)
  refine ⟨a, D, bs 0, rfl, ec, ei, kt 0 (by decide), a, D, bs 1, rfl, ec, ei, kt 1 (by decide), a, D, bs 2, rfl, ec, ei, kt 2 (by decide), (by show 3 ≤ sizeLine; decide), fun p0 n0 => ?_⟩
  have s0 : Same H (upd H p0 (.lst [.bl (bs 0), .bl (bs 1), .bl (bs 2)])) := same_new n0 _
  have h0 : upd H p0 (.lst [.bl (bs 0), .bl (bs 1), .bl (bs 2)]) p0 = some (.lst [.bl (bs 0), .bl (bs 1), .bl (bs 2)]) := upd_same
  generalize upd H p0 (.lst [.bl (bs 0), .bl (bs 1), .bl (bs 2)]) = H0 at s0 h0 ⊢
  refine ⟨_, rfl, a, D, bs 3, rfl, ec, ei.mono s0, kt 3 (by decide), a, D, bs 4, rfl, ec, ei.mono s0, kt 4 (by decide), a, D, bs 5, rfl, ec, ei.mono s0, kt 5 (by decide), (by show 3 ≤ sizeLine; decide), fun q1 m1 => ?_⟩
  have t1 := same_new m1 (.lst [.bl (bs 3), .bl (bs 4), .bl (bs 5)])
  refine ⟨p0, q1, _, _, rfl, rfl, t1 _ _ h0, upd_same, (by show 6 ≤ sizeLine; decide), fun p1 n1 => ?_⟩
  have s1 : Same H (upd (upd H0 q1 (.lst [.bl (bs 3), .bl (bs 4), .bl (bs 5)])) p1 (.lst [.bl (bs 0), .bl (bs 1), .bl (bs 2), .bl (bs 3), .bl (bs 4), .bl (bs 5)])) := s0.trans (t1.trans (same_new n1 _))
  have h1 : upd (upd H0 q1 (.lst [.bl (bs 3), .bl (bs 4), .bl (bs 5)])) p1 (.lst [.bl (bs 0), .bl (bs 1), .bl (bs 2), .bl (bs 3), .bl (bs 4), .bl (bs 5)]) p1 = some (.lst [.bl (bs 0), .bl (bs 1), .bl (bs 2), .bl (bs 3), .bl (bs 4), .bl (bs 5)]) := upd_same
  replace h1 : (upd (upd H0 q1 (.lst [.bl (bs 3), .bl (bs 4), .bl (bs 5)])) p1 (.lst [.bl (bs 0), .bl (bs 1), .bl (bs 2), .bl (bs 3), .bl (bs 4), .bl (bs 5)])) p1 = some (.lst [.bl (bs 0), .bl (bs 1), .bl (bs 2), .bl (bs 3), .bl (bs 4), .bl (bs 5)]) := h1
  generalize hh1 : upd (upd H0 q1 (.lst [.bl (bs 3), .bl (bs 4), .bl (bs 5)])) p1 (.lst [.bl (bs 0), .bl (bs 1), .bl (bs 2), .bl (bs 3), .bl (bs 4), .bl (bs 5)]) = H1 at s1 h1
  show _
  simp only [List.cons_append, List.nil_append, hh1]
  refine ⟨_, rfl, a, D, bs 6, rfl, ec, ei.mono s1, kt 6 (by decide), a, D, bs 7, rfl, ec, ei.mono s1, kt 7 (by decide), a, D, bs 8, rfl, ec, ei.mono s1, kt 8 (by decide), (by show 3 ≤ sizeLine; decide), fun q2 m2 => ?_⟩
  have t2 := same_new m2 (.lst [.bl (bs 6), .bl (bs 7), .bl (bs 8)])
  refine ⟨p1, q2, _, _, rfl, rfl, t2 _ _ h1, upd_same, (by show 9 ≤ sizeLine; decide), fun p2 n2 => ?_⟩
  have s2 : Same H (upd (upd H1 q2 (.lst [.bl (bs 6), .bl (bs 7), .bl (bs 8)])) p2 (.lst [.bl (bs 0), .bl (bs 1), .bl (bs 2), .bl (bs 3), .bl (bs 4), .bl (bs 5), .bl (bs 6), .bl (bs 7), .bl (bs 8)])) := s1.trans (t2.trans (same_new n2 _))
  have h2 : upd (upd H1 q2 (.lst [.bl (bs 6), .bl (bs 7), .bl (bs 8)])) p2 (.lst [.bl (bs 0), .bl (bs 1), .bl (bs 2), .bl (bs 3), .bl (bs 4), .bl (bs 5), .bl (bs 6), .bl (bs 7), .bl (bs 8)]) p2 = some (.lst [.bl (bs 0), .bl (bs 1), .bl (bs 2), .bl (bs 3), .bl (bs 4), .bl (bs 5), .bl (bs 6), .bl (bs 7), .bl (bs 8)]) := upd_same
  replace h2 : (upd (upd H1 q2 (.lst [.bl (bs 6), .bl (bs 7), .bl (bs 8)])) p2 (.lst [.bl (bs 0), .bl (bs 1), .bl (bs 2), .bl (bs 3), .bl (bs 4), .bl (bs 5), .bl (bs 6), .bl (bs 7), .bl (bs 8)])) p2 = some (.lst [.bl (bs 0), .bl (bs 1), .bl (bs 2), .bl (bs 3), .bl (bs 4), .bl (bs 5), .bl (bs 6), .bl (bs 7), .bl (bs 8)]) := h2
  generalize hh2 : upd (upd H1 q2 (.lst [.bl (bs 6), .bl (bs 7), .bl (bs 8)])) p2 (.lst [.bl (bs 0), .bl (bs 1), .bl (bs 2), .bl (bs 3), .bl (bs 4), .bl (bs 5), .bl (bs 6), .bl (bs 7), .bl (bs 8)]) = H2 at s2 h2
  show _
  simp only [List.cons_append, List.nil_append, hh2]
  refine ⟨_, rfl, a, D, bs 9, rfl, ec, ei.mono s2, kt 9 (by decide), a, D, bs 10, rfl, ec, ei.mono s2, kt 10 (by decide), a, D, bs 11, rfl, ec, ei.mono s2, kt 11 (by decide), (by show 3 ≤ sizeLine; decide), fun q3 m3 => ?_⟩
  have t3 := same_new m3 (.lst [.bl (bs 9), .bl (bs 10), .bl (bs 11)])
  refine ⟨p2, q3, _, _, rfl, rfl, t3 _ _ h2, upd_same, (by show 12 ≤ sizeLine; decide), fun p3 n3 => ?_⟩
  have s3 : Same H (upd (upd H2 q3 (.lst [.bl (bs 9), .bl (bs 10), .bl (bs 11)])) p3 (.lst [.bl (bs 0), .bl (bs 1), .bl (bs 2), .bl (bs 3), .bl (bs 4), .bl (bs 5), .bl (bs 6), .bl (bs 7), .bl (bs 8), .bl (bs 9), .bl (bs 10), .bl (bs 11)])) := s2.trans (t3.trans (same_new n3 _))
  have h3 : upd (upd H2 q3 (.lst [.bl (bs 9), .bl (bs 10), .bl (bs 11)])) p3 (.lst [.bl (bs 0), .bl (bs 1), .bl (bs 2), .bl (bs 3), .bl (bs 4), .bl (bs 5), .bl (bs 6), .bl (bs 7), .bl (bs 8), .bl (bs 9), .bl (bs 10), .bl (bs 11)]) p3 = some (.lst [.bl (bs 0), .bl (bs 1), .bl (bs 2), .bl (bs 3), .bl (bs 4), .bl (bs 5), .bl (bs 6), .bl (bs 7), .bl (bs 8), .bl (bs 9), .bl (bs 10), .bl (bs 11)]) := upd_same
  replace h3 : (upd (upd H2 q3 (.lst [.bl (bs 9), .bl (bs 10), .bl (bs 11)])) p3 (.lst [.bl (bs 0), .bl (bs 1), .bl (bs 2), .bl (bs 3), .bl (bs 4), .bl (bs 5), .bl (bs 6), .bl (bs 7), .bl (bs 8), .bl (bs 9), .bl (bs 10), .bl (bs 11)])) p3 = some (.lst [.bl (bs 0), .bl (bs 1), .bl (bs 2), .bl (bs 3), .bl (bs 4), .bl (bs 5), .bl (bs 6), .bl (bs 7), .bl (bs 8), .bl (bs 9), .bl (bs 10), .bl (bs 11)]) := h3
  generalize hh3 : upd (upd H2 q3 (.lst [.bl (bs 9), .bl (bs 10), .bl (bs 11)])) p3 (.lst [.bl (bs 0), .bl (bs 1), .bl (bs 2), .bl (bs 3), .bl (bs 4), .bl (bs 5), .bl (bs 6), .bl (bs 7), .bl (bs 8), .bl (bs 9), .bl (bs 10), .bl (bs 11)]) = H3 at s3 h3
  show _
  simp only [List.cons_append, List.nil_append, hh3]
  refine ⟨_, rfl, a, D, bs 12, rfl, ec, ei.mono s3, kt 12 (by decide), a, D, bs 13, rfl, ec, ei.mono s3, kt 13 (by decide), (by show 2 ≤ sizeLine; decide), fun q4 m4 => ?_⟩
  have t4 := same_new m4 (.lst [.bl (bs 12), .bl (bs 13)])
  refine ⟨p3, q4, _, _, rfl, rfl, t4 _ _ h3, upd_same, (by show 14 ≤ sizeLine; decide), fun p4 n4 => ?_⟩
  have s4 : Same H (upd (upd H3 q4 (.lst [.bl (bs 12), .bl (bs 13)])) p4 (.lst [.bl (bs 0), .bl (bs 1), .bl (bs 2), .bl (bs 3), .bl (bs 4), .bl (bs 5), .bl (bs 6), .bl (bs 7), .bl (bs 8), .bl (bs 9), .bl (bs 10), .bl (bs 11), .bl (bs 12), .bl (bs 13)])) := s3.trans (t4.trans (same_new n4 _))
  have h4 : upd (upd H3 q4 (.lst [.bl (bs 12), .bl (bs 13)])) p4 (.lst [.bl (bs 0), .bl (bs 1), .bl (bs 2), .bl (bs 3), .bl (bs 4), .bl (bs 5), .bl (bs 6), .bl (bs 7), .bl (bs 8), .bl (bs 9), .bl (bs 10), .bl (bs 11), .bl (bs 12), .bl (bs 13)]) p4 = some (.lst [.bl (bs 0), .bl (bs 1), .bl (bs 2), .bl (bs 3), .bl (bs 4), .bl (bs 5), .bl (bs 6), .bl (bs 7), .bl (bs 8), .bl (bs 9), .bl (bs 10), .bl (bs 11), .bl (bs 12), .bl (bs 13)]) := upd_same
  replace h4 : (upd (upd H3 q4 (.lst [.bl (bs 12), .bl (bs 13)])) p4 (.lst [.bl (bs 0), .bl (bs 1), .bl (bs 2), .bl (bs 3), .bl (bs 4), .bl (bs 5), .bl (bs 6), .bl (bs 7), .bl (bs 8), .bl (bs 9), .bl (bs 10), .bl (bs 11), .bl (bs 12), .bl (bs 13)])) p4 = some (.lst [.bl (bs 0), .bl (bs 1), .bl (bs 2), .bl (bs 3), .bl (bs 4), .bl (bs 5), .bl (bs 6), .bl (bs 7), .bl (bs 8), .bl (bs 9), .bl (bs 10), .bl (bs 11), .bl (bs 12), .bl (bs 13)]) := h4
  generalize hh4 : upd (upd H3 q4 (.lst [.bl (bs 12), .bl (bs 13)])) p4 (.lst [.bl (bs 0), .bl (bs 1), .bl (bs 2), .bl (bs 3), .bl (bs 4), .bl (bs 5), .bl (bs 6), .bl (bs 7), .bl (bs 8), .bl (bs 9), .bl (bs 10), .bl (bs 11), .bl (bs 12), .bl (bs 13)]) = H4 at s4 h4
  show _
  simp only [List.cons_append, List.nil_append, hh4]
  refine ⟨_, rfl, a, D, bs 14, rfl, ec, ei.mono s4, kt 14 (by decide), (by show 1 ≤ sizeLine; decide), fun q5 m5 => ?_⟩
  have t5 := same_new m5 (.lst [.bl (bs 14)])
  refine ⟨p4, q5, _, _, rfl, rfl, t5 _ _ h4, upd_same, (by show 15 ≤ sizeLine; decide), fun p5 n5 => ?_⟩
  have s5 : Same H (upd (upd H4 q5 (.lst [.bl (bs 14)])) p5 (.lst [.bl (bs 0), .bl (bs 1), .bl (bs 2), .bl (bs 3), .bl (bs 4), .bl (bs 5), .bl (bs 6), .bl (bs 7), .bl (bs 8), .bl (bs 9), .bl (bs 10), .bl (bs 11), .bl (bs 12), .bl (bs 13), .bl (bs 14)])) := s4.trans (t5.trans (same_new n5 _))
  have h5 : upd (upd H4 q5 (.lst [.bl (bs 14)])) p5 (.lst [.bl (bs 0), .bl (bs 1), .bl (bs 2), .bl (bs 3), .bl (bs 4), .bl (bs 5), .bl (bs 6), .bl (bs 7), .bl (bs 8), .bl (bs 9), .bl (bs 10), .bl (bs 11), .bl (bs 12), .bl (bs 13), .bl (bs 14)]) p5 = some (.lst [.bl (bs 0), .bl (bs 1), .bl (bs 2), .bl (bs 3), .bl (bs 4), .bl (bs 5), .bl (bs 6), .bl (bs 7), .bl (bs 8), .bl (bs 9), .bl (bs 10), .bl (bs 11), .bl (bs 12), .bl (bs 13), .bl (bs 14)]) := upd_same
  exact q p5 _ s5 ((s4.trans t5).free n5) h5
end
end Toy

namespace Toy
open PySem L2
theorem dp_bools {K : PySem.W.Frag} {H : Hp} : ∀ l : List Bool, DpAll K H (l.map V.bl) (l.map PyData.bool)
  | [] => .nil
  | b :: l => .cons (.bl b) (dp_bools l)
section
variable {P : Program} {w : World} {K : PySem.W.Frag} {mg : Str → Option Value} {base : Heap} {Cs : Nat → Addr} {HE : Addr}
/-- it is of its class alone -/
def spIsOf (Cs : Nat → Addr) : Sp := fun vs H Q _ => ∃ (n : Nat) (a : Addr) (fs : List (Str × V)), vs = [.int n, .ref a] ∧ n < 15 ∧ ErAt H a (Cs n) fs ∧ ∀ H', Same H H' → Q (.bl true) H'
theorem scI : FnScope ["number", "error", "at"] ["number", "error"] (defScope sIsOf) := ⟨rfl, rfl, rfl, by decide +kernel, rfl, by decide +kernel, by decide +kernel⟩
/-- the built-in names -/
structure Nb (mg : Str → Option Value) : Prop where
  isi : mg "isinstance" = none
  range : mg "range" = none
  ve : mg "ValueError" = none
  ex : mg "Exception" = none
  ae : mg "ArithmeticError" = none
  le : mg "LookupError" = none
  te : mg "TypeError" = none
  re : mg "RuntimeError" = none
  at_ : mg "AttributeError" = none
theorem ok_isof {f fC : Addr} {fd dC : FuncData} (F : Fun K "_law_is_of" "_law_is_of" sIsOf f fd) (T : Er P w K mg base Cs HE) (B : Nb mg) (C : Gv P w K mg base 1 "_law_of_classes" fC dC ["error"] (spCls K Cs)) : FnOk P w K mg base CX0 2 f fd ["number", "error"] (spIsOf Cs) := by
  refine F.ok scI (fun vs H Q E h => ?_) (fun cdv A outer s H vs Q E hr h => ?_)
  · obtain ⟨n, a, fs, rfl, _⟩ := h
    rfl
  obtain ⟨n, a, fs, rfl, hn, ea, q⟩ := h
  have hu : ∀ env, (A.deeper env).units = A.units + 3 := fun _ => rfl
  have hu' : A.units + 3 + 64 < cLine := by
    have := hr.un
    rw [hu] at this
    omega
  refine ⟨_, pss_cons (ps_if (PW.pt (pw_or (pt_cmpR (op_neD hu') (pe_call C.ok hr rfl C.m C.k C.b .nil pass0 (pa_cons (pv 1) pa_nil))
        (pe_lc (own := [("at", 2)]) (g := gName 2) (tt := tYes) rfl scI.nd (pi_range1 (by rfl) B.range (pa_cons pe_int pa_nil)) (blkOk_by (own := [("at", 2)]) (N := ["number", "error", "at"]) (sc := defScope sIsOf) (by decide +kernel))
          (fun _ _ _ _ _ => pg_name (i := 2) scI.nd rfl (.inl rfl)) (fun _ _ _ _ _ => pts_nil) (fun _ _ _ _ _ => pe_cmpR op_eq (pv 2) (pv 0) (nomark _))) (nomark _))
      (pw_or1 (pt_not (pt_val (pe_is (i := 1) B.isi T.mh rfl rfl)))))) (pss_one (ps_ret pe_bl)) pss_nil)
    (pss_cons (ps_if (PW.pt (pw_or (pt_not (pt_val (pe_isT (n := "ValueError") (i := 1) B.isi B.ve (by decide +kernel) rfl rfl))) (pw_or1 (pt_not (pt_val (pe_isT (n := "Exception") (i := 1) B.isi B.ex (by decide +kernel) rfl rfl)))))) (pss_one (ps_ret pe_bl)) pss_nil)
    (pss_cons (ps_if (PW.pt (pw_or (pt_val (pe_isT (n := "ArithmeticError") (i := 1) B.isi B.ae (by decide +kernel) rfl rfl)) (pw_or (pt_val (pe_isT (n := "LookupError") (i := 1) B.isi B.le (by decide +kernel) rfl rfl)) (pw_or1 (pt_val (pe_isT (n := "TypeError") (i := 1) B.isi B.te (by decide +kernel) rfl rfl)))))) (pss_one (ps_ret pe_bl)) pss_nil)
    (pss_one (ps_ret (pe_and (pe_not (pe_isT (n := "RuntimeError") (i := 1) B.isi B.re (by decide +kernel) rfl rfl)) (pe_one (pe_not (pe_isT (n := "AttributeError") (i := 1) B.isi B.at_ (by decide +kernel) rfl rfl)))))))), ?_⟩
  have ei : ErI H a (Cs n) := .inl ⟨_, ea⟩
  refine ⟨_, rfl, a, Cs n, fun i => decide (i = n), rfl, T.ec n hn, ei, fun i hi => T.kit n i hn hi, fun p H1 s1 n1 h1 => ?_⟩
  refine ⟨15, rfl, by decide, by decide, fun D nD => ?_⟩
  have key : ∀ (l : List Bool), l.length ≤ 20 → SeqAt.shaped (.list (l.map PyData.bool)) = true ∧ PyData.eqv (.list (l.map PyData.bool)) (.list (l.map PyData.bool)) = true := fun l hl => by
    have c : ∀ l : List Bool, PyData.canLayAll0 (l.map PyData.bool) = true := fun l => by
      induction l with
      | nil => simp only [List.map_nil, PyData.canLayAll0]
      | cons b r ih => simp only [List.map_cons, PyData.canLayAll0, PyData.canLay0, ih, Bool.and_self]
    have d : PyData.depthAll (l.map PyData.bool) ≤ 1 := depthAll_le fun x hx => by
      obtain ⟨b, _, rfl⟩ := List.mem_map.mp hx
      simp only [PyData.depth]
      omega
    have cl : (PyData.list (l.map PyData.bool)).canLay0 = true := by simp only [PyData.canLay0, c]
    refine ⟨?_, SeqAt.eqv_refl _ cl⟩
    unfold SeqAt.shaped
    rw [cl, Bool.true_and]
    refine decide_eq_true ?_
    simp only [PyData.depth]
    omega
  have tm : ∀ (m : Nat → Bool), ((List.range 15).map fun i => V.bl (m i)) = ((List.range 15).map m).map V.bl := fun m => by rw [List.map_map]; rfl
  refine lc_range (lo := 0) (n := 15) (fun i H2 => Same H1 H2 ∧ H2 D = some (.lst ((List.range i).map fun j => V.bl (decide (j = n))))) ⟨same_new nD _, upd_same⟩ ?_ ?_
  · rintro i H2 hi ⟨s2, h2⟩
    refine ⟨rfl, ?_⟩
    simp only [tYes, ↓reduceIte]
    refine ⟨_, rfl, _, rfl, rfl, _, h2, (by rw [List.length_map, List.length_range]; exact Nat.lt_of_lt_of_le hi (by decide)), ?_, ?_⟩
    · exact fun b o e => by rw [upd_ne (ne_of_none e nD)]; exact s2 b o e
    · rw [upd_same, List.range_succ, List.map_append]
      have e : decide (V.int (0 + (i : Int)) = V.int (n : Int)) = decide (i = n) := by
        by_cases z : i = n
        · subst z
          rw [decide_eq_true rfl]
          exact decide_eq_true (by rw [Int.zero_add])
        · rw [decide_eq_false z]
          exact decide_eq_false fun y => z (by injection y; omega)
      show some (HO.lst (_ ++ [V.bl (decide (V.int (0 + (i : Int)) = V.int (n : Int)))])) = _
      rw [e]
      rfl
  · rintro H2 ⟨s2, h2⟩
    have s3 : Same H H2 := s1.trans s2
    have ei2 := ei.mono s3
    rw [tm] at h1 h2
    obtain ⟨k1, k2⟩ := key ((List.range 15).map fun j => decide (j = n)) (by rw [List.length_map, List.length_range]; decide)
    obtain ⟨t1, t2, t3, t4, t5, t6, t7⟩ := T.kitT n hn
    refine ⟨_, _, .lst (SqL.of (s2 _ _ h1)) (dp_bools _), .lst (SqL.of h2) (dp_bools _), k1, k1, _, rfl, ?_⟩
    rw [k2]
    refine iteF ⟨a, _, _, rfl, T.ec n hn, ei2, T.kitH n hn, _, rfl, ?_⟩
    refine iteF ⟨a, _, _, rfl, T.ec n hn, ei2, t1, _, rfl, ?_⟩
    refine iteF ⟨a, _, _, rfl, T.ec n hn, ei2, t2, _, rfl, ?_⟩
    refine iteF ⟨a, _, _, rfl, T.ec n hn, ei2, t3, _, rfl, ?_⟩
    refine iteF ⟨a, _, _, rfl, T.ec n hn, ei2, t4, _, rfl, ?_⟩
    refine iteF ⟨a, _, _, rfl, T.ec n hn, ei2, t5, _, rfl, ?_⟩
    refine iteF ?_
    refine ⟨a, _, _, rfl, T.ec n hn, ei2, t6, _, rfl, _, rfl, ?_⟩
    exact iteT ⟨a, _, _, rfl, T.ec n hn, ei2, t7, _, rfl, q H2 s3⟩
end
end Toy

namespace L2
open PySem PySem.Spec PyProof.Rows
/-! ### zip of a tuple and two lists -/
def It3 (K : PySem.W.Frag) (a b c : Addr) : It :=
  ⟨fun i H => ∃ (xs ys zs : List V) (x y z : V), SqT K H a xs ∧ SqL K H b ys ∧ SqL K H c zs ∧ xs[i]? = some x ∧ ys[i]? = some y ∧ zs[i]? = some z,
    fun i H v H' => ∃ T x y z, v = .ref T ∧ H T = none ∧ H' = upd H T (.tup [x, y, z]) ∧ (∀ xs, SqT K H a xs → xs[i]? = some x) ∧ (∀ ys, SqL K H b ys → ys[i]? = some y) ∧ ∀ zs, SqL K H c zs → zs[i]? = some z,
    fun i H => ∃ xs ys zs : List V, SqT K H a xs ∧ SqL K H b ys ∧ SqL K H c zs ∧ i = min (min xs.length ys.length) zs.length⟩
abbrev St3 (z TI TO i1 i2 i3 a b c : Addr) (i : Nat) (h : Heap) : Prop := IsZip h z TI TO .none ∧ IsTupOf3 h TI (.ref i1) (.ref i2) (.ref i3) ∧ (∃ x y u, IsTupOf3 h TO x y u) ∧ h.IsTupleIter i1 a i ∧ h.IsListIter i2 b i ∧ h.IsListIter i3 c i
theorem goes3 {P : Program} {w : World} {A : Around} (hh : A.in1.handled = none) {elts : List Expr} {kk : Nat} {tpos : Pos} {a b c N : Addr} (la : a < N) (lb : b < N) (lc : c < N) (x1 x2 x3 : Array Value) :
    GoesN P w A (.Tuple elts kk tpos) (N + 5) ((N + 5) :: (N + 3) :: (N + 4) :: ([N, a] ++ [N + 1, b] ++ [N + 2, c])) [N + 5, N + 4, N, N + 1, N + 2] (min (min x1.size x2.size) x3.size)
      (fun i h₀ v h => ∃ T x y u, v = .ref T ∧ h₀.objs.size ≤ T ∧ x1[i]? = some x ∧ x2[i]? = some y ∧ x3[i]? = some u ∧ h.IsTuple T #[x, y, u])
      (fun i h => IsZip h (N + 5) (N + 3) (N + 4) .none ∧ IsTupOf3 h (N + 3) (.ref N) (.ref (N + 1)) (.ref (N + 2)) ∧ (∃ a1 a2 a3, IsTupOf3 h (N + 4) a1 a2 a3) ∧ (h.IsTupleIter N a i ∧ h.IsTuple a x1) ∧ (h.IsListIter (N + 1) b i ∧ h.IsList b x2) ∧ h.IsListIter (N + 2) c i ∧ h.IsList c x3) :=
  GoesN.zip3 (zip_sep3 (N := N) (fp1 := [a]) (fp2 := [b]) (fp3 := [c]) (by simpa using la) (by simpa using lb) (by simpa using lc))
    (Draws.tuple hh N a (Nat.ne_of_lt la) x1) (Draws.list hh (N + 1) b (Nat.ne_of_lt (Nat.lt_succ_of_lt lb)) x2) (Draws.list hh (N + 2) c (Nat.ne_of_lt (Nat.lt_of_lt_of_le lc (Nat.le_add_right _ _))) x3)
theorem turn3 {P : Program} {w : World} {K : PySem.W.Frag} {elts : List Expr} {kk : Nat} {tpos : Pos} {a b c N : Addr} (la : a < N) (lb : b < N) (lc : c < N) :
    Turn P w K (.Tuple elts kk tpos) (It3 K a b c) [N + 5, N + 3, N + 4, N, N + 1, N + 2] (N + 5) (fun i h => St3 (N + 5) (N + 3) (N + 4) N (N + 1) (N + 2) a b c i h) where
  mem := by simp
  obj := fun i h st d hd => by
    obtain ⟨hz, hTI, ⟨x, y, u, hTO⟩, ⟨o1, e1, _, d1⟩, ⟨o2, e2, _, d2⟩, ⟨o3, e3, _, d3⟩⟩ := st
    have e' : d = N + 5 ∨ d = N + 3 ∨ d = N + 4 ∨ d = N ∨ d = N + 1 ∨ d = N + 2 := by simpa using hd
    rcases e' with q | q | q | q | q | q
    · rw [q]; exact ⟨_, hz, fun v q => nomatch q⟩
    · rw [q]; exact ⟨_, hTI, fun v q => nomatch q⟩
    · rw [q]; exact ⟨_, hTO, fun v q => nomatch q⟩
    · rw [q]; exact ⟨o1, e1, fun v q => by rw [d1] at q; cases q⟩
    · rw [q]; exact ⟨o2, e2, fun v q => by rw [d2] at q; cases q⟩
    · rw [q]; exact ⟨o3, e3, fun v q => by rw [d3] at q; cases q⟩
  keep := fun i h h' st k => by
    obtain ⟨hz, hTI, ⟨x, y, u, hTO⟩, h1, h2, h3⟩ := st
    exact ⟨k _ (by simp) _ hz, k _ (by simp) _ hTI, ⟨x, y, u, k _ (by simp) _ hTO⟩, h1.at fun o q => k _ (by simp) o q, h2.at fun o q => k _ (by simp) o q, h3.at fun o q => k _ (by simp) o q⟩
  item := by
    intro X hP hw hK hc i pins s σ H E I hf st hg
    subst hP hw hK
    obtain ⟨hz, hTI, hTO, h1, h2, h3⟩ := st
    obtain ⟨xs, ys, zs, x, y, z, hqx, hqy, hqz, hx, hy, hzz⟩ := hg
    obtain ⟨is1, rv1, p1, _⟩ := I.tuple hqx
    obtain ⟨is2, rv2, p2, _⟩ := I.list hqy
    obtain ⟨is3, rv3, p3, _⟩ := I.list hqz
    have l1 : i < is1.length := by rw [← rv1.length]; exact (List.getElem?_eq_some_iff.mp hx).1
    have l2 : i < is2.length := by rw [← rv2.length]; exact (List.getElem?_eq_some_iff.mp hy).1
    have l3 : i < is3.length := by rw [← rv3.length]; exact (List.getElem?_eq_some_iff.mp hzz).1
    have hN : N + 5 < s.heap.objs.size := Heap.lt_size hz
    have W := goes3 (P := X.prog) (w := X.w) (A := X.A) (I.ok.hd hc) (elts := elts) (kk := kk) (tpos := tpos) la lb lc is1.toArray is2.toArray is3.toArray
    refine W.goes i s (fun v s2 => ∃ x H', Inv X pins σ H' s2 ∧ RelV x v ∧ (It3 X.K a b c).yld i H x H' ∧ St3 (N + 5) (N + 3) (N + 4) N (N + 1) (N + 2) a b c (i + 1) s2.heap ∧ ∀ d ∈ [N + 5, N + 3, N + 4, N, N + 1, N + 2], H' d = none) E (by simp only [List.size_toArray]; omega)
      ⟨hz, hTI, hTO, ⟨h1, p1⟩, ⟨h2, p2.isList⟩, h3, p3.isList⟩ ?_
    rintro v h' tk ⟨T, u1, u2, u3, rfl, hT, q1, q2, q3, ht⟩ ⟨hz', hTI', hTO', ⟨h1', _⟩, ⟨h2', _⟩, h3', _⟩ hk htk
    obtain ⟨w1, hw1, ru1⟩ := rv1.get hx
    obtain ⟨w2, hw2, ru2⟩ := rv2.get hy
    obtain ⟨w3, hw3, ru3⟩ := rv3.get hzz
    have e1 : w1 = u1 := by
      have := hw1.symm.trans (by simpa using q1)
      exact Option.some.inj this
    have e2 : w2 = u2 := by
      have := hw2.symm.trans (by simpa using q2)
      exact Option.some.inj this
    have e3 : w3 = u3 := by
      have := hw3.symm.trans (by simpa using q3)
      exact Option.some.inj this
    subst e1 e2 e3
    have new : ObjOk X.prog X.w (upd H T (.tup [x, y, z])) h' T (.tup [x, y, z]) :=
      ⟨by show 3 ≤ sizeLine; decide, [w1, w2, w3], .cons ru1 (.cons ru2 (.cons ru3 .nil)), ht⟩
    have I1 : Inv X pins σ (upd H T (.tup [x, y, z])) { s with heap := h', toks := tk } :=
      I.turnedNew (t' := tk) (ch := [N + 5, N + 4, N, N + 1, N + 2]) hk (fun d hd => hf d (by
        have e' : d = N + 5 ∨ d = N + 4 ∨ d = N ∨ d = N + 1 ∨ d = N + 2 := by simpa using hd
        rcases e' with q | q | q | q | q <;> (rw [q]; simp))) hT new
    refine ⟨.ref T, _, I1, rfl, ⟨T, x, y, z, rfl, I.hok.fresh hT, rfl, fun l hl => by rw [I.tuple_inj hl hqx]; exact hx, fun l hl => by rw [I.list_inj hl hqy]; exact hy, fun l hl => by rw [I.list_inj hl hqz]; exact hzz⟩,
      ⟨hz', hTI', hTO', h1', h2', h3'⟩, fun d hd => ?_⟩
    have hd5 : d ≤ N + 5 := by
      have e' : d = N + 5 ∨ d = N + 3 ∨ d = N + 4 ∨ d = N ∨ d = N + 1 ∨ d = N + 2 := by simpa using hd
      rcases e' with q | q | q | q | q | q
      · rw [q]; exact Nat.le_refl _
      · rw [q]; exact Nat.add_le_add_left (by decide) N
      · rw [q]; exact Nat.add_le_add_left (by decide) N
      · rw [q]; exact Nat.le_add_right _ _
      · rw [q]; exact Nat.add_le_add_left (by decide) N
      · rw [q]; exact Nat.add_le_add_left (by decide) N
    have hlt : d < T := Nat.lt_of_le_of_lt hd5 (Nat.lt_of_lt_of_le hN hT)
    rw [upd_ne (Nat.ne_of_lt hlt)]
    exact (hf d hd).1
  done := by
    intro X hP hw hK hc i pins s σ H E I hf st hg
    subst hP hw hK
    obtain ⟨hz, hTI, hTO, h1, h2, h3⟩ := st
    obtain ⟨xs, ys, zs, hqx, hqy, hqz, rfl⟩ := hg
    obtain ⟨is1, rv1, p1, _⟩ := I.tuple hqx
    obtain ⟨is2, rv2, p2, _⟩ := I.list hqy
    obtain ⟨is3, rv3, p3, _⟩ := I.list hqz
    have W := goes3 (P := X.prog) (w := X.w) (A := X.A) (I.ok.hd hc) (elts := elts) (kk := kk) (tpos := tpos) la lb lc is1.toArray is2.toArray is3.toArray
    have en : min (min xs.length ys.length) zs.length = min (min is1.toArray.size is2.toArray.size) is3.toArray.size := by rw [rv1.length, rv2.length, rv3.length]; simp only [List.size_toArray]
    rw [en] at h1 h2 h3
    exact W.stops s _ E ⟨hz, hTI, hTO, ⟨h1, p1⟩, ⟨h2, p2.isList⟩, h3, p3.isList⟩ fun h' tk hk htk => I.turnedL (t' := tk) (ch := [N + 5, N + 4, N, N + 1, N + 2]) hk (fun d hd => hf d (by
        have e' : d = N + 5 ∨ d = N + 4 ∨ d = N ∨ d = N + 1 ∨ d = N + 2 := by simpa using hd
        rcases e' with q | q | q | q | q <;> (rw [q]; simp)))
  self := fun A i s Q E st h => wpAny_pyIter_zip st.1 h
def iZip3 (K : PySem.W.Frag) (ta : TA) : TI := fun σ H R => ta σ H fun vs H1 => ∃ a b c xs ys zs, vs = [.ref a, .ref b, .ref c] ∧ SqT K H1 a xs ∧ SqL K H1 b ys ∧ SqL K H1 c zs ∧ R (It3 K a b c) H1
theorem pi_zip3 {X : Cx} {e e2 e3 : Expr} {ta : TA} {p pos tpos : Pos} {elts : List Expr} {kk : Nat} (hg : Gl X "zip") (hm : X.mg "zip" = none) (ha : PA X [e, e2, e3] ta)
    (hs : starEach [e, e2, e3] X.env = (false, eval e X.env) :: starEach [e2, e3] X.env := by rfl) (hpl : (backTo pos (starEach [e2, e3] X.env)).any (·.1) = false := by rfl) :
    PI X (.Tuple elts kk tpos) (.Call (.Name "zip" p) [e, e2, e3] [] pos) (iZip3 X.K ta) := by
  refine ⟨fun pins s σ H R I h => ?_⟩
  refine Call_ (ld_blt I hg hm PyProof.Rows.boot_zip (PyProof.Rows.callWith_type1 (thn (ha.run pos pins s σ H _ I h) fun us s1 ⟨vs, H1, I1, r1, q1⟩ => ?_) hs hpl))
  obtain ⟨a, b, c, xs, ys, zs, ex, hqx, hqy, hqz, q⟩ := q1
  subst ex
  obtain ⟨u1, u2, u3, rfl, r, r', r''⟩ : ∃ u1 u2 u3, us = [u1, u2, u3] ∧ RelV (.ref a) u1 ∧ RelV (.ref b) u2 ∧ RelV (.ref c) u3 := by
    cases r1 with
    | cons r rr =>
      cases rr with
      | cons r' rr =>
        cases rr with
        | cons r'' rr =>
          cases rr
          exact ⟨_, _, _, rfl, r, r', r''⟩
  · obtain rfl : u1 = Value.ref a := r
    obtain rfl : u2 = Value.ref b := r'
    obtain rfl : u3 = Value.ref c := r''
    obtain ⟨is1, rv1, p1, _⟩ := I1.tuple hqx
    obtain ⟨is2, rv2, p2, _⟩ := I1.list hqy
    obtain ⟨is3, rv3, p3, _⟩ := I1.list hqz
    obtain ⟨o1, ho1, _⟩ := id p1
    refine zip_begins3 (begins_tuple a is1.toArray) (begins_list b is2.toArray) (begins_list c is3.toArray) p1 p2.isList p3.isList fun h' hz hTI hTO h1 h2 h3 hsz hk => wpAny_pyIter_zip hz ?_
    have I2 : Inv X pins σ H1 { s1 with heap := h' } := I1.kept (t' := s1.toks) hk
    refine ⟨s1.heap.objs.size + 5, [s1.heap.objs.size + 5, s1.heap.objs.size + 3, s1.heap.objs.size + 4, s1.heap.objs.size, s1.heap.objs.size + 1, s1.heap.objs.size + 2], _, _, H1, rfl, I2, turn3 (Heap.lt_size ho1) p2.lt p3.lt,
      ⟨hz, hTI, ⟨_, _, _, hTO⟩, ⟨_, h1, rfl, rfl⟩, ⟨_, h2, rfl, rfl⟩, ⟨_, h3, rfl, rfl⟩⟩, fun d hd => ?_, q⟩
    have hle : s1.heap.objs.size ≤ d := by
      have e' : d = s1.heap.objs.size + 5 ∨ d = s1.heap.objs.size + 3 ∨ d = s1.heap.objs.size + 4 ∨ d = s1.heap.objs.size ∨ d = s1.heap.objs.size + 1 ∨ d = s1.heap.objs.size + 2 := by simpa using hd
      rcases e' with z | z | z | z | z | z
      · rw [z]; exact Nat.le_add_right _ _
      · rw [z]; exact Nat.le_add_right _ _
      · rw [z]; exact Nat.le_add_right _ _
      · rw [z]; exact Nat.le_refl _
      · rw [z]; exact Nat.le_add_right _ _
      · rw [z]; exact Nat.le_add_right _ _
    exact I1.fpOk hle (I1.hok.fresh hle)
/-- a loop over it, all of one length -/
theorem for_zip3 {K : PySem.W.Frag} {a b c : Addr} {xs ys zs : List V} {n : Nat} {g : TG} {tb : TS} {D : Ends} {σ : L2.St} {H : Hp} (l1 : xs.length = n) (l2 : ys.length = n) (l3 : zs.length = n) (Pv : Nat → L2.St → Hp → Prop) (h0 : Pv 0 σ H) (hq : ∀ i σ H, Pv i σ H → SqT K H a xs ∧ SqL K H b ys ∧ SqL K H c zs)
    (hs : ∀ (i : Nat) (x y z : V) (T : Addr) (σ : L2.St) (H : Hp), i < n → xs[i]? = some x → ys[i]? = some y → zs[i]? = some z → Pv i σ H → H T = none → g (.ref T) σ (upd H T (.tup [x, y, z])) fun σ2 H2 => tb { D with nx := Pv (i + 1), ct := Pv (i + 1), bk := D.nx } σ2 H2) (hd : ∀ σ H, Pv n σ H → D.nx σ H) :
    ∃ W : Nat → Nat → L2.St → Hp → Prop, (∃ m, W 0 m σ H) ∧ ∀ i m σ H, W i m σ H →
      ((It3 K a b c).stop i H ∧ D.nx σ H) ∨ ((It3 K a b c).go i H ∧ ∃ N : L2.St → Hp → Prop, (∀ σ' H', N σ' H' → ∃ m', m' < m ∧ W (i + 1) m' σ' H') ∧ ∀ v H', (It3 K a b c).yld i H v H' → g v σ H' fun σ2 H2 => tb { D with nx := N, ct := N, bk := D.nx } σ2 H2) := by
  refine ⟨fun i m σ H => m = n - i ∧ i ≤ n ∧ Pv i σ H, ⟨n, rfl, Nat.zero_le _, h0⟩, ?_⟩
  rintro i m σ H ⟨rfl, hi, p⟩
  obtain ⟨qx, qy, qz⟩ := hq i σ H p
  by_cases hlt : i < n
  · have hx : xs[i]? = some xs[i] := List.getElem?_eq_getElem (by omega)
    have hy : ys[i]? = some ys[i] := List.getElem?_eq_getElem (by omega)
    have hz : zs[i]? = some zs[i] := List.getElem?_eq_getElem (by omega)
    refine .inr ⟨⟨xs, ys, zs, _, _, _, qx, qy, qz, hx, hy, hz⟩, Pv (i + 1), fun σ' H' p' => ⟨n - (i + 1), by omega, rfl, hlt, p'⟩, fun v H' y => ?_⟩
    obtain ⟨T, x', y', z', rfl, hT, rfl, f1, f2, f3⟩ := y
    exact hs i x' y' z' T σ H hlt (f1 xs qx) (f2 ys qy) (f3 zs qz) p hT
  · have e : i = n := by omega
    subst e
    exact .inl ⟨⟨xs, ys, zs, qx, qy, qz, by omega⟩, hd σ H p⟩
end L2

namespace Toy
open PySem L2
abbrev sAre : Stmt := top 29
structure GvZ (Z : Around → Prop) (P : Program) (w : World) (K : PySem.W.Frag) (mg : Str → Option Value) (base : Heap) (x : Str) (f : Addr) (fd : FuncData) (ps : List Str) (sp : Sp) : Prop where
  ok : FnZ Z P w K mg base f fd ps sp
  b : Binds K fd ps []
  k : PySem.W.keepIn K (.ref f) = true
  m : mg x = some (.ref f)
def spAre : Sp := fun vs H Q _ => ∃ (wl : Addr) (n : Nat), vs = [.ref wl, .int n] ∧ n < 15 ∧ WellAt H wl ∧ ∀ H', WellAt H' wl → But wl H H' → Q (.bl true) H'
/-- shown data at v -/
def Sh (K : PySem.W.Frag) (H : Hp) (v : V) : Prop := ∃ d, Dq K H v d ∧ Fit d 580 7
theorem Sh.mono {K : PySem.W.Frag} {H H' : Hp} {v : V} (e : Same H H') (h : Sh K H v) : Sh K H' v := let ⟨d, a, b⟩ := h; ⟨d, Dq.mono e _ _ a, b⟩
theorem newer_stand {wl : Addr} {A B C : Hp} (w : WellAt A wl) (e : But wl B C) : Same (newer A B) C := fun b o h => by
  unfold newer at h
  cases q : A b with
  | none =>
    rw [q] at h
    exact e b o (fun n => by obtain ⟨_, _, _, z⟩ := w; rw [n, z] at q; cases q) h
  | some u => rw [q] at h; cases h
theorem Pn.sh {K : PySem.W.Frag} {wl : Addr} {A B C : Hp} {v : V} {n k : Nat} (h : Pn K A B v n k) (hn : n ≤ 580) (hk : k ≤ 7) (w : WellAt A wl) (e : But wl B C) : Sh K C v :=
  let ⟨d, x, y⟩ := h; ⟨d, Dq.mono (newer_stand w e) _ _ x, ⟨y.ok, Nat.le_trans y.sz hn, Nat.le_trans y.dp hk⟩⟩
theorem WellAt.mono {wl : Addr} {H H' : Hp} (e : Same H H') (h : WellAt H wl) : WellAt H' wl := let ⟨a, b, c, z⟩ := h; ⟨a, b, c, e _ _ z⟩
/-- one row that the law looks at -/
structure RowOk (K : PySem.W.Frag) (Cs : Nat → Addr) (H : Hp) (x y z : V) (m : Nat) (e t : Addr) (p q : V) : Prop where
  ex : x = .int m
  ey : y = .ref e
  ez : z = .ref t
  hm : m < 15
  er : ErAt H e (Cs m) (fsOf m p q)
  tu : SqT K H t [p, q]
  dp : Sh K H p
  dq : Sh K H q
theorem cut1 {p q : V} : cutV [p, q] none (some 1) = [p] := rfl
theorem cut2 {p q : V} : cutV [p, q] none (some 2) = [p, q] := rfl
theorem kept_sh {K : PySem.W.Frag} {H : Hp} {p q : V} {m : Nat} (a : Sh K H p) (b : Sh K H q) : ∃ ds, DqAll K H (kept m p q) ds ∧ (PyData.list ds).showable = true ∧ (PyData.list ds).shown.length ≤ sizeLine ∧ (PyData.list ds).depth ≤ 60 := by
  obtain ⟨d1, a1, f1⟩ := a
  obtain ⟨d2, a2, f2⟩ := b
  have go : ∀ l : List PyData, l.length ≤ 4 → (∀ d ∈ l, Fit d 580 7) → (PyData.list l).showable = true ∧ (PyData.list l).shown.length ≤ sizeLine ∧ (PyData.list l).depth ≤ 60 := fun l hl h => by
    have z := lst_fit hl h
    exact ⟨z.ok, Nat.le_trans z.sz (by decide), Nat.le_trans z.dp (by decide)⟩
  unfold kept
  by_cases h : m < 14
  · rw [if_pos h]
    exact ⟨[d1], .cons a1 .nil, go _ (by simp only [List.length_cons, List.length_nil]; omega) fun d hd => by rw [List.mem_singleton.mp hd]; exact f1⟩
  · rw [if_neg h]
    refine ⟨[d1, d2], .cons a1 (.cons a2 .nil), go _ (by simp only [List.length_cons, List.length_nil]; omega) fun d hd => ?_⟩
    rcases List.mem_cons.mp hd with rfl | hd
    · exact f1
    · rw [List.mem_singleton.mp hd]; exact f2
section
variable {P : Program} {w : World} {K : PySem.W.Frag} {mg : Str → Option Value} {base : Heap} {Cs : Nat → Addr} {HE : Addr}
theorem scA : FnScope ["well", "first", "second", "one", "two", "three", "four", "errors", "due", "number", "error", "here", "there", "many"] ["well", "first"] (defScope sAre) := ⟨rfl, rfl, rfl, by decide +kernel, rfl, by decide +kernel, by decide +kernel⟩
theorem ok_are {f fD fP fB fN fI fS fK : Addr} {fd dD dP dB dN dI dS dK : FuncData} (F : Fun K "_law_are_right" "_law_are_right" sAre f fd) (D : Gv P w K mg base 1 "_law_draw" fD dD ["well", "many"] spDraw)
    (P2 : Gv P w K mg base 6 "_law_piece" fP dP ["well", "deep"] (spPiece K 2)) (P1 : Gv P w K mg base 5 "_law_piece" fP dP ["well", "deep"] (spPiece K 1))
    (BP : Gv P w K mg base 2 "_law_by_place" fB dB ["number", "one", "two"] (spMk Cs)) (BN : Gv P w K mg base 2 "_law_by_name" fN dN ["number", "one", "two"] (spMk Cs))
    (IO : Gv P w K mg base 2 "_law_is_of" fI dI ["number", "error"] (spIsOf Cs)) (SM : GvZ (RoomG 1) P w K mg base "_law_same" fS dS ["told", "due"] (spSame K)) (KP : GvZ (RoomA 1) P w K mg base "_law_kept" fK dK ["number", "error"] (spKept Cs))
    (mz : mg "zip" = none) : FnZ (RoomG 7) P w K mg base f fd ["well", "first"] spAre := by
  refine F.okZ true scA (fun A z => z.depth) (fun _ A z => z.room.hd) (fun vs H Q E h => ?_) (fun cdv A outer s H vs Q hz0 h => ?_)
  · obtain ⟨wl, n, rfl, _⟩ := h
    rfl
  obtain ⟨wl, n, rfl, hn, hw, q⟩ := h
  have hz : ∀ env, RoomG 6 (A.deeper env) := fun env => hz0.deeper env
  refine ⟨_, pss_cons (ps_set (i := 2) scA.nd rfl (.inl rfl) (pe_call D.ok ((hz _).room.mono (by omega)) rfl D.m D.k D.b .nil pass0 (pa_cons (pv 0) (pa_cons pe_int pa_nil))))
    (pss_cons (ps_par (i := 3) (j := 4) rfl scA.nd rfl rfl (by decide) rfl rfl (pa_cons (pe_call P2.ok (hz _).room rfl P2.m P2.k P2.b .nil pass0 (pa_cons (pv 0) (pa_cons pe_int pa_nil))) (pa_cons (pe_call P2.ok (hz _).room rfl P2.m P2.k P2.b .nil pass0 (pa_cons (pv 0) (pa_cons pe_int pa_nil))) pa_nil)) rfl)
    (pss_cons (ps_par (i := 5) (j := 6) rfl scA.nd rfl rfl (by decide) rfl rfl (pa_cons (pe_call P2.ok (hz _).room rfl P2.m P2.k P2.b .nil pass0 (pa_cons (pv 0) (pa_cons pe_int pa_nil))) (pa_cons (pe_call P1.ok ((hz _).room.mono (by omega)) rfl P1.m P1.k P1.b .nil pass0 (pa_cons (pv 0) (pa_cons pe_int pa_nil))) pa_nil)) rfl)
    (pss_cons (ps_set (i := 7) scA.nd rfl (.inl rfl) (pe_lst (pa_cons (pe_call BP.ok ((hz _).room.mono (by omega)) rfl BP.m BP.k BP.b .nil pass0 (pa_cons (pv 1) (pa_cons (pv 3) (pa_cons (pv 4) pa_nil))))
      (pa_cons (pe_call BN.ok ((hz _).room.mono (by omega)) rfl BN.m BN.k BN.b .nil pass0 (pa_cons (pv 2) (pa_cons (pv 5) (pa_cons (pv 6) pa_nil)))) (pa_cons (pe_call BN.ok ((hz _).room.mono (by omega)) rfl BN.m BN.k BN.b .nil pass0 (pa_cons (pv 1) (pa_cons (pv 6) (pa_cons (pv 5) pa_nil)))) pa_nil)))))
    (pss_cons (ps_set (i := 8) scA.nd rfl (.inl rfl) (pe_lst (pa_cons (pe_tup (pa_cons (pv 3) (pa_cons (pv 4) pa_nil))) (pa_cons (pe_tup (pa_cons (pv 5) (pa_cons (pv 6) pa_nil))) (pa_cons (pe_tup (pa_cons (pv 6) (pa_cons (pv 5) pa_nil))) pa_nil)))))
    (pss_cons (ps_for PassesOwn.never rfl (pi_zip3 rfl mz (pa_cons (pe_tup (pa_cons (pv 1) (pa_cons (pv 2) (pa_cons (pv 1) pa_nil)))) (pa_cons (pv 7) (pa_cons (pv 8) pa_nil))))
        (pg_tup rfl (pgs_cons (pg_name (i := 9) scA.nd rfl (.inl rfl)) (pgs_cons (pg_name (i := 10) scA.nd rfl (.inl rfl)) (pgs_cons (pg_tup rfl (pgs_cons (pg_name (i := 11) scA.nd rfl (.inl rfl)) (pgs_cons (pg_name (i := 12) scA.nd rfl (.inl rfl)) pgs_nil))) pgs_nil))))
      (pss_cons (ps_set (i := 13) scA.nd rfl (.inl rfl) (pe_ifExp (pt_cmpR op_eq (pv 9) pe_int (nomark _)) pe_int pe_int))
        (pss_one (ps_if (PW.pt (pw_or (pt_not (pt_val (pe_call IO.ok ((hz _).room.mono (by omega)) rfl IO.m IO.k IO.b .nil pass0 (pa_cons (pv 9) (pa_cons (pv 10) pa_nil)))))
            (pw_or1 (pt_not (pt_val (pe_callZ SM.ok ((hz _).mono (by omega)) rfl SM.m SM.k SM.b (pa_cons (pe_callZ KP.ok (.of ((hz _).room.mono (by omega))) rfl KP.m KP.k KP.b (pa_cons (pv 9) (pa_cons (pv 10) pa_nil)))
              (pa_cons (pe_slice sl_list (pe_lst (pa_cons (pv 11) (pa_cons (pv 12) pa_nil))) po_none (po_some (pv 13))) pa_nil))))))))
          (pss_one (ps_ret pe_bl)) pss_nil))))
    (pss_one (ps_ret pe_bl))))))), ?_⟩
  have z3 : 3 ≤ sizeLine := by decide
  have z2 : 2 ≤ sizeLine := by decide
  refine ⟨_, rfl, wl, 15, rfl, by decide, by decide, hw, fun s2 H1 b0 b1 w1 e1 => ?_⟩
  obtain ⟨n2, rfl⟩ : ∃ n2 : Nat, s2 = (n2 : Int) := ⟨s2.toNat, by omega⟩
  have hn2 : n2 < 15 := by omega
  refine ⟨_, rfl, wl, rfl, w1, fun v1 H2 p1 w2 e2 => ⟨_, rfl, wl, rfl, w2, fun v2 H3 p2 w3 e3 => ⟨_, _, rfl, ?_⟩⟩⟩
  refine ⟨_, rfl, wl, rfl, w3, fun v3 H4 p3 w4 e4 => ⟨_, rfl, wl, rfl, w4, fun v4 H5 p4 w5 e5 => ⟨_, _, rfl, ?_⟩⟩⟩
  have d1 : Sh K H5 v1 := p1.sh (by decide) (by decide) w1 (e3.trans (e4.trans e5))
  have d2 : Sh K H5 v2 := p2.sh (by decide) (by decide) w2 (e4.trans e5)
  have d3 : Sh K H5 v3 := p3.sh (by decide) (by decide) w3 e5
  have d4 : Sh K H5 v4 := p4.sh (by decide) (by decide) w4 (But.refl _)
  have e05 : But wl H H5 := e1.trans (e2.trans (e3.trans (e4.trans e5)))
  clear p1 p2 p3 p4 e1 e2 e3 e4 e5 w1 w2 w3 w4
  refine ⟨_, rfl, _, rfl, _, rfl, n, v1, v2, rfl, hn, fun a1 H6 s6 f6 q1 => ⟨_, rfl, _, rfl, _, rfl, n2, v3, v4, rfl, hn2, fun a2 H7 s7 f7 q2 => ⟨_, rfl, _, rfl, _, rfl, n, v4, v3, rfl, hn, fun a3 H8 s8 f8 q3 => ⟨z3, fun le hle => ?_⟩⟩⟩⟩
  have t0 := same_new hle (.lst [.ref a1, .ref a2, .ref a3])
  have hle0 : SqL K (upd H8 le (.lst [.ref a1, .ref a2, .ref a3])) le [.ref a1, .ref a2, .ref a3] := SqL.of upd_same
  have S9 : Same H5 (upd H8 le (.lst [.ref a1, .ref a2, .ref a3])) := s6.trans (s7.trans (s8.trans t0))
  replace q1 := q1.mono (s7.trans (s8.trans t0))
  replace q2 := q2.mono (s8.trans t0)
  replace q3 := q3.mono t0
  generalize upd H8 le (.lst [.ref a1, .ref a2, .ref a3]) = H9 at S9 q1 q2 q3 hle0 ⊢
  clear t0 hle s6 s7 s8 f6 f7 f8
  refine ⟨_, rfl, _, rfl, z2, fun t1 ht1 => ⟨_, rfl, _, rfl, z2, fun t2 ht2 => ⟨_, rfl, _, rfl, z2, fun t3 ht3 => ⟨z3, fun ld hld => ?_⟩⟩⟩⟩
  have u1 := same_new ht1 (.tup [v1, v2])
  have u2 := same_new ht2 (.tup [v3, v4])
  have u3 := same_new ht3 (.tup [v4, v3])
  have u4 := same_new hld (.lst [.ref t1, .ref t2, .ref t3])
  have r1 : SqT K (upd (upd (upd (upd H9 t1 (.tup [v1, v2])) t2 (.tup [v3, v4])) t3 (.tup [v4, v3])) ld (.lst [.ref t1, .ref t2, .ref t3])) t1 [v1, v2] := u4.seqT (u3.seqT (u2.seqT (SqT.of upd_same)))
  have r2 : SqT K (upd (upd (upd (upd H9 t1 (.tup [v1, v2])) t2 (.tup [v3, v4])) t3 (.tup [v4, v3])) ld (.lst [.ref t1, .ref t2, .ref t3])) t2 [v3, v4] := u4.seqT (u3.seqT (SqT.of upd_same))
  have r3 : SqT K (upd (upd (upd (upd H9 t1 (.tup [v1, v2])) t2 (.tup [v3, v4])) t3 (.tup [v4, v3])) ld (.lst [.ref t1, .ref t2, .ref t3])) t3 [v4, v3] := u4.seqT (SqT.of upd_same)
  have hld0 : SqL K (upd (upd (upd (upd H9 t1 (.tup [v1, v2])) t2 (.tup [v3, v4])) t3 (.tup [v4, v3])) ld (.lst [.ref t1, .ref t2, .ref t3])) ld [.ref t1, .ref t2, .ref t3] := SqL.of upd_same
  have S10 : Same H9 (upd (upd (upd (upd H9 t1 (.tup [v1, v2])) t2 (.tup [v3, v4])) t3 (.tup [v4, v3])) ld (.lst [.ref t1, .ref t2, .ref t3])) := u1.trans (u2.trans (u3.trans u4))
  generalize upd (upd (upd (upd H9 t1 (.tup [v1, v2])) t2 (.tup [v3, v4])) t3 (.tup [v4, v3])) ld (.lst [.ref t1, .ref t2, .ref t3]) = HM at r1 r2 r3 hld0 S10 ⊢
  clear u1 u2 u3 u4 ht1 ht2 ht3 hld
  replace q1 := q1.mono S10
  replace q2 := q2.mono S10
  replace q3 := q3.mono S10
  replace hle0 := S10.seq hle0
  have S5 : Same H5 HM := S9.trans S10
  replace d1 := d1.mono S5
  replace d2 := d2.mono S5
  replace d3 := d3.mono S5
  replace d4 := d4.mono S5
  have rows : ∀ (i : Nat) (x y z : V), i < 3 → [V.int n, V.int n2, V.int n][i]? = some x → [V.ref a1, V.ref a2, V.ref a3][i]? = some y → [V.ref t1, V.ref t2, V.ref t3][i]? = some z → ∃ m e t p q, RowOk K Cs HM x y z m e t p q := fun i x y z hi hx hy hz' => by
    rcases i with _ | _ | _ | i
    · cases hx; cases hy; cases hz'
      exact ⟨n, a1, t1, v1, v2, rfl, rfl, rfl, hn, q1, r1, d1, d2⟩
    · cases hx; cases hy; cases hz'
      exact ⟨n2, a2, t2, v3, v4, rfl, rfl, rfl, hn2, q2, r2, d3, d4⟩
    · cases hx; cases hy; cases hz'
      exact ⟨n, a3, t3, v4, v3, rfl, rfl, rfl, hn, q3, r3, d4, d3⟩
    · omega
  refine ⟨_, rfl, _, rfl, _, rfl, z3, fun tz htz => ?_⟩
  have uz := same_new htz (.tup [.int n, .int n2, .int n])
  have sTz : SqT K (upd HM tz (.tup [.int n, .int n2, .int n])) tz [.int n, .int n2, .int n] := SqT.of upd_same
  generalize upd HM tz (.tup [.int n, .int n2, .int n]) = HZ at uz sTz ⊢
  refine ⟨_, rfl, _, rfl, tz, le, ld, _, _, _, rfl, sTz, uz.seq hle0, uz.seq hld0, ?_⟩
  refine for_zip3 (n := 3) rfl rfl rfl (fun i σ H' => Same HZ H' ∧ ∃ c1 c2 c3 c4 c5, σ = [some (.ref wl), some (.int n), some (.int n2), some v1, some v2, some v3, some v4, some (.ref le), some (.ref ld), c1, c2, c3, c4, c5])
    ⟨Same.refl _, _, _, _, _, _, rfl⟩ (fun i σ H' z => ⟨z.1.seqT sTz, z.1.seq (uz.seq hle0), z.1.seq (uz.seq hld0)⟩) ?_ ?_
  · rintro i x y z T σ H' hi hx hy hz1 ⟨sH, c1, c2, c3, c4, c5, rfl⟩ hT
    obtain ⟨m, e, t, p, r, rfl, rfl, rfl, hm, er, tu, dp, dr⟩ := rows i x y z hi hx hy hz1
    have sT := same_new hT (.tup [.int m, .ref e, .ref t])
    have sA : Same HM (upd H' T (.tup [.int m, .ref e, .ref t])) := uz.trans (sH.trans sT)
    have sB : Same HZ (upd H' T (.tup [.int m, .ref e, .ref t])) := sH.trans sT
    refine ⟨T, _, rfl, SqT.of upd_same, rfl, _, _, rfl, _, _, rfl, _, _, rfl, ⟨t, _, rfl, sA.seqT tu, rfl, _, _, rfl, _, _, rfl, rfl, rfl, ?_⟩⟩
    generalize upd H' T (.tup [.int m, .ref e, .ref t]) = HT at sA sB ⊢
    refine ⟨_, rfl, rfl, _, rfl, ?_⟩
    refine ite2 (fun h => ?_) (fun h => ?_)
    · have hk : cutV [p, r] none (some 2) = kept m p r := cut2.trans (if_neg (by have := num_eq h; omega)).symm
      refine ⟨_, rfl, _, rfl, m, e, _, rfl, hm, er.mono sA, fun H2 s2 => ⟨true, rfl, iteF ?_⟩⟩
      have sC := sA.trans s2
      refine ⟨_, rfl, _, rfl, m, e, p, r, rfl, hm, er.mono sC, fun pl hpl => ⟨_, rfl, _, rfl, z2, fun l2 hl2 => ⟨_, rfl, _, rfl, l2, _, rfl, SqL.of upd_same, fun l3 hl3 => ?_⟩⟩⟩
      have y1 := same_new hpl (.lst (kept m p r))
      have y2 := same_new hl2 (.lst [p, r])
      have y3 := same_new hl3 (.lst (cutV [p, r] none (some 2)))
      have yy := y1.trans (y2.trans y3)
      obtain ⟨ds, g1, g2, g3, g4⟩ := kept_sh (m := m) (dp.mono (sC.trans yy)) (dr.mono (sC.trans yy))
      refine ⟨pl, l3, ds, rfl, .lst (SqL.of (y3 _ _ (y2 _ _ upd_same))) g1, .lst (SqL.of (by rw [← hk]; exact upd_same)) g1, g2, g3, g4, true, rfl, iteF ?_⟩
      exact ⟨sB.trans (s2.trans yy), _, _, _, _, _, rfl⟩
    · have hk : cutV [p, r] none (some 1) = kept m p r := cut1.trans (if_pos (by have := num_ne h; omega)).symm
      refine ⟨_, rfl, _, rfl, m, e, _, rfl, hm, er.mono sA, fun H2 s2 => ⟨true, rfl, iteF ?_⟩⟩
      have sC := sA.trans s2
      refine ⟨_, rfl, _, rfl, m, e, p, r, rfl, hm, er.mono sC, fun pl hpl => ⟨_, rfl, _, rfl, z2, fun l2 hl2 => ⟨_, rfl, _, rfl, l2, _, rfl, SqL.of upd_same, fun l3 hl3 => ?_⟩⟩⟩
      have y1 := same_new hpl (.lst (kept m p r))
      have y2 := same_new hl2 (.lst [p, r])
      have y3 := same_new hl3 (.lst (cutV [p, r] none (some 1)))
      have yy := y1.trans (y2.trans y3)
      obtain ⟨ds, g1, g2, g3, g4⟩ := kept_sh (m := m) (dp.mono (sC.trans yy)) (dr.mono (sC.trans yy))
      refine ⟨pl, l3, ds, rfl, .lst (SqL.of (y3 _ _ (y2 _ _ upd_same))) g1, .lst (SqL.of (by rw [← hk]; exact upd_same)) g1, g2, g3, g4, true, rfl, iteF ?_⟩
      exact ⟨sB.trans (s2.trans yy), _, _, _, _, _, rfl⟩
  · rintro σ H' ⟨sH, c1, c2, c3, c4, c5, rfl⟩
    have sE : Same H5 H' := S5.trans (uz.trans sH)
    exact q H' (w5.mono sE) (e05.trans (But.of sE))
end
end Toy

namespace L2
open PySem PySem.Spec PyProof.Rows
section
variable {X : Cx} {a : Addr} {oe : Obj} {pn : List (Addr × Obj)} {cls : Value} {d : Option Addr} {Z : Around → Prop} {f : Addr} {fd : FuncData} {ps : List Str} {sp : Sp} {x : Str} {p pos : Pos} {e : Expr} {es : List Expr} {t : TA}
def tHeldN (a : Addr) (cls : Value) (d : Option Addr) (sp : Sp) (t : TA) : TE := fun σ H Q => t σ H fun vs H1 => H1 a = none → ∃ C dd, cls = .ref C ∧ d = some dd ∧ ∀ o, sp vs (upd H1 a (.frz o (exl a C dd))) (fun v H2 => Q v (del H2 a)) E0
theorem pe_callHeldN (hz : Zc cls d oe) (hv : ∃ vs, oe.data = .fields vs) (nB : X.base.get? a = none) (F : FnZ Z X.prog X.w X.K X.mg X.base f fd ps sp) (hr : Z (X.suite a ((a, oe) :: pn)).A) (hg : Gl (X.suite a ((a, oe) :: pn)) x) (hm : X.mg x = some (.ref f)) (hk : PySem.W.keepIn X.K (.ref f) = true) (hb : Binds X.K fd ps [])
    (ha : PA (X.suite a ((a, oe) :: pn)) (e :: es) t) (hdb : (x == ("__debug__" : Str)) = false := by decide) (he : starEach (e :: es) X.env = (false, eval e X.env) :: starEach es X.env := by rfl) (hpl : (backTo pos (starEach es X.env)).any (·.1) = false := by rfl) :
    PE (X.suite a ((a, oe) :: pn)) (.Call (.Name x p) (e :: es) [] pos) (tHeldN a cls d sp t) := by
  refine ⟨fun pins s σ H Q I h => ?_⟩
  refine (pe_callHeld (t := fun σ H R => t σ H fun vs H1 => H1 a = none → R vs H1) (sp := sp) hz hv nB F hr hg hm hk hb ⟨fun pos pins s σ H Q I h => ?_⟩ hdb he hpl).run pins s σ H Q I ?_
  · refine thn (ha.run pos pins s σ H _ I h) fun us s1 ⟨vs, H1, I1, r, q⟩ => ⟨vs, H1, I1, r, q (I1.pin (a, oe) (List.mem_append_left _ List.mem_cons_self)).2.1⟩
  · exact h
/-- l.append(e) in a suite -/
theorem pe_appH {X : Cx} {a : Addr} {pn : List (Addr × Obj)} {o e : Expr} {to : TE} {t : TA} {apos cpos : Pos} (ho : PE (X.suite a pn) o to) (ha : PA (X.suite a pn) [e] t)
    (hbase : attributeBase o "append" X.env (eval o X.env) = eval o X.env := by rfl)
    (hfew : ((backTo cpos (starEach [e] X.env)).all (fun x => !x.1) && (backToKw cpos (keywordEach [] X.env)).all (fun x => x.1.isSome)
      && decide (([e] : List Expr).length + ([] : List Keyword).length + (if ([] : List Keyword).isEmpty then 0 else 1) < 30)) = true := by rfl)
    (hline : (apos.endLine == cpos.line) = true := by rfl) (hs : starEach [e] X.env = (false, eval e X.env) :: starEach [] X.env := by rfl) (hplain : (backTo cpos (starEach [] X.env)).any (·.1) = false := by rfl) :
    PE (X.suite a pn) (.Call (.Attribute o "append" apos) [e] [] cpos) (tBM X.K "list" rAppend to t) :=
  pe_bm (X := X.suite a pn) PySem.F.plainAttrs_list PySem.F.slot_list_append PySem.F.type_list_append (mt_append (X := X.suite a pn)) ho ha hbase hfew hline hs hplain
end
end L2
namespace Toy
open PySem L2
abbrev sMet : Stmt := top 30
def metOf : Nat → V → V → List V
  | 0, x, y => [.bl true, .bl false, x, y]
  | 1, x, _ => [.int 1, x]
  | _, _, y => [.bl false, .bl true, y]
def spMet : Sp := fun vs H Q _ => ∃ (n : Nat) (x y : V), vs = [.int n, x, y] ∧ n < 3 ∧ ∀ p H', Same H H' → H p = none → H' p = some (.lst (metOf n x y)) → Q (.ref p) H'
/-- what the clauses ask of the classes -/
structure ErM (K : PySem.W.Frag) (Cs : Nat → Addr) (HE : Addr) : Prop where
  n0 : ∀ n, n < 15 → n ≠ 0 → PySem.W.exmOne K (.ref (Cs n)) (.ref (Cs 0)) = some false
  n5 : ∀ n, n < 15 → PySem.W.exmOne K (.ref (Cs n)) (.ref (Cs 5)) = some (decide (n = 5))
  nH : ∀ n, n < 15 → PySem.W.exmOne K (.ref (Cs n)) (.ref HE) = some true
  rb : ∀ n, n < 15 → PySem.W.subIn K (.ref (Cs n)) (.type "BaseException") = some true
  rt : ∀ n, n < 15 → PySem.W.typeIn K (.ref (Cs n)) = some (.type "type")
theorem held_same {H : Hp} {a p : Addr} {F L : HO} (hna : H a = none) (hp : upd H a F p = none) : Same H (del (upd (upd H a F) p L) a) ∧ del (upd (upd H a F) p L) a p = some L := by
  have n : p ≠ a := fun z => by rw [z, upd_same] at hp; cases hp
  refine ⟨fun b o h => ?_, by rw [del_ne n, upd_same]⟩
  have nb : b ≠ a := ne_of_none h hna
  have np : b ≠ p := fun z => by rw [← z, upd_ne nb, h] at hp; cases hp
  rw [del_ne nb, upd_ne np, upd_ne nb]
  exact h
section
variable {P : Program} {w : World} {K : PySem.W.Frag} {mg : Str → Option Value} {base : Heap} {Cs : Nat → Addr} {HE : Addr}
theorem scM : FnScope ["number", "one", "two", "found", "e"] ["number", "one", "two"] (defScope sMet) := ⟨rfl, rfl, rfl, by decide +kernel, rfl, by decide +kernel, by decide +kernel⟩
theorem ok_met {f fK : Addr} {fd dK : FuncData} (F : Fun K "_law_met" "_law_met" sMet f fd) (T : Er P w K mg base Cs HE) (M : ErM K Cs HE) (B : Nb mg) (KP : GvZ (RoomA 1) P w K mg base "_law_kept" fK dK ["number", "error"] (spKept Cs)) :
    FnOk P w K mg base CX0 2 f fd ["number", "one", "two"] spMet := by
  refine F.ok scM (fun vs H Q E h => ?_) (fun cdv A outer s H vs Q E hr h => ?_)
  · obtain ⟨n, x, y, rfl, _⟩ := h
    rfl
  obtain ⟨n, x, y, rfl, hn, q⟩ := h
  refine ⟨_, pss_cons (ps_set (i := 3) scM.nd rfl (.inl rfl) (pe_lst pa_nil))
    (pss_cons (ps_try_mix rfl rfl scM.nd
      (fun W pn xe tk pw => pss_cons (ps_if (pt_cmpR op_eq (pv 0) pe_int (nomark _)) (pss_one (ps_raise rfl tk (pmk_mkr T.t2 (raises_own (M.rb 14 (by decide)) (M.rt 14 (by decide))) hr rfl (T.m 14 (by decide)) (T.k 14 (by decide)) (pa_cons (pv 1) (pa_cons (pv 2) pa_nil))))) pss_nil)
        (pss_cons (ps_if (pt_cmpR op_eq (pv 0) pe_int (nomark _)) (pss_one (ps_raise rfl tk (pmk_mkr (T.g1 5 (by decide)) (raises_own (M.rb 5 (by decide)) (M.rt 5 (by decide))) hr rfl (T.m 5 (by decide)) (T.k 5 (by decide)) (pa_cons (pv 1) pa_nil)))) pss_nil)
        (pss_one (ps_raise rfl tk (pmk_mkrK (T.i1k 12 (by decide) (by decide)) (raises_own (M.rb 12 (by decide)) (M.rt 12 (by decide))) hr rfl (T.m 12 (by decide)) (T.k 12 (by decide)) (pk_cons (pv 2) pk_nil))))))
      (.cons (c := .ref (Cs 0)) ⟨rfl, by decide, .inl (T.m 0 (by decide))⟩ (fun a oe cls d pn hz hv nB => pss_one (ps_expr (pe_appH (pv 3) (pa_cons pe_str pa_nil))))
      (.named (i := 4) (c := .ref (Cs 5)) ⟨rfl, by decide, .inl (T.m 5 (by decide))⟩ rfl rfl (fun a oe cls d pn hz hv nB => pss_one (ps_set (i := 3) scM.nd rfl (.inl rfl) (pe_op op_cat (pv 3) (pe_lst (pa_cons pe_int (pa_cons (pe_xf (T.xf 5 (by decide)) (T.ng 5 (by decide)) hz hv (pv 4)) pa_nil))))))
      (.named (i := 4) (c := .ref HE) ⟨rfl, by decide, .inl T.mh⟩ rfl rfl (fun a oe cls d pn hz hv nB =>
        pss_cons (ps_set (i := 3) scM.nd rfl (.inl rfl) (pe_op op_cat (pv 3) (pe_lst (pa_cons (pe_callB (call_isHeld hz hv) rfl B.isi (by decide +kernel) (pa_cons (pv 4) (pa_cons (pe_glob (v := .ref (Cs 14)) rfl (T.m 14 (by decide)) rfl) pa_nil)))
          (pa_cons (pe_callB (call_isHeld hz hv) rfl B.isi (by decide +kernel) (pa_cons (pv 4) (pa_cons (pe_glob (v := .ref (Cs 12)) rfl (T.m 12 (by decide)) rfl) pa_nil))) pa_nil)))))
        (pss_one (ps_set (i := 3) scM.nd rfl (.inl rfl) (pe_op op_cat (pv 3) (pe_ifExp (pt_cmpR op_eq (pv 0) pe_int (nomark _))
          (pe_callHeldN hz hv nB KP.ok (.mark (hr : Room 1 (A.deeper _)) _) rfl KP.m KP.k KP.b (pa_cons pe_int (pa_cons (pv 4) pa_nil))) (pe_callHeldN hz hv nB KP.ok (.mark (hr : Room 1 (A.deeper _)) _) rfl KP.m KP.k KP.b (pa_cons pe_int (pa_cons (pv 4) pa_nil))))))))
      .nil))))
    (pss_one (ps_ret (pv 3)))), ?_⟩
  have z5 : ∀ {k : Nat}, k ≤ 20 → k ≤ sizeLine := fun h => Nat.le_trans h (by decide)
  refine ⟨z5 (by decide), fun p0 h0 => ?_⟩
  have s0 := same_new h0 (.lst [])
  have f0 : upd H p0 (.lst []) p0 = some (.lst []) := upd_same
  generalize upd H p0 (.lst []) = H0 at s0 f0 ⊢
  refine ⟨_, rfl, rfl, _, rfl, ?_⟩
  refine ite2 (fun g0 => ?_) (fun g0 => ?_)
  · obtain rfl : n = 0 := by have := num_eq g0; omega
    refine ⟨_, rfl, _, rfl, rfl, rfl, fun d hd => ?_⟩
    have s1 := same_new hd (.xd (f2 ([x, y] ++ [])))
    have f1' : upd H0 d (.xd (f2 ([x, y] ++ []))) d = some (.xd (f2 ([x, y] ++ []))) := upd_same
    have f0' := s1 _ _ f0
    refine ⟨false, M.n0 14 (by decide) (by decide), (fun z => nomatch z), fun _ => ⟨false, M.n5 14 (by decide), (fun z => nomatch z), fun _ => ⟨true, M.nH 14 (by decide), fun _ a ha => ?_, fun z => nomatch z⟩⟩⟩
    have S1 := s0.trans s1
    generalize upd H0 d (.xd (f2 ([x, y] ++ []))) = H1 at s1 f1' f0' S1 ha ⊢
    refine ⟨_, rfl, _, rfl, Cs 14, d, _, _, _, _, rfl, rfl, T.ec 14 (by decide), rfl, f1', (fun _ z => z), T.kit 14 14 (by decide) (by decide), _, rfl, Cs 14, d, _, _, _, _, rfl, rfl, T.ec 14 (by decide), rfl, f1', (fun _ z => z), T.kit 14 12 (by decide) (by decide), z5 (by show 2 ≤ 20; decide), fun p1 h1 => ?_⟩
    have e1 : decide (14 = 14) = true := rfl
    have e2 : decide (12 = 14) = false := rfl
    rw [e1, e2] at *
    have s2 := same_new h1 (.lst [.bl true, .bl false])
    refine ⟨p0, p1, _, _, rfl, rfl, s2 _ _ f0', upd_same, z5 (by show 2 ≤ 20; decide), fun p2 h2 => ?_⟩
    have s3 := same_new h2 (.lst [.bl true, .bl false])
    have S3 := S1.trans (s2.trans s3)
    have f3 : upd (upd H1 p1 (.lst [.bl true, .bl false])) p2 (.lst [.bl true, .bl false]) p2 = some (.lst [.bl true, .bl false]) := upd_same
    have f3' := s3 _ _ (s2 _ _ f1')
    refine ⟨_, rfl, _, rfl, rfl, _, rfl, ?_⟩
    refine ite2 (fun _ => ?_) (fun z => absurd rfl (num_ne z))
    refine ⟨_, rfl, fun hna => ⟨Cs 14, d, rfl, rfl, fun o => ⟨14, a, x, y, rfl, by decide, ⟨d, .inr (.inr ⟨o, upd_same⟩), .inr ?_⟩, fun p3 hp3 => ?_⟩⟩⟩
    · exact (upd_ne (ne_of_none f3' hna)).trans f3'
    obtain ⟨u1, u2⟩ := held_same (L := .lst (kept 14 x y)) hna hp3
    refine ⟨p2, p3, _, _, rfl, rfl, u1 _ _ f3, u2, z5 (by show 2 + 2 ≤ 20; decide), fun p4 hp4 => ?_⟩
    have S4 := S3.trans (u1.trans (same_new hp4 (.lst ([.bl true, .bl false] ++ kept 14 x y))))
    exact ⟨_, rfl, q p4 _ S4 ((S3.trans u1).free hp4) upd_same⟩
  refine ⟨_, rfl, rfl, _, rfl, ?_⟩
  refine ite2 (fun g1 => ?_) (fun g1 => ?_)
  · obtain rfl : n = 1 := by have := num_eq g1; omega
    refine ⟨_, rfl, rfl, rfl, fun d hd => ?_⟩
    have s1 := same_new hd (.xd (f1 "given" ([x] ++ [])))
    have f1' : upd H0 d (.xd (f1 "given" ([x] ++ []))) d = some (.xd (f1 "given" ([x] ++ []))) := upd_same
    have f0' := s1 _ _ f0
    refine ⟨false, M.n0 5 (by decide) (by decide), (fun z => nomatch z), fun _ => ⟨true, M.n5 5 (by decide), fun _ a ha => ?_, (fun z => nomatch z)⟩⟩
    have S1 := s0.trans s1
    generalize upd H0 d (.xd (f1 "given" ([x] ++ []))) = H1 at s1 f1' f0' S1 ha ⊢
    refine ⟨_, rfl, _, rfl, rfl, rfl, d, _, x, rfl, f1', rfl, z5 (by show 2 ≤ 20; decide), fun p1 h1 => ?_⟩
    have s2 := same_new h1 (.lst [.int 1, x])
    refine ⟨p0, p1, _, _, rfl, rfl, s2 _ _ f0', upd_same, z5 (by show 2 ≤ 20; decide), fun p2 h2 => ?_⟩
    have S3 := S1.trans (s2.trans (same_new h2 (.lst ([] ++ [.int 1, x]))))
    exact ⟨_, rfl, q p2 _ S3 ((S1.trans s2).free h2) upd_same⟩
  · obtain rfl : n = 2 := by have := num_ne g0; have := num_ne g1; omega
    refine ⟨_, rfl, rfl, rfl, fun d hd => ?_⟩
    have s1 := same_new hd (.xd (f1 "index" ([] ++ [y])))
    have f1' : upd H0 d (.xd (f1 "index" ([] ++ [y]))) d = some (.xd (f1 "index" ([] ++ [y]))) := upd_same
    have f0' := s1 _ _ f0
    refine ⟨false, M.n0 12 (by decide) (by decide), (fun z => nomatch z), fun _ => ⟨false, M.n5 12 (by decide), (fun z => nomatch z), fun _ => ⟨true, M.nH 12 (by decide), fun _ a ha => ?_, fun z => nomatch z⟩⟩⟩
    have S1 := s0.trans s1
    generalize upd H0 d (.xd (f1 "index" ([] ++ [y]))) = H1 at s1 f1' f0' S1 ha ⊢
    refine ⟨_, rfl, _, rfl, Cs 12, d, _, _, _, _, rfl, rfl, T.ec 12 (by decide), rfl, f1', (fun _ z => z), T.kit 12 14 (by decide) (by decide), _, rfl, Cs 12, d, _, _, _, _, rfl, rfl, T.ec 12 (by decide), rfl, f1', (fun _ z => z), T.kit 12 12 (by decide) (by decide), z5 (by show 2 ≤ 20; decide), fun p1 h1 => ?_⟩
    have e1 : decide (12 = 12) = true := rfl
    have e2 : decide (14 = 12) = false := rfl
    rw [e1, e2] at *
    have s2 := same_new h1 (.lst [.bl false, .bl true])
    refine ⟨p0, p1, _, _, rfl, rfl, s2 _ _ f0', upd_same, z5 (by show 2 ≤ 20; decide), fun p2 h2 => ?_⟩
    have s3 := same_new h2 (.lst [.bl false, .bl true])
    have S3 := S1.trans (s2.trans s3)
    have f3 : upd (upd H1 p1 (.lst [.bl false, .bl true])) p2 (.lst [.bl false, .bl true]) p2 = some (.lst [.bl false, .bl true]) := upd_same
    have f3' := s3 _ _ (s2 _ _ f1')
    refine ⟨_, rfl, _, rfl, rfl, _, rfl, ?_⟩
    refine ite2 (fun z => absurd (num_eq z) (by decide)) (fun _ => ?_)
    refine ⟨_, rfl, fun hna => ⟨Cs 12, d, rfl, rfl, fun o => ⟨12, a, y, y, rfl, by decide, ⟨d, .inr (.inr ⟨o, upd_same⟩), .inr ?_⟩, fun p3 hp3 => ?_⟩⟩⟩
    · exact (upd_ne (ne_of_none f3' hna)).trans f3'
    obtain ⟨u1, u2⟩ := held_same (L := .lst (kept 12 y y)) hna hp3
    refine ⟨p2, p3, _, _, rfl, rfl, u1 _ _ f3, u2, z5 (by show 2 + 1 ≤ 20; decide), fun p4 hp4 => ?_⟩
    have S4 := S3.trans (u1.trans (same_new hp4 (.lst ([.bl false, .bl true] ++ kept 12 y y))))
    exact ⟨_, rfl, q p4 _ S4 ((S3.trans u1).free hp4) upd_same⟩
end
end Toy

namespace L2
open PySem PySem.Spec PyProof.Rows
/-- one new object is laid where none stood -/
theorem Inv.lay1g {X : Cx} {pins : List (Addr × Obj)} {σ : St} {H : Hp} {s : Shared} {h' : Heap} {a : Addr} {oa : HO} {t' : Nat} (I : Inv X pins σ H s) (k : ∀ b u, s.heap.get? b = some u → h'.get? b = some u) (ha : s.heap.get? a = none)
    (na : ObjOk X.prog X.w (upd H a oa) h' a oa) : Inv X pins σ (upd H a oa) { s with heap := h', toks := t' } := by
  have Ha : H a = none := I.hok.gone ha
  have old : ∀ {b u}, s.heap.get? b = some u → b ≠ a := fun {b u} e z => by rw [z, ha] at e; cases e
  have up : ∀ {b o}, H b = some o → upd H a oa b = some o := fun {b o} e => by rw [upd_ne (ne_of_none e Ha)]; exact e
  refine I.un (h' := h') ⟨fun b o q _ _ _ => k b o q, fun b o q _ _ _ => ⟨o.slots, k b o q⟩, fun b o q n _ => by rw [upd_ne (old q)]; exact n, fun b o q _ => ⟨o, k b o q⟩,
    fun b xs q => up q, fun b o u q => up q, fun b ps q => ⟨#[], by rw [up q]; simp⟩⟩ fun b u e => ?_
  by_cases h1 : b = a
  · subst h1
    rw [upd_same] at e
    cases e
    exact na
  · rw [upd_ne h1] at e
    exact (I.hok b u e).stay (fun c v _ q => k c v q) (fun c q => up q) fun c xs q => up q
/-- X(), X an own exception class without own __init__ -/
theorem pe_exc0 {X : Cx} {C : Addr} {bmB : List Value} {B newId initId : String} {x : Str} {p pos : Pos} (F : ExcBaseFacts B newId initId bmB) (q : PySem.W.excIn X.K C bmB newId = true) (gC : X.mg x = some (.ref C)) (kC : PySem.W.keepIn X.K (.ref C) = true) (hg : Gl X x)
    (hdb : (x == ("__debug__" : Str)) = false := by decide) : PE X (.Call (.Name x p) [] [] pos) (fun _ H Q => ∀ a, H a = none → Q (.ref a) (upd H a (exo a C none))) := by
  refine ⟨fun pins s σ H Q I h => ?_⟩
  refine wpAny_Call_Name_kw (ld_glob I hg gC ?_ hdb)
  refine PySem.W.callWith_KW0 (h₀ := X.base) (kws := []) I.ok.mod.kin kC rfl ?_ rfl
  refine thn ((pk_nil (X := X)).run pos pins s σ H (fun vs H1 => vs = [] ∧ H = H1) I ⟨rfl, rfl⟩) fun us s1 hh => ?_
  obtain ⟨vs, H1, I1, r1, ev, eH⟩ := hh
  subst ev
  rw [← eH] at I1
  refine ⟨I1.kIn, ?_⟩
  show wpAny _ _ (call (.ref C) [] []) _ _ _
  obtain ⟨bm, N, nm, qn, bs, hdct, sn, sub, ab, col, dd, k0, k1, k2, k3, k5, mN, hC, hN, hni, T⟩ := exc_obj I1.kIn q
  obtain ⟨hp, g, dr, tk, os⟩ := s1
  refine wpAny_call_exc_subT F T hC hN hni (fun h' e hm => ?_) (by show 0 ≤ sizeLine; exact Nat.zero_le _)
  obtain ⟨t, ht, _⟩ := hm.there
  exact ⟨.ref e, _, I1.lay1g (t' := tk) hm.keeps hm.new (exo_ok ht), rfl, h e (I1.hok.gone hm.new)⟩
end L2
namespace Toy
open PySem L2
abbrev sRgt : Stmt := top 31
def spRgt : Sp := fun vs H Q _ => ∃ (wl : Addr), vs = [.ref wl] ∧ WellAt H wl ∧ ∀ H', But wl H H' → Q (.bl true) H'
def dMet (d1 d2 : PyData) : List PyData := [.list [.bool true, .bool false, d1, d2], .list [.int 1, d1], .list [.bool false, .bool true, d2]]
theorem fitB1 (b : Bool) : Fit (.bool b) 580 7 := by cases b <;> exact fitB_ok (by decide +kernel)
theorem fit1 : Fit (.int 1) 580 7 := fitB_ok (by decide +kernel)
theorem dMet_fit {d1 d2 : PyData} (a : Fit d1 580 7) (b : Fit d2 580 7) : (PyData.list (dMet d1 d2)).showable = true ∧ (PyData.list (dMet d1 d2)).shown.length ≤ sizeLine ∧ (PyData.list (dMet d1 d2)).depth ≤ 60 := by
  have in3 : ∀ d ∈ dMet d1 d2, Fit d 2340 8 := fun d hd => by
    rcases List.mem_cons.mp hd with rfl | hd
    · refine lst_fit (N := 580) (k := 7) (l := [.bool true, .bool false, d1, d2]) (Nat.le_refl 4) fun x hx => ?_
      rcases List.mem_cons.mp hx with rfl | hx
      · exact fitB1 _
      rcases List.mem_cons.mp hx with rfl | hx
      · exact fitB1 _
      rcases List.mem_cons.mp hx with rfl | hx
      · exact a
      · rw [List.mem_singleton.mp hx]; exact b
    rcases List.mem_cons.mp hd with rfl | hd
    · refine lst_fit (N := 580) (k := 7) (l := [.int 1, d1]) (Nat.le_succ_of_le (Nat.le_succ 2)) fun x hx => ?_
      rcases List.mem_cons.mp hx with rfl | hx
      · exact fit1
      · rw [List.mem_singleton.mp hx]; exact a
    · rw [List.mem_singleton.mp hd]
      refine lst_fit (N := 580) (k := 7) (l := [.bool false, .bool true, d2]) (Nat.le_succ 3) fun x hx => ?_
      rcases List.mem_cons.mp hx with rfl | hx
      · exact fitB1 _
      rcases List.mem_cons.mp hx with rfl | hx
      · exact fitB1 _
      · rw [List.mem_singleton.mp hx]; exact b
  have z := lst_fit (l := dMet d1 d2) (Nat.le_succ 3) in3
  exact ⟨z.ok, Nat.le_trans z.sz (by decide), Nat.le_trans z.dp (by decide)⟩
theorem met_dq {K : PySem.W.Frag} {H : Hp} {x y : V} {d1 d2 : PyData} {n : Nat} {d : PyData} {p : Addr} (a : Dq K H x d1) (b : Dq K H y d2) (hp : SqL K H p (metOf n x y)) (hn : (dMet d1 d2)[n]? = some d) : Dq K H (.ref p) d := by
  match n, hn, hp with
  | 0, hn, hp => cases hn; exact .lst hp (.cons (.bl _) (.cons (.bl _) (.cons a (.cons b .nil))))
  | 1, hn, hp => cases hn; exact .lst hp (.cons (.int _) (.cons a .nil))
  | 2, hn, hp => cases hn; exact .lst hp (.cons (.bl _) (.cons (.bl _) (.cons b .nil)))
  | n + 3, hn, hp => exact nomatch hn
theorem same_del {H : Hp} {D : Addr} : Same (del H D) H := fun b o h => by
  by_cases e : b = D
  · rw [e, del_same] at h; cases h
  · rw [del_ne e] at h; exact h
theorem same_dels {H H' : Hp} {D : Addr} (h : ∀ b o, b ≠ D → H b = some o → H' b = some o) : Same (del H D) (del H' D) := fun b o e => by
  by_cases z : b = D
  · rw [z, del_same] at e; cases e
  · rw [del_ne z] at e ⊢
    exact h b o z e
theorem same_intoDel {H H' : Hp} {D : Addr} (hD : H D = none) (e : Same H H') : Same H (del H' D) := fun b o h => by
  rw [del_ne (ne_of_none h hD)]
  exact e b o h
section
variable {P : Program} {w : World} {K : PySem.W.Frag} {mg : Str → Option Value} {base : Heap} {Cs : Nat → Addr} {HE : Addr}
theorem scR : FnScope ["well", "begin", "turn", "one", "two", "due", "base", "number"] ["well"] (defScope sRgt) := ⟨rfl, rfl, rfl, by decide +kernel, rfl, by decide +kernel, by decide +kernel⟩
theorem ok_right {f fD fP fA fM fS fC : Addr} {fd dD dP dA dM dS dC : FuncData} (F : Fun K "_law_right" "_law_right" sRgt f fd) (T : Er P w K mg base Cs HE) (N : Nm mg) (B : Nb mg) (XE : PySem.W.excIn K HE [.type "ValueError", .type "Exception", .type "BaseException", .type "object"] "ValueError.__new__" = true) (kH : PySem.W.keepIn K (.ref HE) = true)
    (D : Gv P w K mg base 1 "_law_draw" fD dD ["well", "many"] spDraw) (P2 : Gv P w K mg base 6 "_law_piece" fP dP ["well", "deep"] (spPiece K 2))
    (AR : GvZ (RoomG 7) P w K mg base "_law_are_right" fA dA ["well", "first"] spAre) (MT : Gv P w K mg base 2 "_law_met" fM dM ["number", "one", "two"] spMet)
    (SM : GvZ (RoomG 1) P w K mg base "_law_same" fS dS ["told", "due"] (spSame K)) (C : Gv P w K mg base 1 "_law_of_classes" fC dC ["error"] (spCls K Cs)) : FnZ (RoomG 8) P w K mg base f fd ["well"] spRgt := by
  refine F.okZ true scR (fun A z => z.depth) (fun _ A z => z.room.hd) (fun vs H Q E h => ?_) (fun cdv A outer s H vs Q hz0 h => ?_)
  · obtain ⟨wl, rfl, _⟩ := h
    rfl
  obtain ⟨wl, rfl, hw, q⟩ := h
  have hz : ∀ env, RoomG 7 (A.deeper env) := fun env => hz0.deeper env
  refine ⟨_, pss_cons (ps_set (i := 1) scR.nd rfl (.inl rfl) (pe_call D.ok ((hz _).room.mono (by omega)) rfl D.m D.k D.b .nil pass0 (pa_cons (pv 0) (pa_cons pe_int pa_nil))))
    (pss_cons (ps_for PassesOwn.never rfl (pi_range1 (by rfl) B.range (pa_cons pe_int pa_nil)) (pg_name (i := 2) scR.nd rfl (.inl rfl))
      (pss_one (ps_if (pt_not (pt_val (pe_callZ AR.ok (hz _) rfl AR.m AR.k AR.b (pa_cons (pv 0) (pa_cons (pe_op op_mod (pe_intc N.int (pe_op op_add (pv 1) (pe_op op_mul pe_int (pv 2)))) pe_int) pa_nil))))) (pss_one (ps_ret pe_bl)) pss_nil)))
    (pss_cons (ps_asg (pe_tup (pa_cons (pe_call P2.ok ((hz _).room.mono (by omega)) rfl P2.m P2.k P2.b .nil pass0 (pa_cons (pv 0) (pa_cons pe_int pa_nil))) (pa_cons (pe_call P2.ok ((hz _).room.mono (by omega)) rfl P2.m P2.k P2.b .nil pass0 (pa_cons (pv 0) (pa_cons pe_int pa_nil))) pa_nil)))
      (pg_tup rfl (pgs_cons (pg_name (i := 3) scR.nd rfl (.inr rfl)) (pgs_cons (pg_name (i := 4) scR.nd rfl (.inr rfl)) pgs_nil))))
    (pss_cons (ps_set (i := 5) scR.nd rfl (.inl rfl) (pe_lst (pa_cons (pe_lst (pa_cons pe_bl (pa_cons pe_bl (pa_cons (pv 3) (pa_cons (pv 4) pa_nil))))) (pa_cons (pe_lst (pa_cons pe_int (pa_cons (pv 3) pa_nil))) (pa_cons (pe_lst (pa_cons pe_bl (pa_cons pe_bl (pa_cons (pv 4) pa_nil)))) pa_nil)))))
    (pss_cons (ps_if (pt_not (pt_val (pe_callZ SM.ok ((hz _).mono (by omega)) rfl SM.m SM.k SM.b (pa_cons
        (pe_lc (own := [("number", 7)]) (g := gName 7) (tt := tYes) rfl scR.nd (pi_range1 (by rfl) B.range (pa_cons pe_int pa_nil)) (blkOk_by (own := [("number", 7)]) (N := ["well", "begin", "turn", "one", "two", "due", "base", "number"]) (sc := defScope sRgt) (by decide +kernel))
          (fun _ _ _ _ _ => pg_name (i := 7) scR.nd rfl (.inl rfl)) (fun _ _ _ _ _ => pts_nil) (fun _ _ _ _ _ => pe_call MT.ok ((hz _).room.mono (by omega)) rfl MT.m MT.k MT.b .nil pass0 (pa_cons (pv 7) (pa_cons (pv 3) (pa_cons (pv 4) pa_nil)))))
        (pa_cons (pv 5) pa_nil))))) (pss_one (ps_ret pe_bl)) pss_nil)
    (pss_cons (ps_set (i := 6) scR.nd rfl (.inl rfl) (pe_exc0 PySem.F.excBase_ValueError XE T.mh kH rfl))
    (pss_one (ps_ret (pe_and (pe_isT (n := "ValueError") (i := 6) B.isi B.ve (by decide +kernel) rfl rfl) (pe_one (pe_cmpR op_notIn_seq pe_bl (pe_call C.ok ((hz _).room.mono (by omega)) rfl C.m C.k C.b .nil pass0 (pa_cons (pv 6) pa_nil)) (by rfl))))))))))), ?_⟩
  have z5 : ∀ {k : Nat}, k ≤ 20 → k ≤ sizeLine := fun h => Nat.le_trans h (by decide)
  refine ⟨_, rfl, wl, 15, rfl, by decide, by decide, hw, fun b H1 b0 b1 w1 e1 => ?_⟩
  refine ⟨8, rfl, by decide, by decide, ?_⟩
  refine for_range (lo := 0) (n := 8) (fun i σ H' => WellAt H' wl ∧ But wl H H' ∧ ∃ c, σ = [some (.ref wl), some (.int b), c, none, none, none, none, none]) ⟨w1, e1, none, rfl⟩ ?_ ?_
  · rintro i σ H' hi ⟨w2, e2, c, rfl⟩
    refine ⟨_, rfl, _, rfl, _, rfl, _, _, rfl, rfl, .inl ⟨by decide, by decide⟩, _, _, rfl, rfl, .inl ⟨_, rfl, _, _, rfl, rfl, (by show (0 : Int) < 15; decide), ?_⟩⟩
    have m1 : 0 ≤ (b + 2 * (0 + (i : Int))) % 15 := Int.emod_nonneg _ (by omega)
    have m2 : (b + 2 * (0 + (i : Int))) % 15 < 15 := Int.emod_lt_of_pos _ (by omega)
    obtain ⟨n, hn⟩ : ∃ n : Nat, (b + 2 * (0 + (i : Int))) % 15 = (n : Int) := ⟨((b + 2 * (0 + (i : Int))) % 15).toNat, by omega⟩
    refine ⟨wl, n, by show [V.ref wl, V.int ((b + 2 * (0 + (i : Int))) % 15)] = _; rw [hn], by omega, w2, fun H3 w3 e3 => ⟨true, rfl, iteF ⟨w3, e2.trans e3, _, rfl⟩⟩⟩
  · rintro σ H2 ⟨w2, e2, c, rfl⟩
    refine ⟨_, rfl, wl, rfl, w2, fun v1 H3 p1 w3 e3 => ⟨_, rfl, wl, rfl, w3, fun v2 H4 p2 w4 e4 => ⟨z5 (by show 2 ≤ 20; decide), fun tt htt => ?_⟩⟩⟩
    have st := same_new htt (.tup [v1, v2])
    have d1 : Sh K (upd H4 tt (.tup [v1, v2])) v1 := (p1.sh (by decide) (by decide) w2 e4).mono st
    have d2 : Sh K (upd H4 tt (.tup [v1, v2])) v2 := (p2.sh (by decide) (by decide) w3 (But.refl _)).mono st
    have e5 : But wl H (upd H4 tt (.tup [v1, v2])) := e2.trans (e3.trans (e4.trans (But.of st)))
    refine ⟨tt, _, rfl, SqT.of upd_same, rfl, _, _, rfl, _, _, rfl, rfl, ?_⟩
    generalize upd H4 tt (.tup [v1, v2]) = H5 at d1 d2 e5 ⊢
    clear p1 p2 e3 e4 st w3 w4 htt
    obtain ⟨x1, a1, g1⟩ := d1
    obtain ⟨x2, a2, g2⟩ := d2
    refine ⟨_, rfl, _, rfl, z5 (by show 4 ≤ 20; decide), fun r1 h1 => ⟨_, rfl, z5 (by show 2 ≤ 20; decide), fun r2 h2 => ⟨_, rfl, z5 (by show 3 ≤ 20; decide), fun r3 h3 => ⟨z5 (by show 3 ≤ 20; decide), fun rd hrd => ?_⟩⟩⟩⟩
    have s1 := same_new h1 (.lst [.bl true, .bl false, v1, v2])
    have s2 := same_new h2 (.lst [.int 1, v1])
    have s3 := same_new h3 (.lst [.bl false, .bl true, v2])
    have s4 := same_new hrd (.lst [.ref r1, .ref r2, .ref r3])
    have S4 := s1.trans (s2.trans (s3.trans s4))
    have due : Dq K (upd (upd (upd (upd H5 r1 (.lst [.bl true, .bl false, v1, v2])) r2 (.lst [.int 1, v1])) r3 (.lst [.bl false, .bl true, v2])) rd (.lst [.ref r1, .ref r2, .ref r3])) (.ref rd) (.list (dMet x1 x2)) :=
      .lst (SqL.of upd_same) (.cons (met_dq (n := 0) (Dq.mono S4 _ _ a1) (Dq.mono S4 _ _ a2) (SqL.of (s4 _ _ (s3 _ _ (s2 _ _ upd_same)))) rfl) (.cons (met_dq (n := 1) (Dq.mono S4 _ _ a1) (Dq.mono S4 _ _ a2) (SqL.of (s4 _ _ (s3 _ _ upd_same))) rfl)
        (.cons (met_dq (n := 2) (Dq.mono S4 _ _ a1) (Dq.mono S4 _ _ a2) (SqL.of (s4 _ _ upd_same)) rfl) .nil)))
    generalize upd (upd (upd (upd H5 r1 (.lst [.bl true, .bl false, v1, v2])) r2 (.lst [.int 1, v1])) r3 (.lst [.bl false, .bl true, v2])) rd (.lst [.ref r1, .ref r2, .ref r3]) = H6 at S4 due ⊢
    clear s1 s2 s3 s4 h1 h2 h3 hrd
    replace a1 := Dq.mono S4 _ _ a1
    replace a2 := Dq.mono S4 _ _ a2
    obtain ⟨f1', f2', f3'⟩ := dMet_fit g1 g2
    refine ⟨3, rfl, by decide, by decide, fun D nD => ?_⟩
    refine lc_range (lo := 0) (n := 3) (fun i H' => Same H6 H' ∧ ∃ vs, H' D = some (.lst vs) ∧ vs.length = i ∧ DqAll K (del H' D) vs ((dMet x1 x2).take i)) ⟨same_new nD _, [], upd_same, rfl, .nil⟩ ?_ ?_
    · rintro i H7 hi ⟨s7, vs, hD, hl, A7⟩
      refine ⟨rfl, ?_⟩
      simp only [tYes, ↓reduceIte]
      refine ⟨_, rfl, _, rfl, _, rfl, i, v1, v2, by show [V.int (0 + (i : Int)), v1, v2] = _; rw [Int.zero_add], hi, fun p H8 s8 hp h8 => ?_⟩
      have hD8 := s8 _ _ hD
      refine ⟨vs, hD8, by rw [hl]; exact Nat.lt_of_lt_of_le hi (by decide), ?_, vs ++ [.ref p], upd_same, by rw [List.length_append, hl]; rfl, ?_⟩
      · exact fun b o e => by rw [upd_ne (ne_of_none e nD)]; exact s8 _ _ (s7 _ _ e)
      · have hid : i < (dMet x1 x2).length := hi
        rw [List.take_add_one, List.getElem?_eq_getElem hid]
        have sd : Same (del H7 D) (del (upd H8 D (.lst (vs ++ [.ref p]))) D) := same_dels fun b o n e => by rw [upd_ne n]; exact s8 _ _ e
        have sd6 : Same H6 (del (upd H8 D (.lst (vs ++ [.ref p]))) D) := (same_intoDel nD s7).trans sd
        have np : p ≠ D := fun z => by rw [z, hD] at hp; cases hp
        refine (DqAll.mono sd _ _ A7).append (.cons (met_dq (n := i) (Dq.mono sd6 _ _ a1) (Dq.mono sd6 _ _ a2) (SqL.of ?_) (List.getElem?_eq_getElem hid)) .nil)
        rw [del_ne np, upd_ne np]
        exact h8
    · rintro H7 ⟨s7, vs, hD, hl, A7⟩
      have A8 : DqAll K H7 vs (dMet x1 x2) := DqAll.mono same_del _ _ A7
      refine ⟨_, rfl, D, rd, dMet x1 x2, rfl, .lst (SqL.of hD) A8, Dq.mono s7 _ _ due, f1', f2', f3', true, rfl, iteF ?_⟩
      refine fun a ha => ?_
      have sa := same_new ha (exo a HE none)
      have ei : ErI (upd H7 a (exo a HE none)) a HE := .inr upd_same
      have eF : But wl H (upd H7 a (exo a HE none)) := e5.trans (But.of (S4.trans (s7.trans sa)))
      generalize upd H7 a (exo a HE none) = H8 at ei eF ⊢
      refine ⟨a, HE, _, rfl, T.eh, ei, T.hval, _, rfl, iteT ?_⟩
      refine ⟨_, rfl, a, HE, fun _ => false, rfl, T.eh, ei, T.hkit, fun p H9 s9 hp h9 => ?_⟩
      refine ⟨p, _, rfl, .inl (SqL.of h9), rfl, rfl, ?_⟩
      exact q H9 (eF.trans (But.of s9))
end
end Toy

namespace L2
open PySem PySem.Spec PyProof.Rows
def tCallZ (sp : Sp) (t : TA) : TE := fun σ H Q => t σ H fun vs H1 => sp vs H1 Q E0
theorem pe_callZD {X : Cx} {Z : Around → Prop} {f : Addr} {fd : FuncData} {ps : List Str} {sp : Sp} {x : Str} {p pos : Pos} {e : Expr} {es : List Expr} {t : TA} (F : FnZ Z X.prog X.w X.K X.mg X.base f fd ps sp) (hz : Z X.A) (hg : Gl X x) (hm : X.mg x = some (.ref f)) (hk : PySem.W.keepIn X.K (.ref f) = true) (hb : Binds X.K fd ps [])
    (ha : PA X (e :: es) t) (hdb : (x == ("__debug__" : Str)) = false := by decide) (he : starEach (e :: es) X.env = (false, eval e X.env) :: starEach es X.env := by rfl) (hpl : (backTo pos (starEach es X.env)).any (·.1) = false := by rfl) :
    PE X (.Call (.Name x p) (e :: es) [] pos) (tCallZ sp t) := pe_callZ F hz hg hm hk hb ha hdb he hpl
end L2
namespace Toy
open PySem L2
abbrev sLaw : Stmt := top 32
def spLaw (K : PySem.W.Frag) : Sp := fun vs H Q _ => ∃ (a : Addr) (ns : List Int), vs = [.ref a] ∧ SqL K H a (ns.map V.int) ∧ ns.length ≤ 63 ∧ ∀ H', Q (.bl true) H'
structure Nl (mg : Str → Option Value) : Prop where
  all : mg "all" = none
  max : mg "max" = none
  min : mg "min" = none
  zip : mg "zip" = none
  tuple : mg "tuple" = none
theorem all_true : ∀ n : Nat, (List.replicate n true).all id = true
  | 0 => rfl
  | n + 1 => by rw [List.replicate_succ, List.all_cons, all_true n] <;> rfl
section
variable {P : Program} {w : World} {K : PySem.W.Frag} {mg : Str → Option Value} {base : Heap}
theorem scL : FnScope ["script", "turn"] ["script"] (defScope sLaw) := ⟨rfl, rfl, rfl, by decide +kernel, rfl, by decide +kernel, by decide +kernel⟩
theorem ok_law {f fW fR : Addr} {fd dW dR : FuncData} (F : Fun K "law" "law" sLaw f fd) (N : Nm mg) (B : Nb mg) (L : Nl mg) (WL : Gv P w K mg base 1 "_law_well" fW dW ["script", "turn"] (spWell K)) (RG : GvZ (RoomG 8) P w K mg base "_law_right" fR dR ["well"] spRgt) :
    FnZ (RoomG 9) P w K mg base f fd ["script"] (spLaw K) := by
  refine F.okZ true scL (fun A z => z.depth) (fun _ A z => z.room.hd) (fun vs H Q E h => ?_) (fun cdv A outer s H vs Q hz0 h => ?_)
  · obtain ⟨a, ns, rfl, _⟩ := h
    rfl
  obtain ⟨a, ns, rfl, hS, h63, q⟩ := h
  have hz : ∀ env, RoomG 8 (A.deeper env) := fun env => hz0.deeper env
  refine ⟨_, pss_one (ps_ret (pe_callB (cr_all rfl) rfl L.all (by decide +kernel) (pa_cons
    (pe_lc (own := [("turn", 1)]) (g := gName 1) (tt := tYes) rfl scL.nd (pi_range1 (by rfl) B.range (pa_cons (pe_callB (call_max2 rfl) rfl L.max (by decide +kernel) (pa_cons pe_int (pa_cons (pe_callB (call_min2 rfl) rfl L.min (by decide +kernel) (pa_cons (pe_callB call_len_seq rfl N.len PySem.boot_len (pa_cons (pv 0) pa_nil)) (pa_cons pe_int pa_nil))) pa_nil))) pa_nil))
      (blkOk_by (own := [("turn", 1)]) (N := ["script", "turn"]) (sc := defScope sLaw) (by decide +kernel))
      (fun _ _ _ _ _ => pg_name (i := 1) scL.nd rfl (.inl rfl)) (fun _ _ _ _ _ => pts_nil)
      (fun _ _ _ _ _ => pe_callZD RG.ok (hz _) rfl RG.m RG.k RG.b (pa_cons (pe_call WL.ok ((hz _).room.mono (by omega)) rfl WL.m WL.k WL.b .nil pass0 (pa_cons (pv 0) (pa_cons (pv 1) pa_nil))) pa_nil))) pa_nil))), ?_⟩
  refine ⟨_, rfl, a, _, rfl, .inl hS, _, _, rfl, _, _, rfl, ?_⟩
  have hm : ∃ m : Nat, m ≤ 3 ∧ (if (if (3 : Int) < ((ns.map V.int).length : Nat) then (3 : Int) else ((ns.map V.int).length : Nat)) > 2 then (if (3 : Int) < ((ns.map V.int).length : Nat) then (3 : Int) else ((ns.map V.int).length : Nat)) else 2) = (m : Int) := by
    generalize ((ns.map V.int).length : Nat) = l
    refine ⟨(if (if (3 : Int) < (l : Nat) then (3 : Int) else (l : Nat)) > 2 then (if (3 : Int) < (l : Nat) then (3 : Int) else (l : Nat)) else 2).toNat, ?_, ?_⟩
    · split <;> (try split) <;> omega
    · split <;> (try split) <;> omega
  obtain ⟨m, h3, em⟩ := hm
  refine ⟨m, by rw [em], by omega, by omega, fun D nD => ?_⟩
  rw [Int.toNat_natCast]
  refine lc_range (lo := 0) (n := m) (fun i H2 => Same H H2 ∧ H2 D = some (.lst ((List.replicate i true).map V.bl))) ⟨same_new nD _, upd_same⟩ ?_ ?_
  · rintro i H2 hi ⟨s2, hD⟩
    refine ⟨rfl, ?_⟩
    simp only [tYes, ↓reduceIte]
    refine ⟨_, rfl, _, rfl, a, ns, 0 + (i : Int), rfl, s2.seq hS, h63, by omega, by omega, fun p H3 s3 hp hw => ⟨p, rfl, hw, fun H4 e4 => ?_⟩⟩
    have hD4 : H4 D = some (.lst ((List.replicate i true).map V.bl)) := e4 D _ (fun z => by rw [← z, hD] at hp; cases hp) (s3 _ _ hD)
    have s4 : Same H H4 := fun b o e => e4 b o (fun z => by rw [← z, s2 _ _ e] at hp; cases hp) (s3 _ _ (s2 _ _ e))
    refine ⟨_, hD4, by rw [List.length_map, List.length_replicate]; exact Nat.lt_of_lt_of_le hi (Nat.le_trans h3 (by decide)), fun b o e => by rw [upd_ne (ne_of_none e nD)]; exact s4 b o e, ?_⟩
    rw [upd_same, List.replicate_succ', List.map_append]
    rfl
  · rintro H2 ⟨s2, hD⟩
    refine ⟨D, _, rfl, SqL.of hD, ?_⟩
    rw [all_true]
    exact q H2
end
end Toy

namespace Toy
open PySem PySem.W PySem.ErrX L2
/-! ### what the top has left -/
structure One (main : Module) (K : PySem.W.Frag) (x : Str) (C : Addr) (f : Str) : Prop where
  a : nsIn K mainGlobals x = some (some (.ref C))
  t : ∃ fI pa pb txt p, ErrTxt main K C fI (ps1 f pa pb) (bd1 f txt p) ∧ SupEq txt (p 0) (p 1) (p 2) (p 3) (p 4)
  n : findIn K (.ref C) f = some none
structure Two (main : Module) (K : PySem.W.Frag) (x : Str) (C : Addr) (f g : Str) : Prop where
  a : nsIn K mainGlobals x = some (some (.ref C))
  t : ∃ fI pa pb pc txt p, ErrTxt main K C fI (ps2 f g pa pb pc) (bd2 f g txt p) ∧ SupEq txt (p 0) (p 1) (p 2) (p 3) (p 4)
  n : findIn K (.ref C) f = some none
  n2 : findIn K (.ref C) g = some none
section
variable {main : Module} {K : PySem.W.Frag} {x f g txt : Str} {C fI N : Addr} {pa pb pc : Pos} {p : Nat → Pos} {nm q : Str} {bs bm : List Value} {sn : List Str} {sub : List Value} {ab : Bool} {col : Option Bool} {dd : Option Addr} {k0 k1 k2 k3 k5 : Option Value}
  {oc cl ccl : Value} {od cld cdd : Option Addr} {doc pm : Value} {an : Option Addr} {ct : Value} {osl csl ccs : Array (Option Value)} {cc cda : Addr} {qual : Str} {vs : Array Value} {file : Str} {tf : Tok}
theorem one_mk (a : nsIn K mainGlobals x = some (some (.ref C))) (xL : K.lookup C = some (excClassObj nm q C N bs bm true sn sub ab col dd k0 k1 k2 k3 k5 "ValueError.__new__")) (hb : PySem.HandSPX.refsVE bm = true)
    (sa : findIn K (.ref C) "__setattr__" = some (some (.builtin "object.__setattr__"))) (iC : findIn K (.ref C) "__init__" = some (some (.ref fI))) (tC : typeIn K (.ref fI) = some (.type "function")) (kC : keepIn K (.ref C) = true)
    (sb : mroIn K C (.ref C) = some true) (sV : subIn K (.ref C) (.type "ValueError") = some true) (su : ks_superIn K C C "__init__" = some (some (.builtin "ValueError.__init__"))) (tp : nsIn K cStatics "thirdparty.any" = some none) (sp : nsIn K mainGlobals "super" = some none)
    (l1 : K.lookup fI = some ⟨oc, od, .func (ksFn "__init__" qual (eA (ps1 f pa pb)) (bd1 f txt p) (eScope (pN (ps1 f pa pb))) .none .none doc pm an (.ref cda) ct cc), osl⟩) (c1 : codeIn K (.ref cda) qual = true)
    (l2 : K.lookup cc = some ⟨cl, cld, .cell (some (.ref C)), csl⟩) (l3 : K.lookup cda = some ⟨ccl, cdd, .fields vs, ccs⟩) (n : findIn K (.ref C) f = some none) (v2 : vs[2]? = some (.str file tf)) (mf : ((main.file : Str) == file) = true)
    (top : (main.scope.names.lookup ("super" : Str)).isSome = false) (se : SupEq txt (p 0) (p 1) (p 2) (p 3) (p 4)) : One main K x C f :=
  ⟨a, ⟨fI, pa, pb, txt, p, ⟨⟨nm, q, N, bs, bm, sn, sub, ab, col, dd, k0, k1, k2, k3, k5, xL, hb⟩, sa, iC, tC, kC, sb, sV, su, tp, sp, top, ⟨oc, cl, ccl, od, cld, cdd, doc, pm, an, ct, osl, csl, ccs, cc, cda, qual, vs, file, tf, l1, c1, l2, l3, v2, mf⟩⟩, se⟩, n⟩
theorem two_mk (a : nsIn K mainGlobals x = some (some (.ref C))) (xL : K.lookup C = some (excClassObj nm q C N bs bm true sn sub ab col dd k0 k1 k2 k3 k5 "ValueError.__new__")) (hb : PySem.HandSPX.refsVE bm = true)
    (sa : findIn K (.ref C) "__setattr__" = some (some (.builtin "object.__setattr__"))) (iC : findIn K (.ref C) "__init__" = some (some (.ref fI))) (tC : typeIn K (.ref fI) = some (.type "function")) (kC : keepIn K (.ref C) = true)
    (sb : mroIn K C (.ref C) = some true) (sV : subIn K (.ref C) (.type "ValueError") = some true) (su : ks_superIn K C C "__init__" = some (some (.builtin "ValueError.__init__"))) (tp : nsIn K cStatics "thirdparty.any" = some none) (sp : nsIn K mainGlobals "super" = some none)
    (l1 : K.lookup fI = some ⟨oc, od, .func (ksFn "__init__" qual (eA (ps2 f g pa pb pc)) (bd2 f g txt p) (eScope (pN (ps2 f g pa pb pc))) .none .none doc pm an (.ref cda) ct cc), osl⟩) (c1 : codeIn K (.ref cda) qual = true)
    (l2 : K.lookup cc = some ⟨cl, cld, .cell (some (.ref C)), csl⟩) (l3 : K.lookup cda = some ⟨ccl, cdd, .fields vs, ccs⟩) (n : findIn K (.ref C) f = some none) (n2 : findIn K (.ref C) g = some none) (v2 : vs[2]? = some (.str file tf)) (mf : ((main.file : Str) == file) = true)
    (top : (main.scope.names.lookup ("super" : Str)).isSome = false) (se : SupEq txt (p 0) (p 1) (p 2) (p 3) (p 4)) : Two main K x C f g :=
  ⟨a, ⟨fI, pa, pb, pc, txt, p, ⟨⟨nm, q, N, bs, bm, sn, sub, ab, col, dd, k0, k1, k2, k3, k5, xL, hb⟩, sa, iC, tC, kC, sb, sV, su, tp, sp, top, ⟨oc, cl, ccl, od, cld, cdd, doc, pm, an, ct, osl, csl, ccs, cc, cda, qual, vs, file, tf, l1, c1, l2, l3, v2, mf⟩⟩, se⟩, n, n2⟩
end
structure DefK (K : PySem.W.Frag) (x : Str) (st : Stmt) (f : Addr) (fd : FuncData) : Prop where
  a : nsIn K mainGlobals x = some (some (.ref f))
  F : Fun K x x st f fd
theorem def_mk {K : PySem.W.Frag} {x : Str} {st : Stmt} {f : Addr} {od an : Option Addr} {sl : Array (Option Value)} {oc kV dc pm cd ct : Value} (a : nsIn K mainGlobals x = some (some (.ref f)))
    (l : K.lookup f = some ⟨oc, od, .func (fnOf x x (defArgs st) (defBody st) (defScope st) .none kV dc pm an cd ct), sl⟩) (c : codeIn K cd x = true) (k : keepIn K (.ref f) = true) : DefK K x st f (fnOf x x (defArgs st) (defBody st) (defScope st) .none kV dc pm an cd ct) := ⟨a, fun_mk l c k⟩
/-! ### tables -/
def excB (K : PySem.W.Frag) (D : Addr) : Bool := decide (findIn K (.ref D) "__getattribute__" = some (some (.builtin "BaseException.__getattribute__"))) && (decide (findIn K (.ref D) "__getattr__" = some none) && (decide (subIn K (.ref D) (.type "BaseException") = some true) &&
  (hasDictIn K D && (decide (findIn K (.ref D) "__class__" = some (some (.builtin "object.__class__"))) && (decide (specialIn K (.builtin "object.__class__") "__get__" = some (some (.builtin "getset_descriptor.__get__"))) &&
  (decide (takesIn K (.builtin "object.__class__") = some true) && decide (mroIn K D (.type "object") = some true)))))))
theorem excB_ok {K : PySem.W.Frag} {D : Addr} (h : excB K D = true) : ExcC K D := by
  unfold excB at h
  simp only [Bool.and_eq_true, decide_eq_true_eq] at h
  obtain ⟨h1, h2, h3, h4, h5, h6, h7, h8⟩ := h
  exact ⟨h1, h2, h3, h4, h5, h6, h7, h8⟩
def names0 : List Str := ["int", "len", "abs", "divmod", "repr", "isinstance", "range", "ValueError", "Exception", "ArithmeticError", "LookupError", "TypeError", "RuntimeError", "AttributeError", "all", "max", "min", "zip", "tuple"]
def noneB (K : PySem.W.Frag) : Bool := names0.all fun x => decide (nsIn K mainGlobals x = some none)
def oneB (K : PySem.W.Frag) (HE c : Addr) : Bool := xfB K c && (excB K c && (decide (typeIn K (.ref c) = some (.type "type")) && (decide (kitOne K (.ref c) (.ref HE) = some true) && (decide (exmOne K (.ref c) (.ref HE) = some true) && (keepIn K (.ref c) &&
  (decide (kitOne K (.ref c) (.type "ValueError") = some true) && (decide (kitOne K (.ref c) (.type "Exception") = some true) && (decide (kitOne K (.ref c) (.type "ArithmeticError") = some false) &&
  (decide (kitOne K (.ref c) (.type "LookupError") = some false) && (decide (kitOne K (.ref c) (.type "TypeError") = some false) && (decide (kitOne K (.ref c) (.type "RuntimeError") = some false) && decide (kitOne K (.ref c) (.type "AttributeError") = some false))))))))))))
def kitB (K : PySem.W.Frag) (cs : List Addr) : Bool := (List.range 15).all fun n => (List.range 15).all fun i => decide (kitOne K (.ref (cs.getD n 0)) (.ref (cs.getD i 0)) = some (decide (i = n)))
def exmB (K : PySem.W.Frag) (cs : List Addr) : Bool := (List.range 15).all fun n => (n == 0 || decide (exmOne K (.ref (cs.getD n 0)) (.ref (cs.getD 0 0)) = some false)) && decide (exmOne K (.ref (cs.getD n 0)) (.ref (cs.getD 5 0)) = some (decide (n = 5)))
def heB (K : PySem.W.Frag) (cs : List Addr) (HE : Addr) : Bool := excB K HE && (decide (kitOne K (.ref HE) (.type "ValueError") = some true) && (keepIn K (.ref HE) && (List.range 15).all fun i => decide (kitOne K (.ref HE) (.ref (cs.getD i 0)) = some false)))
theorem range_all {p : Nat → Bool} {n : Nat} (h : (List.range n).all p = true) {i : Nat} (hi : i < n) : p i = true := List.all_eq_true.mp h i (List.mem_range.mpr hi)
theorem lt15 {p : Nat → Prop} (h0 : p 0) (h1 : p 1) (h2 : p 2) (h3 : p 3) (h4 : p 4) (h5 : p 5) (h6 : p 6) (h7 : p 7) (h8 : p 8) (h9 : p 9) (h10 : p 10) (h11 : p 11) (h12 : p 12) (h13 : p 13) (h14 : p 14) : ∀ i, i < 15 → p i
  | 0, _ => h0 | 1, _ => h1 | 2, _ => h2 | 3, _ => h3 | 4, _ => h4 | 5, _ => h5 | 6, _ => h6 | 7, _ => h7 | 8, _ => h8 | 9, _ => h9 | 10, _ => h10 | 11, _ => h11 | 12, _ => h12 | 13, _ => h13 | 14, _ => h14
  | n + 15, h => absurd h (by omega)
section
variable {P : Program} {w : World} {K : PySem.W.Frag} {mg : Str → Option Value} {base h : Heap}
theorem One.mk1 {x : Str} {C : Addr} {f : Str} (O : One P.main K x C f) (FO : FldOk f) : Mkr P w K mg base C 1 [] (f1 f) := by
  obtain ⟨fI, pa, pb, txt, p, T, se⟩ := O.t
  exact mkr1 T FO O.n se
theorem One.mk1k {x : Str} {C : Addr} {f : Str} (O : One P.main K x C f) (FO : FldOk f) : Mkr P w K mg base C 0 [f] (f1 f) := by
  obtain ⟨fI, pa, pb, txt, p, T, se⟩ := O.t
  exact mkr1k T FO O.n se
theorem er_mk {c0 c1 c2 c3 c4 c5 c6 c7 c8 c9 c10 c11 c12 c13 c14 HE : Addr} (X : K.In h) (G : h.Ns mainGlobals mg)
    (E0 : One P.main K "InvalidKind" c0 "given") (E1 : One P.main K "InvalidName" c1 "given") (E2 : One P.main K "InvalidHole" c2 "given") (E3 : One P.main K "InvalidValue" c3 "given") (E4 : One P.main K "InvalidNumber" c4 "given")
    (E5 : One P.main K "NoSpot" c5 "given") (E6 : One P.main K "NoShape" c6 "given") (E7 : One P.main K "TooMany" c7 "given") (E8 : One P.main K "InvalidLine" c8 "given") (E9 : One P.main K "InvalidRule" c9 "given") (E10 : One P.main K "NotApart" c10 "given")
    (E11 : One P.main K "InvalidBook" c11 "index") (E12 : One P.main K "InvalidDeeds" c12 "index") (E13 : One P.main K "InvalidAlgebra" c13 "index") (E14 : Two P.main K "InvalidText" c14 "line" "column") (aH : nsIn K mainGlobals "HoleError" = some (some (.ref HE)))
    (b1 : ([c0, c1, c2, c3, c4, c5, c6, c7, c8, c9, c10, c11, c12, c13, c14].all fun c => oneB K HE c) = true) (b2 : kitB K [c0, c1, c2, c3, c4, c5, c6, c7, c8, c9, c10, c11, c12, c13, c14] = true) (b3 : exmB K [c0, c1, c2, c3, c4, c5, c6, c7, c8, c9, c10, c11, c12, c13, c14] = true) (b4 : heB K [c0, c1, c2, c3, c4, c5, c6, c7, c8, c9, c10, c11, c12, c13, c14] HE = true) :
    Er P w K mg base (fun i => [c0, c1, c2, c3, c4, c5, c6, c7, c8, c9, c10, c11, c12, c13, c14].getD i 0) HE ∧ ErM K (fun i => [c0, c1, c2, c3, c4, c5, c6, c7, c8, c9, c10, c11, c12, c13, c14].getD i 0) HE := by
  have one : ∀ i, i < 15 → oneB K HE ([c0, c1, c2, c3, c4, c5, c6, c7, c8, c9, c10, c11, c12, c13, c14].getD i 0) = true := by
    have b := List.all_eq_true.mp b1
    refine lt15 ?_ ?_ ?_ ?_ ?_ ?_ ?_ ?_ ?_ ?_ ?_ ?_ ?_ ?_ ?_ <;> exact b _ (by simp)
  have kit : ∀ n i, n < 15 → i < 15 → kitOne K (.ref ([c0, c1, c2, c3, c4, c5, c6, c7, c8, c9, c10, c11, c12, c13, c14].getD n 0)) (.ref ([c0, c1, c2, c3, c4, c5, c6, c7, c8, c9, c10, c11, c12, c13, c14].getD i 0)) = some (decide (i = n)) := fun n i hn hi => of_decide_eq_true (range_all (range_all b2 hn) hi)
  have exm := fun n (hn : n < 15) => range_all b3 hn
  have he := b4
  unfold heB at he
  simp only [Bool.and_eq_true, decide_eq_true_eq] at he
  obtain ⟨he1, he2, he3, he4⟩ := he
  have onx : ∀ i, i < 15 → _ := fun i hi => by
    have z := one i hi
    unfold oneB at z
    simp only [Bool.and_eq_true, decide_eq_true_eq] at z
    exact z
  have g : ∀ i, i < 11 → ∃ x, One P.main K x ([c0, c1, c2, c3, c4, c5, c6, c7, c8, c9, c10, c11, c12, c13, c14].getD i 0) "given"
    | 0, _ => ⟨_, E0⟩ | 1, _ => ⟨_, E1⟩ | 2, _ => ⟨_, E2⟩ | 3, _ => ⟨_, E3⟩ | 4, _ => ⟨_, E4⟩ | 5, _ => ⟨_, E5⟩ | 6, _ => ⟨_, E6⟩ | 7, _ => ⟨_, E7⟩ | 8, _ => ⟨_, E8⟩ | 9, _ => ⟨_, E9⟩ | 10, _ => ⟨_, E10⟩
    | n + 11, h => absurd h (by omega)
  have g' : ∀ i, 11 ≤ i → i < 14 → ∃ x, One P.main K x ([c0, c1, c2, c3, c4, c5, c6, c7, c8, c9, c10, c11, c12, c13, c14].getD i 0) "index"
    | 11, _, _ => ⟨_, E11⟩ | 12, _, _ => ⟨_, E12⟩ | 13, _, _ => ⟨_, E13⟩
    | n + 14, _, h => absurd h (by omega)
  have mm : ∀ i, i < 15 → mg (nmE i) = some (.ref ([c0, c1, c2, c3, c4, c5, c6, c7, c8, c9, c10, c11, c12, c13, c14].getD i 0)) :=
    lt15 (mg_of X G E0.a) (mg_of X G E1.a) (mg_of X G E2.a) (mg_of X G E3.a) (mg_of X G E4.a) (mg_of X G E5.a) (mg_of X G E6.a) (mg_of X G E7.a) (mg_of X G E8.a) (mg_of X G E9.a) (mg_of X G E10.a) (mg_of X G E11.a) (mg_of X G E12.a) (mg_of X G E13.a) (mg_of X G E14.a)
  obtain ⟨fI, pa, pb, pc, txt, p, T14, se⟩ := E14.t
  refine ⟨{ m := mm, k := fun i hi => (onx i hi).2.2.2.2.2.1, g1 := fun i hi => (g i hi).elim fun _ O => O.mk1 fo_given, g1k := fun i hi => (g i hi).elim fun _ O => O.mk1k fo_given, i1 := fun i h1 h2 => (g' i h1 h2).elim fun _ O => O.mk1 fo_index, i1k := fun i h1 h2 => (g' i h1 h2).elim fun _ O => O.mk1k fo_index, t2 := mkr2 T14 fo_text E14.n E14.n2 se, t2k := mkr2k T14 fo_text E14.n E14.n2 se, xf := fun i hi => xfB_ok (onx i hi).1, ng := fun i hi => (g i hi).elim fun _ O => O.n, ni := fun i h1 h2 => (g' i h1 h2).elim fun _ O => O.n, nl := E14.n, nc := E14.n2, ec := fun i hi => excB_ok (onx i hi).2.1, eh := excB_ok he1, mh := mg_of X G aH, kit := kit, kitH := fun i hi => (onx i hi).2.2.2.1, kitT := fun i hi => (onx i hi).2.2.2.2.2.2, hkit := fun i hi => of_decide_eq_true (range_all he4 hi), hval := he2 }, ?_⟩
  refine { n0 := fun n hn h0 => ?_, n5 := fun n hn => ?_, nH := fun n hn => (onx n hn).2.2.2.2.1, rb := fun n hn => (excB_ok (onx n hn).2.1).hs, rt := fun n hn => (onx n hn).2.2.1 }
  · have z := exm n hn
    simp only [Bool.and_eq_true, Bool.or_eq_true, beq_iff_eq, decide_eq_true_eq] at z
    rcases z.1 with z | z
    · exact absurd z h0
    · exact z
  · have z := exm n hn
    simp only [Bool.and_eq_true, Bool.or_eq_true, beq_iff_eq, decide_eq_true_eq] at z
    exact z.2
end
section
variable {P : Program} {w : World} {K : PySem.W.Frag} {h : Heap} {mg : Str → Option Value} {fa : Addr}
theorem all_mk {c0 c1 c2 c3 c4 c5 c6 c7 c8 c9 c10 c11 c12 c13 c14 HE fL : Addr} {aWell aDraw aPick aSame aOdd aPiece aPlace aName aKept aCls aIsOf aAre aMet aRgt : Addr} {dWell dDraw dPick dSame dOdd dPiece dPlace dName dKept dCls dIsOf dAre dMet dRgt : FuncData} {od an : Option Addr} {sl : Array (Option Value)} {oc kV dc pm cd ct : Value} (X : K.In h) (G : h.Ns mainGlobals mg) (hfa : mg "law" = some (.ref fa))
    (E0 : One P.main K "InvalidKind" c0 "given")
    (E1 : One P.main K "InvalidName" c1 "given")
    (E2 : One P.main K "InvalidHole" c2 "given")
    (E3 : One P.main K "InvalidValue" c3 "given")
    (E4 : One P.main K "InvalidNumber" c4 "given")
    (E5 : One P.main K "NoSpot" c5 "given")
    (E6 : One P.main K "NoShape" c6 "given")
    (E7 : One P.main K "TooMany" c7 "given")
    (E8 : One P.main K "InvalidLine" c8 "given")
    (E9 : One P.main K "InvalidRule" c9 "given")
    (E10 : One P.main K "NotApart" c10 "given")
    (E11 : One P.main K "InvalidBook" c11 "index")
    (E12 : One P.main K "InvalidDeeds" c12 "index")
    (E13 : One P.main K "InvalidAlgebra" c13 "index")
    (E14 : Two P.main K "InvalidText" c14 "line" "column")
    (aH : nsIn K mainGlobals "HoleError" = some (some (.ref HE)))
    (DWell : DefK K "_law_well" sWell aWell dWell)
    (DDraw : DefK K "_law_draw" sDraw aDraw dDraw)
    (DPick : DefK K "_law_pick" sPick aPick dPick)
    (DSame : DefK K "_law_same" sSame aSame dSame)
    (DOdd : DefK K "_law_odd" sOdd aOdd dOdd)
    (DPiece : DefK K "_law_piece" sPiece aPiece dPiece)
    (DPlace : DefK K "_law_by_place" sPlace aPlace dPlace)
    (DName : DefK K "_law_by_name" sName aName dName)
    (DKept : DefK K "_law_kept" sKept aKept dKept)
    (DCls : DefK K "_law_of_classes" sCls aCls dCls)
    (DIsOf : DefK K "_law_is_of" sIsOf aIsOf dIsOf)
    (DAre : DefK K "_law_are_right" sAre aAre dAre)
    (DMet : DefK K "_law_met" sMet aMet dMet)
    (DRgt : DefK K "_law_right" sRgt aRgt dRgt)
    (aL : nsIn K mainGlobals "law" = some (some (.ref fL))) (lL : K.lookup fL = some ⟨oc, od, .func (fnOf "law" "law" (defArgs sLaw) (defBody sLaw) (defScope sLaw) .none kV dc pm an cd ct), sl⟩) (cL : codeIn K cd "law" = true) (kL : keepIn K (.ref fL) = true)
    (xH : excIn K HE [.type "ValueError", .type "Exception", .type "BaseException", .type "object"] "ValueError.__new__" = true) (b0 : noneB K = true)
    (b1 : ([c0, c1, c2, c3, c4, c5, c6, c7, c8, c9, c10, c11, c12, c13, c14].all fun c => oneB K HE c) = true) (b2 : kitB K [c0, c1, c2, c3, c4, c5, c6, c7, c8, c9, c10, c11, c12, c13, c14] = true) (b3 : exmB K [c0, c1, c2, c3, c4, c5, c6, c7, c8, c9, c10, c11, c12, c13, c14] = true) (b4 : heB K [c0, c1, c2, c3, c4, c5, c6, c7, c8, c9, c10, c11, c12, c13, c14] HE = true) :
    ∃ fd : FuncData, (∀ (s : Shared) (u : Value), BindsTo s fd ⟨[u], []⟩ [("script", u)]) ∧ ∀ base : Heap, K.In base → base.Ns mainGlobals mg → FnZ (RoomG 9) P w K mg base fa fd ["script"] (spLaw K) := by
  have e := hfa.symm.trans (mg_of X G aL)
  cases e
  have no : ∀ x, x ∈ names0 → mg x = none := fun x hx => mg_none_of X G (of_decide_eq_true (List.all_eq_true.mp b0 x hx))
  have N : Nm mg := ⟨no _ (by simp [names0]), no _ (by simp [names0]), no _ (by simp [names0]), no _ (by simp [names0]), no _ (by simp [names0])⟩
  have B : Nb mg := ⟨no _ (by simp [names0]), no _ (by simp [names0]), no _ (by simp [names0]), no _ (by simp [names0]), no _ (by simp [names0]), no _ (by simp [names0]), no _ (by simp [names0]), no _ (by simp [names0]), no _ (by simp [names0])⟩
  have L : Nl mg := ⟨no _ (by simp [names0]), no _ (by simp [names0]), no _ (by simp [names0]), no _ (by simp [names0]), no _ (by simp [names0])⟩
  have bWell : Binds K dWell ["script", "turn"] [] := DWell.F.binds (ps := ["script", "turn"]) fun _ _ _ _ _ _ us hl => match us, hl with | [_, _], _ => rfl
  have bDraw : Binds K dDraw ["well", "many"] [] := DDraw.F.binds (ps := ["well", "many"]) fun _ _ _ _ _ _ us hl => match us, hl with | [_, _], _ => rfl
  have bPick : Binds K dPick ["well", "some"] [] := DPick.F.binds (ps := ["well", "some"]) fun _ _ _ _ _ _ us hl => match us, hl with | [_, _], _ => rfl
  have bSame : Binds K dSame ["told", "due"] [] := DSame.F.binds (ps := ["told", "due"]) fun _ _ _ _ _ _ us hl => match us, hl with | [_, _], _ => rfl
  have bOdd : Binds K dOdd ["well"] [] := DOdd.F.binds (ps := ["well"]) fun _ _ _ _ _ _ us hl => match us, hl with | [_], _ => rfl
  have bPiece : Binds K dPiece ["well", "deep"] [] := DPiece.F.binds (ps := ["well", "deep"]) fun _ _ _ _ _ _ us hl => match us, hl with | [_, _], _ => rfl
  have bPlace : Binds K dPlace ["number", "one", "two"] [] := DPlace.F.binds (ps := ["number", "one", "two"]) fun _ _ _ _ _ _ us hl => match us, hl with | [_, _, _], _ => rfl
  have bName : Binds K dName ["number", "one", "two"] [] := DName.F.binds (ps := ["number", "one", "two"]) fun _ _ _ _ _ _ us hl => match us, hl with | [_, _, _], _ => rfl
  have bKept : Binds K dKept ["number", "error"] [] := DKept.F.binds (ps := ["number", "error"]) fun _ _ _ _ _ _ us hl => match us, hl with | [_, _], _ => rfl
  have bCls : Binds K dCls ["error"] [] := DCls.F.binds (ps := ["error"]) fun _ _ _ _ _ _ us hl => match us, hl with | [_], _ => rfl
  have bIsOf : Binds K dIsOf ["number", "error"] [] := DIsOf.F.binds (ps := ["number", "error"]) fun _ _ _ _ _ _ us hl => match us, hl with | [_, _], _ => rfl
  have bAre : Binds K dAre ["well", "first"] [] := DAre.F.binds (ps := ["well", "first"]) fun _ _ _ _ _ _ us hl => match us, hl with | [_, _], _ => rfl
  have bMet : Binds K dMet ["number", "one", "two"] [] := DMet.F.binds (ps := ["number", "one", "two"]) fun _ _ _ _ _ _ us hl => match us, hl with | [_, _, _], _ => rfl
  have bRgt : Binds K dRgt ["well"] [] := DRgt.F.binds (ps := ["well"]) fun _ _ _ _ _ _ us hl => match us, hl with | [_], _ => rfl
  have FL := fun_mk (st := sLaw) lL cL kL
  refine ⟨fnOf "law" "law" (defArgs sLaw) (defBody sLaw) (defScope sLaw) .none kV dc pm an cd ct, fun s u => .of_eq rfl, fun base hb1 hb2 => ?_⟩
  obtain ⟨T, M⟩ := er_mk (P := P) (w := w) (base := base) X G E0 E1 E2 E3 E4 E5 E6 E7 E8 E9 E10 E11 E12 E13 E14 aH b1 b2 b3 b4
  have gDraw : Gv P w K mg base 1 "_law_draw" aDraw dDraw ["well", "many"] (spDraw) := ⟨ok_draw DDraw.F N, bDraw, DDraw.F.kp, mg_of X G DDraw.a⟩
  have gPick : Gv P w K mg base 2 "_law_pick" aPick dPick ["well", "some"] (spPick K) := ⟨ok_pick DPick.F N gDraw.ok gDraw.b gDraw.k gDraw.m, bPick, DPick.F.kp, mg_of X G DPick.a⟩
  have gWell : Gv P w K mg base 1 "_law_well" aWell dWell ["script", "turn"] (spWell K) := ⟨ok_well DWell.F N, bWell, DWell.F.kp, mg_of X G DWell.a⟩
  have gSame : GvZ (RoomG 1) P w K mg base "_law_same" aSame dSame ["told", "due"] (spSame K) := ⟨ok_same DSame.F N, bSame, DSame.F.kp, mg_of X G DSame.a⟩
  have gOdd : Gv P w K mg base 3 "_law_odd" aOdd dOdd ["well"] (spOdd K) := ⟨ok_odd DOdd.F gPick.ok gPick.b gPick.k gPick.m, bOdd, DOdd.F.kp, mg_of X G DOdd.a⟩
  have gP := pieces DPiece.F bPiece (mg_of X G DPiece.a) gDraw gOdd B.range L.tuple
  have gPlace : Gv P w K mg base 2 "_law_by_place" aPlace dPlace ["number", "one", "two"] (spMk (fun i => [c0, c1, c2, c3, c4, c5, c6, c7, c8, c9, c10, c11, c12, c13, c14].getD i 0)) := ⟨ok_place DPlace.F T, bPlace, DPlace.F.kp, mg_of X G DPlace.a⟩
  have gName : Gv P w K mg base 2 "_law_by_name" aName dName ["number", "one", "two"] (spMk (fun i => [c0, c1, c2, c3, c4, c5, c6, c7, c8, c9, c10, c11, c12, c13, c14].getD i 0)) := ⟨ok_name DName.F T, bName, DName.F.kp, mg_of X G DName.a⟩
  have gKept : GvZ (RoomA 1) P w K mg base "_law_kept" aKept dKept ["number", "error"] (spKept (fun i => [c0, c1, c2, c3, c4, c5, c6, c7, c8, c9, c10, c11, c12, c13, c14].getD i 0)) := ⟨ok_kept DKept.F T, bKept, DKept.F.kp, mg_of X G DKept.a⟩
  have gCls : Gv P w K mg base 1 "_law_of_classes" aCls dCls ["error"] (spCls K (fun i => [c0, c1, c2, c3, c4, c5, c6, c7, c8, c9, c10, c11, c12, c13, c14].getD i 0)) := ⟨ok_cls DCls.F T B.isi, bCls, DCls.F.kp, mg_of X G DCls.a⟩
  have gIsOf : Gv P w K mg base 2 "_law_is_of" aIsOf dIsOf ["number", "error"] (spIsOf (fun i => [c0, c1, c2, c3, c4, c5, c6, c7, c8, c9, c10, c11, c12, c13, c14].getD i 0)) := ⟨ok_isof DIsOf.F T B gCls, bIsOf, DIsOf.F.kp, mg_of X G DIsOf.a⟩
  have gAre : GvZ (RoomG 7) P w K mg base "_law_are_right" aAre dAre ["well", "first"] (spAre) := ⟨ok_are DAre.F gDraw (gP 2) (gP 1) gPlace gName gIsOf gSame gKept L.zip, bAre, DAre.F.kp, mg_of X G DAre.a⟩
  have gMet : Gv P w K mg base 2 "_law_met" aMet dMet ["number", "one", "two"] (spMet) := ⟨ok_met DMet.F T M B gKept, bMet, DMet.F.kp, mg_of X G DMet.a⟩
  have kH : keepIn K (.ref HE) = true := by
    have he := b4
    unfold heB at he
    simp only [Bool.and_eq_true, decide_eq_true_eq] at he
    exact he.2.2.1
  have gRgt : GvZ (RoomG 8) P w K mg base "_law_right" aRgt dRgt ["well"] (spRgt) := ⟨ok_right DRgt.F T N B xH kH gDraw (gP 2) gAre gMet gSame gCls, bRgt, DRgt.F.kp, mg_of X G DRgt.a⟩
  exact ok_law FL N B L gWell gRgt
end
end Toy
namespace Toy
open PySem PySem.W PySem.ErrX L2
theorem walk {l : OpenLaw} {q : Program} {loose : List Str} {XP : (Str → Option Value) → Heap → Prop} {YP : World → Heap → Prop} {d : DefRec} {K : Params → Frag} (hn : l.most = some 63) (hdf : d.params.defaults = [])
    (hY : ∀ (w : World) (h : Heap), YP w h → (K w.params).In h)
    (F : ∀ (w : World) (mg : Str → Option Value) (fa : Addr) (h : Heap), (K w.params).In h → h.Ns mainGlobals mg → mg d.name = some (.ref fa) →
      ∃ fd : FuncData, (∀ (s : Shared) (u : Value), BindsTo s fd ⟨[u], []⟩ [("script", u)]) ∧ ∀ base : Heap, (K w.params).In base → base.Ns mainGlobals mg → FnZ (RoomG 9) l.prog w (K w.params) mg base fa fd ["script"] (spLaw (K w.params))) :
    WalkO q loose XP YP l.row.toRowW d [] (fun f vs => PySem.call f vs) :=
  L2.walk_ofZ (Z := RoomG 9) (n := 63) (x := "script") (sp := fun w => spLaw (K w.params)) hn (by decide) hdf ⟨⟨rfl, by decide, by decide⟩, rfl⟩ hY F (fun w H a ns hl hO hS => ⟨a, ns, rfl, hS, hl, fun _ => rfl⟩)
end Toy

open PySem PySem.W PyProof.Rows
set_option maxRecDepth 100000 in
set_option maxHeartbeats 0 in
theorem PySem.Challenge.cw_holekinds_k01_errors_each_of_its_own_holds : PySem.Challenge.rw_holekinds_k01_errors_each_of_its_own.Holds := by
  w_on; o_law; k_head; (case hw => w_witness2)
  k_fill
  refine Toy.walk (l := PySem.Challenge.rw_holekinds_k01_errors_each_of_its_own) rfl rfl (fun w h Y => PySem.W.kIn_of Y) ?F
  case F =>
    intro w mg fa h KX G hmg
    refine' Toy.all_mk KX G hmg ?E0 ?E1 ?E2 ?E3 ?E4 ?E5 ?E6 ?E7 ?E8 ?E9 ?E10 ?E11 ?E12 ?E13 ?E14 ?aH ?DWell ?DDraw ?DPick ?DSame ?DOdd ?DPiece ?DPlace ?DName ?DKept ?DCls ?DIsOf ?DAre ?DMet ?DRgt ?aL ?lL ?cL ?kL ?xH ?b0 ?b1 ?b2 ?b3 ?b4
    case E0 =>
      refine' Toy.one_mk (pa := ⟨6, 17, 6, 21⟩) (pb := ⟨6, 23, 6, 28⟩) (txt := "no KIND, or one with a name that the BOOK has not") (p := fun i => [⟨7, 8, 7, 13⟩, ⟨7, 8, 7, 15⟩, ⟨7, 8, 7, 24⟩, ⟨7, 25, 7, 76⟩, ⟨7, 8, 7, 77⟩, ⟨7, 8, 7, 77⟩, ⟨8, 8, 8, 12⟩, ⟨8, 8, 8, 18⟩, ⟨8, 21, 8, 26⟩, ⟨8, 8, 8, 26⟩].getD i ⟨0, 0, 0, 0⟩) ?a ?xL ?hb ?sa ?iC ?tC ?kC ?sb ?sV ?su ?tp ?sp ?l1 ?c1 ?l2 ?l3 ?n ?v2 ?mf ?top ?se
      (case a => k_is); (case xL => k_is); (case hb => decide +kernel); (case sa => k_is); (case iC => k_is); (case tC => k_is); (case kC => k_is); (case sb => k_is); (case sV => k_is); (case su => ks_is); (case tp => k_is); (case sp => k_is); (case l1 => k_is); (case c1 => k_is); (case l2 => k_is); (case l3 => k_is); (case n => k_is); (case v2 => rfl); (case mf => decide +kernel); (case top => decide +kernel); (case se => (exact fun _ => rfl))
    case E1 =>
      refine' Toy.one_mk (pa := ⟨11, 17, 11, 21⟩) (pb := ⟨11, 23, 11, 28⟩) (txt := "no name") (p := fun i => [⟨12, 8, 12, 13⟩, ⟨12, 8, 12, 15⟩, ⟨12, 8, 12, 24⟩, ⟨12, 25, 12, 34⟩, ⟨12, 8, 12, 35⟩, ⟨12, 8, 12, 35⟩, ⟨13, 8, 13, 12⟩, ⟨13, 8, 13, 18⟩, ⟨13, 21, 13, 26⟩, ⟨13, 8, 13, 26⟩].getD i ⟨0, 0, 0, 0⟩) ?a ?xL ?hb ?sa ?iC ?tC ?kC ?sb ?sV ?su ?tp ?sp ?l1 ?c1 ?l2 ?l3 ?n ?v2 ?mf ?top ?se
      (case a => k_is); (case xL => k_is); (case hb => decide +kernel); (case sa => k_is); (case iC => k_is); (case tC => k_is); (case kC => k_is); (case sb => k_is); (case sV => k_is); (case su => ks_is); (case tp => k_is); (case sp => k_is); (case l1 => k_is); (case c1 => k_is); (case l2 => k_is); (case l3 => k_is); (case n => k_is); (case v2 => rfl); (case mf => decide +kernel); (case top => decide +kernel); (case se => (exact fun _ => rfl))
    case E2 =>
      refine' Toy.one_mk (pa := ⟨16, 17, 16, 21⟩) (pb := ⟨16, 23, 16, 28⟩) (txt := "no HOLE of the BOOK") (p := fun i => [⟨17, 8, 17, 13⟩, ⟨17, 8, 17, 15⟩, ⟨17, 8, 17, 24⟩, ⟨17, 25, 17, 46⟩, ⟨17, 8, 17, 47⟩, ⟨17, 8, 17, 47⟩, ⟨18, 8, 18, 12⟩, ⟨18, 8, 18, 18⟩, ⟨18, 21, 18, 26⟩, ⟨18, 8, 18, 26⟩].getD i ⟨0, 0, 0, 0⟩) ?a ?xL ?hb ?sa ?iC ?tC ?kC ?sb ?sV ?su ?tp ?sp ?l1 ?c1 ?l2 ?l3 ?n ?v2 ?mf ?top ?se
      (case a => k_is); (case xL => k_is); (case hb => decide +kernel); (case sa => k_is); (case iC => k_is); (case tC => k_is); (case kC => k_is); (case sb => k_is); (case sV => k_is); (case su => ks_is); (case tp => k_is); (case sp => k_is); (case l1 => k_is); (case c1 => k_is); (case l2 => k_is); (case l3 => k_is); (case n => k_is); (case v2 => rfl); (case mf => decide +kernel); (case top => decide +kernel); (case se => (exact fun _ => rfl))
    case E3 =>
      refine' Toy.one_mk (pa := ⟨21, 17, 21, 21⟩) (pb := ⟨21, 23, 21, 28⟩) (txt := "no value of the KIND") (p := fun i => [⟨22, 8, 22, 13⟩, ⟨22, 8, 22, 15⟩, ⟨22, 8, 22, 24⟩, ⟨22, 25, 22, 47⟩, ⟨22, 8, 22, 48⟩, ⟨22, 8, 22, 48⟩, ⟨23, 8, 23, 12⟩, ⟨23, 8, 23, 18⟩, ⟨23, 21, 23, 26⟩, ⟨23, 8, 23, 26⟩].getD i ⟨0, 0, 0, 0⟩) ?a ?xL ?hb ?sa ?iC ?tC ?kC ?sb ?sV ?su ?tp ?sp ?l1 ?c1 ?l2 ?l3 ?n ?v2 ?mf ?top ?se
      (case a => k_is); (case xL => k_is); (case hb => decide +kernel); (case sa => k_is); (case iC => k_is); (case tC => k_is); (case kC => k_is); (case sb => k_is); (case sV => k_is); (case su => ks_is); (case tp => k_is); (case sp => k_is); (case l1 => k_is); (case c1 => k_is); (case l2 => k_is); (case l3 => k_is); (case n => k_is); (case v2 => rfl); (case mf => decide +kernel); (case top => decide +kernel); (case se => (exact fun _ => rfl))
    case E4 =>
      refine' Toy.one_mk (pa := ⟨26, 17, 26, 21⟩) (pb := ⟨26, 23, 26, 28⟩) (txt := "no such whole number is taken here") (p := fun i => [⟨27, 8, 27, 13⟩, ⟨27, 8, 27, 15⟩, ⟨27, 8, 27, 24⟩, ⟨27, 25, 27, 61⟩, ⟨27, 8, 27, 62⟩, ⟨27, 8, 27, 62⟩, ⟨28, 8, 28, 12⟩, ⟨28, 8, 28, 18⟩, ⟨28, 21, 28, 26⟩, ⟨28, 8, 28, 26⟩].getD i ⟨0, 0, 0, 0⟩) ?a ?xL ?hb ?sa ?iC ?tC ?kC ?sb ?sV ?su ?tp ?sp ?l1 ?c1 ?l2 ?l3 ?n ?v2 ?mf ?top ?se
      (case a => k_is); (case xL => k_is); (case hb => decide +kernel); (case sa => k_is); (case iC => k_is); (case tC => k_is); (case kC => k_is); (case sb => k_is); (case sV => k_is); (case su => ks_is); (case tp => k_is); (case sp => k_is); (case l1 => k_is); (case c1 => k_is); (case l2 => k_is); (case l3 => k_is); (case n => k_is); (case v2 => rfl); (case mf => decide +kernel); (case top => decide +kernel); (case se => (exact fun _ => rfl))
    case E5 =>
      refine' Toy.one_mk (pa := ⟨31, 17, 31, 21⟩) (pb := ⟨31, 23, 31, 28⟩) (txt := "the path is no spot of the value") (p := fun i => [⟨32, 8, 32, 13⟩, ⟨32, 8, 32, 15⟩, ⟨32, 8, 32, 24⟩, ⟨32, 25, 32, 59⟩, ⟨32, 8, 32, 60⟩, ⟨32, 8, 32, 60⟩, ⟨33, 8, 33, 12⟩, ⟨33, 8, 33, 18⟩, ⟨33, 21, 33, 26⟩, ⟨33, 8, 33, 26⟩].getD i ⟨0, 0, 0, 0⟩) ?a ?xL ?hb ?sa ?iC ?tC ?kC ?sb ?sV ?su ?tp ?sp ?l1 ?c1 ?l2 ?l3 ?n ?v2 ?mf ?top ?se
      (case a => k_is); (case xL => k_is); (case hb => decide +kernel); (case sa => k_is); (case iC => k_is); (case tC => k_is); (case kC => k_is); (case sb => k_is); (case sV => k_is); (case su => ks_is); (case tp => k_is); (case sp => k_is); (case l1 => k_is); (case c1 => k_is); (case l2 => k_is); (case l3 => k_is); (case n => k_is); (case v2 => rfl); (case mf => decide +kernel); (case top => decide +kernel); (case se => (exact fun _ => rfl))
    case E6 =>
      refine' Toy.one_mk (pa := ⟨36, 17, 36, 21⟩) (pb := ⟨36, 23, 36, 28⟩) (txt := "there are not so many shapes") (p := fun i => [⟨37, 8, 37, 13⟩, ⟨37, 8, 37, 15⟩, ⟨37, 8, 37, 24⟩, ⟨37, 25, 37, 55⟩, ⟨37, 8, 37, 56⟩, ⟨37, 8, 37, 56⟩, ⟨38, 8, 38, 12⟩, ⟨38, 8, 38, 18⟩, ⟨38, 21, 38, 26⟩, ⟨38, 8, 38, 26⟩].getD i ⟨0, 0, 0, 0⟩) ?a ?xL ?hb ?sa ?iC ?tC ?kC ?sb ?sV ?su ?tp ?sp ?l1 ?c1 ?l2 ?l3 ?n ?v2 ?mf ?top ?se
      (case a => k_is); (case xL => k_is); (case hb => decide +kernel); (case sa => k_is); (case iC => k_is); (case tC => k_is); (case kC => k_is); (case sb => k_is); (case sV => k_is); (case su => ks_is); (case tp => k_is); (case sp => k_is); (case l1 => k_is); (case c1 => k_is); (case l2 => k_is); (case l3 => k_is); (case n => k_is); (case v2 => rfl); (case mf => decide +kernel); (case top => decide +kernel); (case se => (exact fun _ => rfl))
    case E7 =>
      refine' Toy.one_mk (pa := ⟨41, 17, 41, 21⟩) (pb := ⟨41, 23, 41, 28⟩) (txt := "there are too many shapes") (p := fun i => [⟨42, 8, 42, 13⟩, ⟨42, 8, 42, 15⟩, ⟨42, 8, 42, 24⟩, ⟨42, 25, 42, 52⟩, ⟨42, 8, 42, 53⟩, ⟨42, 8, 42, 53⟩, ⟨43, 8, 43, 12⟩, ⟨43, 8, 43, 18⟩, ⟨43, 21, 43, 26⟩, ⟨43, 8, 43, 26⟩].getD i ⟨0, 0, 0, 0⟩) ?a ?xL ?hb ?sa ?iC ?tC ?kC ?sb ?sV ?su ?tp ?sp ?l1 ?c1 ?l2 ?l3 ?n ?v2 ?mf ?top ?se
      (case a => k_is); (case xL => k_is); (case hb => decide +kernel); (case sa => k_is); (case iC => k_is); (case tC => k_is); (case kC => k_is); (case sb => k_is); (case sV => k_is); (case su => ks_is); (case tp => k_is); (case sp => k_is); (case l1 => k_is); (case c1 => k_is); (case l2 => k_is); (case l3 => k_is); (case n => k_is); (case v2 => rfl); (case mf => decide +kernel); (case top => decide +kernel); (case se => (exact fun _ => rfl))
    case E8 =>
      refine' Toy.one_mk (pa := ⟨46, 17, 46, 21⟩) (pb := ⟨46, 23, 46, 28⟩) (txt := "the line is no text") (p := fun i => [⟨47, 8, 47, 13⟩, ⟨47, 8, 47, 15⟩, ⟨47, 8, 47, 24⟩, ⟨47, 25, 47, 46⟩, ⟨47, 8, 47, 47⟩, ⟨47, 8, 47, 47⟩, ⟨48, 8, 48, 12⟩, ⟨48, 8, 48, 18⟩, ⟨48, 21, 48, 26⟩, ⟨48, 8, 48, 26⟩].getD i ⟨0, 0, 0, 0⟩) ?a ?xL ?hb ?sa ?iC ?tC ?kC ?sb ?sV ?su ?tp ?sp ?l1 ?c1 ?l2 ?l3 ?n ?v2 ?mf ?top ?se
      (case a => k_is); (case xL => k_is); (case hb => decide +kernel); (case sa => k_is); (case iC => k_is); (case tC => k_is); (case kC => k_is); (case sb => k_is); (case sV => k_is); (case su => ks_is); (case tp => k_is); (case sp => k_is); (case l1 => k_is); (case c1 => k_is); (case l2 => k_is); (case l3 => k_is); (case n => k_is); (case v2 => rfl); (case mf => decide +kernel); (case top => decide +kernel); (case se => (exact fun _ => rfl))
    case E9 =>
      refine' Toy.one_mk (pa := ⟨51, 17, 51, 21⟩) (pb := ⟨51, 23, 51, 28⟩) (txt := "no rule beside the KIND") (p := fun i => [⟨52, 8, 52, 13⟩, ⟨52, 8, 52, 15⟩, ⟨52, 8, 52, 24⟩, ⟨52, 25, 52, 50⟩, ⟨52, 8, 52, 51⟩, ⟨52, 8, 52, 51⟩, ⟨53, 8, 53, 12⟩, ⟨53, 8, 53, 18⟩, ⟨53, 21, 53, 26⟩, ⟨53, 8, 53, 26⟩].getD i ⟨0, 0, 0, 0⟩) ?a ?xL ?hb ?sa ?iC ?tC ?kC ?sb ?sV ?su ?tp ?sp ?l1 ?c1 ?l2 ?l3 ?n ?v2 ?mf ?top ?se
      (case a => k_is); (case xL => k_is); (case hb => decide +kernel); (case sa => k_is); (case iC => k_is); (case tC => k_is); (case kC => k_is); (case sb => k_is); (case sV => k_is); (case su => ks_is); (case tp => k_is); (case sp => k_is); (case l1 => k_is); (case c1 => k_is); (case l2 => k_is); (case l3 => k_is); (case n => k_is); (case v2 => rfl); (case mf => decide +kernel); (case top => decide +kernel); (case se => (exact fun _ => rfl))
    case E10 =>
      refine' Toy.one_mk (pa := ⟨56, 17, 56, 21⟩) (pb := ⟨56, 23, 56, 28⟩) (txt := "one of the two paths begins with the other one") (p := fun i => [⟨57, 8, 57, 13⟩, ⟨57, 8, 57, 15⟩, ⟨57, 8, 57, 24⟩, ⟨57, 25, 57, 73⟩, ⟨57, 8, 57, 74⟩, ⟨57, 8, 57, 74⟩, ⟨58, 8, 58, 12⟩, ⟨58, 8, 58, 18⟩, ⟨58, 21, 58, 26⟩, ⟨58, 8, 58, 26⟩].getD i ⟨0, 0, 0, 0⟩) ?a ?xL ?hb ?sa ?iC ?tC ?kC ?sb ?sV ?su ?tp ?sp ?l1 ?c1 ?l2 ?l3 ?n ?v2 ?mf ?top ?se
      (case a => k_is); (case xL => k_is); (case hb => decide +kernel); (case sa => k_is); (case iC => k_is); (case tC => k_is); (case kC => k_is); (case sb => k_is); (case sV => k_is); (case su => ks_is); (case tp => k_is); (case sp => k_is); (case l1 => k_is); (case c1 => k_is); (case l2 => k_is); (case l3 => k_is); (case n => k_is); (case v2 => rfl); (case mf => decide +kernel); (case top => decide +kernel); (case se => (exact fun _ => rfl))
    case E11 =>
      refine' Toy.one_mk (pa := ⟨61, 17, 61, 21⟩) (pb := ⟨61, 23, 61, 28⟩) (txt := "no BOOK") (p := fun i => [⟨62, 8, 62, 13⟩, ⟨62, 8, 62, 15⟩, ⟨62, 8, 62, 24⟩, ⟨62, 25, 62, 34⟩, ⟨62, 8, 62, 35⟩, ⟨62, 8, 62, 35⟩, ⟨63, 8, 63, 12⟩, ⟨63, 8, 63, 18⟩, ⟨63, 21, 63, 26⟩, ⟨63, 8, 63, 26⟩].getD i ⟨0, 0, 0, 0⟩) ?a ?xL ?hb ?sa ?iC ?tC ?kC ?sb ?sV ?su ?tp ?sp ?l1 ?c1 ?l2 ?l3 ?n ?v2 ?mf ?top ?se
      (case a => k_is); (case xL => k_is); (case hb => decide +kernel); (case sa => k_is); (case iC => k_is); (case tC => k_is); (case kC => k_is); (case sb => k_is); (case sV => k_is); (case su => ks_is); (case tp => k_is); (case sp => k_is); (case l1 => k_is); (case c1 => k_is); (case l2 => k_is); (case l3 => k_is); (case n => k_is); (case v2 => rfl); (case mf => decide +kernel); (case top => decide +kernel); (case se => (exact fun _ => rfl))
    case E12 =>
      refine' Toy.one_mk (pa := ⟨66, 17, 66, 21⟩) (pb := ⟨66, 23, 66, 28⟩) (txt := "no deeds") (p := fun i => [⟨67, 8, 67, 13⟩, ⟨67, 8, 67, 15⟩, ⟨67, 8, 67, 24⟩, ⟨67, 25, 67, 35⟩, ⟨67, 8, 67, 36⟩, ⟨67, 8, 67, 36⟩, ⟨68, 8, 68, 12⟩, ⟨68, 8, 68, 18⟩, ⟨68, 21, 68, 26⟩, ⟨68, 8, 68, 26⟩].getD i ⟨0, 0, 0, 0⟩) ?a ?xL ?hb ?sa ?iC ?tC ?kC ?sb ?sV ?su ?tp ?sp ?l1 ?c1 ?l2 ?l3 ?n ?v2 ?mf ?top ?se
      (case a => k_is); (case xL => k_is); (case hb => decide +kernel); (case sa => k_is); (case iC => k_is); (case tC => k_is); (case kC => k_is); (case sb => k_is); (case sV => k_is); (case su => ks_is); (case tp => k_is); (case sp => k_is); (case l1 => k_is); (case c1 => k_is); (case l2 => k_is); (case l3 => k_is); (case n => k_is); (case v2 => rfl); (case mf => decide +kernel); (case top => decide +kernel); (case se => (exact fun _ => rfl))
    case E13 =>
      refine' Toy.one_mk (pa := ⟨71, 17, 71, 21⟩) (pb := ⟨71, 23, 71, 28⟩) (txt := "no algebra beside the BOOK") (p := fun i => [⟨72, 8, 72, 13⟩, ⟨72, 8, 72, 15⟩, ⟨72, 8, 72, 24⟩, ⟨72, 25, 72, 53⟩, ⟨72, 8, 72, 54⟩, ⟨72, 8, 72, 54⟩, ⟨73, 8, 73, 12⟩, ⟨73, 8, 73, 18⟩, ⟨73, 21, 73, 26⟩, ⟨73, 8, 73, 26⟩].getD i ⟨0, 0, 0, 0⟩) ?a ?xL ?hb ?sa ?iC ?tC ?kC ?sb ?sV ?su ?tp ?sp ?l1 ?c1 ?l2 ?l3 ?n ?v2 ?mf ?top ?se
      (case a => k_is); (case xL => k_is); (case hb => decide +kernel); (case sa => k_is); (case iC => k_is); (case tC => k_is); (case kC => k_is); (case sb => k_is); (case sV => k_is); (case su => ks_is); (case tp => k_is); (case sp => k_is); (case l1 => k_is); (case c1 => k_is); (case l2 => k_is); (case l3 => k_is); (case n => k_is); (case v2 => rfl); (case mf => decide +kernel); (case top => decide +kernel); (case se => (exact fun _ => rfl))
    case E14 =>
      refine' Toy.two_mk (pa := ⟨76, 17, 76, 21⟩) (pb := ⟨76, 23, 76, 27⟩) (pc := ⟨76, 29, 76, 35⟩) (txt := "the text is refused") (p := fun i => [⟨77, 8, 77, 13⟩, ⟨77, 8, 77, 15⟩, ⟨77, 8, 77, 24⟩, ⟨77, 25, 77, 46⟩, ⟨77, 8, 77, 47⟩, ⟨77, 8, 77, 47⟩, ⟨78, 8, 78, 12⟩, ⟨78, 8, 78, 17⟩, ⟨78, 20, 78, 24⟩, ⟨78, 8, 78, 24⟩, ⟨79, 8, 79, 12⟩, ⟨79, 8, 79, 19⟩, ⟨79, 22, 79, 28⟩, ⟨79, 8, 79, 28⟩].getD i ⟨0, 0, 0, 0⟩) ?a ?xL ?hb ?sa ?iC ?tC ?kC ?sb ?sV ?su ?tp ?sp ?l1 ?c1 ?l2 ?l3 ?n ?n2 ?v2 ?mf ?top ?se
      (case a => k_is); (case xL => k_is); (case hb => decide +kernel); (case sa => k_is); (case iC => k_is); (case tC => k_is); (case kC => k_is); (case sb => k_is); (case sV => k_is); (case su => ks_is); (case tp => k_is); (case sp => k_is); (case l1 => k_is); (case c1 => k_is); (case l2 => k_is); (case l3 => k_is); (case n => k_is); (case n2 => k_is); (case v2 => rfl); (case mf => decide +kernel); (case top => decide +kernel); (case se => (exact fun _ => rfl))
    (case aH => k_is)
    case DWell => refine' Toy.def_mk ?a ?l ?c ?k; (case a => k_is); (case l => k_is); (case c => k_is); (case k => k_is)
    case DDraw => refine' Toy.def_mk ?a ?l ?c ?k; (case a => k_is); (case l => k_is); (case c => k_is); (case k => k_is)
    case DPick => refine' Toy.def_mk ?a ?l ?c ?k; (case a => k_is); (case l => k_is); (case c => k_is); (case k => k_is)
    case DSame => refine' Toy.def_mk ?a ?l ?c ?k; (case a => k_is); (case l => k_is); (case c => k_is); (case k => k_is)
    case DOdd => refine' Toy.def_mk ?a ?l ?c ?k; (case a => k_is); (case l => k_is); (case c => k_is); (case k => k_is)
    case DPiece => refine' Toy.def_mk ?a ?l ?c ?k; (case a => k_is); (case l => k_is); (case c => k_is); (case k => k_is)
    case DPlace => refine' Toy.def_mk ?a ?l ?c ?k; (case a => k_is); (case l => k_is); (case c => k_is); (case k => k_is)
    case DName => refine' Toy.def_mk ?a ?l ?c ?k; (case a => k_is); (case l => k_is); (case c => k_is); (case k => k_is)
    case DKept => refine' Toy.def_mk ?a ?l ?c ?k; (case a => k_is); (case l => k_is); (case c => k_is); (case k => k_is)
    case DCls => refine' Toy.def_mk ?a ?l ?c ?k; (case a => k_is); (case l => k_is); (case c => k_is); (case k => k_is)
    case DIsOf => refine' Toy.def_mk ?a ?l ?c ?k; (case a => k_is); (case l => k_is); (case c => k_is); (case k => k_is)
    case DAre => refine' Toy.def_mk ?a ?l ?c ?k; (case a => k_is); (case l => k_is); (case c => k_is); (case k => k_is)
    case DMet => refine' Toy.def_mk ?a ?l ?c ?k; (case a => k_is); (case l => k_is); (case c => k_is); (case k => k_is)
    case DRgt => refine' Toy.def_mk ?a ?l ?c ?k; (case a => k_is); (case l => k_is); (case c => k_is); (case k => k_is)
    (case aL => k_is); (case lL => k_is); (case cL => k_is); (case kL => k_is)
    (case xH => first | k_exc | kernel_rfl)
    (case b0 => kernel_rfl)
    (case b1 => kernel_rfl)
    (case b2 => kernel_rfl)
    (case b3 => kernel_rfl)
    (case b4 => kernel_rfl)
#print axioms PySem.Challenge.cw_holekinds_k01_errors_each_of_its_own_holds
