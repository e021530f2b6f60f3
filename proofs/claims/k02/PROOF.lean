import PyProof.Rows.All
import Wide.All
import OpenK.AllK
import Wide.FinOn
import PyProof.EqAt
import PyProof.EqKinds
import PyProof.TupleCall
import KE.KFromBytes
import KE.KExcSuper
import HandS.ForExc
import HandS.ExcInit
import HandS.ExcSuper
import KE.KExcIs
import HandS.ExcField
import HandS.ExcIs
import HandS.TryMany
import HandS.IsInst
import HandS.ForMost
import HandS.Text
import HandS.Walk
import HandS.Steps
import HandS.Zip
import PyProof.TypeEq
import PyProof.InstEq
import HandS.AnyAll
import HandS.SortInts
import HandS.Set
import HandS.SetFor
import HandS.Strs
import HandS.Style
import HandS.TupAny
import KE.KRevSl
import PyProof.StrOps2
import PyProof.ReprLen
import PySem.Challenge.RW_holekinds_k02_names_and_kinds_of_anythin
set_option Elab.async false
set_option linter.all false
set_option maxRecDepth 100000
set_option maxHeartbeats 4000000
/-! an own error class over HoleError over ValueError, whose __init__ says super().__init__(text) and stores what it is made with -/
namespace PySem
namespace ErrX
open PySem.W PySem.Calls PyProof.Rows PySem.HandSPX

/-- the text of __init__: its parameters, its first row, its stores -/
def eA (ps : List (Str × Pos)) : Arguments := { posonlyargs := [], args := ps.map fun p => { arg := p.1, annotation := none, pos := p.2 }, vararg := none, kwonlyargs := [], kw_defaults := [], kwarg := none, defaults := [] }
abbrev eSup (txt : Str) (p0 p1 p2 p3 p4 p5 : Pos) : Stmt := .Expr (.Call (.Attribute (.Call (.Name "super" p0) [] [] p1) "__init__" p2) [.Constant (.str txt) 0 p3] [] p4) p5
abbrev eSet (f : Str) (q0 q1 q2 q3 : Pos) : Stmt := .Assign [.Attribute (.Name "self" q0) f q1] (.Name f q2) q3
def eScope (ps : List Str) : Scope := { kind := .function, names := ps.map (fun x => (x, NameKind.local)) ++ [(Str.ofString "__class__", .free), (Str.ofString "super", .globalImplicit)], isGenerator := false, isCoroutine := false, more := [] }

abbrev pN (ps : List (Str × Pos)) : List Str := ps.map fun p => p.1
structure ErrTxt (main : PySem.Module) (K : Frag) (C fI : Addr) (ps : List (Str × Pos)) (body : List Stmt) : Prop where
  cls : ∃ nm q N bs bm sn sub ab col dd k0 k1 k2 k3 k5, K.lookup C = some (excClassObj nm q C N bs bm true sn sub ab col dd k0 k1 k2 k3 k5 "ValueError.__new__") ∧ refsVE bm = true
  sa : findIn K (.ref C) "__setattr__" = some (some (.builtin "object.__setattr__"))
  iC : findIn K (.ref C) "__init__" = some (some (.ref fI))
  tC : typeIn K (.ref fI) = some (.type "function")
  kC : keepIn K (.ref C) = true
  sub : mroIn K C (.ref C) = some true
  subV : subIn K (.ref C) (.type "ValueError") = some true
  sup : ks_superIn K C C "__init__" = some (some (.builtin "ValueError.__init__"))
  tp : nsIn K cStatics "thirdparty.any" = some none
  su : nsIn K mainGlobals "super" = some none
  top : (main.scope.names.lookup ("super" : Str)).isSome = false
  fn : ∃ (oc cl ccl : Value) (od cld cdd : Option Addr) (doc pm : Value) (an : Option Addr) (ct : Value) (osl csl ccs : Array (Option Value)) (cc cda : Addr) (qual : Str) (vs : Array Value) (file : Str) (tf : Tok),
    K.lookup fI = some ⟨oc, od, .func (ksFn "__init__" qual (eA ps) body (eScope (pN ps)) .none .none doc pm an (.ref cda) ct cc), osl⟩ ∧ codeIn K (.ref cda) qual = true ∧
    K.lookup cc = some ⟨cl, cld, .cell (some (.ref C)), csl⟩ ∧ K.lookup cda = some ⟨ccl, cdd, .fields vs, ccs⟩ ∧ vs[2]? = some (.str file tf) ∧ ((main.file : Str) == file) = true

section
variable {prog : Program} {w : World} {A : Around} {E : Value → Shared → Prop} {R : Result → Shared → Prop} {s : Shared} {K : Frag} {mg : Str → Option Value} {base : Heap} {C fI : Addr}
/-- the bound ValueError.__init__ is called: the args are laid anew -/
theorem call_mw {h : Heap} {g : Array GenState} {d : Drawn} {t : Nat} {os : OsState} {u e t0 : Addr} {rest : List Value} {Q : Value → Shared → Prop}
    {nm q : Str} {N : Addr} {bs bm : List Value} {hdct : Bool} {sn : List Str} {sub : List Value} {ab : Bool} {col : Option Bool} {dd : Option Addr} {k0 k1 k2 k3 k5 : Option Value}
    (hC : h.get? C = some (excClassObj nm q C N bs bm hdct sn sub ab col dd k0 k1 k2 k3 k5 "ValueError.__new__")) (he : h.get? e = some (HandSPX.excO C t0)) (hu : h.get? u = some (kxs_mw "ValueError.__init__" e)) (hrest : rest.length ≤ sizeLine)
    (hq : ∀ h' t1, (∀ b o, b ≠ e → h.get? b = some o → h'.get? b = some o) → h'.get? e = some (HandSPX.excO C t1) → Q .none ⟨h', g, d, t, os⟩) :
    wpAny (model prog w) A (call (.ref u) rest) Q E ⟨h, g, d, t, os⟩ := by
  refine wpAny_call (codeAny_of_tree ?_)
  show wpAny _ A.in1 (callAny (.ref u) ⟨rest, []⟩) _ _ _
  simp only [callAny]
  refine wpAny_bind (wpAny_load hu ?_)
  simp only [kxs_mw, show (Value.type "method-wrapper" == Value.type "method" || Value.type "method-wrapper" == Value.type "builtin_function_or_method" || Value.type "method-wrapper" == Value.type "method-wrapper") = true by decide, if_true]
  refine W.KFB.if_so (by decide) ?_
  refine wpAny_bind (check_bound_init F.excBase_ValueError.toExcCallFacts hC he rfl ?_)
  refine wpAny_bind (wpAny_pure (wpAny_pure ?_))
  refine ⟨plainId_quiet F.excBase_ValueError.init.plain _, codeAny_builtin F.excBase_ValueError.initEntry ?_⟩
  exact exc_init_tree (cls := .ref C) (t0 := t0) (dv := none) (c2 := .none) (c3 := .none) (b4 := .bool false) he hrest fun h' k e' _ => hq h' _ k e'

/-- how the row's call is read: its places stand on one line -/
def SupEq (txt : Str) (p0 p1 p2 p3 p4 : Pos) : Prop := ∀ env : Env, eval (.Call (.Attribute (.Call (.Name "super" p0) [] [] p1) "__init__" p2) [.Constant (.str txt) 0 p3] [] p4) env = (do
      let ov ← attributeBase (.Call (.Name "super" p0) [] [] p1) "__init__" env (eval (.Call (.Name "super" p0) [] [] p1) env)
      standAt p2.atName
      let (f, first) ← holding [ov] (getMethod ov "__init__" (do return (← importBound (.Call (.Name "super" p0) [] [] p1) env).getD true))
      callWith p4 f first (backTo p4 (starEach [.Constant (.str txt) 0 p3] env)) [])
/-- super().__init__(text): the rest of the body runs behind it -/
theorem sup_row {ps : List (Str × Pos)} {body body' : List Stmt} {txt : Str} {p0 p1 p2 p3 p4 p5 : Pos} {x t0 L : Addr} {m : Str → Option Value} {arS : Pos} {cc cda : Addr} {qual : Str} {oc cl ccl : Value} {od cld cdd : Option Addr} {doc pm : Value} {an : Option Addr} {ct : Value} {osl csl ccs : Array (Option Value)} {vs : Array Value} {file : Str} {tf : Tok} {Q : Flow → Shared → Prop}
    (T : ErrTxt prog.main K C fI ps body) (hps : ps.head? = some (Str.ofString "self", arS)) (hsc : (eScope (pN ps)).names.lookup ("super" : Str) = some .globalImplicit) (hcc : (eScope (pN ps)).names.lookup ("__class__" : Str) = some .free) (hss : (eScope (pN ps)).names.lookup ("self" : Str) = some .local)
    (heq : SupEq txt p0 p1 p2 p3 p4)
    (l1 : K.lookup fI = some ⟨oc, od, .func (ksFn "__init__" qual (eA ps) body (eScope (pN ps)) .none .none doc pm an (.ref cda) ct cc), osl⟩)
    (l2 : K.lookup cc = some ⟨cl, cld, .cell (some (.ref C)), csl⟩) (l3 : K.lookup cda = some ⟨ccl, cdd, .fields vs, ccs⟩) (hvs : vs[2]? = some (.str file tf)) (hfile : ((prog.main.file : Str) == file) = true)
    (hM : L2.Mod K mg base) (k0 : ∀ b o, base.get? b = some o → s.heap.get? b = some o) (hn : s.heap.Ns L m) (hx : m "self" = some (.ref x)) (hxo : s.heap.get? x = some (excO C t0))
    (h : ∀ h' tk t1, (∀ b o, b ≠ x → s.heap.get? b = some o → h'.get? b = some o) → h'.get? x = some (excO C t1) → Q .next { s with heap := h', toks := tk }) :
    _root_.PySem.wpAt (model prog w) A (.func body' (ksEnv qual (eScope (pN ps)) L fI (.ref cda) cc)) (exec (eSup txt p0 p1 p2 p3 p4 p5) (ksEnv qual (eScope (pN ps)) L fI (.ref cda) cc)) Q E s := by
  have X : K.In s.heap := hM.kin.keeps k0
  obtain ⟨mb, hb1, hb2⟩ := hM.blt
  obtain ⟨nm, q, N, bs, bm, sn, sub, ab, col, dd, kk0, kk1, kk2, kk3, kk5, hC, hbm⟩ := T.cls
  have hcl : clsIn K C = some { name := nm, bases := bs, mro := .ref C :: bm, ns := N, qualname := q, hasDict := true, slotNames := sn, subclasses := sub, abstract := ab, collection := col, hasDel := false } := by unfold clsIn; rw [hC] <;> rfl
  obtain ⟨hh, g, d, t, os⟩ := s
  refine ks_wpAt_Expr_any (hs := by rfl) (hi := by rfl) ?_
  refine ks_wpAt_MethodCall (args := [.Constant (.str txt) 0 p3]) ?_ (heq _)
  have har : (((ksFn "__init__" qual (eA ps) body (eScope (pN ps)) .none .none doc pm an (.ref cda) ct cc).params.posonlyargs ++ (ksFn "__init__" qual (eA ps) body (eScope (pN ps)) .none .none doc pm an (.ref cda) ct cc).params.args).head?) = some ({ arg := "self", annotation := none, pos := arS } : Arg) := by
    show (ps.map fun p => ({ arg := p.1, annotation := none, pos := p.2 } : Arg)).head? = _
    rw [List.head?_map, hps]
    rfl
  refine ks_wpAt_super_base (env := ksEnv qual (eScope (pN ps)) L fI (.ref cda) cc) (ar := { arg := "self", annotation := none, pos := arS }) hsc hcc rfl rfl (X _ _ l1) rfl har rfl (X _ _ l3) rfl hvs hfile T.top ?_
  refine ks_loadName_global rfl hsc (loadGlobal_builtin (env := ksEnv qual (eScope (pN ps)) L fI (.ref cda) cc) (hM.glob.keeps k0) (mg_none_of hM.kin hM.glob T.su) (hb1.keeps k0) ((hb2 _ (by decide +kernel)).trans (by kernel_rfl)) ⟨rfl, ?_⟩)
  refine wpAny_loadName_free rfl hcc rfl ⟨_, X _ _ l2, rfl⟩ ?_
  refine wpAny_loadName_local rfl hss hn hx ?_
  refine ks_wpAny_isType_cls (X _ _ hC) rfl ⟨rfl, ?_⟩
  have hx0 : hh.get? x = some (excO C t0) := hxo
  refine ks_wpAny_call_super (X _ _ hC) rfl hx0 rfl (fun c e => by cases e) (looks_mroIn X T.sub) (fun h2 e2 k2 => ?_)
  have hx2 := k2 _ _ hx0
  have X2 : K.In h2 := X.keeps k2
  have I2 : W.InstAt h2 x (excO C t0) C none := ⟨hx2, rfl, rfl, trivial⟩
  have hI : Looks (model prog w) h2 (isInstance (.ref x) (.type "ValueError")) true := I2.type.andThen (looks_subIn X2 T.subV)
  have hsup := T.sup
  unfold ks_superIn at hsup
  rw [hcl] at hsup
  refine kxs_getMethod kxs_ValueError e2 (looks_opaque X2 T.tp) (l₀ := .ref C :: bm) ((W.looks_clsIn X2 hcl).andThen .now) rfl X2 hsup hI (ks_ne X2 I2 hcl) rfl ?_
  have hx3 : (h2.push (kxs_mw "ValueError.__init__" x)).get? x = some (excO C t0) := Heap.get?_push_of_some _ hx2
  have hu3 : (h2.push (kxs_mw "ValueError.__init__" x)).get? h2.objs.size = some (kxs_mw "ValueError.__init__" x) := Heap.get?_push_at rfl rfl
  refine kxs_callWith (i := "ValueError.__init__") (x := x) (by rfl) (evalArgs_plain (Calls.spliced_cons (Calls.Constant_str (k := 0) (pos := p3) (Calls.spliced_nil ⟨hu3, ?_⟩))))
  show wpAny _ _ (call (.ref h2.objs.size) [Value.str txt _]) _ _ _
  refine call_mw (X2.keeps (fun b o e => Heap.get?_push_of_some _ e) _ _ hC) hx3 hu3 (by show 1 ≤ sizeLine; rw [sizeLine_eq]; omega) fun h' t1 k hx' => ?_
  exact h h' _ t1 (fun b o hb e => k b o hb (Heap.get?_push_of_some _ (k2 b o e))) hx'

/-- what __init__ leaves of a fresh exception at x: its dict at dx, with the fields m -/
structure InitEnd (h h' : Heap) (x C dx t1 : Addr) (m : Str → Option Value) : Prop where
  keep : ∀ b o, b ≠ x → h.get? b = some o → h'.get? b = some o
  obj : h'.get? x = some { cls := .ref C, dict := some dx, data := .fields #[.ref t1, .none, .none, .none, .bool false, .none] }
  dbig : h.objs.size ≤ dx
  dne : dx ≠ x
  ns : h'.Ns1 dx m
theorem ldX {M : Model} {s : Shared} {q : Str} {scope : Scope} {L a : Addr} {cd : Value} {cc : Addr} {m : Str → Option Value} {x : Str} {pos : Pos} {v : Value} {Q : Value → Shared → Prop} {A : Around} {E : Value → Shared → Prop} (hn : s.heap.Ns L m) (hv : m x = some v) (h : Q v s)
    (hk : scope.kind = .function) (hl : scope.names.lookup x = some .local) (hd : (x == ("__debug__" : Str)) = false) :
    wpAny M A (eval (.Name x pos) (ksEnv q scope L a cd cc)) Q E s := wpAny_Name (wpAny_loadName_local hk hl hn hv h) hd
abbrev bd1 (f : Str) (txt : Str) (p : Nat → Pos) : List Stmt := [eSup txt (p 0) (p 1) (p 2) (p 3) (p 4) (p 5), eSet f (p 6) (p 7) (p 8) (p 9)]
abbrev ps1 (f : Str) (a b : Pos) : List (Str × Pos) := [(Str.ofString "self", a), (f, b)]
/-- which names of the scope a field's name is not -/
structure FldOk (f : Str) : Prop where
  sc : (eScope [Str.ofString "self", f]).names.lookup ("super" : Str) = some .globalImplicit
  cl : (eScope [Str.ofString "self", f]).names.lookup ("__class__" : Str) = some .free
  se : (eScope [Str.ofString "self", f]).names.lookup ("self" : Str) = some .local
  fl : (eScope [Str.ofString "self", f]).names.lookup f = some .local
  ne : f ≠ Str.ofString "self"
  db : (f == ("__debug__" : Str)) = false
  noc : ∀ x ∈ (eScope [Str.ofString "self", f]).names, x.2 ≠ .cell
  bi : ∀ (qual : Str) (body : List Stmt) (sc : Scope) (doc pm : Value) (an : Option Addr) (cdv ct : Value) (cc : Addr) (a b : Pos) (u v : Value), bindArgs (ksFn "__init__" qual (eA (ps1 f a b)) body sc .none .none doc pm an cdv ct cc) ⟨[u, v], []⟩ = pure [(Str.ofString "self", u), (f, v)]
  bk : ∀ (qual : Str) (body : List Stmt) (sc : Scope) (doc pm : Value) (an : Option Addr) (cdv ct : Value) (cc : Addr) (a b : Pos) (u v : Value), bindArgs (ksFn "__init__" qual (eA (ps1 f a b)) body sc .none .none doc pm an cdv ct cc) ⟨[u], [(f, v)]⟩ = pure [(Str.ofString "self", u), (f, v)]
theorem init1 {f txt : Str} {p : Nat → Pos} {pa pb : Pos} {x t0 : Addr} {v : Value} (T : ErrTxt prog.main K C fI (ps1 f pa pb) (bd1 f txt p)) (FO : FldOk f) (hno : findIn K (.ref C) f = some none)
    (heq : SupEq txt (p 0) (p 1) (p 2) (p 3) (p 4)) (hM : L2.Mod K mg base) (k0 : ∀ b o, base.get? b = some o → s.heap.get? b = some o) (hx : s.heap.get? x = some (excO C t0)) (hnx : K.lookup x = none) (hroom : A.depth < recursionLimit)
    (args : Args) (hb : ∀ s' qual body sc doc pm an cdv ct cc, BindsTo s' (ksFn "__init__" qual (eA (ps1 f pa pb)) body sc .none .none doc pm an cdv ct cc) args [(Str.ofString "self", .ref x), (f, v)])
    (hq : ∀ h' tk dx t1, InitEnd s.heap h' x C dx t1 (fun y => if y = f then some v else none) → R (.ok (.ret .none)) { s with heap := h', toks := tk }) :
    codeAny (model prog w) A (.call (.ref fI) args) R s := by
  obtain ⟨oc, cl, ccl, od, cld, cdd, doc, pm, an, ct, osl, csl, ccs, cc, cda, qual, vs, file, tf, l1, hcd, l2, l3, hvs, hfile⟩ := T.fn
  have X : K.In s.heap := hM.kin.keeps k0
  refine ks_codeAny_call_defAt (fd := ksFn "__init__" qual (eA (ps1 f pa pb)) (bd1 f txt p) (eScope (pN (ps1 f pa pb))) .none .none doc pm an (.ref cda) ct cc) (body := bd1 f txt p) (binds := [(Str.ofString "self", .ref x), (f, v)])
    hroom (X _ _ l1) rfl (hM.nolimit.keeps k0) (codeRec_of X hcd) rfl (hb _ _ _ _ _ _ _ _ _ _) FO.noc ?_ (fun h₁ hns hk₁ => ?_) rfl rfl rfl
  · intro y hy
    rcases List.mem_cons.mp hy with rfl | hy
    · exact FO.se
    · rcases List.mem_cons.mp hy with rfl | hy
      · exact FO.fl
      · cases hy
  have hnf : ((Str.ofString "self") == f) = false := by simpa using (Ne.symm FO.ne)
  have hm1 : (fun y => List.lookup y ([(Str.ofString "self", Value.ref x), (f, v)] : List (Str × Value)).reverse) (Str.ofString "self") = some (.ref x) := by
    show List.lookup (Str.ofString "self") [(f, v), (Str.ofString "self", Value.ref x)] = _
    simp [List.lookup, hnf]
  have hm2 : (fun y => List.lookup y ([(Str.ofString "self", Value.ref x), (f, v)] : List (Str × Value)).reverse) f = some v := by
    show List.lookup f [(f, v), (Str.ofString "self", Value.ref x)] = _
    simp [List.lookup]
  have hxL : s.heap.objs.size ≠ x := Nat.ne_of_gt (Heap.lt_size hx)
  refine ks_wpAt_execs_cons (sup_row (s := { s with heap := h₁, toks := s.toks + _ }) T rfl FO.sc FO.cl FO.se heq l1 l2 l3 hvs hfile hM (fun b o e => hk₁ b o (k0 b o e)) hns hm1 (hk₁ _ _ hx) fun h2 tk2 t1 k2 hx2 => ?_)
  show _root_.PySem.wpAt _ _ _ (execs _ _) _ _ _
  refine wpAt_of_wpAny (wpAny_execs_cons (plainObj_wpAny_Assign_Attribute ?_ (by rfl)))
  have hns2 : h2.Ns s.heap.objs.size (fun y => List.lookup y ([(Str.ofString "self", Value.ref x), (f, v)] : List (Str × Value)).reverse) := by
    obtain ⟨oL, es, ep, hL, r⟩ := hns
    exact ⟨oL, es, ep, k2 _ _ hxL hL, r⟩
  obtain ⟨nm, q, N, bs, bm, sn, sub, ab, col, dd, kk0, kk1, kk2, kk3, kk5, hC, hbm⟩ := T.cls
  have hcl : clsIn K C = some { name := nm, bases := bs, mro := .ref C :: bm, ns := N, qualname := q, hasDict := true, slotNames := sn, subclasses := sub, abstract := ab, collection := col, hasDel := false } := by unfold clsIn; rw [hC] <;> rfl
  refine ldX (v := v) hns2 hm2 ?_ rfl FO.fl FO.db
  refine ldX (v := .ref x) hns2 hm1 ?_ rfl FO.se (by decide +kernel)
  have nxK : ∀ b o, K.lookup b = some o → b ≠ x := fun b o e z => by rw [z, hnx] at e; cases e
  have X2 : K.In h2 := fun b o e => k2 b o (nxK b o e) (hk₁ b o (X b o e))
  refine set_plain X2 (ox := excO C t1) (od := none) ⟨hx2, rfl, rfl, trivial⟩ T.sa ?_
  refine exc_osa X2 hx2 hcl (show refsVE (.ref C :: bm) = true from hbm) rfl hno (fun h3 tk3 dx k3 dn dne hx3 hn3 => ?_)
  show wpAny _ _ (execs _ _) _ _ _
  refine wpAny_execs_nil (hq h3 tk3 dx t1 ⟨fun b o hb e => k3 b o hb (k2 b o hb (hk₁ b o e)), hx3, Nat.le_of_lt (Nat.lt_of_lt_of_le hns2.lt dn), dne, hn3⟩)

/-! two fields -/
abbrev bd2 (f1 f2 : Str) (txt : Str) (p : Nat → Pos) : List Stmt := [eSup txt (p 0) (p 1) (p 2) (p 3) (p 4) (p 5), eSet f1 (p 6) (p 7) (p 8) (p 9), eSet f2 (p 10) (p 11) (p 12) (p 13)]
abbrev ps2 (f1 f2 : Str) (a b c : Pos) : List (Str × Pos) := [(Str.ofString "self", a), (f1, b), (f2, c)]
structure Fld2 (f1 f2 : Str) : Prop where
  bi : ∀ (qual : Str) (body : List Stmt) (sc : Scope) (doc pm : Value) (an : Option Addr) (cdv ct : Value) (cc : Addr) (a b c : Pos) (u v w : Value), bindArgs (ksFn "__init__" qual (eA (ps2 f1 f2 a b c)) body sc .none .none doc pm an cdv ct cc) ⟨[u, v, w], []⟩ = pure [(Str.ofString "self", u), (f1, v), (f2, w)]
  bk : ∀ (qual : Str) (body : List Stmt) (sc : Scope) (doc pm : Value) (an : Option Addr) (cdv ct : Value) (cc : Addr) (a b c : Pos) (u v w : Value), bindArgs (ksFn "__init__" qual (eA (ps2 f1 f2 a b c)) body sc .none .none doc pm an cdv ct cc) ⟨[u], [(f2, w), (f1, v)]⟩ = pure [(Str.ofString "self", u), (f1, v), (f2, w)]
  sc : (eScope [Str.ofString "self", f1, f2]).names.lookup ("super" : Str) = some .globalImplicit
  cl : (eScope [Str.ofString "self", f1, f2]).names.lookup ("__class__" : Str) = some .free
  se : (eScope [Str.ofString "self", f1, f2]).names.lookup ("self" : Str) = some .local
  fl1 : (eScope [Str.ofString "self", f1, f2]).names.lookup f1 = some .local
  fl2 : (eScope [Str.ofString "self", f1, f2]).names.lookup f2 = some .local
  ne1 : f1 ≠ Str.ofString "self"
  ne2 : f2 ≠ Str.ofString "self"
  ne12 : f1 ≠ f2
  db1 : (f1 == ("__debug__" : Str)) = false
  db2 : (f2 == ("__debug__" : Str)) = false
  noc : ∀ x ∈ (eScope [Str.ofString "self", f1, f2]).names, x.2 ≠ .cell
theorem init2 {f1 f2 txt : Str} {p : Nat → Pos} {pa pb pc : Pos} {x t0 : Addr} {v1 v2 : Value} (T : ErrTxt prog.main K C fI (ps2 f1 f2 pa pb pc) (bd2 f1 f2 txt p)) (FO : Fld2 f1 f2) (hno1 : findIn K (.ref C) f1 = some none) (hno2 : findIn K (.ref C) f2 = some none)
    (heq : SupEq txt (p 0) (p 1) (p 2) (p 3) (p 4)) (hM : L2.Mod K mg base) (k0 : ∀ b o, base.get? b = some o → s.heap.get? b = some o) (hx : s.heap.get? x = some (excO C t0)) (hnx : K.lookup x = none) (hroom : A.depth < recursionLimit)
    (args : Args) (hb : ∀ s' qual body sc doc pm an cdv ct cc, BindsTo s' (ksFn "__init__" qual (eA (ps2 f1 f2 pa pb pc)) body sc .none .none doc pm an cdv ct cc) args [(Str.ofString "self", .ref x), (f1, v1), (f2, v2)])
    (hq : ∀ h' tk dx t1, InitEnd s.heap h' x C dx t1 (fun y => if y = f2 then some v2 else if y = f1 then some v1 else none) → R (.ok (.ret .none)) { s with heap := h', toks := tk }) :
    codeAny (model prog w) A (.call (.ref fI) args) R s := by
  obtain ⟨oc, cl, ccl, od, cld, cdd, doc, pm, an, ct, osl, csl, ccs, cc, cda, qual, vs, file, tf, l1, hcd, l2, l3, hvs, hfile⟩ := T.fn
  have X : K.In s.heap := hM.kin.keeps k0
  refine ks_codeAny_call_defAt (fd := ksFn "__init__" qual (eA (ps2 f1 f2 pa pb pc)) (bd2 f1 f2 txt p) (eScope (pN (ps2 f1 f2 pa pb pc))) .none .none doc pm an (.ref cda) ct cc) (body := bd2 f1 f2 txt p) (binds := [(Str.ofString "self", .ref x), (f1, v1), (f2, v2)])
    hroom (X _ _ l1) rfl (hM.nolimit.keeps k0) (codeRec_of X hcd) rfl (hb _ _ _ _ _ _ _ _ _ _) FO.noc ?_ (fun h₁ hns hk₁ => ?_) rfl rfl rfl
  · intro y hy
    rcases List.mem_cons.mp hy with rfl | hy
    · exact FO.se
    · rcases List.mem_cons.mp hy with rfl | hy
      · exact FO.fl1
      · rcases List.mem_cons.mp hy with rfl | hy
        · exact FO.fl2
        · cases hy
  have hnf1 : ((Str.ofString "self") == f1) = false := by simpa using (Ne.symm FO.ne1)
  have hnf2 : ((Str.ofString "self") == f2) = false := by simpa using (Ne.symm FO.ne2)
  have hn12 : (f1 == f2) = false := by simpa using FO.ne12
  have hm1 : (fun y => List.lookup y ([(Str.ofString "self", Value.ref x), (f1, v1), (f2, v2)] : List (Str × Value)).reverse) (Str.ofString "self") = some (.ref x) := by
    show List.lookup (Str.ofString "self") [(f2, v2), (f1, v1), (Str.ofString "self", Value.ref x)] = _
    simp [List.lookup, hnf1, hnf2]
  have hm2 : (fun y => List.lookup y ([(Str.ofString "self", Value.ref x), (f1, v1), (f2, v2)] : List (Str × Value)).reverse) f1 = some v1 := by
    show List.lookup f1 [(f2, v2), (f1, v1), (Str.ofString "self", Value.ref x)] = _
    simp [List.lookup, hn12]
  have hm3 : (fun y => List.lookup y ([(Str.ofString "self", Value.ref x), (f1, v1), (f2, v2)] : List (Str × Value)).reverse) f2 = some v2 := by
    show List.lookup f2 [(f2, v2), (f1, v1), (Str.ofString "self", Value.ref x)] = _
    simp [List.lookup]
  have hxL : s.heap.objs.size ≠ x := Nat.ne_of_gt (Heap.lt_size hx)
  refine ks_wpAt_execs_cons (sup_row (s := { s with heap := h₁, toks := s.toks + _ }) T rfl FO.sc FO.cl FO.se heq l1 l2 l3 hvs hfile hM (fun b o e => hk₁ b o (k0 b o e)) hns hm1 (hk₁ _ _ hx) fun h2 tk2 t1 k2 hx2 => ?_)
  show _root_.PySem.wpAt _ _ _ (execs _ _) _ _ _
  refine wpAt_of_wpAny (wpAny_execs_cons (plainObj_wpAny_Assign_Attribute ?_ (by rfl)))
  have hns2 : h2.Ns s.heap.objs.size (fun y => List.lookup y ([(Str.ofString "self", Value.ref x), (f1, v1), (f2, v2)] : List (Str × Value)).reverse) := by
    obtain ⟨oL, es, ep, hL, r⟩ := hns
    exact ⟨oL, es, ep, k2 _ _ hxL hL, r⟩
  obtain ⟨nm, q, N, bs, bm, sn, sub, ab, col, dd, kk0, kk1, kk2, kk3, kk5, hC, hbm⟩ := T.cls
  have hcl : clsIn K C = some { name := nm, bases := bs, mro := .ref C :: bm, ns := N, qualname := q, hasDict := true, slotNames := sn, subclasses := sub, abstract := ab, collection := col, hasDel := false } := by unfold clsIn; rw [hC] <;> rfl
  refine ldX (v := v1) hns2 hm2 ?_ rfl FO.fl1 FO.db1
  refine ldX (v := .ref x) hns2 hm1 ?_ rfl FO.se (by decide +kernel)
  have nxK : ∀ b o, K.lookup b = some o → b ≠ x := fun b o e z => by rw [z, hnx] at e; cases e
  have X2 : K.In h2 := fun b o e => k2 b o (nxK b o e) (hk₁ b o (X b o e))
  refine set_plain X2 (ox := excO C t1) (od := none) ⟨hx2, rfl, rfl, trivial⟩ T.sa ?_
  refine exc_osa X2 hx2 hcl (show refsVE (.ref C :: bm) = true from hbm) rfl hno1 (fun h3 tk3 dx k3 dn dne hx3 hn3 => ?_)
  show wpAny _ _ (execs _ _) _ _ _
  have X3 : K.In h3 := fun b o e => k3 b o (nxK b o e) (X2 b o e)
  have hns3 : h3.Ns s.heap.objs.size (fun y => List.lookup y ([(Str.ofString "self", Value.ref x), (f1, v1), (f2, v2)] : List (Str × Value)).reverse) := by
    obtain ⟨oL, es, ep, hL, r⟩ := hns2
    exact ⟨oL, es, ep, k3 _ _ hxL hL, r⟩
  refine wpAny_execs_cons (plainObj_wpAny_Assign_Attribute ?_ (by rfl))
  refine ldX (v := v2) hns3 hm3 ?_ rfl FO.fl2 FO.db2
  refine ldX (v := .ref x) hns3 hm1 ?_ rfl FO.se (by decide +kernel)
  obtain ⟨oD, esD, epD, hoD, hdD⟩ := id hn3
  have hw : Within (fun y => if y = f1 then some v1 else none) [f1] := Within.cons f1 v1 Within.nil
  refine set_plain X3 (ox := { cls := .ref C, dict := some dx, data := .fields #[.ref t1, .none, .none, .none, .bool false, .none] }) (od := some oD) ⟨hx3, rfl, rfl, hoD⟩ T.sa ?_
  refine PySem.OEX.osa_old X3 hx3 hn3 hw (by show 1 ≤ 1000; decide) hcl (show refsVE (.ref C :: bm) = true from hbm) rfl hno2 (fun h4 tk4 k4 hn4 => ?_)
  show wpAny _ _ (execs _ _) _ _ _
  refine wpAny_execs_nil (hq h4 tk4 dx t1 ⟨fun b o hb e => k4 b o ?_ (k3 b o hb (k2 b o hb (hk₁ b o e))), k4 _ _ dne.symm hx3, Nat.le_of_lt (Nat.lt_of_lt_of_le hns2.lt dn), dne, hn4⟩)
  exact Nat.ne_of_lt (Nat.lt_of_lt_of_le (Heap.lt_size (k2 b o hb (hk₁ b o e))) dn)
end
end ErrX
end PySem
set_option Elab.async false
set_option linter.all false
set_option maxRecDepth 100000
set_option maxHeartbeats 4000000
namespace PySem
namespace ErrX
open PySem.W PySem.Calls PyProof.Rows PySem.HandSPX
/-! ### such a class called, keywords too -/
section
variable {M : Model} {A : Around} {E : Value → Shared → Prop} {h : Heap} {g : Array GenState} {d : Drawn} {t : Nat} {os : OsState}
variable {nm q : Str} {C N : Addr} {bs bm bmB : List Value} {hdct : Bool} {sn : List Str} {sub : List Value} {ab : Bool} {col : Option Bool} {dd : Option Addr} {k0 k1 k2 k3 k5 : Option Value} {B newId initId : String}
theorem check_newK (F : ExcBaseFacts B newId initId bmB) (hT : ∀ X : String, bm.contains (.type X) = bmB.contains (.type X)) {rest : List Value} {kw : List (Str × Value)} {Q : Unit → Shared → Prop}
    (hC : h.get? C = some (excClassObj nm q C N bs bm hdct sn sub ab col dd k0 k1 k2 k3 k5 newId)) (hq : Q () ⟨h, g, d, t, os⟩) : wpAny M A (checkBuiltinCall newId ⟨.ref C :: rest, kw⟩) Q E ⟨h, g, d, t, os⟩ := by
  have hcont : (Value.ref C :: bm).contains (.type B) = true := by rw [List.contains_cons, hT, F.hasB, Bool.or_true]
  have hstar := F.noStar
  simp only [checkBuiltinCall, F.newKind, F.newSplit, F.newRow]
  repeat (first | refine wpAny_loadPart_at hC ?_ | (refine wpAny_isSubtype_exc hC ?_; rw [hcont]) | refine wpAny_staticBase_exc hC ?_ | refine wpAny_madeBy_exc hC ?_ | simp only [bne_self_eq_false, Bool.false_eq_true, if_false] | wp_step)
  exact hq
end
section
variable {prog : Program} {w : World} {A : Around} {E : Value → Shared → Prop} {R : Result → Shared → Prop} {h : Heap} {g : Array GenState} {d : Drawn} {t : Nat} {os : OsState}
variable {nm q : Str} {C N : Addr} {bs bm bmB : List Value} {hdct : Bool} {sn : List Str} {sub : List Value} {ab : Bool} {col : Option Bool} {dd : Option Addr} {k0 k1 k2 k3 k5 : Option Value} {B newId initId : String}
theorem new_K (F : ExcBaseFacts B newId initId bmB) (hT : ∀ X : String, bm.contains (.type X) = bmB.contains (.type X)) {rest : List Value} {kw : List (Str × Value)}
    (hC : h.get? C = some (excClassObj nm q C N bs bm hdct sn sub ab col dd k0 k1 k2 k3 k5 newId))
    (hq : R (.ok (.ret (.ref (h.objs.size + 1)))) ⟨(h.push { cls := .type "tuple", data := .seq rest.toArray }).push
      { cls := .ref C, data := .fields #[.ref h.objs.size, .none, .none, .none, .bool false, .none] }, g, d, t, os⟩) (hrest : rest.length ≤ sizeLine) :
    codeAny (model prog w) A (.builtin newId ⟨.ref C :: rest, kw⟩) R ⟨h, g, d, t, os⟩ := by
  have hends := F.ends
  have hcB : (Value.ref C :: bm).contains (.type B) = true := by rw [List.contains_cons, hT, F.hasB, Bool.or_true]
  have hcA : (Value.ref C :: bm).contains (.type "AttributeError") = false := by rw [List.contains_cons, hT, F.noAttr]; rfl
  have hcN : (Value.ref C :: bm).contains (.type "NameError") = false := by rw [List.contains_cons, hT, F.noName]; rfl
  refine codeAny_builtinAt F.entry ?_
  unfold Builtin.«BaseException.__new__»
  refine wpAt_bind ?_
  show wpAt _ _ _ (stack >>= _) _ _ _
  refine wpAt_bind (wpAt_stack fun p below => wpAt_of_wpAny ?_)
  wp_walk
  refine wpAt_of_wpAny ?_
  rw [F.owner]
  repeat (first | with_reducible refine wpAny_madeHere_exc F.canon hC ?_ | with_reducible refine wpAny_loadPart_at hC ?_ | (with_reducible refine wpAny_isSubtype_exc hC ?_; first | rw [hcB] | rw [hcA] | rw [hcN]) | wp_step)
  show R _ _
  rw [Heap.size_push]
  exact hq
theorem type_callK (F : ExcBaseFacts B newId initId bmB) (hT : ∀ X : String, bm.contains (.type X) = bmB.contains (.type X)) {rest : List Value} {kw : List (Str × Value)} {fI : Addr} {Q : Fin → Shared → Prop}
    (hC : h.get? C = some (excClassObj nm q C N bs bm hdct sn sub ab col dd k0 k1 k2 k3 k5 newId))
    (hi : W.Looks (model prog w) h (typeLookup (.ref C) "__init__") (some (.ref fI))) (hb : ∀ self, W.Looks (model prog w) h (bindSpecial (.ref fI) self) (.ref fI, [self])) (hrest : rest.length ≤ sizeLine)
    (hq : codeAny (model prog w) A (.call (.ref fI) ⟨.ref (h.objs.size + 1) :: rest, kw⟩)
      (fun r s' => match r with | .ok (.ret v) => v = .none ∧ Q (.done (.ret (.ref (h.objs.size + 1)))) s' | .ok _ => False | .error e => E e s')
      ⟨(h.push (W.kdv_tup rest)).push (excO C h.objs.size), g, d, t, os⟩) :
    wpAny (model prog w) A (Builtin.«type.__call__» ⟨.ref C :: rest, kw⟩) Q E ⟨h, g, d, t, os⟩ := by
  repeat (first | with_reducible refine wpAny_loadPart_at hC ?_ | with_reducible refine wpAny_madeBy_exc hC ?_ | wp_step)
  refine codeAny_call_builtin_code (Code.quiet_builtin _ F.quiet) (check_newK F hT hC ?_)
  refine new_K F hT hC ?_ hrest
  show wpAny _ _ _ _ _ _
  have k : ∀ b o, h.get? b = some o → ((h.push (W.kdv_tup rest)).push (excO C h.objs.size)).get? b = some o := fun b o e => Heap.get?_push_of_some _ (Heap.get?_push_of_some _ e)
  have hC₁ := k _ _ hC
  have hget : ((h.push (W.kdv_tup rest)).push (excO C h.objs.size)).get? (h.objs.size + 1) = some (excO C h.objs.size) := by heap_get
  have hcC : (Value.ref C :: bm).contains (.ref C) = true := by simp
  have i1 := hi.keeps k
  have b1 := (hb (.ref (h.objs.size + 1))).keeps k
  unfold isInstance
  repeat (first | with_reducible refine wpAny_loadPart_at hget ?_ | (with_reducible refine wpAny_isSubtype_exc hC₁ ?_; rw [hcC]) | wp_step)
  show wpAny _ _ (typeLookup (.ref C) _) _ _ _
  refine i1.at ?_
  refine wpAny_holding (wpAny_bind (b1.at ?_))
  refine wpAny_bind (wpAny_call (codeAny_mono hq fun r s' z => ?_))
  rcases r with e | (v | _ | _ | _) <;> first | exact z | exact z.elim | skip
  obtain ⟨rfl, z⟩ := z
  first
    | exact wpAny_pure (wpAny_pure z)
    | (wp_walk; exact z)
theorem call_K (F : ExcBaseFacts B newId initId bmB) (hT : ∀ X : String, bm.contains (.type X) = bmB.contains (.type X)) {rest : List Value} {kw : List (Str × Value)} {fI : Addr}
    (hC : h.get? C = some (excClassObj nm q C N bs bm hdct sn sub ab col dd k0 k1 k2 k3 k5 newId))
    (hi : W.Looks (model prog w) h (typeLookup (.ref C) "__init__") (some (.ref fI))) (hb : ∀ self, W.Looks (model prog w) h (bindSpecial (.ref fI) self) (.ref fI, [self])) (hrest : rest.length ≤ sizeLine)
    (hq : codeAny (model prog w) (A.under (.builtin "type.__call__" ⟨.ref C :: rest, kw⟩)) (.call (.ref fI) ⟨.ref (h.objs.size + 1) :: rest, kw⟩) (W.InitBack (h.objs.size + 1) R)
      ⟨(h.push (W.kdv_tup rest)).push (excO C h.objs.size), g, d, t, os⟩) :
    codeAny (model prog w) A (.call (.ref C) ⟨rest, kw⟩) R ⟨h, g, d, t, os⟩ := by
  have f1 := tc_lookup
  have f2 := tc_bind (.ref C)
  have hTy : (⟨h, g, d, t, os⟩ : Shared).TypeIs (.ref C) "type" := ⟨_, hC, rfl⟩
  refine codeAny_of_tree ?_
  show wpAny _ _ (callAny (.ref C) _) _ _ _
  repeat (any_goals (first | assumption | with_reducible refine wpAny_loadPart_at hC ?_ | wp_step))
  refine ⟨rfl, ?_⟩
  refine codeAny_call_builtin_at (Code.quiet_builtin _ (by decide +kernel)) entry_typeCall (wpAny_check_type_call_sub hC (type_callK F hT hC hi hb hrest ?_))
  refine codeAny_mono hq fun r s' z => ?_
  rcases r with e | (v | _ | _ | _) <;> exact z
end

/-- what stands behind the making of such an error -/
structure ErMade (h h' : Heap) (e C d : Addr) (m : Str → Option Value) : Prop where
  keep : ∀ b o, h.get? b = some o → h'.get? b = some o
  new : h.objs.size ≤ e
  obj : ∃ t1 : Addr, h'.get? e = some { cls := .ref C, dict := some d, data := .fields #[.ref t1, .none, .none, .none, .bool false, .none] }
  dbig : h.objs.size ≤ d
  dne : d ≠ e
  ns : h'.Ns1 d m
section
variable {prog : Program} {w : World} {A : Around} {R : Result → Shared → Prop} {s : Shared} {K : Frag} {mg : Str → Option Value} {base : Heap} {C fI : Addr}
theorem made_of {m : Str → Option Value} {us : List Value} {kw : List (Str × Value)} {ps : List (Str × Pos)} {body : List Stmt} (T : ErrTxt prog.main K C fI ps body)
    (hM : L2.Mod K mg base) (k0 : ∀ b o, base.get? b = some o → s.heap.get? b = some o) (hroom : A.depth + 1 < recursionLimit) (hl : us.length ≤ sizeLine)
    (hI : ∀ (s' : Shared) (A' : Around) (R' : Result → Shared → Prop) (x t0 : Addr), (∀ b o, base.get? b = some o → s'.heap.get? b = some o) → s'.heap.get? x = some (excO C t0) → K.lookup x = none → A'.depth < recursionLimit →
      (∀ h' tk dx t1, InitEnd s'.heap h' x C dx t1 m → R' (.ok (.ret .none)) { s' with heap := h', toks := tk }) → codeAny (model prog w) A' (.call (.ref fI) ⟨.ref x :: us, kw⟩) R' s')
    (hq : ∀ h' tk e d, ErMade s.heap h' e C d m → R (.ok (.ret (.ref e))) { s with heap := h', toks := tk }) :
    codeAny (model prog w) A (.call (.ref C) ⟨us, kw⟩) R s := by
  obtain ⟨nm, q, N, bs, bm, sn, sub, ab, col, dd, kk0, kk1, kk2, kk3, kk5, hC, hbm⟩ := T.cls
  have X : K.In s.heap := hM.kin.keeps k0
  obtain ⟨hp, g, dr, tk, os⟩ := s
  have k : ∀ b o, hp.get? b = some o → ((hp.push (kdv_tup us)).push (excO C hp.objs.size)).get? b = some o := fun b o e => Heap.get?_push_of_some _ (Heap.get?_push_of_some _ e)
  have hget : ((hp.push (kdv_tup us)).push (excO C hp.objs.size)).get? (hp.objs.size + 1) = some (excO C hp.objs.size) := by heap_get
  have hnx : K.lookup (hp.objs.size + 1) = none := by
    cases e : K.lookup (hp.objs.size + 1) with
    | none => rfl
    | some o =>
      have z : hp.get? (hp.objs.size + 1) = some o := X _ _ e
      exact absurd (Nat.lt_of_succ_lt (Heap.lt_size z)) (Nat.lt_irrefl _)
  refine call_K F.excBase_ValueError (fun X => refsVE_contains X bm hbm) (X _ _ hC) (looks_findIn X T.iC) (fun self => bind_fn X self T.tC) hl ?_
  refine hI ⟨(hp.push (kdv_tup us)).push (excO C hp.objs.size), g, dr, tk, os⟩ _ _ _ _ (fun b o e => k b o (k0 b o e)) hget hnx ?_ fun h' tk' dx t1 ⟨k', hx, dn, dne, hns⟩ => ?_
  · show A.depth + 1 < recursionLimit
    exact hroom
  · have old : ∀ b o, hp.get? b = some o → h'.get? b = some o := fun b o e => k' b o (Nat.ne_of_lt (Nat.lt_succ_of_lt (Heap.lt_size e))) (k b o e)
    have z : hp.objs.size + 1 + 1 ≤ dx := by
      first
        | (simpa only [Heap.size_push] using dn)
        | exact dn
        | (have q := dn; rw [Heap.size_push, Heap.size_push] at q; exact q)
    exact ⟨rfl, hq h' tk' (hp.objs.size + 1) dx ⟨old, Nat.le_succ _, ⟨t1, hx⟩, Nat.le_trans (Nat.le_trans (Nat.le_succ _) (Nat.le_succ _)) z, dne, hns⟩⟩
theorem made1 {f txt : Str} {p : Nat → Pos} {pa pb : Pos} {us : List Value} {kw : List (Str × Value)} {v : Value} (T : ErrTxt prog.main K C fI (ps1 f pa pb) (bd1 f txt p)) (FO : FldOk f) (hno : findIn K (.ref C) f = some none)
    (heq : SupEq txt (p 0) (p 1) (p 2) (p 3) (p 4)) (hM : L2.Mod K mg base) (k0 : ∀ b o, base.get? b = some o → s.heap.get? b = some o) (hroom : A.depth + 1 < recursionLimit) (hl : us.length ≤ sizeLine)
    (hb : ∀ x s' qual body sc doc pm an cdv ct cc, BindsTo s' (ksFn "__init__" qual (eA (ps1 f pa pb)) body sc .none .none doc pm an cdv ct cc) ⟨.ref x :: us, kw⟩ [(Str.ofString "self", .ref x), (f, v)])
    (hq : ∀ h' tk e d, ErMade s.heap h' e C d (fun y => if y = f then some v else none) → R (.ok (.ret (.ref e))) { s with heap := h', toks := tk }) :
    codeAny (model prog w) A (.call (.ref C) ⟨us, kw⟩) R s :=
  made_of T hM k0 hroom hl (fun s' A' R' x t0 k0' hx hnx hr hq' => init1 T FO hno heq hM k0' hx hnx hr _ (hb x) hq') hq
theorem made2 {f1 f2 txt : Str} {p : Nat → Pos} {pa pb pc : Pos} {us : List Value} {kw : List (Str × Value)} {v1 v2 : Value} (T : ErrTxt prog.main K C fI (ps2 f1 f2 pa pb pc) (bd2 f1 f2 txt p)) (FO : Fld2 f1 f2) (hno1 : findIn K (.ref C) f1 = some none) (hno2 : findIn K (.ref C) f2 = some none)
    (heq : SupEq txt (p 0) (p 1) (p 2) (p 3) (p 4)) (hM : L2.Mod K mg base) (k0 : ∀ b o, base.get? b = some o → s.heap.get? b = some o) (hroom : A.depth + 1 < recursionLimit) (hl : us.length ≤ sizeLine)
    (hb : ∀ x s' qual body sc doc pm an cdv ct cc, BindsTo s' (ksFn "__init__" qual (eA (ps2 f1 f2 pa pb pc)) body sc .none .none doc pm an cdv ct cc) ⟨.ref x :: us, kw⟩ [(Str.ofString "self", .ref x), (f1, v1), (f2, v2)])
    (hq : ∀ h' tk e d, ErMade s.heap h' e C d (fun y => if y = f2 then some v2 else if y = f1 then some v1 else none) → R (.ok (.ret (.ref e))) { s with heap := h', toks := tk }) :
    codeAny (model prog w) A (.call (.ref C) ⟨us, kw⟩) R s :=
  made_of T hM k0 hroom hl (fun s' A' R' x t0 k0' hx hnx hr hq' => init2 T FO hno1 hno2 heq hM k0' hx hnx hr _ (hb x) hq') hq
end
end ErrX
end PySem
set_option Elab.async false
set_option linter.all false
set_option maxRecDepth 100000
set_option maxHeartbeats 4000000
namespace L2
open PySem PySem.Spec PyProof.Rows PySem.ErrX
/-! ### two new objects laid at once -/
section
variable {X : Cx} {pins : List (Addr × Obj)} {σ : St} {H : Hp} {s : Shared}
theorem Inv.lay2 {h' : Heap} {a d : Addr} {oa od : HO} {t' : Nat} (I : Inv X pins σ H s) (k : ∀ b u, s.heap.get? b = some u → h'.get? b = some u) (ha : s.heap.objs.size ≤ a) (hd : s.heap.objs.size ≤ d) (ne : d ≠ a)
    (na : ObjOk X.prog X.w (upd (upd H d od) a oa) h' a oa) (nd : ObjOk X.prog X.w (upd (upd H d od) a oa) h' d od) : Inv X pins σ (upd (upd H d od) a oa) { s with heap := h', toks := t' } := by
  have Ha : H a = none := I.hok.fresh ha
  have Hd : H d = none := I.hok.fresh hd
  have old : ∀ {b u}, s.heap.get? b = some u → b ≠ a ∧ b ≠ d := fun {b u} e => ⟨Nat.ne_of_lt (Nat.lt_of_lt_of_le (Heap.lt_size e) ha), Nat.ne_of_lt (Nat.lt_of_lt_of_le (Heap.lt_size e) hd)⟩
  have up : ∀ {b o}, H b = some o → upd (upd H d od) a oa b = some o := fun {b o} e => by rw [upd_ne (ne_of_none e Ha), upd_ne (ne_of_none e Hd)]; exact e
  refine I.un (h' := h') ⟨fun b o q _ _ _ => k b o q, fun b o q _ _ _ => ⟨o.slots, k b o q⟩, fun b o q n _ => by rw [upd_ne (old q).1, upd_ne (old q).2]; exact n, fun b o q _ => ⟨o, k b o q⟩,
    fun b xs q => up q, fun b o u q => up q, fun b ps q => ⟨#[], by rw [up q]; simp⟩⟩ fun b u e => ?_
  by_cases h1 : b = a
  · subst h1
    rw [upd_same] at e
    cases e
    exact na
  · by_cases h2 : b = d
    · subst h2
      rw [upd_ne h1, upd_same] at e
      cases e
      exact nd
    · rw [upd_ne h1, upd_ne h2] at e
      exact (I.hok b u e).stay (fun c v _ q => k c v q) (fun c q => up q) fun c xs q => up q
end

/-- the class at C is made with n values by position and those named ks: fsOf tells the fields that stand then -/
def Mkr (P : Program) (w : World) (K : PySem.W.Frag) (mg : Str → Option Value) (base : Heap) (C : Addr) (n : Nat) (ks : List Str) (fsOf : List V → List (Str × V)) : Prop :=
  ∀ (A : Around) (R : Result → Shared → Prop) (s : Shared) (us ws : List Value) (vs zs : List V), Vals vs us → Vals zs ws → vs.length = n → zs.length = ks.length → Mod K mg base → (∀ b o, base.get? b = some o → s.heap.get? b = some o) → A.depth + 1 < recursionLimit →
    (∀ h' tk e d m, ErMade s.heap h' e C d m → (∀ f, RelO ((fsOf (vs ++ zs)).lookup f) (m f)) → R (.ok (.ret (.ref e))) { s with heap := h', toks := tk }) → codeAny (model P w) A (.call (.ref C) ⟨us, ks.zip ws⟩) R s
section
variable {P : Program} {w : World} {K : PySem.W.Frag} {mg : Str → Option Value} {base : Heap} {C fI : Addr}
theorem relO1 {f : Str} {x : V} {u : Value} (r : RelV x u) (g : Str) : RelO ([(f, x)].lookup g) (if g = f then some u else none) := relO_put (fs := []) (mA := fun _ => none) r (fun _ => True.intro) g
/-- by position -/
theorem mkr1 {f txt : Str} {p : Nat → Pos} {pa pb : Pos} (T : ErrTxt P.main K C fI (ps1 f pa pb) (bd1 f txt p)) (FO : FldOk f) (hno : PySem.W.findIn K (.ref C) f = some none) (heq : SupEq txt (p 0) (p 1) (p 2) (p 3) (p 4)) :
    Mkr P w K mg base C 1 [] (fun vs => match vs with | [x] => [(f, x)] | _ => []) := fun A R s us ws vs zs r rz l1 l2 hM k0 hr hq => by
  cases rz with
  | cons _ _ => cases l2
  | nil =>
    cases r with
    | nil => cases l1
    | cons r rr =>
      cases rr with
      | cons _ _ => cases l1
      | nil =>
        rename_i x u
        refine made1 (v := u) (kw := []) T FO hno heq hM k0 hr (by show 1 ≤ sizeLine; rw [sizeLine_eq]; omega) (fun x s' qual body sc doc pm an cdv ct cc => .of_eq (FO.bi _ _ _ _ _ _ _ _ _ _ _ _ _)) fun h' tk e d M => hq h' tk e d _ M (relO1 r)
theorem mkr1k {f txt : Str} {p : Nat → Pos} {pa pb : Pos} (T : ErrTxt P.main K C fI (ps1 f pa pb) (bd1 f txt p)) (FO : FldOk f) (hno : PySem.W.findIn K (.ref C) f = some none) (heq : SupEq txt (p 0) (p 1) (p 2) (p 3) (p 4)) :
    Mkr P w K mg base C 0 [f] (fun vs => match vs with | [x] => [(f, x)] | _ => []) := fun A R s us ws vs zs r rz l1 l2 hM k0 hr hq => by
  cases r with
  | cons _ _ => cases l1
  | nil =>
    cases rz with
    | nil => cases l2
    | cons r rr =>
      cases rr with
      | cons _ _ => cases l2
      | nil =>
        rename_i x u
        refine made1 (v := u) (kw := [(f, u)]) T FO hno heq hM k0 hr (by show 0 ≤ sizeLine; omega) (fun x s' qual body sc doc pm an cdv ct cc => .of_eq (FO.bk _ _ _ _ _ _ _ _ _ _ _ _ _)) fun h' tk e d M => hq h' tk e d _ M (relO1 r)
theorem relO2 {f1 f2 : Str} {x y : V} {u v : Value} (r1 : RelV x u) (r2 : RelV y v) (g : Str) : RelO ([(f2, y), (f1, x)].lookup g) (if g = f2 then some v else if g = f1 then some u else none) := relO_put (fs := [(f1, x)]) r2 (relO1 r1) g
theorem mkr2 {f1 f2 txt : Str} {p : Nat → Pos} {pa pb pc : Pos} (T : ErrTxt P.main K C fI (ps2 f1 f2 pa pb pc) (bd2 f1 f2 txt p)) (FO : Fld2 f1 f2) (hno1 : PySem.W.findIn K (.ref C) f1 = some none) (hno2 : PySem.W.findIn K (.ref C) f2 = some none) (heq : SupEq txt (p 0) (p 1) (p 2) (p 3) (p 4)) :
    Mkr P w K mg base C 2 [] (fun vs => match vs with | [x, y] => [(f2, y), (f1, x)] | _ => []) := fun A R s us ws vs zs r rz l1 l2 hM k0 hr hq => by
  cases rz with
  | cons _ _ => cases l2
  | nil =>
    match vs, us, r, l1 with
    | [x, y], [u, v], .cons r1 (.cons r2 .nil), _ =>
      exact made2 (v1 := u) (v2 := v) (kw := []) T FO hno1 hno2 heq hM k0 hr (by show 2 ≤ sizeLine; rw [sizeLine_eq]; omega) (fun x s' qual body sc doc pm an cdv ct cc => .of_eq (FO.bi _ _ _ _ _ _ _ _ _ _ _ _ _ _ _)) fun h' tk e d M => hq h' tk e d _ M (relO2 r1 r2)
theorem mkr2k {f1 f2 txt : Str} {p : Nat → Pos} {pa pb pc : Pos} (T : ErrTxt P.main K C fI (ps2 f1 f2 pa pb pc) (bd2 f1 f2 txt p)) (FO : Fld2 f1 f2) (hno1 : PySem.W.findIn K (.ref C) f1 = some none) (hno2 : PySem.W.findIn K (.ref C) f2 = some none) (heq : SupEq txt (p 0) (p 1) (p 2) (p 3) (p 4)) :
    Mkr P w K mg base C 0 [f2, f1] (fun vs => match vs with | [y, x] => [(f2, y), (f1, x)] | _ => []) := fun A R s us ws vs zs r rz l1 l2 hM k0 hr hq => by
  cases r with
  | cons _ _ => cases l1
  | nil =>
    match zs, ws, rz, l2 with
    | [y, x], [v, u], .cons r2 (.cons r1 .nil), _ =>
      exact made2 (v1 := u) (v2 := v) (kw := [(f2, v), (f1, u)]) T FO hno1 hno2 heq hM k0 hr (by show 0 ≤ sizeLine; omega) (fun x s' qual body sc doc pm an cdv ct cc => .of_eq (FO.bk _ _ _ _ _ _ _ _ _ _ _ _ _ _ _)) fun h' tk e d M => hq h' tk e d _ M (relO2 r1 r2)
end

/-! ### such a class called -/
/-- C(..): a new error at a, its dict at d -/
def tMkE (C : Addr) (n m : Nat) (fsOf : List V → List (Str × V)) (t tk : TA) : TE := fun σ H Q => t σ H fun vs H1 => tk σ H1 fun zs H2 => vs.length = n ∧ zs.length = m ∧
  ∀ a d, H2 a = none → H2 d = none → d ≠ a → Q (.ref a) (upd (upd H2 d (exd d (fsOf (vs ++ zs)))) a (exo a C (some d)))
section
variable {X : Cx} {C : Addr} {n : Nat} {ks : List Str} {fsOf : List V → List (Str × V)} {x : Str} {p pos : Pos} {e : Expr} {es : List Expr} {kws : List Keyword} {t tk : TA} {k : Nat}
theorem run_mkr {pins : List (Addr × Obj)} {σ : St} {H : Hp} {s : Shared} {Q : VK} {us ws : List Value} {vs zs : List V} {E : Value → Shared → Prop} (M : Mkr X.prog X.w X.K X.mg X.base C n ks fsOf) (hr : Room (k + 1) X.A) (I : Inv X pins σ H s) (r : Vals vs us) (rz : Vals zs ws)
    (l1 : vs.length = n) (l2 : zs.length = ks.length) (h : ∀ a d, H a = none → H d = none → d ≠ a → Q (.ref a) (upd (upd H d (exd d (fsOf (vs ++ zs)))) a (exo a C (some d)))) :
    wpAny (model X.prog X.w) X.A (call (.ref C) us (ks.zip ws)) (EP X pins σ Q) E s := by
  refine wpAny_call (M X.A _ s us ws vs zs r rz l1 l2 I.ok.mod I.bk (by have := hr.dp; omega) fun h' tk a d m R hm => ?_)
  obtain ⟨t1, ho⟩ := R.obj
  exact ⟨.ref a, _, I.lay2 R.keep R.new R.dbig R.dne (exo_ok ho) (exd_ok R.ns hm), rfl, h a d (I.hok.fresh R.new) (I.hok.fresh R.dbig) R.dne⟩
theorem pe_mkr (M : Mkr X.prog X.w X.K X.mg X.base C n [] fsOf) (hr : Room (k + 1) X.A) (hg : Gl X x) (hm : X.mg x = some (.ref C)) (hk : PySem.W.keepIn X.K (.ref C) = true) (ha : PA X (e :: es) t)
    (hdb : (x == ("__debug__" : Str)) = false := by decide) (he : starEach (e :: es) X.env = (false, eval e X.env) :: starEach es X.env := by rfl) (hpl : (backTo pos (starEach es X.env)).any (·.1) = false := by rfl) :
    PE X (.Call (.Name x p) (e :: es) [] pos) (tMkE C n 0 fsOf t tNil) := by
  refine ⟨fun pins s σ H Q I h => ?_⟩
  refine wpAny_Call_Name_kw (ld_glob I hg hm ?_ hdb)
  refine PySem.W.callWith_K (h₀ := X.base) I.ok.mod.kin hk (thn (ha.run pos pins s σ H _ I h) fun us s1 ⟨vs, H1, I1, r, l1, _, q⟩ => ⟨I1.kIn, ?_⟩) he hpl
  exact run_mkr (ws := []) (zs := []) M hr I1 r .nil l1 rfl q
theorem pe_mkrK (M : Mkr X.prog X.w X.K X.mg X.base C 0 ks fsOf) (hr : Room (k + 1) X.A) (hg : Gl X x) (hm : X.mg x = some (.ref C)) (hk : PySem.W.keepIn X.K (.ref C) = true) (hkw : PK X kws tk)
    (hall : (backToKw pos (keywordEach kws X.env)).all (·.1.isSome) = true := by rfl) (hks : (backToKw pos (keywordEach kws X.env)).filterMap (·.1) = ks := by rfl) (hdb : (x == ("__debug__" : Str)) = false := by decide)
    (hpl : ((backTo pos (starEach [] X.env)).any (·.1) || (backToKw pos (keywordEach kws X.env)).any (·.1.isNone)) = false := by rfl) :
    PE X (.Call (.Name x p) [] kws pos) (tMkE C 0 ks.length fsOf tNil tk) := by
  refine ⟨fun pins s σ H Q I h => ?_⟩
  refine wpAny_Call_Name_kw (ld_glob I hg hm ?_ hdb)
  refine PySem.W.callWith_KW0 (h₀ := X.base) I.ok.mod.kin hk hall ?_ hpl
  refine thn (hkw.run pos pins s σ H _ I h) fun ws s2 ⟨zs, H2, I2, rz, _, l2, q2⟩ => ⟨I2.kIn, ?_⟩
  rw [hks]
  exact run_mkr (us := []) (vs := []) M hr I2 .nil rz rfl l2 q2
end

/-! ### its fields -/
/-- at a: an object of the class at C with its dict at d (an error that flew has other fields) -/
def exl (a C d : Addr) : HO := .ext fun h => ∃ o vs, h.get? a = some o ∧ o.cls = .ref C ∧ o.dict = some d ∧ o.data = .fields vs
theorem exl_ok {P : Program} {w : World} {H : Hp} {h : Heap} {a C d : Addr} {o : Obj} {vs : Array Value} (e : h.get? a = some o) (hc : o.cls = .ref C) (hd : o.dict = some d) (hv : o.data = .fields vs) : ObjOk P w H h a (exl a C d) :=
  ⟨⟨o, vs, e, hc, hd, hv⟩, ⟨o, e⟩, fun h1 h2 z k => by
    obtain ⟨o, vs, q, r⟩ := z
    exact ⟨o, vs, k _ q, r⟩⟩
/-- at a (read): an error of the class at C with the fields fs -/
def ErAt (H : Hp) (a C : Addr) (fs : List (Str × V)) : Prop := ∃ d, (Rd H a (exo a C (some d)) ∨ Rd H a (exl a C d)) ∧ (H d = some (exd d fs) ∨ H d = some (.xd fs))
theorem ErAt.look {X : Cx} {pins : List (Addr × Obj)} {σ : St} {H : Hp} {s : Shared} {a C : Addr} {fs : List (Str × V)} (I : Inv X pins σ H s) (e : ErAt H a C fs) :
    ∃ ox od, PySem.W.InstAt s.heap a ox C (some od) ∧ ∃ m : Str → Option Value, (∀ n, PySem.W.lookIn n od = some (m n)) ∧ ∀ f, RelO (fs.lookup f) (m f) := by
  obtain ⟨d, ha, hd⟩ := e
  have oa : ∃ o vs, s.heap.get? a = some o ∧ o.cls = .ref C ∧ o.dict = some d ∧ o.data = .fields vs := by
    rcases ha with ha | ha
    · have oa : ObjOk X.prog X.w H s.heap a (exo a C (some d)) := ha.ok I.hok
      have oa' : ObjOk X.prog X.w H s.heap a (.ext fun h => ∃ t1 : Addr, h.get? a = some ({ cls := .ref C, dict := some d, data := .fields #[.ref t1, .none, .none, .none, .bool false, .none] } : Obj)) := oa
      obtain ⟨t1, hx⟩ := oa'.1
      exact ⟨_, _, hx, rfl, rfl, rfl⟩
    · have oa : ObjOk X.prog X.w H s.heap a (exl a C d) := ha.ok I.hok
      have oa' : ObjOk X.prog X.w H s.heap a (.ext fun h => ∃ o vs, h.get? a = some o ∧ o.cls = .ref C ∧ o.dict = some d ∧ o.data = .fields vs) := oa
      exact oa'.1
  obtain ⟨ox, vs, hx, hc, hdd, hv⟩ := oa
  have od : ∃ mA, s.heap.Ns1 d mA ∧ ∀ f, RelO (fs.lookup f) (mA f) := by
    rcases hd with hd | hd
    · exact exd_at I.hok hd
    · exact I.hok d _ hd
  obtain ⟨mA, hn, hr⟩ := od
  obtain ⟨o, ho, hl⟩ := lookIn_ns hn
  exact ⟨ox, o, ⟨hx, hc, by unfold PySem.W.notCls; rw [hv] <;> rfl, by rw [hdd]; exact ho⟩, mA, hl, hr⟩
/-- e.f -/
def tEf (C : Addr) (f : Str) (te : TE) : TE := fun σ H Q => te σ H fun x H1 => ∃ a fs v, x = .ref a ∧ ErAt H1 a C fs ∧ fs.lookup f = some v ∧ Q v H1
section
variable {X : Cx}
theorem pe_ef {e : Expr} {te : TE} {pos : Pos} {n : Str} (he : PE X e te) (hb : attributeBase e n X.env (eval e X.env) = eval e X.env := by rfl) :
    PE X (.Attribute e n pos) (fun σ H Q => te σ H fun x H1 => ∃ a C fs v, x = .ref a ∧ XfC X.K C ∧ PySem.W.findIn X.K (.ref C) n = some none ∧ ErAt H1 a C fs ∧ fs.lookup n = some v ∧ Q v H1) := by
  refine ⟨fun pins s σ H Q I h => ?_⟩
  refine attr_of hb (thn (he.run pins s σ H _ I h) fun u s1 hh => ?_)
  obtain ⟨x, H1, I1, rx, a, C, fs, v, rfl, T, hno, ea, l, q⟩ := hh
  obtain rfl : u = Value.ref a := rx
  obtain ⟨ox, od, J, m, hl, hr⟩ := ea.look I1
  obtain ⟨u, hu, ru⟩ := RelO.some_of (v := v) (o := m n) (by rw [← l]; exact hr n)
  exact HandSPX.exc_get I1.kIn J T.ga T.gg T.exC (PySem.W.findObj_own T.hdC hno rfl (by rw [hl, hu])) (handed_of ru) ⟨v, H1, I1.tok _, ru, q⟩
/-- at a: an error of the class at D, with a dict or (not stored to) without -/
def ErI (H : Hp) (a D : Addr) : Prop := (∃ fs, ErAt H a D fs) ∨ H a = some (exo a D none)
theorem ErI.look {pins : List (Addr × Obj)} {σ : St} {H : Hp} {s : Shared} {a D : Addr} (I : Inv X pins σ H s) (e : ErI H a D) : ∃ ox od, PySem.W.InstAt s.heap a ox D od := by
  rcases e with ⟨fs, e⟩ | e
  · obtain ⟨ox, od, J, _⟩ := e.look I
    exact ⟨ox, some od, J⟩
  · obtain ⟨t1, hx⟩ := exo_at I.hok e
    exact ⟨_, none, ⟨hx, rfl, rfl, trivial⟩⟩
/-- isinstance(e, c) -/
def rIsErr (K : PySem.W.Frag) : List V → Hp → VK → Prop := fun xs H Q => ∃ (a D : Addr) (c : V) (cv : Value) (b : Bool), xs = [.ref a, c] ∧ ExcC K D ∧ ErI H a D ∧ (∀ u, RelV c u → u = cv) ∧ PySem.W.kitOne K (.ref D) cv = some b ∧ Q (.bl b) H
theorem call_isErr : CallR X (.builtin "isinstance") (rIsErr X.K) := by
  intro pins s σ H xs us Q I r h
  obtain ⟨a, D, c, cv, b, rfl, C, ea, hcv, e, q⟩ := h
  cases r with
  | cons rx rr =>
    cases rr with
    | cons rt rr =>
      cases rr
      cases rx
      have ec := hcv _ rt
      subst ec
      obtain ⟨ox, od, J⟩ := ea.look I
      have hcl : (PySem.W.clsIn X.K D).isSome = true := by
        obtain ⟨cd, hc, _⟩ := PySem.W.any_some C.hd
        rw [hc]; rfl
      exact PySem.W.kia_one (PySem.W.kitx_exc hcl C.hg C.hk C.hs C.ha C.hn C.ht C.hm) I.kIn J e (fun z => nomatch z) fun tk => ⟨.bl b, H, I.kept (t' := tk) fun _ _ z => z, rfl, q⟩
/-- .. of the error that a suite holds -/
def rIsHeld (K : PySem.W.Frag) (a : Addr) (cls : Value) (d : Option Addr) : List V → Hp → VK → Prop := fun xs H Q => ∃ (D dd : Addr) (c : V) (cv : Value) (b : Bool) (fs : List (Str × V)), cls = .ref D ∧ d = some dd ∧ ExcC K D ∧ xs = [.ref a, c] ∧ H dd = some (.xd fs) ∧ (∀ u, RelV c u → u = cv) ∧ PySem.W.kitOne K (.ref D) cv = some b ∧ Q (.bl b) H
theorem call_isHeld {a : Addr} {cls : Value} {d : Option Addr} {oe : Obj} {pn : List (Addr × Obj)} (hz : Zc cls d oe) (hf : ∃ vs, oe.data = .fields vs) : CallR (X.suite a ((a, oe) :: pn)) (.builtin "isinstance") (rIsHeld X.K a cls d) := by
  intro pins s σ H xs us Q I r h
  obtain ⟨D, dd, c, cv, b, fs, rfl, rfl, C, rfl, hd, hcv, e, q⟩ := h
  cases r with
  | cons rx rr =>
    cases rr with
    | cons rt rr =>
      cases rr
      cases rx
      have ec := hcv _ rt
      subst ec
      obtain ⟨hat, _⟩ := I.pin (a, oe) (List.mem_append.mpr (.inl List.mem_cons_self))
      obtain ⟨vs, hv⟩ := hf
      obtain ⟨mA, hn, _⟩ : ∃ mA, s.heap.Ns1 dd mA ∧ ∀ f, RelO (fs.lookup f) (mA f) := I.hok dd _ hd
      obtain ⟨od, ho, _⟩ := lookIn_ns hn
      have J : PySem.W.InstAt s.heap a oe D (some od) := ⟨hat, hz.1, by unfold PySem.W.notCls; rw [hv] <;> rfl, by rw [hz.2]; exact ho⟩
      have hcl : (PySem.W.clsIn X.K D).isSome = true := by
        obtain ⟨cd, hc, _⟩ := PySem.W.any_some C.hd
        rw [hc]; rfl
      exact PySem.W.kia_one (PySem.W.kitx_exc hcl C.hg C.hk C.hs C.ha C.hn C.ht C.hm) I.kIn J e (fun z => nomatch z) fun tk => ⟨.bl b, H, I.kept (t' := tk) fun _ _ z => z, rfl, q⟩
end
end L2
set_option Elab.async false
set_option linter.all false
set_option maxRecDepth 100000
set_option maxHeartbeats 4000000
namespace PySem.ErrX
open PySem PySem.W
theorem fo_given : FldOk (Str.ofString "given") := ⟨rfl, rfl, rfl, rfl, by decide +kernel, by decide +kernel, by decide +kernel, fun _ _ _ _ _ _ _ _ _ _ _ _ _ => rfl, fun _ _ _ _ _ _ _ _ _ _ _ _ _ => rfl⟩
theorem fo_index : FldOk (Str.ofString "index") := ⟨rfl, rfl, rfl, rfl, by decide +kernel, by decide +kernel, by decide +kernel, fun _ _ _ _ _ _ _ _ _ _ _ _ _ => rfl, fun _ _ _ _ _ _ _ _ _ _ _ _ _ => rfl⟩
theorem fo_text : Fld2 (Str.ofString "line") (Str.ofString "column") := ⟨fun _ _ _ _ _ _ _ _ _ _ _ _ _ _ _ => rfl, fun _ _ _ _ _ _ _ _ _ _ _ _ _ _ _ => rfl, rfl, rfl, rfl, rfl, rfl, by decide +kernel, by decide +kernel, by decide +kernel, by decide +kernel, by decide +kernel, by decide +kernel⟩
end PySem.ErrX
namespace L2
open PySem PySem.Spec PyProof.Rows PySem.ErrX
/-! ### such an error raised -/
section
variable {X : Cx} {C : Addr} {n : Nat} {ks : List Str} {fsOf : List V → List (Str × V)} {x : Str} {p pos : Pos} {e : Expr} {es : List Expr} {kws : List Keyword} {t tk : TA} {k : Nat}
theorem mkp_of {pins : List (Addr × Obj)} {σ : St} {H : Hp} {Q : XK} {hp h' : Heap} {g : Array GenState} {dr : Drawn} {t1 t2 : Nat} {os : OsState} {a d : Addr} {m : Str → Option Value} {fs : List (Str × V)} (I : Inv X pins σ H ⟨hp, g, dr, t1, os⟩) (M : ErMade hp h' a C d m)
    (hr : Raises X (.ref C)) (hm : ∀ f, RelO (fs.lookup f) (m f)) (q : ∀ d, H d = none → Q (.ref C) (some d) (upd H d (.xd fs))) : MkP X pins σ Q (.ref a) ⟨h', g, dr, t2, os⟩ := by
  obtain ⟨u, ho⟩ := M.obj
  have hns := M.ns
  obtain ⟨G, g1, g2⟩ := restrict h' fun b => decide (b ≠ a)
  have gk : ∀ b, b ≠ a → G.get? b = h'.get? b := fun b hb => g1 b (decide_eq_true hb)
  have ge : G.get? a = none := g2 a (by simp)
  have old : ∀ b o, hp.get? b = some o → G.get? b = some o := fun b o q => (gk b (Nat.ne_of_lt (Nat.lt_of_lt_of_le (Heap.lt_size q) M.new))).trans (M.keep b o q)
  have ob : ObjOk X.prog X.w (upd H d (.xd fs)) G d (.xd fs) := ⟨_, hns.at (fun o q => (gk d M.dne).trans q), hm⟩
  have J : Inv X pins σ (upd H d (.xd fs)) ⟨G, g, dr, t2, os⟩ := I.laid (t' := t2) old M.dbig ob
  refine ⟨a, _, _, ⟨G, g, dr, t2, os⟩, _, .ref C, some d, rfl, J, fun b o q => ?_, ge, ho, ⟨rfl, rfl⟩, rfl, rfl, ?_, rfl, I.bare, hr, q d (I.hok.fresh M.dbig)⟩
  · by_cases hb : b = a
    · have q' : G.get? b = some o := q
      rw [hb, ge] at q'; cases q'
    · exact (gk b hb).symm.trans q
  · rw [upd_ne (Ne.symm M.dne)]
    exact I.hok.fresh M.new
/-- C(..) to be raised -/
def tMkX (C : Addr) (n m : Nat) (fsOf : List V → List (Str × V)) (t tk : TA) : St → Hp → XK → Prop := fun σ H Q => t σ H fun vs H1 => tk σ H1 fun zs H2 => vs.length = n ∧ zs.length = m ∧
  ∀ d, H2 d = none → Q (.ref C) (some d) (upd H2 d (.xd (fsOf (vs ++ zs))))
theorem pmk_mkr (M : Mkr X.prog X.w X.K X.mg X.base C n [] fsOf) (hR : Raises X (.ref C)) (hr : Room (k + 1) X.A) (hg : Gl X x) (hm : X.mg x = some (.ref C)) (hk : PySem.W.keepIn X.K (.ref C) = true) (ha : PA X (e :: es) t)
    (hdb : (x == ("__debug__" : Str)) = false := by decide) (he : starEach (e :: es) X.env = (false, eval e X.env) :: starEach es X.env := by rfl) (hpl : (backTo pos (starEach es X.env)).any (·.1) = false := by rfl) :
    PMk X (.Call (.Name x p) (e :: es) [] pos) (tMkX C n 0 fsOf t tNil) := by
  intro pins s σ H Q I h
  refine wpAny_Call_Name_kw (ld_glob I hg hm ?_ hdb)
  refine PySem.W.callWith_K (h₀ := X.base) I.ok.mod.kin hk (thn (ha.run pos pins s σ H _ I h) fun us s1 ⟨vs, H1, I1, r, l1, _, q⟩ => ⟨I1.kIn, ?_⟩) he hpl
  show wpAny _ _ (call (.ref C) us ([].zip [])) _ _ _
  refine wpAny_call (M X.A _ s1 us [] vs [] r .nil l1 rfl I1.ok.mod I1.bk (by have := hr.dp; omega) fun h' tk a d m R hm => ?_)
  obtain ⟨hp, g, dr, t1, os⟩ := s1
  exact mkp_of I1 R hR hm q
theorem pmk_mkrK (M : Mkr X.prog X.w X.K X.mg X.base C 0 ks fsOf) (hR : Raises X (.ref C)) (hr : Room (k + 1) X.A) (hg : Gl X x) (hm : X.mg x = some (.ref C)) (hk : PySem.W.keepIn X.K (.ref C) = true) (hkw : PK X kws tk)
    (hall : (backToKw pos (keywordEach kws X.env)).all (·.1.isSome) = true := by rfl) (hks : (backToKw pos (keywordEach kws X.env)).filterMap (·.1) = ks := by rfl) (hdb : (x == ("__debug__" : Str)) = false := by decide)
    (hpl : ((backTo pos (starEach [] X.env)).any (·.1) || (backToKw pos (keywordEach kws X.env)).any (·.1.isNone)) = false := by rfl) :
    PMk X (.Call (.Name x p) [] kws pos) (tMkX C 0 ks.length fsOf tNil tk) := by
  intro pins s σ H Q I h
  refine wpAny_Call_Name_kw (ld_glob I hg hm ?_ hdb)
  refine PySem.W.callWith_KW0 (h₀ := X.base) I.ok.mod.kin hk hall ?_ hpl
  refine thn (hkw.run pos pins s σ H _ I h) fun ws s2 ⟨zs, H2, I2, rz, _, l2, q2⟩ => ⟨I2.kIn, ?_⟩
  rw [hks]
  refine wpAny_call (M X.A _ s2 [] ws [] zs .nil rz rfl l2 I2.ok.mod I2.bk (by have := hr.dp; omega) fun h' tk a d m R hm => ?_)
  obtain ⟨hp, g, dr, t1, os⟩ := s2
  exact mkp_of I2 R hR hm q2
end
end L2
set_option Elab.async false
set_option linter.all false
set_option maxRecDepth 100000
set_option maxHeartbeats 4000000
namespace L2
open PySem PySem.Spec PyProof.Rows PySem.ErrX
/-! ### several except clauses, some with a name -/
abbrev Su := Addr → Value → Option Addr → TS
/-- what the clauses wish, one after the other; a named one has its slot -/
def wMix (K : PySem.W.Frag) (D : Ends) : List (Value × Option Nat × Su) → WX
  | [] => fun _ _ _ _ => False
  | (c, none, ts) :: r => fun cls d σ H => ∃ b, PySem.W.exmOne K cls c = some b ∧ (b = true → ∀ a, H a = none → ts a cls d D σ H) ∧ (b = false → wMix K D r cls d σ H)
  | (c, some i, ts) :: r => fun cls d σ H => ∃ b, PySem.W.exmOne K cls c = some b ∧
      (b = true → ∀ a, H a = none → ts a cls d { nx := fun σ' H' => D.nx (σ'.set i none) H', rt := D.rt, bk := fun σ' H' => D.bk (σ'.set i none) H', ct := fun σ' H' => D.ct (σ'.set i none) H' } (σ.set i (some (.ref a))) H) ∧ (b = false → wMix K D r cls d σ H)
inductive HdsMix (X : Cx) : List ExceptHandler → List (Value × Option Nat × Su) → Prop
  | nil : HdsMix X [] []
  | cons {x : Str} {c : Value} {ts : Su} {b₀ : Stmt} {suite : List Stmt} {np pos' : Pos} {hds : List ExceptHandler} {l : List (Value × Option Nat × Su)} (hc : Names X x c)
      (hsu : ∀ (a : Addr) (oe : Obj) (cls : Value) (d : Option Addr) (pn : List (Addr × Obj)), Zc cls d oe → (∃ vs, oe.data = .fields vs) → X.base.get? a = none → PSs (X.suite a ((a, oe) :: pn)) (b₀ :: suite) (ts a cls d)) (r : HdsMix X hds l) :
      HdsMix X (.ExceptHandler (some (.Name x np)) none (b₀ :: suite) pos' :: hds) ((c, none, ts) :: l)
  | named {x n : Str} {i : Nat} {c : Value} {ts : Su} {b₀ : Stmt} {suite : List Stmt} {np pos' : Pos} {hds : List ExceptHandler} {l : List (Value × Option Nat × Su)} (hc : Names X x c) (hi : X.N[i]? = some n) (hln : X.env.kindOf n = some .local)
      (hsu : ∀ (a : Addr) (oe : Obj) (cls : Value) (d : Option Addr) (pn : List (Addr × Obj)), Zc cls d oe → (∃ vs, oe.data = .fields vs) → X.base.get? a = none → PSs (X.suite a ((a, oe) :: pn)) (b₀ :: suite) (ts a cls d)) (r : HdsMix X hds l) :
      HdsMix X (.ExceptHandler (some (.Name x np)) (some n) (b₀ :: suite) pos' :: hds) ((c, some i, ts) :: l)
section
variable {X : Cx} {body : List Stmt} {h₀ : ExceptHandler} {hds : List ExceptHandler} {l : List (Value × Option Nat × Su)} {pos : Pos} {tb : WX → TS}
theorem ps_try_mix (hs : X.stack = X.env :: X.outer) (hf : X.env.frame = some X.env.locals) (hN : X.N.Nodup)
    (hb : ∀ (W : WX) (pn : List (Addr × Obj)) (xe : Value → Shared → Prop), Takes (X.tr pn xe) W → PassesOwn (model X.prog X.w) X.A X.env xe → PSs (X.tr pn xe) body (tb W))
    (hh : HdsMix X (h₀ :: hds) l) : PS X (.Try body (h₀ :: hds) [] [] pos) (fun D σ H => tb (wMix X.K D l) D σ H) := by
  refine ⟨fun pins s σ H D I h => ?_⟩
  have ok := I.ok
  have fr : X.A.frames = some (X.env :: X.outer) := ok.frames.trans (congrArg some hs)
  refine wpAny_Try_except ?_
  have caught : ∀ u s', XE (X.tr (X.pn ++ pins) (fun e s₁ => wpAny (model X.prog X.w) X.A (noteFrame e X.env) (fun _ s₂ => wpAny (model X.prog X.w) X.A (setFlight e none) (fun _ s₃ => wpAny (model X.prog X.w) X.A (handleBy e X.env (h₀ :: hds)) (SP X pins D) X.xe s₃) X.xe s₂) X.xe s₁)) (wMix X.K D l) u s' →
      wpAny (model X.prog X.w) X.A (noteFrame u X.env) (fun _ s₂ => wpAny (model X.prog X.w) X.A (setFlight u none) (fun _ s₃ => wpAny (model X.prog X.w) X.A (handleBy u X.env (h₀ :: hds)) (SP X pins D) X.xe s₃) X.xe s₂) X.xe s' := by
    rintro u s' ⟨a, B, sI, _, σ', H', cls, d, rfl, J', nb, up, sky, na, os, ag, wish⟩
    have J : Inv X pins σ' H' sI := J'.ofTry ok
    have sky' : Sky B (X.env :: X.outer) a (Zc cls d) X.env.locals s'.heap := hs ▸ sky
    refine Sky.land Zc.steady fr hf sky' fun h3 fl3 up3 => ?_
    have J3 : Inv X pins σ' H' { s' with heap := h3 } := J.landed nb fl3.1 (up.trans up3) os ag
    obtain ⟨oe3, vs3, he3, hz3, hd3⟩ := fl3.there
    have off : a ∉ frs (X.env :: X.outer) := fun hm => by
      obtain ⟨_, o', e', no⟩ := fl3.2.2.1.mem hm
      cases he3.symm.trans e'
      exact no _ hd3
    have nL : a ≠ X.env.locals := fun z => off (List.mem_filterMap.mpr ⟨X.env, List.mem_cons_self, by rw [hf, z]⟩)
    have nF : a ∉ X.fs := fun hm => by
      obtain ⟨e, he, q⟩ := List.mem_filterMap.mp hm
      exact off (List.mem_filterMap.mpr ⟨e, List.mem_cons_of_mem _ he, q⟩)
    have nB : X.base.get? a = none := by
      cases q : X.base.get? a with
      | none => rfl
      | some o =>
        have z := nb a o (J.bk a o q) fun hm => by
          have y := (J.stack.mem hm).1
          rw [q] at y
          cases y
        rw [fl3.2.1] at z
        cases z
    have S3 := J3.suite he3 hd3 na nL nF
    have LT : PySem.W.Looks (model X.prog X.w) h3 (typeOf (.ref a)) cls := fun A Q E s k q => wpAny_typeOf_ref (k _ _ he3) (by rw [hz3.1]; exact q)
    have asked : ∀ {x : Str} {c : Value} {np : Pos} {Q : Value → Shared → Prop} {E : Value → Shared → Prop}, Names X x c → Q c { s' with heap := h3 } → wpAny (model X.prog X.w) (X.A.mark (some (.ref a))) (eval (.Name x np) X.env) Q E { s' with heap := h3 } := fun {x c np Q E} hc q => by
      obtain ⟨hg, hdbg, hm | ⟨hm, hv, hnn⟩⟩ := hc
      · exact ld_glob (X := X.suite a ((a, oe3) :: (X.pn ++ pins))) S3 hg hm q hdbg
      · exact ld_blt (X := X.suite a ((a, oe3) :: (X.pn ++ pins))) S3 hg hm hv q hnn hdbg
    have fourth : ∀ {h4 : Heap}, HandSPX.FlyingZ B (X.env :: X.outer) a (Zc cls d) h4 → h3.UpToSlots h4 → ∃ oe4, Zc cls d oe4 ∧ (∃ vs, oe4.data = .fields vs) ∧ Inv (X.suite a ((a, oe4) :: (X.pn ++ pins))) [] σ' H' { s' with heap := h4 } := fun {h4} fl4 up4 => by
      have J4 : Inv X pins σ' H' { s' with heap := h4 } := J.landed nb fl4.1 ((up.trans up3).trans up4) os ag
      obtain ⟨oe4, vs4, he4, hz4, hd4⟩ := fl4.there
      exact ⟨oe4, hz4, ⟨_, hd4⟩, J4.suite he4 hd4 na nL nF⟩
    have go : ∀ {hds' : List ExceptHandler} {l' : List (Value × Option Nat × Su)}, HdsMix X hds' l' → wMix X.K D l' cls d σ' H' → wpAny (model X.prog X.w) X.A (handleBy (.ref a) X.env hds') (SP X pins D) X.xe { s' with heap := h3 } := by
      intro hds' l' hk
      induction hk with
      | nil => exact fun z => z.elim
      | @cons x c ts b₀ suite np pos' hds2 l2 hc hsu r ih =>
        rintro ⟨b, hb1, hyes, hno⟩
        refine wpAny_handleBy_cons (codeAny_handlers_test ?_) (by intro q; cases q)
        refine asked hc ((PySem.W.exm_one (M := model X.prog X.w) J3.kIn LT hb1).here ?_)
        cases b with
        | false => exact ih (hno rfl)
        | true =>
          refine codeAny_handlers_suite (HandSPX.lands_againZ fl3 fun h4 fl4 up4 => ?_)
          obtain ⟨oe4, hz4, hd4, S4⟩ := fourth fl4 up4
          refine wpAny_mono ((hsu a oe4 cls d (X.pn ++ pins) hz4 hd4 nB).run [] _ _ H' _ S4 (hyes rfl a na)) (fun f s6 hsp => ?_) (fun _ _ z => False.elim z)
          match f, hsp with
          | .next, ⟨_, _, S6, q6⟩ => exact ⟨_, _, S6.unsuite ok, q6⟩
          | .brk, ⟨_, _, S6, q6⟩ => exact ⟨_, _, S6.unsuite ok, q6⟩
          | .cont, ⟨_, _, S6, q6⟩ => exact ⟨_, _, S6.unsuite ok, q6⟩
          | .ret u, ⟨_, _, _, S6, r6, q6⟩ => exact ⟨_, _, _, S6.unsuite ok, r6, q6⟩
      | @named x n i c ts b₀ suite np pos' hds2 l2 hc hi hln hsu r ih =>
        rintro ⟨b, hb1, hyes, hno⟩
        refine wpAny_handleBy_cons (codeAny_handlers_test ?_) (by intro q; cases q)
        refine asked hc ((PySem.W.exm_one (M := model X.prog X.w) J3.kIn LT hb1).here ?_)
        cases b with
        | false => exact ih (hno rfl)
        | true =>
          refine codeAny_handlers_suite_as (HandSPX.lands_againZ fl3 fun h4 fl4 up4 => ?_)
          obtain ⟨oe4, hz4, hd4, S4⟩ := fourth fl4 up4
          refine store_ok (X := X.suite a ((a, oe4) :: (X.pn ++ pins))) (v := .ref a) S4 hN hi (.inl hln) rfl (fun s5 S5 => ?_) (.inr hln)
          refine wpAny_mono ((hsu a oe4 cls d (X.pn ++ pins) hz4 hd4 nB).run [] s5 _ H' _ S5 (hyes rfl a na)) (fun f s6 hsp => ?_) (fun _ _ z => False.elim z)
          match f, hsp with
          | .next, ⟨_, _, S6, q6⟩ => exact gone_ok (S6.unsuite ok) hN hi hln fun s7 J7 => ⟨_, _, J7, q6⟩
          | .brk, ⟨_, _, S6, q6⟩ => exact gone_ok (S6.unsuite ok) hN hi hln fun s7 J7 => ⟨_, _, J7, q6⟩
          | .cont, ⟨_, _, S6, q6⟩ => exact gone_ok (S6.unsuite ok) hN hi hln fun s7 J7 => ⟨_, _, J7, q6⟩
          | .ret u, ⟨_, _, _, S6, r6, q6⟩ => exact gone_ok (S6.unsuite ok) hN hi hln fun s7 J7 => ⟨_, _, _, J7, r6, q6⟩
    exact go hh wish
  refine wpAny_mono ((hb (wMix X.K D l) (X.pn ++ pins) _ caught PassesOwn.looking).run [] s σ H D (I.toTry _) h) (fun f s1 hsp => ?_) (fun e s1 he => he)
  match f, hsp with
  | .next, ⟨σ', H', J', q⟩ => exact wpAny_execs_nil ⟨σ', H', J'.ofTry ok, q⟩
  | .brk, ⟨σ', H', J', q⟩ => exact ⟨σ', H', J'.ofTry ok, q⟩
  | .cont, ⟨σ', H', J', q⟩ => exact ⟨σ', H', J'.ofTry ok, q⟩
  | .ret u, ⟨v, σ', H', J', r, q⟩ => exact ⟨v, σ', H', J'.ofTry ok, r, q⟩
end
end L2
set_option Elab.async false
set_option linter.all false
set_option maxRecDepth 100000
set_option maxHeartbeats 4000000
namespace L2
open PySem PySem.Spec PyProof.Rows
/-! ### a def's promise where the state around (A) keeps a wish Z of one's own; nothing is raised -/
structure FnZ (Z : Around → Prop) (P : Program) (w : World) (K : PySem.W.Frag) (mg : Str → Option Value) (base : Heap) (f : Addr) (fd : FuncData) (ps : List Str) (sp : Sp) : Prop where
  len : ∀ vs H Q E, sp vs H Q E → vs.length = ps.length
  run : ∀ (A : Around) (outer : List Env) (s : Shared) (H : Hp) (args : Args) (us : List Value) (vs : List V) (Q : VK), Z A → Env0 P w K mg base A outer s H → BindsTo s fd args (ps.zip us) → Vals vs us → sp vs H Q E0 →
    codeAny (model P w) A (.call (.ref f) args) (CR CX0 outer P w H s Q E0) s
theorem FnOk.toZ {P : Program} {w : World} {K : PySem.W.Frag} {mg : Str → Option Value} {base : Heap} {k : Nat} {f : Addr} {fd : FuncData} {ps : List Str} {sp : Sp} {Z : Around → Prop} (F : FnOk P w K mg base CX0 k f fd ps sp) (h : ∀ A, Z A → Room k A) : FnZ Z P w K mg base f fd ps sp :=
  ⟨F.len, fun A outer s H args us vs Q z e b r q => F.run A outer s H args us vs Q E0 (h A z) e b r q⟩
/-- a def's body, calm or not -/
theorem Fun.okZ {Z : Around → Prop} (b : Bool) {P : Program} {w : World} {K : PySem.W.Frag} {mg : Str → Option Value} {base : Heap} {x qual : Str} {st : Stmt} {f : Addr} {fd : FuncData} {N ps : List Str} {sp : Sp} (F : Fun K x qual st f fd) (S : FnScope N ps (defScope st))
    (hZ : ∀ A, Z A → A.depth < recursionLimit) (hC : b = true → ∀ A, Z A → A.handled = none) (len : ∀ vs H Q E, sp vs H Q E → vs.length = ps.length)
    (hbody : ∀ (cdv : Value) (A : Around) (outer : List Env) (s : Shared) (H : Hp) (vs : List V) (Q : VK), Z A → sp vs H Q E0 →
      ∃ t, PSs ({ cxOf CX0 P w K mg base N qual (defScope st) f cdv A outer s H E0 with calm := b } : Cx).nox (defBody st) t ∧ t { nx := fun _ H' => Q .non H', rt := Q } (start N vs) H) : FnZ Z P w K mg base f fd ps sp := by
  obtain ⟨oc, od, kV, doc, pm, an, cdv, ct, osl, rfl, lk, hcd⟩ := F.ex
  refine ⟨len, fun A outer s H args us vs Q hz e0 hb r hsp => ?_⟩
  have hl := len _ _ _ _ hsp
  have KX : K.In s.heap := e0.mod.kin.keeps fun b o e => (e0.bs b o e).1
  have hkind : ∀ y ∈ ps.zip us, (defScope st).names.lookup y.1 = some .local ∨ ((defScope st).names.lookup y.1 = some .cell ∧ ((cellsFrom (s.heap.objs.size + 1) (defScope st).names []).lookup y.1).isSome = true) := fun ⟨n, v⟩ hy =>
    (S.par n (List.of_mem_zip hy).1).elim .inl fun q => .inr ⟨q, PySem.W.cellsFrom_some _ _ _ (.inl q)⟩
  refine codeAny_call_function (hZ A hz) (KX _ _ lk) rfl S.co S.gen rfl (PySem.W.codeRec_of KX hcd) (hb _ _ _ _ ?_)
  refine wpAny_newFunctionEnv_cells S.kind hkind fun env he s1 x => ?_
  subst he
  refine ⟨(e0.mod.nolimit.keeps fun b o e => (e0.bs b o e).1).keeps x.toInCall.keep, codeAny_func ?_⟩
  obtain ⟨t, ht, hq⟩ := hbody cdv A outer s H vs Q hz hsp
  -- the start: as for any def, at an around that handles nothing
  have I0 : Inv (cxOf CX0 P w K mg base N qual (defScope st) f cdv { A with handled := none } outer s H E0) [] (start N vs) H s1 := inv_start S rfl ⟨e0.frames, e0.mod, e0.bs, e0.bsz, e0.funs, e0.frf, e0.hok, e0.bare⟩ hl r x
  have I : Inv ({ cxOf CX0 P w K mg base N qual (defScope st) f cdv A outer s H E0 with calm := b } : Cx) [] (start N vs) H s1 := by
    have ok := I0.ok
    exact ⟨⟨ok.mod, ok.kind, ok.glob, ok.blt, ok.above, ok.inj, ok.has, ok.cab, fun q => hC q A hz, Around.frames_deeper e0.frames, ok.stk, ok.exf, ok.bs, ok.bsz, ok.noex, ok.exfs, ok.funs, ok.frf⟩,
      I0.os, I0.bare, I0.base, I0.loc, I0.cell, I0.free, I0.freeC, I0.pin, I0.hok, I0.len⟩
  refine wpAny_mono (ht.nox.run [] s1 (start N vs) H _ I hq) (fun fl s' hs => ?_) fun e s' hs => hs
  match fl, hs with
  | .ret u, ⟨v, _, H', J, rv, q⟩ => exact ⟨v, H', J.os, J.bare, J.base, J.hok, rv, q⟩
  | .next, ⟨_, H', J, q⟩ => exact ⟨.non, H', J.os, J.bare, J.base, J.hok, rfl, q⟩
  | .brk, ⟨_, _, _, q⟩ => exact False.elim q
  | .cont, ⟨_, _, _, q⟩ => exact False.elim q
section
variable {X : Cx} {Z : Around → Prop} {f : Addr} {fd : FuncData} {ps : List Str} {sp : Sp} {x : Str} {p pos : Pos} {e : Expr} {es : List Expr} {t : TA}
theorem run_fnZ {pins : List (Addr × Obj)} {σ : St} {H : Hp} {s : Shared} {Q : VK} {us : List Value} {vs : List V} (F : FnZ Z X.prog X.w X.K X.mg X.base f fd ps sp) (hz : Z X.A) (hb : Binds X.K fd ps [])
    (I : Inv X pins σ H s) (r : Vals vs us) (h : sp vs H Q E0) {E : Value → Shared → Prop} : wpAny (model X.prog X.w) X.A (call (.ref f) us) (EP X pins σ Q) E s := by
  have hl : (us ++ []).length = ps.length := by
    rw [List.append_nil, ← r.length]
    exact F.len _ _ _ _ h
  have b := hb s us I.kIn hl
  rw [List.append_nil] at b
  refine wpAny_call (codeAny_mono (F.run X.A X.stack s H ⟨us, []⟩ us vs Q hz I.env0 b r h) fun r s' hq => ?_)
  match r, hq with
  | .ok (.ret u), hq => exact I.after hq
/-- f(e, ..) -/
theorem pe_callZ (F : FnZ Z X.prog X.w X.K X.mg X.base f fd ps sp) (hz : Z X.A) (hg : Gl X x) (hm : X.mg x = some (.ref f)) (hk : PySem.W.keepIn X.K (.ref f) = true) (hb : Binds X.K fd ps [])
    (ha : PA X (e :: es) t) (hdb : (x == ("__debug__" : Str)) = false := by decide) (he : starEach (e :: es) X.env = (false, eval e X.env) :: starEach es X.env := by rfl) (hpl : (backTo pos (starEach es X.env)).any (·.1) = false := by rfl) :
    PE X (.Call (.Name x p) (e :: es) [] pos) (fun σ H Q => t σ H fun vs H1 => sp vs H1 Q E0) := by
  refine ⟨fun pins s σ H Q I h => ?_⟩
  refine wpAny_Call_Name_kw (ld_glob I hg hm ?_ hdb)
  refine PySem.W.callWith_K (h₀ := X.base) I.ok.mod.kin hk (thn (ha.run pos pins s σ H _ I h) fun us s1 ⟨vs, H1, I1, r, q⟩ => ⟨I1.kIn, ?_⟩) he hpl
  exact run_fnZ F hz hb I1 r q
end
/-! ### the rooms -/
/-- nothing is handled, and no repr runs -/
structure RoomG (k : Nat) (A : Around) : Prop where
  room : Room k A
  gs : A.guards = some []
theorem RoomG.mono {j k : Nat} {A : Around} (r : RoomG k A) (h : j ≤ k) : RoomG j A := ⟨r.room.mono h, r.gs⟩
theorem deeper_guards {A : Around} {env : Env} : (A.deeper env).guards = A.guards := by
  cases A with
  | mk d h fr g u => cases g <;> rfl
theorem RoomG.deeper {k : Nat} {A : Around} (r : RoomG (k + 1) A) (env : Env) : RoomG k (A.deeper env) := ⟨r.room.deeper env, deeper_guards.trans r.gs⟩
theorem RoomG.depth {k : Nat} {A : Around} (r : RoomG k A) : A.depth < recursionLimit := r.room.depth
/-- room, whatever is handled -/
structure RoomA (k : Nat) (A : Around) : Prop where
  dp : A.depth + 3 * k + 5 < recursionLimit
  un : A.units + 16 * k + 200 < cLine
theorem RoomA.of {k : Nat} {A : Around} (r : Room k A) : RoomA k A := ⟨r.dp, r.un⟩
theorem RoomA.mark {k : Nat} {A : Around} (r : Room k A) (v : Option Value) : RoomA k (A.mark v) := ⟨r.dp, r.un⟩
theorem RoomA.depth {k : Nat} {A : Around} (r : RoomA k A) : A.depth < recursionLimit := by have := r.dp; omega
/-! ### a def called in a suite, the held error among what is passed -/
section
variable {X : Cx} {a : Addr} {oe : Obj} {pn : List (Addr × Obj)} {cls : Value} {d : Option Addr} {Z : Around → Prop} {f : Addr} {fd : FuncData} {ps : List Str} {sp : Sp} {x : Str} {p pos : Pos} {e : Expr} {es : List Expr} {t : TA}
def tHeld (a : Addr) (cls : Value) (d : Option Addr) (sp : Sp) (t : TA) : TE := fun σ H Q => t σ H fun vs H1 => ∃ C dd, cls = .ref C ∧ d = some dd ∧ ∀ o, sp vs (upd H1 a (.frz o (exl a C dd))) (fun v H2 => Q v (del H2 a)) E0
theorem pe_callHeld (hz : Zc cls d oe) (hv : ∃ vs, oe.data = .fields vs) (nB : X.base.get? a = none) (F : FnZ Z X.prog X.w X.K X.mg X.base f fd ps sp) (hr : Z (X.suite a ((a, oe) :: pn)).A) (hg : Gl (X.suite a ((a, oe) :: pn)) x) (hm : X.mg x = some (.ref f)) (hk : PySem.W.keepIn X.K (.ref f) = true) (hb : Binds X.K fd ps [])
    (ha : PA (X.suite a ((a, oe) :: pn)) (e :: es) t) (hdb : (x == ("__debug__" : Str)) = false := by decide) (he : starEach (e :: es) X.env = (false, eval e X.env) :: starEach es X.env := by rfl) (hpl : (backTo pos (starEach es X.env)).any (·.1) = false := by rfl) :
    PE (X.suite a ((a, oe) :: pn)) (.Call (.Name x p) (e :: es) [] pos) (tHeld a cls d sp t) := by
  refine ⟨fun pins s σ H Q I h => ?_⟩
  refine wpAny_Call_Name_kw (ld_glob I hg hm ?_ hdb)
  refine PySem.W.callWith_K (h₀ := X.base) I.ok.mod.kin hk (thn (ha.run pos pins s σ H _ I h) fun us s1 ⟨vs, H1, I1, r, C, dd, ec, ed, q⟩ => ⟨I1.kIn, ?_⟩) he hpl
  subst ec
  subst ed
  obtain ⟨fv, hv⟩ := hv
  obtain ⟨hat, hno, nL, nF, _⟩ := I1.pin (a, oe) (List.mem_append_left _ List.mem_cons_self)
  have hat : s1.heap.get? a = some oe := hat
  have hno : H1 a = none := hno
  have up : ∀ {b u}, H1 b = some u → upd H1 a (.frz oe (exl a C dd)) b = some u := fun {b u} z => by rw [upd_ne (ne_of_none z hno)]; exact z
  have hok : HOk X.prog X.w (upd H1 a (.frz oe (exl a C dd))) s1.heap := fun b u z => by
    by_cases hb : b = a
    · subst hb
      rw [upd_same] at z
      cases z
      exact ⟨hat, exl_ok hat hz.1 hz.2 hv⟩
    · rw [upd_ne hb] at z
      exact (I1.hok b u z).stay (fun _ _ _ y => y) (fun _ y => up y) fun _ _ y => up y
  have nfr : ∀ b ∈ frs X.stack, b ≠ a := fun b hb z => by
    rcases List.mem_cons.mp (I1.stkSub b hb) with y | y
    · exact nL (z.symm.trans y)
    · exact nF (by rw [← z]; exact y)
  have E : Env0 X.prog X.w X.K X.mg X.base (X.suite a ((a, oe) :: pn)).A X.stack s1 (upd H1 a (.frz oe (exl a C dd))) :=
    ⟨I1.ok.frames, I1.ok.mod, fun b o z => ⟨I1.bk b o z, by rw [upd_ne (fun y => by rw [y, nB] at z; cases z)]; exact (I1.bs b o z).2⟩, Nat.le_trans I1.ok.bsz I1.sz, I1.stack,
      fun b hb => by rw [upd_ne (nfr b hb)]; exact I1.stkFree b hb, hok, I1.bare⟩
  have hl : (us ++ []).length = ps.length := by
    rw [List.append_nil, ← r.length]
    exact F.len _ _ _ _ (q oe)
  have hb' := hb s1 us I1.kIn hl
  rw [List.append_nil] at hb'
  show wpAny _ _ (call (.ref f) us) _ _ _
  refine wpAny_call (codeAny_mono (F.run _ X.stack s1 _ ⟨us, []⟩ us vs _ hr E hb' r (q oe)) fun r s' hq => ?_)
  match r, hq with
  | .ok (.ret u), ⟨v, H2, os, bare, un, hok2, rv, qv⟩ =>
    have h2a : H2 a = some (.frz oe (exl a C dd)) := un.frzs a oe _ upd_same
    have ha2 : s'.heap.get? a = some oe := (hok2 a _ h2a).1
    have nown : ∀ {b c}, H2 b = some (.own c) → b ≠ a := fun {b c} z y => by rw [y, h2a] at z; cases z
    have dn : ∀ {b u}, H2 b = some u → b ≠ a → del H2 a b = some u := fun {b u} z y => by rw [del_ne y]; exact z
    have hok3 : HOk X.prog X.w (del H2 a) s'.heap := fun b u z => by
      by_cases hb : b = a
      · rw [hb, del_same] at z
        cases z
      · rw [del_ne hb] at z
        exact (hok2 b u z).stay (fun _ _ _ y => y) (fun c y => dn y (nown y)) fun c xs y => dn y fun w => by rw [w, h2a] at y; cases y
    have U : Un (frs X.stack) [] H1 (del H2 a) s1.heap s'.heap := {
      keep := fun b o z n hf hx => by
        by_cases hb : b = a
        · rw [hb] at z ⊢
          rw [hat] at z
          rw [ha2]
          exact z
        · exact un.keep b o z (by rw [upd_ne hb]; exact n) hf hx
      slot := fun b o z n hf hx => un.slot b o z (by rw [upd_ne (nfr b hf)]; exact n) hf hx
      free := fun b o z n hx => by
        by_cases hb : b = a
        · rw [hb, del_same]
        · rw [del_ne hb]
          exact un.free b o z (by rw [upd_ne hb]; exact n) hx
      there := un.there
      tups := fun b xs z => dn (un.tups b xs (up z)) (ne_of_none z hno)
      frzs := fun b o u z => dn (un.frzs b o u (up z)) (ne_of_none z hno)
      tbls := fun b pp z => by
        obtain ⟨more, y⟩ := un.tbls b pp (up z)
        exact ⟨more, dn y (ne_of_none z hno)⟩ }
    exact ⟨v, del H2 a, I1.call' (ch := []) os U hok3 bare (fun _ z => nomatch z), rv, qv⟩
end
end L2
set_option Elab.async false
set_option linter.all false
set_option maxRecDepth 100000
set_option maxHeartbeats 4000000
namespace L2
open PySem PySem.Spec PyProof.Rows
/-! ### the law's own end, by such a promise -/
theorem law_callZ {Z : Around → Prop} {P : Program} {w : World} {K : PySem.W.Frag} {mg mb : Str → Option Value} {fa a : Addr} {fd : FuncData} {x : Str} {sp : Sp} {s₁ : Shared} {vs : List Value} {ns : List Int}
    (KX : K.In s₁.heap) (hns : s₁.heap.Ns mainGlobals mg) (hb : s₁.heap.Ns builtinsNs mb) (hbb : ∀ x : Str, x ≠ "__name__" → mb x = bootBuiltins x) (hlim : s₁.heap.NoLimit) (hg : s₁.gens = #[])
    (ha : s₁.heap.get? a = some { cls := .type "list", data := .seq vs.toArray }) (hi : IntsAre vs ns) (hl : ns.length ≤ sizeLine) (hz : Z callerA)
    (F : ∀ base : Heap, K.In base → base.Ns mainGlobals mg → FnZ Z P w K mg base fa fd [x] sp) (hbind : ∀ (s : Shared) (u : Value), BindsTo s fd ⟨[u], []⟩ [(x, u)])
    (hsp : ∀ H : Hp, Only H → SqL K H a (ns.map V.int) → sp [.ref a] H (fun v _ => v = .bl true) E0) :
    codeAny (model P w) callerA (.call (.ref fa) ⟨[.ref a], []⟩) (fun r s' => r = .ok (.ret (.bool true)) ∧ OldK s₁.heap s'.heap ∧ s'.os = s₁.os ∧ AllBare s'.gens) s₁ := by
  have rv := vals_ints hi
  -- the abstract heap: the script alone, where it is none of the module's own objects
  obtain ⟨H, hO, hS, hok, hA, hK⟩ : ∃ H : Hp, Only H ∧ SqL K H a (ns.map V.int) ∧ HOk P w H s₁.heap ∧ (∀ b, H b ≠ none → b = a) ∧ (H a ≠ none → K.lookup a = none) := by
    cases hk : K.lookup a with
    | some o =>
      have e := (KX a o hk).symm.trans ha
      cases e
      exact ⟨fun _ => none, fun _ => .inl rfl, .inr ⟨_, vs.toArray, _, hk, rfl, rfl, rfl, by rw [List.size_toArray, hi.length]; exact hl, by simpa using rv⟩, fun b u z => (nomatch z), fun b z => absurd rfl z, fun z => absurd rfl z⟩
    | none =>
      refine ⟨upd (fun _ => none) a (.frz { cls := .type "list", data := .seq vs.toArray } (.lst (ns.map V.int))), fun b => ?_, .inl (.inr ⟨_, upd_same⟩), fun b u z => ?_, fun b z => ?_, fun _ => rfl⟩
      · by_cases q : b = a
        · subst q
          exact .inr ⟨_, _, upd_same⟩
        · exact .inl (upd_ne q)
      · by_cases q : b = a
        · subst q
          rw [upd_same] at z
          cases z
          exact ⟨ha, by rw [List.length_map]; exact hl, vs, _, rv, ha⟩
        · rw [upd_ne q] at z
          cases z
      · by_cases q : b = a
        · exact q
        · exact absurd (upd_ne q) z
  have only : ∀ {b : Addr} {o : Obj}, s₁.heap.get? b = some o → (b = a → o = { cls := .type "list", data := .seq vs.toArray }) := fun {b o} e q => by
    subst q
    exact Option.some.inj (e.symm.trans ha)
  have free : ∀ {b : Addr}, b ≠ a → H b = none := fun {b} q => by
    cases z : H b with
    | none => rfl
    | some u => exact absurd (hA b (by rw [z]; simp)) q
  have ns_ : ∀ {b : Addr} {m : Str → Option Value}, s₁.heap.Ns b m → (hidT s₁.heap H).Ns b m := fun {b m} ⟨o, es, ep, e, d, r⟩ => ⟨o, es, ep, hidT_get e (free fun q => by rw [only e q] at d; cases d), d, r⟩
  have kb : K.In (hidT s₁.heap H) := fun b o e => hidT_get (KX b o e) (by
    cases z : H b with
    | none => rfl
    | some u =>
      have q := hA b (by rw [z]; simp)
      subst q
      rw [hK (by rw [z]; simp)] at e
      cases e)
  have md : Mod K mg (hidT s₁.heap H) := ⟨kb, ns_ hns, ⟨mb, ns_ hb, hbb⟩, let ⟨mc, h1, h2⟩ := hlim; ⟨mc, ns_ h1, h2⟩⟩
  have e0 : Env0 P w K mg (hidT s₁.heap H) callerA [] s₁ H := ⟨rfl, md, fun _ _ e => of_hidT e, Nat.le_of_eq (hidT_size _ _), trivial, (fun _ q => nomatch q), hok, .of_eq hg⟩
  refine codeAny_mono ((F _ kb (ns_ hns)).run callerA [] s₁ H ⟨[.ref a], []⟩ [.ref a] [.ref a] _ hz e0 (hbind s₁ (.ref a)) (.cons rfl .nil) (hsp H hO hS)) fun r s' h => ?_
  match r, h with
  | .ok (.ret u), ⟨v, H', os, bare, un, hok', r', q⟩ =>
    have q' : v = .bl true := q
    subst q'
    obtain rfl : u = Value.bool true := r'
    refine ⟨rfl, OldK.of_keep fun b o e => ?_, os, bare⟩
    cases z : H b with
    | none => exact un.keep b o e z (fun y => nomatch y) (fun y => nomatch y)
    | some u =>
      rcases hO b with y | ⟨ob, xs, y⟩
      · rw [z] at y
        cases y
      · have e1 := (hok b _ y).1
        have e2 := (hok' b _ (un.frzs b ob _ y)).1
        rw [e] at e1
        cases e1
        exact e2
theorem walk_ofZ {Z : Around → Prop} {l : PySem.W.OpenLaw} {n : Nat} {q : Program} {loose : List Str} {XP : (Str → Option Value) → Heap → Prop} {YP : World → Heap → Prop} {d : DefRec} {K : Params → PySem.W.Frag} {sp : World → Sp} {x : Str}
    (hn : l.most = some n) (hn2 : n ≤ sizeLine) (hdf : d.params.defaults = []) (hz : Z callerA) (hY : ∀ (w : World) (h : Heap), YP w h → (K w.params).In h)
    (F : ∀ (w : World) (mg : Str → Option Value) (fa : Addr) (h : Heap), (K w.params).In h → h.Ns mainGlobals mg → mg d.name = some (.ref fa) →
      ∃ fd : FuncData, (∀ (s : Shared) (u : Value), BindsTo s fd ⟨[u], []⟩ [(x, u)]) ∧ ∀ base : Heap, (K w.params).In base → base.Ns mainGlobals mg → FnZ Z l.prog w (K w.params) mg base fa fd [x] (sp w))
    (hsp : ∀ (w : World) (H : Hp) (a : Addr) (ns : List Int), ns.length ≤ n → Only H → SqL (K w.params) H a (ns.map V.int) → sp w [.ref a] H (fun v _ => v = .bl true) E0) :
    PySem.W.WalkO q loose XP YP l.row.toRowW d [] (fun f vs => PySem.call f vs) := by
  refine Att.attach_call hn hdf fun w s₀ s₁ mg mb fa o pm cd doc a vs ns G Y ho hd hcd hmg hobj hints hlen hg => ?_
  have KX := hY w _ Y
  obtain ⟨fd, hb, hF⟩ := F w mg fa _ KX G.T.g hmg
  exact law_callZ KX G.T.g G.T.b G.T.builtins G.T.nolimit hg hobj hints (Nat.le_trans hlen hn2) hz hF hb fun H hO hS => hsp w H a ns hlen hO hS
end L2
set_option Elab.async false
set_option linter.all false
set_option maxRecDepth 100000
set_option maxHeartbeats 4000000
namespace L2
open PySem PySem.Spec PyProof.Rows
/-! ### data that is shown: none, bools, ints, texts, lists, tuples, empty dicts -/
mutual
inductive Dq (K : PySem.W.Frag) (H : Hp) : V → PyData → Prop
  | non : Dq K H .non .none
  | bl (b : Bool) : Dq K H (.bl b) (.bool b)
  | int (i : Int) : Dq K H (.int i) (.int i)
  | str (x : Str) : Dq K H (.str x) (.str x)
  | lst {a : Addr} {xs : List V} {ds : List PyData} : SqL K H a xs → DqAll K H xs ds → Dq K H (.ref a) (.list ds)
  | tup {a : Addr} {xs : List V} {ds : List PyData} : SqT K H a xs → DqAll K H xs ds → Dq K H (.ref a) (.tuple ds)
  | dic {a : Addr} : H a = some (.dK []) → Dq K H (.ref a) (.dict [])
inductive DqAll (K : PySem.W.Frag) (H : Hp) : List V → List PyData → Prop
  | nil : DqAll K H [] []
  | cons {v : V} {vs : List V} {d : PyData} {ds : List PyData} : Dq K H v d → DqAll K H vs ds → DqAll K H (v :: vs) (d :: ds)
end
section
variable {X : Cx} {pins : List (Addr × Obj)} {σ : St} {H : Hp} {s : Shared}
theorem dic_at (I : Inv X pins σ H s) {a : Addr} (h : H a = some (.dK [])) : ∃ o n, s.heap.get? a = some o ∧ o.cls = .type "dict" ∧ o.data = .dict #[] n ∧ (a == sysModules) = false := by
  obtain ⟨_, hs, vs, r, o, es, ep, ho, hx, hd, _, he, _⟩ : ([] : List (Key × V)).length ≤ sizeLine ∧ (a == sysModules) = false ∧ ∃ vs, KV ([] : List (Key × V)) vs ∧ s.heap.DictOf (mixKind X.prog X.w) a vs := I.hok a _ h
  cases r
  have e0 : es = #[] := by
    have z : es.toList = [] := by
      generalize es.toList = l at he
      cases he
      rfl
    simpa using congrArg List.toArray z
  subst e0
  exact ⟨o, ep, ho, hx.1, hd, hs⟩
mutual
theorem Dq.reads (I : Inv X pins σ H s) : ∀ (d : PyData) (v : V) (u : Value), Dq X.K H v d → RelV v u → ∃ as, Reads s.heap u d as
  | .none, _, _, .non, r => by cases r; exact ⟨_, Reads.none⟩
  | .bool b, _, _, .bl _, r => by cases r; exact ⟨_, Reads.bool b⟩
  | .int i, _, _, .int _, r => by obtain ⟨t, rfl⟩ := r; exact ⟨_, Reads.int i t⟩
  | .str x, _, _, .str _, r => by obtain ⟨t, rfl⟩ := r; exact ⟨_, Reads.str x t⟩
  | .list ds, _, _, .lst hs ha, r => by
    cases r
    obtain ⟨its, rv, ⟨o, n, ho, hc, _, hd⟩, _⟩ := I.list hs
    obtain ⟨as, hr⟩ := Dq.readsAll I ds _ its ha rv
    exact ⟨_, Reads.list ho hc hd hr⟩
  | .tuple ds, _, _, .tup hs ha, r => by
    cases r
    obtain ⟨its, rv, ⟨o, ho, hc, n, hd⟩, _⟩ := I.tuple hs
    obtain ⟨as, hr⟩ := Dq.readsAll I ds _ its ha rv
    exact ⟨_, Reads.tuple ho hc hd hr⟩
  | .dict [], _, _, .dic h, r => by
    cases r
    obtain ⟨o, n, ho, hc, hd, _⟩ := dic_at I h
    exact ⟨_, Reads.dict ho hc hd .nil .nil⟩
theorem Dq.readsAll (I : Inv X pins σ H s) : ∀ (ds : List PyData) (vs : List V) (us : List Value), DqAll X.K H vs ds → Vals vs us → ∃ as, ReadsAll s.heap us ds as
  | [], _, _, .nil, r => by cases r; exact ⟨_, ReadsAll.nil⟩
  | d :: ds, _, _, .cons h1 h2, r => by
    cases r with
    | cons r1 r2 =>
      obtain ⟨as, q1⟩ := Dq.reads I d _ _ h1 r1
      obtain ⟨bs, q2⟩ := Dq.readsAll I ds _ _ h2 r2
      exact ⟨_, ReadsAll.cons q1 q2⟩
end
/-- what is to be known of shown data -/
structure Fits (d : PyData) : Prop where
  ok : d.showable = true
  sz : d.shown.length ≤ sizeLine
mutual
theorem Dq.repr (I : Inv X pins σ H s) : ∀ (d : PyData) (v : V) (u : Value), Dq X.K H v d → RelV v u → d.showable = true → d.shown.length ≤ sizeLine → ∃ bs, ReadAtMost s.heap d.depth bs ∧ ReprK X.prog X.w bs s.heap d.depth u d.shown
  | .none, _, _, .non, r, _, _ => by cases r; exact ⟨[], (fun _ h => nomatch h), by simp only [PyData.shown]; exact .of_is ReprIs.none _ _ _⟩
  | .bool b, _, _, .bl _, r, _, _ => by cases r; exact ⟨[], (fun _ h => nomatch h), by simp only [PyData.shown]; exact .of_is (ReprIs.bool b) _ _ _⟩
  | .int i, _, _, .int _, r, hs, _ => by obtain ⟨t, rfl⟩ := r; exact ⟨[], (fun _ h => nomatch h), by simp only [PyData.shown]; exact .of_is (ReprIs.int t (by simpa [PyData.showable] using hs)) _ _ _⟩
  | .str x, _, _, .str _, r, _, hz => by obtain ⟨t, rfl⟩ := r; exact ⟨[], (fun _ h => nomatch h), by simp only [PyData.shown]; exact .of_is (ReprIs.str x t (by simpa only [PyData.shown] using hz)) _ _ _⟩
  | .list ds, _, _, .lst hs ha, r, ok, hz => by
    have D : Dq X.K H _ (.list ds) := .lst hs ha
    obtain ⟨as, R⟩ := Dq.reads I _ _ _ D r
    cases r
    have zt : (listText (PyData.shownAll ds)).length ≤ sizeLine := by simpa only [PyData.shown] using hz
    obtain ⟨its, rv, ⟨o, n, ho, hc, _, hd⟩, _⟩ := I.list hs
    obtain ⟨bs, hb, hk⟩ := Dq.reprAll I ds _ its ha rv (by simpa [PyData.showable] using ok) fun t ht => Nat.le_trans (listText_mem_le ht) zt
    have off := not_mem_of_deeper R (show PyData.depthAll ds < (PyData.list ds).depth by simp only [PyData.depth]; omega) hb
    refine ⟨_ :: bs, ReadAtMost.cons R (by simp only [PyData.depth]; omega) hb, ?_⟩
    simp only [PyData.depth, PyData.shown]
    cases its with
    | nil =>
      have e : PyData.shownAll ds = [] := List.eq_nil_of_length_eq_zero (by simpa using hk.length_eq)
      rw [e, listText_nil]
      exact ReprK.listEmpty ho hc hd
    | cons x l => exact ReprK.list ho hc hd off (by simpa using hk.length_eq) fun i y e => hk.item i y (by simpa using e)
  | .tuple ds, _, _, .tup hs ha, r, ok, hz => by
    have D : Dq X.K H _ (.tuple ds) := .tup hs ha
    obtain ⟨as, R⟩ := Dq.reads I _ _ _ D r
    cases r
    have zt : (tupleText (PyData.shownAll ds)).length ≤ sizeLine := by simpa only [PyData.shown] using hz
    obtain ⟨its, rv, ⟨o, ho, hc, n, hd⟩, _⟩ := I.tuple hs
    obtain ⟨bs, hb, hk⟩ := Dq.reprAll I ds _ its ha rv (by simpa [PyData.showable] using ok) fun t ht => Nat.le_trans (tupleText_mem_le ht) zt
    have off := not_mem_of_deeper R (show PyData.depthAll ds < (PyData.tuple ds).depth by simp only [PyData.depth]; omega) hb
    refine ⟨_ :: bs, ReadAtMost.cons R (by simp only [PyData.depth]; omega) hb, ?_⟩
    simp only [PyData.depth, PyData.shown]
    exact ReprK.tuple ho hc hd off hk
  | .dict [], _, _, .dic h, r, ok, hz => by
    have D : Dq X.K H _ (.dict []) := .dic h
    obtain ⟨as, R⟩ := Dq.reads I _ _ _ D r
    cases r
    obtain ⟨o, n, ho, hc, hd, hs⟩ := dic_at I h
    refine ⟨[_], ReadAtMost.cons (n := 0) R (Nat.zero_le _) (fun _ h => nomatch h), ?_⟩
    simp only [PyData.depth, PyData.depthKv, PyData.shown, PyData.shownKv]
    exact ReprK.dict ho hc hd hs (by simp) .nil
theorem Dq.reprAll (I : Inv X pins σ H s) : ∀ (ds : List PyData) (vs : List V) (us : List Value), DqAll X.K H vs ds → Vals vs us → PyData.showableAll ds = true → (∀ t ∈ PyData.shownAll ds, t.length ≤ sizeLine) →
    ∃ bs, ReadAtMost s.heap (PyData.depthAll ds) bs ∧ ReprAllK X.prog X.w bs s.heap (PyData.depthAll ds) us (PyData.shownAll ds)
  | [], _, _, .nil, r, _, _ => by cases r; exact ⟨[], (fun _ h => nomatch h), by simp only [PyData.shownAll]; exact .nil⟩
  | d :: ds, _, _, .cons h1 h2, r, ok, hz => by
    cases r with
    | cons r1 r2 =>
      have ok' : d.showable = true ∧ PyData.showableAll ds = true := by simpa [PyData.showableAll] using ok
      obtain ⟨b1, m1, k1⟩ := Dq.repr I d _ _ h1 r1 ok'.1 (hz _ (by simp only [PyData.shownAll]; exact List.mem_cons_self ..))
      obtain ⟨b2, m2, k2⟩ := Dq.reprAll I ds _ _ h2 r2 ok'.2 fun t ht => hz t (by simp only [PyData.shownAll]; exact List.mem_cons_of_mem _ ht)
      refine ⟨b1 ++ b2, ?_, ?_⟩
      · simp only [PyData.depthAll]
        exact (m1.mono (Nat.le_max_left _ _)).append (m2.mono (Nat.le_max_right _ _))
      · simp only [PyData.depthAll, PyData.shownAll]
        exact .cons ((k1.more fun b hb => List.mem_append_left _ hb).level_le (Nat.le_max_left _ _)) (k2.more_le (fun b hb => List.mem_append_right _ hb) (Nat.le_max_right _ _))
end
/-- repr of a list -/
def rRepL (K : PySem.W.Frag) : List V → Hp → VK → Prop := fun xs H Q => ∃ (a : Addr) (ds : List PyData), xs = [.ref a] ∧ Dq K H (.ref a) (.list ds) ∧ (PyData.list ds).showable = true ∧ (PyData.list ds).shown.length ≤ sizeLine ∧ (PyData.list ds).depth ≤ 60 ∧ Q (.str (PyData.list ds).shown) H
theorem call_repL (hu : X.A.units + 64 < cLine) (hg : X.A.guards = some []) : CallR X (.builtin "repr") (rRepL X.K) := by
  intro pins s σ H xs us Q I r h
  obtain ⟨a, ds, rfl, D, ok, hz, hdep, q⟩ := h
  cases r with
  | cons rx rr =>
    cases rr
    have ru := rx
    cases rx
    obtain ⟨as, R⟩ := Dq.reads I _ _ _ D ru
    have zt : (listText (PyData.shownAll ds)).length ≤ sizeLine := by simpa only [PyData.shown] using hz
    have fin : ∀ (h' : Heap) (u : Tok) (tk : Nat), (∀ b o, s.heap.get? b = some o → h'.get? b = some o) → EP X pins σ Q (.str (listText (PyData.shownAll ds)) u) { s with heap := h', toks := tk } := fun h' u tk k => by
      refine ⟨.str _, H, I.kept (t' := tk) k, ⟨u, rfl⟩, ?_⟩
      simpa only [PyData.shown] using q
    cases D with
    | @lst _ xs _ hs ha =>
      obtain ⟨its, rv, ⟨o, n, ho, hc, _, hd⟩, _⟩ := I.list hs
      obtain ⟨bs, hb, hk⟩ := Dq.reprAll I ds _ its ha rv (by simpa [PyData.showable] using ok) fun t ht => Nat.le_trans (listText_mem_le ht) zt
      have off := not_mem_of_deeper R (show PyData.depthAll ds < (PyData.list ds).depth by simp only [PyData.depth]; omega) hb
      have hdep' : PyData.depthAll ds + 1 ≤ 60 := by simp only [PyData.depth] at hdep; omega
      refine call_repr_slot (by omega) ⟨o, ho, hc⟩ F.slot_list_repr.toG ?_
      cases its with
      | nil =>
        have e : PyData.shownAll ds = [] := List.eq_nil_of_length_eq_zero (by simpa using hk.length_eq)
        have z := fin s.heap s.toks (s.toks + 1) (fun _ _ e => e)
        rw [e, listText_nil] at z
        exact call_list_repr_empty ⟨o, ho, hc⟩ ho hd ⟨_, _, rfl, z⟩
      | cons x l =>
        exact call_list_reprK ho hc hd off (by simpa using hk.length_eq) (fun i y e => hk.item i y (by simpa using e)) hg (fun b _ => Clear.nil b) (by show X.A.units + 1 + _ < cLine; omega) (fun _ _ e => e) (fun h' u tk k => ⟨_, _, rfl, fin h' u tk k⟩) zt
end
end L2
set_option Elab.async false
set_option linter.all false
set_option maxRecDepth 100000
set_option maxHeartbeats 4000000
namespace Toy
open PySem L2
def top (i : Nat) : Stmt := PySem.Challenge.pw_holekinds_k02_names_and_kinds_of_anythin.main.body.getD i (.Pass ⟨0, 0, 0, 0⟩)
abbrev sWell : Stmt := top 21
abbrev sDraw : Stmt := top 22
abbrev sPick : Stmt := top 23
abbrev sSame : Stmt := top 24
/-! ### the well: a list of three ints at wl -/
def WellAt (H : Hp) (wl : Addr) : Prop := ∃ a b c : Int, H wl = some (.lst [.int a, .int b, .int c])
/-- all but the well stays -/
def But (wl : Addr) (H H' : Hp) : Prop := ∀ b o, b ≠ wl → H b = some o → H' b = some o
theorem But.refl {wl : Addr} (H : Hp) : But wl H H := fun _ _ _ h => h
theorem But.trans {wl : Addr} {H H1 H2 : Hp} (a : But wl H H1) (b : But wl H1 H2) : But wl H H2 := fun c o n h => b c o n (a c o n h)
theorem But.of {wl : Addr} {H H' : Hp} (a : Same H H') : But wl H H' := fun c o _ h => a c o h
theorem But.well {wl : Addr} {H : Hp} {o : HO} : But wl H (upd H wl o) := fun b u n h => by rw [upd_ne n]; exact h
theorem same_new {H : Hp} {p : Addr} (h : H p = none) (o : HO) : Same H (upd H p o) := fun b u q => by rw [upd_ne (ne_of_none q h)]; exact q
theorem But.new {wl p : Addr} {H : Hp} (h : H p = none) (o : HO) : But wl H (upd H p o) := .of (same_new h o)
/-! ### promises -/
def spDraw : Sp := fun vs H Q _ => ∃ (wl : Addr) (m : Int), vs = [.ref wl, .int m] ∧ 1 ≤ m ∧ m < 1073741824 ∧ WellAt H wl ∧
  ∀ (f : Int) (H' : Hp), 0 ≤ f → f < m → WellAt H' wl → But wl H H' → Q (.int f) H'
def spPick (K : PySem.W.Frag) : Sp := fun vs H Q _ => ∃ (wl t : Addr) (xs : List V), vs = [.ref wl, .ref t] ∧ WellAt H wl ∧ SqT K H t xs ∧ 1 ≤ xs.length ∧ xs.length < 1073741824 ∧
  ∀ (v : V) (H' : Hp), v ∈ xs → WellAt H' wl → But wl H H' → Q v H'
def spWell (K : PySem.W.Frag) : Sp := fun vs H Q _ => ∃ (a : Addr) (ns : List Int) (t : Int), vs = [.ref a, .int t] ∧ SqL K H a (ns.map V.int) ∧ ns.length ≤ 63 ∧ 0 ≤ t ∧ t ≤ 1000 ∧
  ∀ (p : Addr) (H' : Hp), Same H H' → H p = none → WellAt H' p → Q (.ref p) H'
def spSame (K : PySem.W.Frag) : Sp := fun vs H Q _ => ∃ (a b : Addr) (ds : List PyData), vs = [.ref a, .ref b] ∧ Dq K H (.ref a) (.list ds) ∧ Dq K H (.ref b) (.list ds) ∧ (PyData.list ds).showable = true ∧ (PyData.list ds).shown.length ≤ sizeLine ∧ (PyData.list ds).depth ≤ 60 ∧ Q (.bl true) H
/-- the built-in names that the text uses -/
structure Nm (mg : Str → Option Value) : Prop where
  int : mg "int" = none
  len : mg "len" = none
  abs : mg "abs" = none
  divmod : mg "divmod" = none
  repr : mg "repr" = none
section
variable {P : Program} {w : World} {K : PySem.W.Frag} {mg : Str → Option Value} {base : Heap}
theorem scD : FnScope ["well", "many", "figure", "seed"] ["well", "many"] (defScope sDraw) := ⟨rfl, rfl, rfl, by decide +kernel, rfl, by decide +kernel, by decide +kernel⟩
theorem ok_draw {f : Addr} {fd : FuncData} (F : Fun K "_law_draw" "_law_draw" sDraw f fd) (T : Nm mg) : FnOk P w K mg base CX0 1 f fd ["well", "many"] spDraw := by
  refine F.ok scD (fun vs H Q E h => ?_) (fun cdv A outer s H vs Q E hr h => ?_)
  · obtain ⟨wl, m, rfl, _⟩ := h
    rfl
  obtain ⟨wl, m, rfl, h1, h2, ⟨a, b, c, hw⟩, q⟩ := h
  have ix : ∀ {X : Cx} (j : Int) {p1 p2 p3 : Pos} {k : Nat}, X.N[0]? = some (Str.ofString "well") → Vis X.env.scope "well" → PE X (.Subscript (.Name "well" p1) (.Constant (.int j) k p2) p3) (tOp (rIxL X.K) (tVar 0) (tC (.int j))) := fun j _ _ _ _ hN hv => pe_ix ix_list (pe_var hN hv) pe_int (fun _ _ => rfl)
  refine ⟨_, pss_cons (ps_if (pt_cmpR op_gt (ix 0 rfl (.inl rfl)) pe_int (nomark _))
      (pss_cons (ps_asg (pe_callB call_divmod rfl T.divmod (by decide +kernel) (pa_cons (ix 0 rfl (.inl rfl)) (pa_cons (pv 1) pa_nil))) (pg_tup rfl (pgs_cons (pg_sub (pv 0) pe_int set_list) (pgs_cons (pg_name (i := 2) scD.nd rfl (.inl rfl)) pgs_nil))))
      (pss_one (ps_ret (pv 2)))) pss_nil)
    (pss_cons (ps_asg (pe_op op_add (ix 2 rfl (.inl rfl)) pe_int) (pg_sub (pv 0) pe_int set_list))
    (pss_cons (ps_set (i := 3) scD.nd rfl (.inl rfl) (pe_op op_mod (pe_callTy call_int1 rfl T.int (by decide +kernel) (pa_cons (pe_op op_add (ix 1 rfl (.inl rfl)) (pe_op op_mul pe_int (ix 2 rfl (.inl rfl)))) pa_nil)) pe_int))
    (pss_cons (ps_asg (pe_op op_mod (pe_callTy call_int1 rfl T.int (by decide +kernel) (pa_cons (pe_op op_add (pe_op op_mul (pv 3) (pe_op op_add (pe_op op_mod (pe_callTy call_int1 rfl T.int (by decide +kernel) (pa_cons (pv 3) pa_nil)) pe_int) pe_int)) (pe_op op_mul pe_int (ix 2 rfl (.inl rfl)))) pa_nil)) pe_int) (pg_sub (pv 0) pe_int set_list))
    (pss_one (ps_ret (pe_op op_mod (pe_callTy call_int1 rfl T.int (by decide +kernel) (pa_cons (pe_op op_fdiv (ix 1 rfl (.inl rfl)) pe_int) pa_nil)) (pv 1))))))), ?_⟩
  refine ⟨_, rfl, wl, _, 0, _, rfl, rfl, SqL.of hw, rfl, _, _, rfl, rfl, _, rfl, ?_⟩
  refine ite2 (fun hc => ?_) (fun hc => ?_)
  · refine ⟨_, rfl, wl, _, 0, _, rfl, rfl, SqL.of hw, rfl, _, rfl, _, _, rfl, ⟨by omega, h2⟩, fun p hp => ?_⟩
    have hw' : upd H p (.tup [.int (a / m), .int (a % m)]) wl = some (.lst [.int a, .int b, .int c]) := by rw [upd_ne (ne_of_none hw hp)]; exact hw
    refine ⟨_, _, rfl, SqT.of upd_same, rfl, _, _, rfl, _, rfl, wl, _, 0, 0, rfl, rfl, hw', rfl, _, _, rfl, rfl, ?_⟩
    refine ⟨_, rfl, q (a % m) _ (Int.emod_nonneg _ (by omega)) (Int.emod_lt_of_pos _ (by omega)) ⟨_, _, _, upd_same⟩ ?_⟩
    exact (But.new hp _).trans But.well
  · have r31 : ∀ x : Int, 0 ≤ x % 2147483423 ∧ x % 2147483423 < 2147483423 := fun x => ⟨Int.emod_nonneg _ (by omega), Int.emod_lt_of_pos _ (by omega)⟩
    have hp31 : (0 : Int) < 2147483423 := by decide
    refine ⟨_, rfl, wl, _, 2, _, rfl, rfl, SqL.of hw, rfl, _, _, rfl, rfl, _, rfl, wl, _, 2, 2, rfl, rfl, hw, rfl, ?_⟩
    have h3 : upd H wl (.lst ([V.int a, V.int b, V.int c].set 2 (V.int (c + 1)))) wl = some (.lst [.int a, .int b, .int (c + 1)]) := upd_same
    refine ⟨_, rfl, wl, _, 1, _, rfl, rfl, SqL.of h3, rfl, _, rfl, wl, _, 2, _, rfl, rfl, SqL.of h3, rfl, _, _, rfl, rfl, .inl ⟨by decide, by decide⟩, _, _, rfl, rfl, .inl ⟨_, rfl, _, _, rfl, rfl, hp31, ?_⟩⟩
    obtain ⟨s1, s2⟩ := r31 (b + 50021 * (c + 1))
    refine ⟨_, rfl, _, rfl, .inl ⟨_, rfl, _, _, rfl, rfl, (by show (0 : Int) < 4001; decide), _, _, rfl, rfl, _, _, rfl, rfl, .inl ⟨by omega, by omega⟩, _, rfl, wl, _, 2, _, rfl, rfl, SqL.of h3, rfl, _, _, rfl, rfl, .inl ⟨by decide, by decide⟩, _, _, rfl, rfl, .inl ⟨_, rfl, _, _, rfl, rfl, hp31, _, rfl, wl, _, 1, 1, rfl, rfl, h3, rfl, ?_⟩⟩⟩
    refine ⟨_, rfl, wl, _, 1, _, rfl, rfl, SqL.of upd_same, rfl, _, _, rfl, rfl, ⟨by decide, by decide⟩, .inl ⟨_, rfl, _, rfl, _, _, rfl, rfl, by show (0 : Int) < m; omega, ?_⟩⟩
    exact q _ _ (Int.emod_nonneg _ (by omega)) (Int.emod_lt_of_pos _ (by omega)) ⟨_, _, _, upd_same⟩ (But.well.trans But.well)
theorem scP : FnScope ["well", "some"] ["well", "some"] (defScope sPick) := ⟨rfl, rfl, rfl, by decide +kernel, rfl, by decide +kernel, by decide +kernel⟩
theorem ok_pick {f g : Addr} {fd gd : FuncData} (F : Fun K "_law_pick" "_law_pick" sPick f fd) (T : Nm mg) (G : FnOk P w K mg base CX0 1 g gd ["well", "many"] spDraw) (bG : Binds K gd ["well", "many"] []) (kG : PySem.W.keepIn K (.ref g) = true) (mG : mg "_law_draw" = some (.ref g)) :
    FnOk P w K mg base CX0 2 f fd ["well", "some"] (spPick K) := by
  refine F.ok scP (fun vs H Q E h => ?_) (fun cdv A outer s H vs Q E hr h => ?_)
  · obtain ⟨wl, t, xs, rfl, _⟩ := h
    rfl
  obtain ⟨wl, t, xs, rfl, hw, ht, h1, h2, q⟩ := h
  refine ⟨_, pss_one (ps_ret (pe_ix ix_tup (pv 1) (pe_call G hr rfl mG kG bG .nil pass0 (pa_cons (pv 0) (pa_cons (pe_callB call_len_seq rfl T.len PySem.boot_len (pa_cons (pv 1) pa_nil)) pa_nil))) (fun _ _ => rfl))), ?_⟩
  refine ⟨_, rfl, _, rfl, _, rfl, t, _, rfl, .inr ht, wl, _, rfl, by omega, by omega, hw, fun i H' hi0 hi1 hw' hb => ?_⟩
  obtain ⟨a, b, c, hw0⟩ := hw
  have ht' : SqT K H' t xs := by
    rcases ht with (z | ⟨o, z⟩) | z
    · exact .inl (.inl (hb t _ (ne_of z hw0 (by intro y; cases y)) z))
    · exact .inl (.inr ⟨o, hb t _ (ne_of z hw0 (by intro y; cases y)) z⟩)
    · exact .inr z
  have hlt : i.toNat < xs.length := by omega
  have e : i = ((i.toNat : Nat) : Int) := by omega
  refine ⟨t, xs, i, xs[i.toNat], rfl, rfl, ht', ?_, q _ H' (List.getElem_mem hlt) hw' hb⟩
  have z := atI_nat (xs := xs) (j := i.toNat) (v := xs[i.toNat]) (List.getElem?_eq_getElem hlt)
  rw [← e] at z
  exact z
theorem scS : FnScope ["told", "due"] ["told", "due"] (defScope sSame) := ⟨rfl, rfl, rfl, by decide +kernel, rfl, by decide +kernel, by decide +kernel⟩
theorem ok_same {f : Addr} {fd : FuncData} (F : Fun K "_law_same" "_law_same" sSame f fd) (T : Nm mg) : FnZ (RoomG 1) P w K mg base f fd ["told", "due"] (spSame K) := by
  refine F.okZ true scS (fun A z => z.depth) (fun _ A z => z.room.hd) (fun vs H Q E h => ?_) (fun cdv A outer s H vs Q hz h => ?_)
  · obtain ⟨a, b, ds, rfl, _⟩ := h
    rfl
  obtain ⟨a, b, ds, rfl, ha, hb, ok, sz, dp, q⟩ := h
  have hz' : ∀ env, RoomG 0 (A.deeper env) := fun env => hz.deeper env
  have hu : ∀ env, (A.deeper env).units + 64 < cLine := fun env => by
    have y := (hz' env).room.un
    omega
  refine ⟨_, pss_one (ps_ret (pe_cmpR op_eq (pe_callB (call_repL (hu _) (hz' _).gs) rfl T.repr (by decide +kernel) (pa_cons (pv 0) pa_nil)) (pe_callB (call_repL (hu _) (hz' _).gs) rfl T.repr (by decide +kernel) (pa_cons (pv 1) pa_nil)) (nomark _))), ?_⟩
  refine ⟨_, rfl, a, ds, rfl, ha, ok, sz, dp, _, rfl, b, ds, rfl, hb, ok, sz, dp, rfl, ?_⟩
  rw [decide_eq_true rfl]
  exact q
theorem cut_int {ns : List Int} {lo hi : Option Int} {i : Nat} {y : V} (h : (cutV (ns.map V.int) lo hi)[i]? = some y) : ∃ z, y = V.int z := by
  have m : y ∈ cutV (ns.map V.int) lo hi := List.mem_of_getElem? h
  unfold cutV at m
  have m2 := List.mem_of_mem_drop (List.mem_of_mem_take m)
  obtain ⟨z, _, e⟩ := List.mem_map.mp m2
  exact ⟨z, e.symm⟩
theorem pe_intc {X : Cx} {e : Expr} {te : TE} {p pos : Pos} (hm : X.mg "int" = none) (he : PE X e te) (hg : Gl X "int" := by rfl) (hs : starEach [e] X.env = (false, eval e X.env) :: starEach [] X.env := by rfl) :
    PE X (.Call (.Name "int" p) [e] [] pos) (tCB (fun xs H Q => (∃ i, xs = [.int i] ∧ Q (.int i) H) ∨ ∃ k, xs = [.bl k] ∧ Q (.int (if k then 1 else 0)) H) (tCons te tNil)) := pe_callTy call_int1 hg hm (by decide +kernel) (pa_cons he pa_nil (hs := hs)) (he := hs)
theorem scW : FnScope ["script", "turn", "mixed", "cell", "own"] ["script", "turn"] (defScope sWell) := ⟨rfl, rfl, rfl, by decide +kernel, rfl, by decide +kernel, by decide +kernel⟩
theorem ok_well {f : Addr} {fd : FuncData} (F : Fun K "_law_well" "_law_well" sWell f fd) (T : Nm mg) : FnOk P w K mg base CX0 1 f fd ["script", "turn"] (spWell K) := by
  refine F.ok scW (fun vs H Q E h => ?_) (fun cdv A outer s H vs Q E hr h => ?_)
  · obtain ⟨a, ns, t, rfl, _⟩ := h
    rfl
  obtain ⟨a, ns, t, rfl, hS, h63, ht0, ht1, q⟩ := h
  refine ⟨_, pss_cons (ps_set (i := 2) scW.nd rfl (.inl rfl) (pe_op op_add pe_int (pe_op op_mul pe_int (pv 1))))
    (pss_cons (ps_for PassesOwn.never rfl (pi_list (pe_slice sl_list (pv 0) po_none (po_some pe_int))) (pg_name (i := 3) scW.nd rfl (.inl rfl))
      (pss_one (ps_set (i := 2) scW.nd rfl (.inl rfl) (pe_op op_mod (pe_intc T.int (pe_op op_add (pe_op op_add (pe_op op_mul (pv 2) pe_int) (pe_op op_mod (pe_intc T.int (pv 3)) pe_int)) pe_int)) pe_int))))
    (pss_cons (ps_set (i := 4) scW.nd rfl (.inl rfl) (pe_ifExp (pt_cmpR op_lt (pv 1) (pe_callB call_len_seq rfl T.len PySem.boot_len (pa_cons (pv 0) pa_nil)) (nomark _)) (pe_intc T.int (pe_ix ix_list (pv 0) (pv 1) (fun _ _ => rfl))) pe_int))
    (pss_cons (ps_set (i := 2) scW.nd rfl (.inl rfl) (pe_op op_mod (pe_intc T.int (pe_op op_add (pe_op op_add (pe_op op_mul (pv 2) pe_int) (pe_op op_mul (pe_op op_mod (pe_intc T.int (pv 4)) pe_int) pe_int)) pe_int)) pe_int))
    (pss_one (ps_ret (pe_lst (pa_cons (pe_ifExp (PW.pt (pw_or (pt_cmpR op_lt (pv 4) pe_int (nomark _)) (pw_or1 (pt_cmpR op_ge (pv 4) (pe_op op_pow pe_int pe_int) (nomark _))))) (pe_callB call_abs rfl T.abs (by decide +kernel) (pa_cons (pv 4) pa_nil)) pe_int) (pa_cons (pv 2) (pa_cons pe_int pa_nil))))))))), ?_⟩
  have hp1 : (0 : Int) < 2147483477 := by decide
  have hp2 : (0 : Int) < 2147483423 := by decide
  refine ⟨_, rfl, _, _, rfl, rfl, .inl ⟨by decide, by decide⟩, _, _, rfl, rfl, ?_⟩
  refine ⟨_, rfl, _, rfl, a, _, rfl, hS, fun p hp => ?_⟩
  have hp' : upd H p (.lst (cutV (ns.map V.int) none (some 10))) p = some (.lst (cutV (ns.map V.int) none (some 10))) := upd_same
  have sm := same_new hp (.lst (cutV (ns.map V.int) none (some 10)))
  have hS' := sm.seq hS
  generalize upd H p (.lst (cutV (ns.map V.int) none (some 10))) = H1 at hp' sm hS' ⊢
  refine ⟨p, rfl, ⟨_, SqL.of hp'⟩, for_list (K := K) (a := p) (xs := cutV (ns.map V.int) none (some 10)) (fun i σ H2 => H2 = H1 ∧ ∃ (m : Int) (c : Option V), σ = [some (.ref a), some (.int t), some (.int m), c, none])
    ⟨rfl, _, _, rfl⟩ (fun i σ H2 _ z => by obtain ⟨rfl, _⟩ := z; exact SqL.of hp') ?_ ?_⟩
  · rintro i y σ H2 hi ⟨rfl, m, c, rfl⟩
    obtain ⟨z, rfl⟩ := cut_int hi
    refine ⟨_, rfl, _, _, rfl, rfl, .inr ⟨by decide, by decide⟩, _, rfl, .inl ⟨_, rfl, _, _, rfl, rfl, hp1, _, _, rfl, rfl, _, _, rfl, rfl, .inl ⟨_, rfl, _, _, rfl, rfl, hp2, ?_⟩⟩⟩
    exact ⟨rfl, _, _, rfl⟩
  · rintro σ H2 ⟨rfl, m, c, rfl⟩
    refine ⟨_, rfl, _, rfl, a, _, rfl, .inl hS', _, _, rfl, rfl, _, rfl, ?_⟩
    have fin : ∀ (x y : Int) (p' : Addr), H2 p' = none → Q (.ref p') (upd H2 p' (.lst [.int x, .int y, .int 0])) := fun x y p' hn => by
      have s3 := sm.trans (same_new hn (.lst [.int x, .int y, .int 0]))
      exact q p' _ s3 (sm.free hn) ⟨_, _, _, upd_same⟩
    have sz : 3 ≤ sizeLine := by decide
    refine ite2 (fun hc => ?_) (fun hc => ?_)
    · have hc' : t < (((ns.map V.int).length : Nat) : Int) := of_decide_eq_true hc
      rw [List.length_map] at hc'
      have hlt : t.toNat < ns.length := by omega
      have e : t = ((t.toNat : Nat) : Int) := by omega
      have z := atI_nat (xs := ns.map V.int) (j := t.toNat) (v := .int ns[t.toNat]) (by rw [List.getElem?_map, List.getElem?_eq_getElem hlt] <;> rfl)
      rw [← e] at z
      refine ⟨_, rfl, _, rfl, a, _, _, _, rfl, rfl, hS', z, .inl ⟨_, rfl, ?_⟩⟩
      refine ⟨_, rfl, _, _, rfl, rfl, .inr ⟨by decide, by decide⟩, _, rfl, .inl ⟨_, rfl, _, _, rfl, rfl, hp1, _, _, rfl, rfl, .inr ⟨by decide, by decide⟩, _, _, rfl, rfl, _, _, rfl, rfl, .inl ⟨_, rfl, _, _, rfl, rfl, hp2, ?_⟩⟩⟩
      refine ⟨_, rfl, _, _, rfl, rfl, _, rfl, ?_⟩
      refine ite2 (fun _ => ?_) (fun _ => ?_)
      · exact iteT ⟨_, rfl, _, rfl, _, rfl, sz, fun p' hn => fin _ _ p' hn⟩
      · refine ⟨_, rfl, _, _, rfl, rfl, ⟨by decide, by decide, by decide⟩, _, _, rfl, rfl, _, rfl, ?_⟩
        refine ite2 (fun _ => ?_) (fun _ => ?_)
        · exact ⟨_, rfl, _, rfl, _, rfl, sz, fun p' hn => fin _ _ p' hn⟩
        · exact ⟨_, rfl, sz, fun p' hn => fin _ _ p' hn⟩
    · refine ⟨_, rfl, _, _, rfl, rfl, .inr ⟨by decide, by decide⟩, _, rfl, .inl ⟨_, rfl, _, _, rfl, rfl, hp1, _, _, rfl, rfl, .inr ⟨by decide, by decide⟩, _, _, rfl, rfl, _, _, rfl, rfl, .inl ⟨_, rfl, _, _, rfl, rfl, hp2, ?_⟩⟩⟩
      refine ⟨_, rfl, _, _, rfl, rfl, _, rfl, ?_⟩
      refine ite2 (fun _ => ?_) (fun _ => ?_)
      · exact iteT ⟨_, rfl, _, rfl, _, rfl, sz, fun p' hn => fin _ _ p' hn⟩
      · refine ⟨_, rfl, _, _, rfl, rfl, ⟨by decide, by decide, by decide⟩, _, _, rfl, rfl, _, rfl, ?_⟩
        refine ite2 (fun _ => ?_) (fun _ => ?_)
        · exact ⟨_, rfl, _, rfl, _, rfl, sz, fun p' hn => fin _ _ p' hn⟩
        · exact ⟨_, rfl, sz, fun p' hn => fin _ _ p' hn⟩
end
end Toy
set_option Elab.async false
set_option linter.all false
set_option maxRecDepth 100000
set_option maxHeartbeats 4000000
namespace L2
open PySem PySem.Spec PyProof.Rows
theorem PE.imp {X : Cx} {e : Expr} {t t' : TE} (h : PE X e t) (i : ∀ σ H Q, t' σ H Q → t σ H Q) : PE X e t' := ⟨fun pins s σ H Q I q => h.run pins s σ H Q I (i σ H Q q)⟩
theorem PA.imp {X : Cx} {es : List Expr} {t t' : TA} (h : PA X es t) (i : ∀ σ H Q, t' σ H Q → t σ H Q) : PA X es t' := ⟨fun pos pins s σ H Q I q => h.run pos pins s σ H Q I (i σ H Q q)⟩
theorem Same.seqT {K : PySem.W.Frag} {H H' : Hp} {a : Addr} {xs : List V} (e : Same H H') (h : SqT K H a xs) : SqT K H' a xs := by
  rcases h with (h | ⟨o, h⟩) | h
  · exact .inl (.inl (e _ _ h))
  · exact .inl (.inr ⟨o, e _ _ h⟩)
  · exact .inr h
mutual
theorem Dq.mono {K : PySem.W.Frag} {H H' : Hp} (e : Same H H') : ∀ (d : PyData) (v : V), Dq K H v d → Dq K H' v d
  | .none, _, .non => .non
  | .bool _, _, .bl b => .bl b
  | .int _, _, .int i => .int i
  | .str _, _, .str x => .str x
  | .list ds, _, .lst h a => .lst (e.seq h) (DqAll.mono e ds _ a)
  | .tuple ds, _, .tup h a => .tup (e.seqT h) (DqAll.mono e ds _ a)
  | .dict [], _, .dic h => .dic (e _ _ h)
theorem DqAll.mono {K : PySem.W.Frag} {H H' : Hp} (e : Same H H') : ∀ (ds : List PyData) (vs : List V), DqAll K H vs ds → DqAll K H' vs ds
  | [], _, .nil => .nil
  | d :: ds, _, .cons h r => .cons (Dq.mono e d _ h) (DqAll.mono e ds _ r)
end
theorem DqAll.append {K : PySem.W.Frag} {H : Hp} : ∀ {vs ws : List V} {ds es : List PyData}, DqAll K H vs ds → DqAll K H ws es → DqAll K H (vs ++ ws) (ds ++ es)
  | [], _, [], _, .nil, s => s
  | _ :: _, _, _ :: _, _, .cons r t, s => .cons r (DqAll.append t s)
theorem DqAll.get {K : PySem.W.Frag} {H : Hp} : ∀ {vs : List V} {ds : List PyData} {v : V}, DqAll K H vs ds → v ∈ vs → ∃ d, d ∈ ds ∧ Dq K H v d
  | v :: vs, d :: ds, x, .cons r t, m => by
    rcases List.mem_cons.mp m with rfl | m
    · exact ⟨d, List.mem_cons_self, r⟩
    · obtain ⟨d', h1, h2⟩ := DqAll.get t m
      exact ⟨d', List.mem_cons_of_mem _ h1, h2⟩
theorem DqAll.len {K : PySem.W.Frag} {H : Hp} : ∀ {vs : List V} {ds : List PyData}, DqAll K H vs ds → vs.length = ds.length
  | [], [], .nil => rfl
  | _ :: _, _ :: _, .cons _ t => congrArg Nat.succ (DqAll.len t)
/-- what is new in H' -/
def newer (H H' : Hp) : Hp := fun b => match H b with | none => H' b | some _ => none
theorem newer_of {H H' : Hp} {b : Addr} (h : H b = none) : newer H H' b = H' b := by unfold newer; rw [h]
theorem newer_same {H H1 H2 : Hp} (e : Same H1 H2) : Same (newer H H1) (newer H H2) := fun b o h => by
  unfold newer at h ⊢
  cases q : H b with
  | none => rw [q] at h; exact e _ _ h
  | some u => rw [q] at h; cases h
theorem newer_ahead {H H1 H2 : Hp} (e : Same H H1) : Same (newer H1 H2) (newer H H2) := fun b o h => by
  unfold newer at h ⊢
  cases q : H1 b with
  | none => rw [q] at h; rw [e.free q]; exact h
  | some u => rw [q] at h; cases h
theorem newer_all {H H' : Hp} : Same (newer H H') H' := fun b o h => by
  unfold newer at h
  cases q : H b with
  | none => rw [q] at h; exact h
  | some u => rw [q] at h; cases h
/-! ### written data -/
mutual
inductive ED : Expr → PyData → Prop
  | non {j p} : ED (.Constant .none j p) .none
  | bl {b j p} : ED (.Constant (.bool b) j p) (.bool b)
  | int {i j p} : ED (.Constant (.int i) j p) (.int i)
  | str {x j p} : ED (.Constant (.str x) j p) (.str x)
  | neg {i j p p'} : ED (.UnaryOp .USub (.Constant (.int i) j p) p') (.int (-i))
  | pow {i j k k' p p' p''} : CPow i j → ED (.BinOp (.Constant (.int i) k p) .Pow (.Constant (.int j) k' p') p'') (.int (i ^ j.toNat))
  | tup {es ds k p} : EDs es ds → ds.length ≤ 1000 → ED (.Tuple es k p) (.tuple ds)
  | lst {es ds p} : EDs es ds → ds.length ≤ 1000 → ED (.List es p) (.list ds)
  | dic {p} : ED (.Dict [] [] p) (.dict [])
inductive EDs : List Expr → List PyData → Prop
  | nil : EDs [] []
  | cons {e es d ds} : ED e d → EDs es ds → EDs (e :: es) (d :: ds)
end
theorem ED.star {e : Expr} {d : PyData} (h : ED e d) (es : List Expr) (env : Env) : starEach (e :: es) env = (false, eval e env) :: starEach es env := by
  cases h <;> rfl
def tData (K : PySem.W.Frag) (d : PyData) : TE := fun σ H Q => ∀ v H', Same H H' → Dq K (newer H H') v d → Q v H'
def tDatas (K : PySem.W.Frag) (ds : List PyData) : TA := fun σ H Q => ∀ vs H', Same H H' → DqAll K (newer H H') vs ds → Q vs H'
theorem sz1000 {n : Nat} (h : n ≤ 1000) : n ≤ sizeLine := Nat.le_of_lt (small1000 h)
mutual
theorem ED.pe {X : Cx} : ∀ {e : Expr} {d : PyData}, ED e d → PE X e (tData X.K d)
  | _, _, .non => pe_non.imp fun σ H Q q => q _ H (Same.refl H) .non
  | _, _, .bl => pe_bl.imp fun σ H Q q => q _ H (Same.refl H) (.bl _)
  | _, _, .int => pe_int.imp fun σ H Q q => q _ H (Same.refl H) (.int _)
  | _, _, .str => pe_str.imp fun σ H Q q => q _ H (Same.refl H) (.str _)
  | _, _, .neg => (pe_un un_neg pe_int).imp fun σ H Q q => ⟨_, rfl, q _ H (Same.refl H) (.int _)⟩
  | _, _, .pow c => (pe_op op_pow pe_int pe_int).imp fun σ H Q q => ⟨_, _, rfl, rfl, c, q _ H (Same.refl H) (.int _)⟩
  | _, _, .dic => pe_dnewK.imp fun σ H Q q => fun p hp => q _ _ (fun b o h => by rw [upd_ne (ne_of_none h hp)]; exact h) (.dic (by rw [newer_of hp]; exact upd_same))
  | _, _, .tup h z => (pe_tup (EDs.pa h)).imp fun σ H Q q => fun vs H1 s1 D => ⟨by rw [D.len]; exact sz1000 z, fun p hp => by
      have s2 : Same H1 (upd H1 p (.tup vs)) := fun b o h => by rw [upd_ne (ne_of_none h hp)]; exact h
      refine q _ _ (s1.trans s2) (.tup (SqT.of (by rw [newer_of (s1.free hp)]; exact upd_same)) (DqAll.mono (newer_same s2) _ _ D))⟩
  | _, _, .lst h z => (pe_lst (EDs.pa h)).imp fun σ H Q q => fun vs H1 s1 D => ⟨by rw [D.len]; exact sz1000 z, fun p hp => by
      have s2 : Same H1 (upd H1 p (.lst vs)) := fun b o h => by rw [upd_ne (ne_of_none h hp)]; exact h
      refine q _ _ (s1.trans s2) (.lst (SqL.of (by rw [newer_of (s1.free hp)]; exact upd_same)) (DqAll.mono (newer_same s2) _ _ D))⟩
theorem EDs.pa {X : Cx} : ∀ {es : List Expr} {ds : List PyData}, EDs es ds → PA X es (tDatas X.K ds)
  | _, _, .nil => pa_nil.imp fun σ H Q q => q [] H (Same.refl H) .nil
  | _, _, .cons h r => (pa_cons (ED.pe h) (EDs.pa r) (hs := h.star _ _)).imp fun σ H Q q => fun v H1 s1 D => fun vs H2 s2 Ds => q _ _ (s1.trans s2) (.cons (Dq.mono (newer_same s2) _ _ D) (DqAll.mono (newer_ahead s1) _ _ Ds))
end
end L2
set_option Elab.async false
set_option linter.all false
set_option maxRecDepth 100000
set_option maxHeartbeats 4000000
namespace Toy
open PySem L2
abbrev sOdd : Stmt := top 25
def asgVal : Stmt → Expr
  | .Assign _ e _ => e
  | _ => .Constant .none 0 ⟨0, 0, 0, 0⟩
def oddVal (i : Nat) : Expr := asgVal ((defBody sOdd).getD i (.Pass ⟨0, 0, 0, 0⟩))
abbrev ds (x : String) : PyData := .str (Str.ofString x)
abbrev dt (l : List PyData) : PyData := .tuple l
abbrev di (i : Int) : PyData := .int i
def dSome : List PyData := [.none, .bool true, .bool false, di 0, di 1, di (-1), di 12, di (10 ^ 30), ds "", ds "thing", ds "Row", ds "Row'", ds "Row'Tree", ds "row", ds "left", dt [], dt [di 0]]
def dMore : List PyData := [dt [ds "thing"], dt [ds "thing", dt []], dt [ds "none"], dt [ds "name", ds "Row"], dt [ds "name", ds "row"], dt [ds "unit", di 1], dt [ds "pair", dt [ds "thing"]]]
def dEnds : List PyData := [dt [ds "pair", di 5, di 6], dt [ds "either", dt [ds "unit"], dt [ds "thing"]], dt [ds "left", dt []], dt [ds "right", .bool true], .list [], .list [ds "thing"], .dict [], dt [dt []]]
def dLast : List PyData := [dt [di 1, di 2], dt [di 1, .bool true], dt [ds "next"], dt [ds "put", di 3], dt [dt [ds "Row", dt [ds "unit"]]], dt [dt [ds "unit"]], dt [.none], dt [ds "left", di 1, di 2]]
def dOdd : List PyData := dSome ++ dMore ++ dEnds ++ dLast
theorem hSome : ED (oddVal 0) (.tuple dSome) := by
  refine ED.tup ?_ (by decide)
  repeat' (first | exact ED.non | exact ED.bl | exact ED.int | exact ED.str | exact ED.neg | exact ED.dic | exact ED.pow ⟨by decide, by decide, by decide⟩ | refine ED.tup ?_ (by decide) | refine ED.lst ?_ (by decide) | exact EDs.nil | refine EDs.cons ?_ ?_)
theorem hMore : ED (oddVal 1) (.tuple dMore) := by
  refine ED.tup ?_ (by decide)
  repeat' (first | exact ED.non | exact ED.bl | exact ED.int | exact ED.str | exact ED.neg | exact ED.dic | refine ED.tup ?_ (by decide) | refine ED.lst ?_ (by decide) | exact EDs.nil | refine EDs.cons ?_ ?_)
theorem hEnds : ED (oddVal 2) (.tuple dEnds) := by
  refine ED.tup ?_ (by decide)
  repeat' (first | exact ED.non | exact ED.bl | exact ED.int | exact ED.str | exact ED.neg | exact ED.dic | refine ED.tup ?_ (by decide) | refine ED.lst ?_ (by decide) | exact EDs.nil | refine EDs.cons ?_ ?_)
theorem hLast : ED (oddVal 3) (.tuple dLast) := by
  refine ED.tup ?_ (by decide)
  repeat' (first | exact ED.non | exact ED.bl | exact ED.int | exact ED.str | exact ED.neg | exact ED.dic | refine ED.tup ?_ (by decide) | refine ED.lst ?_ (by decide) | exact EDs.nil | refine EDs.cons ?_ ?_)
theorem But.free {wl b : Addr} {H H' : Hp} (e : But wl H H') (w : WellAt H' wl) (h : H' b = none) : H b = none := by
  cases q : H b with
  | none => rfl
  | some o =>
    by_cases n : b = wl
    · obtain ⟨_, _, _, z⟩ := w
      rw [n, z] at h
      cases h
    · rw [e b o n q] at h
      cases h
theorem newerB {wl : Addr} {H H1 H2 : Hp} (w : WellAt H wl) (e : But wl H1 H2) : Same (newer H H1) (newer H H2) := fun b o h => by
  unfold newer at h ⊢
  cases q : H b with
  | none =>
    rw [q] at h
    exact e b o (fun n => by obtain ⟨_, _, _, z⟩ := w; rw [n, z] at q; cases q) h
  | some u => rw [q] at h; cases h
theorem aheadB {wl : Addr} {H H1 H2 : Hp} (e : But wl H H1) (w : WellAt H1 wl) : Same (newer H1 H2) (newer H H2) := fun b o h => by
  unfold newer at h ⊢
  cases q : H1 b with
  | none => rw [q] at h; rw [e.free w q]; exact h
  | some u => rw [q] at h; cases h
def spOdd (K : PySem.W.Frag) : Sp := fun vs H Q _ => ∃ (wl : Addr), vs = [.ref wl] ∧ WellAt H wl ∧ ∀ (v : V) (H' : Hp) (d : PyData), d ∈ dOdd → Dq K (newer H H') v d → WellAt H' wl → But wl H H' → Q v H'
section
variable {P : Program} {w : World} {K : PySem.W.Frag} {mg : Str → Option Value} {base : Heap}
theorem scO : FnScope ["well", "some", "more", "ends", "last"] ["well"] (defScope sOdd) := ⟨rfl, rfl, rfl, by decide +kernel, rfl, by decide +kernel, by decide +kernel⟩
theorem dq_tup {H : Hp} {v : V} {l : List PyData} (h : Dq K H v (.tuple l)) : ∃ a xs, v = .ref a ∧ SqT K H a xs ∧ DqAll K H xs l := by
  cases h with
  | tup h a => exact ⟨_, _, rfl, h, a⟩
theorem ok_odd {f g : Addr} {fd gd : FuncData} (F : Fun K "_law_odd" "_law_odd" sOdd f fd) (G : FnOk P w K mg base CX0 2 g gd ["well", "some"] (spPick K)) (bG : Binds K gd ["well", "some"] []) (kG : PySem.W.keepIn K (.ref g) = true) (mG : mg "_law_pick" = some (.ref g)) :
    FnOk P w K mg base CX0 3 f fd ["well"] (spOdd K) := by
  refine F.ok scO (fun vs H Q E h => ?_) (fun cdv A outer s H vs Q E hr h => ?_)
  · obtain ⟨wl, rfl, _⟩ := h
    rfl
  obtain ⟨wl, rfl, hw, q⟩ := h
  refine ⟨_, pss_cons (ps_set (i := 1) scO.nd rfl (.inl rfl) (ED.pe hSome)) (pss_cons (ps_set (i := 2) scO.nd rfl (.inl rfl) (ED.pe hMore)) (pss_cons (ps_set (i := 3) scO.nd rfl (.inl rfl) (ED.pe hEnds)) (pss_cons (ps_set (i := 4) scO.nd rfl (.inl rfl) (ED.pe hLast))
    (pss_one (ps_ret (pe_call G hr rfl mG kG bG .nil pass0 (pa_cons (pv 0) (pa_cons (pe_op op_catT (pe_op op_catT (pe_op op_catT (pv 1) (pv 2)) (pv 3)) (pv 4)) pa_nil)))))))), ?_⟩
  intro v1 H1 s1 D1 v2 H2 s2 D2 v3 H3 s3 D3 v4 H4 s4 D4
  obtain ⟨a1, x1, rfl, t1, A1⟩ := dq_tup (Dq.mono (newer_same (s2.trans (s3.trans s4))) _ _ D1)
  obtain ⟨a2, x2, rfl, t2, A2⟩ := dq_tup (Dq.mono (newer_same (s3.trans s4)) _ _ (Dq.mono (newer_ahead s1) _ _ D2))
  obtain ⟨a3, x3, rfl, t3, A3⟩ := dq_tup (Dq.mono (newer_same s4) _ _ (Dq.mono (newer_ahead (s1.trans s2)) _ _ D3))
  obtain ⟨a4, x4, rfl, t4, A4⟩ := dq_tup (Dq.mono (newer_ahead (s1.trans (s2.trans s3))) _ _ D4)
  have S : Same H H4 := s1.trans (s2.trans (s3.trans s4))
  have l1 : x1.length = 17 := A1.len
  have l2 : x2.length = 7 := A2.len
  have l3 : x3.length = 8 := A3.len
  have l4 : x4.length = 8 := A4.len
  have ne : ∀ {l : List V} {n : Nat}, l.length = n + 1 → l ≠ [] := fun h z => by rw [z] at h; cases h
  refine ⟨_, rfl, _, rfl, _, rfl, _, _, _, _, rfl, rfl, newer_all.seqT t1, newer_all.seqT t2, ne l1, sz1000 (by omega), fun z => absurd z (ne l2), fun _ p hp => ?_⟩
  have u1 := same_new hp (.tup (x1 ++ x2))
  refine ⟨_, rfl, _, _, _, _, rfl, rfl, SqT.of upd_same, u1.seqT (newer_all.seqT t3), (by rw [← List.length_pos_iff, List.length_append]; omega), sz1000 (by rw [List.length_append]; omega), fun z => absurd z (ne l3), fun _ p2 hp2 => ?_⟩
  have u2 := same_new hp2 (.tup (x1 ++ x2 ++ x3))
  refine ⟨_, rfl, _, _, _, _, rfl, rfl, SqT.of upd_same, u2.seqT (u1.seqT (newer_all.seqT t4)), (by rw [← List.length_pos_iff, List.length_append, List.length_append]; omega), sz1000 (by rw [List.length_append, List.length_append]; omega), fun z => absurd z (ne l4), fun _ p3 hp3 => ?_⟩
  have u3 := same_new hp3 (.tup (x1 ++ x2 ++ x3 ++ x4))
  have S' : Same H4 (upd (upd (upd H4 p (.tup (x1 ++ x2))) p2 (.tup (x1 ++ x2 ++ x3))) p3 (.tup (x1 ++ x2 ++ x3 ++ x4))) := u1.trans (u2.trans u3)
  obtain ⟨wa, wb, wc, hw0⟩ := id hw
  have len4 : (x1 ++ x2 ++ x3 ++ x4).length = 40 := by simp only [List.length_append]; omega
  refine ⟨wl, p3, _, rfl, ⟨wa, wb, wc, (S.trans S') _ _ hw0⟩, SqT.of upd_same, by omega, by omega, fun v H' hv hw' hb => ?_⟩
  have AA : DqAll K (newer H H4) (x1 ++ x2 ++ x3 ++ x4) (dSome ++ dMore ++ dEnds ++ dLast) := ((A1.append A2).append A3).append A4
  obtain ⟨d, hd, D⟩ := AA.get hv
  have bb : But wl H4 H' := (But.of S').trans hb
  exact q v H' d hd (Dq.mono (newerB hw bb) _ _ D) hw' ((But.of S).trans bb)
end
end Toy
set_option Elab.async false
set_option linter.all false
set_option maxRecDepth 100000
set_option maxHeartbeats 4000000
namespace Toy
open PySem L2
abbrev sIsName : Stmt := top 10
abbrev sIsWr : Stmt := top 11
abbrev sLWr : Stmt := top 29
abbrev sLName : Stmt := top 30
def CAPS : Str := "ABCDEFGHIJKLMNOPQRSTUVWXYZ"
def SMALLS : Str := "abcdefghijklmnopqrstuvwxyz0123456789"
def capB (c : Nat) : Bool := decide (c ∈ CAPS.cps.toList)
def smB (c : Nat) : Bool := decide (c ∈ SMALLS.cps.toList)
/-- a name as written -/
def wrL : List Nat → Bool
  | [] => false
  | c :: r => decide (r.length ≤ 7) && (capB c && r.all smB)
def wrB (x : Str) : Bool := wrL x.cps.toList
def spWr : Sp := fun vs H Q _ => ∃ (x : Str), vs = [.str x] ∧ x.length ≤ sizeLine ∧ PyData.strOk x = true ∧ ∀ H', Same H H' → Q (.bl (wrB x)) H'
/-- the constants and built-in names of the text -/
structure Nk (mg : Str → Option Value) : Prop where
  caps : ∃ t, mg "CAPITALS" = some (.str CAPS t)
  smalls : ∃ t, mg "SMALL" = some (.str SMALLS t)
  lw : ∃ t, mg "LONGEST_WRITTEN" = some (.int 8 t)
  ln : ∃ t, mg "LONGEST_NAME" = some (.int 60 t)
  len : mg "len" = none
  all : mg "all" = none
theorem cutS_tail (x : Str) : (cutS x (some 1) none).cps.toList = x.cps.toList.drop 1 := by
  have e : x.cps.toList.length = x.length := by show x.cps.toList.length = x.cps.size; exact Array.length_toList
  unfold cutS
  rw [HT.sIx_none, show HT.sIx x.length 0 (some 1) = min 1 x.length from HT.sIx_nat x.length 0 1]
  show ((x.cps.toList.drop (min 1 x.length)).take (x.length - min 1 x.length)) = _
  by_cases h : 1 ≤ x.length
  · rw [Nat.min_eq_left h, List.take_of_length_le (by rw [List.length_drop, e]; exact Nat.le_refl _)]
  · have z : x.length = 0 := by omega
    rw [z] at e
    rw [List.length_eq_zero_iff.mp e]
    simp
theorem size_toList (x : Str) : x.cps.size = x.cps.toList.length := Array.length_toList.symm
theorem get_toList {x : Str} {i c : Nat} (h : x.cps[i]? = some c) : x.cps.toList[i]? = some c := by rw [Array.getElem?_toList]; exact h
section
variable {P : Program} {w : World} {K : PySem.W.Frag} {mg : Str → Option Value} {base : Heap}
theorem scIW : FnScope ["text", "sign"] ["text"] (defScope sIsWr) := ⟨rfl, rfl, rfl, by decide +kernel, rfl, by decide +kernel, by decide +kernel⟩
theorem ok_iswr {f : Addr} {fd : FuncData} (F : Fun K "is_written" "is_written" sIsWr f fd) (T : Nk mg) : FnOk P w K mg base CX0 1 f fd ["text"] spWr := by
  refine F.ok scIW (fun vs H Q E h => ?_) (fun cdv A outer s H vs Q E hr h => ?_)
  · obtain ⟨x, rfl, _⟩ := h
    rfl
  obtain ⟨x, rfl, hx, hok, q⟩ := h
  obtain ⟨t1, h1⟩ := T.caps
  obtain ⟨t2, h2⟩ := T.smalls
  obtain ⟨t3, h3⟩ := T.lw
  refine ⟨_, pss_cons (ps_if (PW.pt (pw_or (pt_cmpR op_eq (pv 0) pe_str (nomark _)) (pw_or1 (pt_cmpR op_gt (pe_callB call_len_str rfl T.len PySem.boot_len (pa_cons (pv 0) pa_nil)) (pe_glob (v := .int 8) rfl h3 ⟨_, rfl⟩) (nomark _))))) (pss_one (ps_ret pe_bl)) pss_nil)
    (pss_one (ps_ret (pe_and (pe_cmpR op_in_sign (pe_ix ix_str (pv 0) pe_int (fun _ _ => rfl)) (pe_glob (v := .str CAPS) rfl h1 ⟨_, rfl⟩) (by rfl))
      (pe_one (pe_callB (cr_all rfl) rfl T.all (by decide +kernel) (pa_cons (pe_lc (own := [("sign", 1)]) (g := gName 1) (tt := tYes) rfl scIW.nd (pi_str (pe_slice sl_str (pv 0) (po_some pe_int) po_none)) (blkOk_by (own := [("sign", 1)]) (N := ["text", "sign"]) (sc := defScope sIsWr) (by decide +kernel))
        (fun _ _ _ _ _ => pg_name (i := 1) scIW.nd rfl (.inl rfl)) (fun _ _ _ _ _ => pts_nil) (fun _ _ _ _ _ => pe_cmpR op_in_sign (pv 1) (pe_glob (v := .str SMALLS) rfl h2 ⟨_, rfl⟩) (by rfl))) pa_nil)))))), ?_⟩
  have eL : x.cps.toList.length = x.length := Array.length_toList
  refine ⟨_, rfl, rfl, _, rfl, ?_⟩
  refine ite2 (fun h => ?_) (fun h => ?_)
  · have e : x = "" := by
      have z := of_decide_eq_true h
      injection z
    subst e
    exact q H (Same.refl H)
  · have hne : x.cps.toList ≠ [] := fun z => h (by
      have : x = "" := by
        cases x with
        | mk c =>
          have : c = #[] := by simpa using z
          subst this
          rfl
      rw [this]
      exact decide_eq_true rfl)
    refine ⟨_, rfl, _, rfl, hx, _, _, rfl, rfl, _, rfl, ?_⟩
    cases hl : x.cps.toList with
    | nil => exact absurd hl hne
    | cons c r =>
      have hlen : x.length = r.length + 1 := by rw [← eL, hl]; rfl
      have hw : wrB x = (decide (r.length ≤ 7) && (capB c && r.all smB)) := by unfold wrB; rw [hl]; rfl
      refine ite2 (fun g => ?_) (fun g => ?_)
      · have g' : (x.length : Int) > 8 := of_decide_eq_true g
        have e : wrB x = false := by rw [hw, decide_eq_false (by omega)]; rfl
        rw [← e]
        exact q H (Same.refl H)
      · have g' : ¬ (x.length : Int) > 8 := of_decide_eq_false (Bool.eq_false_iff.mpr g)
        refine ⟨_, rfl, _, 0, c, rfl, rfl, hx, atI_nat (j := 0) (by rw [hl]; rfl), c, CAPS, rfl, rfl, _, rfl, ?_⟩
        refine ite2 (fun gc => ?_) (fun gc => ?_)
        · refine ⟨_, rfl, _, rfl, x, rfl, hx, _, rfl, fun D nD => ?_⟩
          have et : (cutS x (some 1) none).cps.toList = r := by rw [cutS_tail, hl]; rfl
          refine lc_it walk_str (fun i H2 => Same H H2 ∧ H2 D = some (.lst ((r.take i).map fun c => V.bl (smB c)))) ⟨same_new nD _, upd_same⟩ (fun _ _ _ _ => trivial) ?_ ?_
          · rintro i y H2 _ hi ⟨s2, hD⟩ ⟨rfl, d, hd, rfl⟩
            refine ⟨rfl, ?_⟩
            simp only [tYes, ↓reduceIte]
            have hd' : r[i]? = some d := by rw [← et]; exact get_toList hd
            have hi' : i < r.length := (List.getElem?_eq_some_iff.mp hd').1
            refine ⟨_, rfl, d, SMALLS, rfl, rfl, _, hD, (by rw [List.length_map, List.length_take]; exact Nat.lt_of_le_of_lt (Nat.min_le_right _ _) (by omega)), fun b o e => by rw [upd_ne (ne_of_none e nD)]; exact s2 _ _ e, ?_⟩
            rw [upd_same, List.take_add_one, hd']
            simp only [Option.toList, List.map_append, List.map_cons, List.map_nil]
            rfl
          · rintro H2 ⟨s2, hD⟩
            rw [size_toList, et, List.take_length] at hD
            refine ⟨D, r.map smB, rfl, SqL.of (by rw [hD, List.map_map]; rfl), ?_⟩
            have e : wrB x = (r.map smB).all id := by
              rw [hw, decide_eq_true (by omega), show capB c = true from gc, List.all_map]
              rfl
            rw [← e]
            exact q H2 s2
        · have e : wrB x = false := by
            rw [hw, show capB c = false from Bool.eq_false_iff.mpr gc]
            cases decide (r.length ≤ 7) <;> rfl
          rw [← e]
          exact q H (Same.refl H)
theorem scLW : FnScope ["text", "sign"] ["text"] (defScope sLWr) := ⟨rfl, rfl, rfl, by decide +kernel, rfl, by decide +kernel, by decide +kernel⟩
theorem one_ok {c : Nat} (h : c < 0x110000) : PyData.strOk ⟨#[c]⟩ = true := by
  unfold PyData.strOk
  simp [h]
theorem ok_code {x : Str} (h : PyData.strOk x = true) {c : Nat} (m : c ∈ x.cps.toList) : c < 0x110000 := by
  unfold PyData.strOk at h
  rw [← Array.all_toList] at h
  exact of_decide_eq_true (List.all_eq_true.mp h c m)
theorem strs_canLay : ∀ l : List Nat, (∀ c ∈ l, c < 0x110000) → PyData.canLayAll0 (l.map fun c => PyData.str ⟨#[c]⟩) = true
  | [], _ => by simp only [List.map_nil, PyData.canLayAll0]
  | c :: r, h => by simp only [List.map_cons, PyData.canLayAll0, PyData.canLay0, one_ok (h c List.mem_cons_self), strs_canLay r fun x hx => h x (List.mem_cons_of_mem _ hx), Bool.and_self]
theorem strs_depth : ∀ l : List Nat, PyData.depthAll (l.map fun c => PyData.str ⟨#[c]⟩) = 0
  | [] => by simp only [List.map_nil, PyData.depthAll]
  | c :: r => by simp only [List.map_cons, PyData.depthAll, PyData.depth, strs_depth r, Nat.max_self]
theorem strs_shaped (l : List Nat) (h : ∀ c ∈ l, c < 0x110000) : SeqAt.shaped (.list (l.map fun c => PyData.str ⟨#[c]⟩)) = true := by
  unfold SeqAt.shaped
  have e : (PyData.list (l.map fun c => PyData.str ⟨#[c]⟩)).canLay0 = true := by simp only [PyData.canLay0, strs_canLay l h]
  rw [e, Bool.true_and]
  refine decide_eq_true ?_
  simp only [PyData.depth, strs_depth]
  omega
theorem dp_strs {H : Hp} : ∀ l : List Nat, DpAll K H (l.map fun c => V.str ⟨#[c]⟩) (l.map fun c => PyData.str ⟨#[c]⟩)
  | [] => .nil
  | _ :: r => .cons (.str _) (dp_strs r)
theorem eqv_nil (l : List PyData) : PyData.eqv (.list l) (.list []) = l.isEmpty := by
  cases l <;> simp [PyData.eqv, PyData.eqvAll]
theorem filt_empty : ∀ r : List Nat, ((r.filter fun c => !smB c).map fun c => PyData.str ⟨#[c]⟩).isEmpty = r.all smB
  | [] => rfl
  | c :: r => by
    by_cases h : smB c = true
    · rw [List.filter_cons_of_neg (by rw [h]; decide), List.all_cons, h, Bool.true_and]
      exact filt_empty r
    · have e : smB c = false := Bool.eq_false_iff.mpr h
      rw [List.filter_cons_of_pos (by rw [e]; rfl), List.all_cons, e]
      rfl
theorem ok_lwr {f : Addr} {fd : FuncData} (F : Fun K "_law_is_written" "_law_is_written" sLWr f fd) (T : Nk mg) : FnOk P w K mg base CX0 1 f fd ["text"] spWr := by
  refine F.ok scLW (fun vs H Q E h => ?_) (fun cdv A outer s H vs Q E hr h => ?_)
  · obtain ⟨x, rfl, _⟩ := h
    rfl
  obtain ⟨x, rfl, hx, hok, q⟩ := h
  have hu : ∀ env, (A.deeper env).units = A.units + 3 := fun _ => rfl
  have hu' : A.units + 3 + 64 < cLine := by
    have := hr.un
    rw [hu] at this
    omega
  refine ⟨_, pss_cons (ps_if (PW.pt (pw_or (pt_cmpR op_lt (pe_callB call_len_str rfl T.len PySem.boot_len (pa_cons (pv 0) pa_nil)) pe_int (nomark _)) (pw_or (pt_cmpR op_gt (pe_callB call_len_str rfl T.len PySem.boot_len (pa_cons (pv 0) pa_nil)) pe_int (nomark _))
      (pw_or1 (pt_cmpR op_notIn_sign (pe_ix ix_str (pv 0) pe_int (fun _ _ => rfl)) pe_str (by rfl)))))) (pss_one (ps_ret pe_bl)) pss_nil)
    (pss_one (ps_ret (pe_cmpR (op_eqD hu') (pe_lc (own := [("sign", 1)]) (g := gName 1) (tt := _) rfl scLW.nd (pi_str (pe_slice sl_str (pv 0) (po_some pe_int) po_none)) (blkOk_by (own := [("sign", 1)]) (N := ["text", "sign"]) (sc := defScope sLWr) (by decide +kernel))
        (fun _ _ _ _ _ => pg_name (i := 1) scLW.nd rfl (.inl rfl)) (fun _ _ _ _ _ => pts_one (pt_cmpR op_notIn_sign (pv 1) pe_str (by rfl))) (fun _ _ _ _ _ => pv 1)) (pe_lst pa_nil) (nomark _)))), ?_⟩
  have eL : x.cps.toList.length = x.length := Array.length_toList
  refine ⟨_, rfl, _, rfl, hx, _, _, rfl, rfl, _, rfl, ?_⟩
  refine ite2 (fun h => ?_) (fun h => ?_)
  · have h' : (x.length : Int) < 1 := of_decide_eq_true h
    have e : wrB x = false := by
      unfold wrB
      rw [List.length_eq_zero_iff.mp (show x.cps.toList.length = 0 by rw [eL]; omega)]
      rfl
    rw [← e]
    exact q H (Same.refl H)
  · have h' : ¬ (x.length : Int) < 1 := of_decide_eq_false (Bool.eq_false_iff.mpr h)
    refine ⟨_, rfl, _, rfl, hx, _, _, rfl, rfl, _, rfl, ?_⟩
    cases hl : x.cps.toList with
    | nil => rw [hl] at eL; exact absurd eL (by show ¬ (0 = x.length); omega)
    | cons c r =>
      have hlen : x.length = r.length + 1 := by rw [← eL, hl]; rfl
      have hw : wrB x = (decide (r.length ≤ 7) && (capB c && r.all smB)) := by unfold wrB; rw [hl]; rfl
      refine ite2 (fun g => ?_) (fun g => ?_)
      · have g' : (x.length : Int) > 8 := of_decide_eq_true g
        have e : wrB x = false := by rw [hw, decide_eq_false (by omega)]; rfl
        rw [← e]
        exact q H (Same.refl H)
      · have g' : ¬ (x.length : Int) > 8 := of_decide_eq_false (Bool.eq_false_iff.mpr g)
        refine ⟨_, rfl, _, 0, c, rfl, rfl, hx, atI_nat (j := 0) (by rw [hl]; rfl), c, CAPS, rfl, rfl, _, rfl, ?_⟩
        refine ite2 (fun gc => ?_) (fun gc => ?_)
        · have gc' : capB c = false := by
            have z : (!capB c) = true := gc
            cases e : capB c with
            | false => rfl
            | true => rw [e] at z; cases z
          have e : wrB x = false := by
            rw [hw, gc']
            cases decide (r.length ≤ 7) <;> rfl
          rw [← e]
          exact q H (Same.refl H)
        · have gc' : capB c = true := by
            cases e : capB c with
            | true => rfl
            | false => exact absurd (show (!capB c) = true by rw [e]; rfl) gc
          refine ⟨_, rfl, _, rfl, x, rfl, hx, _, rfl, fun D nD => ?_⟩
          have et : (cutS x (some 1) none).cps.toList = r := by rw [cutS_tail, hl]; rfl
          refine lc_it walk_str (fun i H2 => Same H H2 ∧ H2 D = some (.lst (((r.take i).filter fun c => !smB c).map fun c => V.str ⟨#[c]⟩))) ⟨same_new nD _, upd_same⟩ (fun _ _ _ _ => trivial) ?_ ?_
          · rintro i y H2 _ hi ⟨s2, hD⟩ ⟨rfl, d, hd, rfl⟩
            refine ⟨rfl, ?_⟩
            have hd' : r[i]? = some d := by rw [← et]; exact get_toList hd
            have hi' : i < r.length := (List.getElem?_eq_some_iff.mp hd').1
            refine ⟨_, rfl, d, SMALLS, rfl, rfl, _, rfl, ?_⟩
            have tk : (r.take (i + 1)).filter (fun c => !smB c) = (r.take i).filter (fun c => !smB c) ++ (if (!smB d) = true then [d] else []) := by
              rw [List.take_add_one, hd', List.filter_append]
              congr 1
              by_cases hs : (!smB d) = true
              · rw [if_pos hs]; exact List.filter_cons_of_pos hs
              · rw [if_neg hs]; exact List.filter_cons_of_neg hs
            refine ite2 (fun hs => ?_) (fun hs => ?_)
            · refine ⟨_, rfl, _, hD, ?_, fun b o e => by rw [upd_ne (ne_of_none e nD)]; exact s2 _ _ e, ?_⟩
              · rw [List.length_map]
                have := List.length_filter_le (fun c => !smB c) (r.take i)
                rw [List.length_take] at this
                omega
              · rw [upd_same, tk, if_pos (show (!smB d) = true from hs), List.map_append]
                rfl
            · exact ⟨s2, by rw [tk, if_neg (show ¬ (!smB d) = true from hs), List.append_nil]; exact hD⟩
          · rintro H2 ⟨s2, hD⟩
            rw [size_toList, et, List.take_length] at hD
            refine ⟨by show 0 ≤ sizeLine; exact Nat.zero_le _, fun p hp => ?_⟩
            have s3 := same_new hp (.lst [])
            refine ⟨_, _, .lst (SqL.of (s3 _ _ hD)) (dp_strs _), .lst (SqL.of upd_same) .nil, strs_shaped _ (fun c hc => ok_code hok (by rw [hl]; exact List.mem_cons_of_mem _ (List.mem_filter.mp hc).1)), rfl, ?_⟩
            rw [eqv_nil, filt_empty]
            have e : wrB x = r.all smB := by rw [hw, decide_eq_true (by omega), gc']; rfl
            rw [← e]
            exact q _ (s2.trans s3)
end
end Toy
set_option Elab.async false
set_option linter.all false
set_option maxRecDepth 100000
set_option maxHeartbeats 4000000
namespace L2
open PySem PySem.Spec PyProof.Rows
/-! ### type(x), isinstance(x, T) of drawn data -/
def tyD : PyData → String
  | .none => "NoneType"
  | .bool _ => "bool"
  | .int _ => "int"
  | .str _ => "str"
  | .list _ => "list"
  | .tuple _ => "tuple"
  | .dict _ => "dict"
theorem tyD_ne : ∀ d : PyData, (Value.type (tyD d) == Value.type "builtin_function_or_method") = false
  | .none => by show (Value.type "NoneType" == _) = false; decide +kernel
  | .bool _ => by show (Value.type "bool" == _) = false; decide +kernel
  | .int _ => by show (Value.type "int" == _) = false; decide +kernel
  | .str _ => by show (Value.type "str" == _) = false; decide +kernel
  | .list _ => by show (Value.type "list" == _) = false; decide +kernel
  | .tuple _ => by show (Value.type "tuple" == _) = false; decide +kernel
  | .dict _ => by show (Value.type "dict" == _) = false; decide +kernel
section
variable {X : Cx} {pins : List (Addr × Obj)} {σ : St} {H : Hp} {s : Shared}
theorem Dq.typeIs (I : Inv X pins σ H s) : ∀ {d : PyData} {v : V} {u : Value}, Dq X.K H v d → RelV v u → s.TypeIs u (tyD d) ∧ (Value.type (tyD d) == Value.type "builtin_function_or_method") = false
  | _, _, _, .non, r => by cases r; exact ⟨rfl, tyD_ne _⟩
  | _, _, _, .bl b, r => by cases r; exact ⟨rfl, tyD_ne _⟩
  | _, _, _, .int i, r => by obtain ⟨t, rfl⟩ := r; exact ⟨typeIs_int s i t, tyD_ne _⟩
  | _, _, _, .str x, r => by obtain ⟨t, rfl⟩ := r; exact ⟨typeIs_str s x t, tyD_ne _⟩
  | _, _, _, .lst hs _, r => by
    cases r
    obtain ⟨its, rv, p, _⟩ := I.list hs
    exact ⟨p.isList.typeIs, tyD_ne _⟩
  | _, _, _, .tup hs _, r => by
    cases r
    obtain ⟨its, rv, p, _⟩ := I.tuple hs
    exact ⟨p.typeIs, tyD_ne _⟩
  | _, _, _, .dic h, r => by
    cases r
    obtain ⟨o, n, ho, hc, _⟩ := dic_at I h
    exact ⟨⟨o, ho, hc⟩, tyD_ne _⟩
def rTyD (K : PySem.W.Frag) : List V → Hp → VK → Prop := fun xs H Q => ∃ (x : V) (d : PyData), xs = [x] ∧ Dq K H x d ∧ Q (.ty (tyD d)) H
theorem call_tyD : CallR X (.type "type") (rTyD X.K) := by
  intro pins s σ H xs us Q I r h
  obtain ⟨x, d, rfl, D, q⟩ := h
  obtain ⟨u, rfl, rx⟩ := vals1 r
  obtain ⟨h1, h2⟩ := D.typeIs I rx
  exact call_type_of h1 h2 ⟨.ty (tyD d), H, I, rfl, q⟩
def rIsD (K : PySem.W.Frag) (T : String) : List V → Hp → VK → Prop := fun xs H Q => ∃ (x : V) (d : PyData) (b : Bool), xs = [x, .ty T] ∧ Dq K H x d ∧ PySem.W.kitOne K (.type (tyD d)) (.type T) = some b ∧ Q (.bl b) H
theorem call_isD {T : String} : CallR X (.builtin "isinstance") (rIsD X.K T) := by
  intro pins s σ H xs us Q I r h
  obtain ⟨x, d, b, rfl, D, e, q⟩ := h
  cases r with
  | cons rx rr =>
    cases rr with
    | cons rt rr =>
      cases rr
      cases rt
      have fin : ∀ tk, EP X pins σ Q (.bool b) { s with toks := tk } := fun tk => ⟨.bl b, H, I.kept (t' := tk) fun _ _ z => z, rfl, q⟩
      cases D with
      | non => cases rx; exact PySem.W.kia_one PySem.W.kitx_none I.kIn True.intro e (fun z => nomatch z) fin
      | bl y => cases rx; exact PySem.W.kia_one PySem.W.kitx_bool I.kIn True.intro e (fun z => nomatch z) fin
      | int i => obtain ⟨t, rfl⟩ := rx; exact PySem.W.kia_one PySem.W.kitx_int I.kIn True.intro e (fun z => nomatch z) fin
      | str y => obtain ⟨t, rfl⟩ := rx; exact PySem.W.kia_one PySem.W.kitx_str I.kIn True.intro e (fun z => nomatch z) fin
      | lst hs _ =>
        cases rx
        obtain ⟨its, rv, ⟨o, n, ho, hc, _, hd⟩, _⟩ := I.list hs
        exact PySem.W.kia_one PySem.W.kitx_list I.kIn ⟨o, ho, hc⟩ e (fun z => nomatch z) fin
      | tup hs _ =>
        cases rx
        obtain ⟨its, rv, ⟨o, ho, hc, n, hd⟩, _⟩ := I.tuple hs
        exact PySem.W.kia_one PySem.W.kitx_tuple I.kIn ⟨o, ho, hc⟩ e (fun z => nomatch z) fin
      | dic hs =>
        cases rx
        obtain ⟨o, n, ho, hc, _⟩ := dic_at I hs
        exact PySem.W.kia_one PySem.W.kitx_dict I.kIn ⟨o, ho, hc⟩ e (fun z => nomatch z) fin
end
theorem kit_tyD {K : PySem.W.Frag} {a b : String} {c : Bool} (h : ((PySem.W.kitMeta b) && (PySem.fastBuiltinMro a).isSome && decide ((PySem.fastBuiltinMro a).map (·.contains (.type b)) = some c)) = true) (n : (Value.type a == Value.type b) = c) : PySem.W.kitOne K (.type a) (.type b) = some c := by
  unfold PySem.W.kitOne
  cases c with
  | true => rw [if_pos n]
  | false =>
    rw [if_neg (by rw [n]; exact Bool.false_ne_true)]
    simp only [Bool.and_eq_true, decide_eq_true_eq] at h
    show (if PySem.W.kitMeta b = true then _ else _) = _
    rw [if_pos h.1.1]
    exact h.2
end L2
set_option Elab.async false
set_option linter.all false
set_option maxRecDepth 100000
set_option maxHeartbeats 4000000
namespace PySem.TypeEq
open Builtin
theorem slot_type_ne : Slot "type" (cmpInfo .NotEq).2.1 "object.__ne__" :=
  .of (owner := "object") (n := "__ne__") (by rw [typeLookup_type, builtinLookup_eq_fast]; kernel_rfl) (by decide +kernel) (by decide +kernel) (by decide +kernel)
    (by first | exact .inl (by decide +kernel) | exact .inr (by decide +kernel)) (by rw [isSubtype_type]; kernel_rfl)
theorem slot_type_ne_refl : Slot "type" (cmpInfo .NotEq).2.2 "object.__ne__" := slot_type_ne
section
variable {prog : Program} {w : World} {A : Around} {E : Value → Shared → Prop} {s : Shared} {Q : Value → Shared → Prop} {X Y : String}
theorem special_types (hX : ∀ s' : Shared, s'.TypeIs (.type X) "type") {Q : Option Value → Shared → Prop} (h : Q (some (if (Value.type X == Value.type Y) = true then .bool true else .notImplemented)) s) :
    wpAny (model prog w) A (callSpecialIfBound? (.type X) "__eq__" [.type Y]) Q E s := by
  refine wpAny_callSpecialIfBound?_slot (hX s) slot_type_eq ?_
  cases hk : (Value.type X == Value.type Y) with
  | true =>
    rw [hk, if_pos rfl] at h
    exact call_gives slot_type_eq (hX s) F.entry_object_eq (F.args_object_eq_2 _ _) (object_eq_same rfl hk) h
  | false =>
    rw [hk, if_neg Bool.false_ne_true] at h
    exact call_gives slot_type_eq (hX s) F.entry_object_eq (F.args_object_eq_2 _ _) (object_eq_other rfl hk) h
theorem meets_ne (hX : ∀ s' : Shared, s'.TypeIs (.type X) "type") : Meets (Builtin.«object.__ne__» ⟨[.type X, .type Y], []⟩) fun _ R s => R (.ok (.ret (if (Value.type X == Value.type Y) = true then .bool false else .notImplemented))) s :=
  .of_wp fun prog w A R s h => by
    unfold Builtin.«object.__ne__»
    refine wpAny_bind (wpAny_of_eq (a := ((Value.type X : Value), [Value.type Y])) (by first | rfl | (simp only [slotArgs]; rfl)) ?_)
    refine wpAny_bind (wpAny_cRoomFor_or (.inl rfl) ?_)
    refine wpAny_bind (special_types hX ?_)
    cases hk : (Value.type X == Value.type Y) with
    | true =>
      rw [hk, if_pos rfl] at h
      simp only [if_true]
      exact wpAny_bind (wpAny_truthy_bool (wpAny_pure ⟨_, rfl, h⟩))
    | false =>
      rw [hk, if_neg Bool.false_ne_true] at h
      simp only [Bool.false_eq_true, if_false]
      exact wpAny_pure ⟨_, rfl, h⟩
theorem ne_types (hX : ∀ s' : Shared, s'.TypeIs (.type X) "type") (hY : ∀ s' : Shared, s'.TypeIs (.type Y) "type") (h : Q (.bool (!(Value.type X == Value.type Y))) s) : wpAny (model prog w) A (compareOp .NotEq (.type X) (.type Y)) Q E s := by
  show wpAny _ A (richCompare .NotEq _ _) Q E s
  cases hk : (Value.type X == Value.type Y) with
  | true =>
    rw [hk] at h
    refine wpAny_richCompare_same (T := "type") (hX s) (hY s) slot_type_ne (call_meets slot_type_ne (hX s) F.cmpEntry_ne (F.cmpArgs_ne _ _) (meets_ne hX) ?_)
    rw [hk, if_pos rfl]
    exact ⟨(fun e => nomatch e), h⟩
  | false =>
    rw [hk] at h
    have hk' : (Value.type Y == Value.type X) = false := by
      rw [Bool.eq_false_iff] at hk ⊢
      intro e
      exact hk (by rw [beq_iff_eq] at e ⊢; exact e.symm)
    rcases hi : cmpInfo CmpOp.NotEq with ⟨sym, f, r⟩
    have h1 := slot_type_ne
    have h2 := slot_type_ne_refl
    rw [hi] at h1 h2
    simp only [richCompare, hi, (hX s).oneThing_none]
    refine wpAny_holding ?_
    refine wpAny_bind (wpAny_cRoomFor_or (.inl rfl) ?_)
    refine wpAny_bind (wpAny_typeOf (hX s) (wpAny_bind (wpAny_typeOf (hY s) ?_)))
    simp only [bne_self_eq_false, Bool.false_eq_true, if_false, pure_bind, Bool.not_false, if_true]
    refine wpAny_bind (m := tryCompare _ _ _) (wpAny_tryCompare_declines (hX s) h1 (call_meets slot_type_ne (hX s) F.cmpEntry_ne (F.cmpArgs_ne _ _) (meets_ne hX) ?_))
    rw [hk, if_neg Bool.false_ne_true]
    refine ⟨rfl, ?_⟩
    refine wpAny_bind (m := tryCompare _ _ _) (wpAny_tryCompare_declines (hY s) h2 (call_meets slot_type_ne (hY s) F.cmpEntry_ne (F.cmpArgs_ne _ _) (meets_ne hY) ?_))
    rw [hk', if_neg Bool.false_ne_true]
    refine ⟨rfl, ?_⟩
    refine wpAny_bind (wpAny_rule (wpAny_bind (wpAny_of_eq (a := false) (by rw [isSame_plain rfl, hk]) (wpAny_pure h))))
end
end PySem.TypeEq
namespace L2
open PySem PySem.Spec PyProof.Rows
theorem tyD_meta : ∀ (d : PyData) (s : Shared), s.TypeIs (.type (tyD d)) "type"
  | .none, s => TypeEq.meta_NoneType s
  | .bool _, s => TypeEq.meta_bool s
  | .int _, s => TypeEq.meta_int s
  | .str _, s => TypeEq.meta_str s
  | .list _, s => TypeEq.meta_list s
  | .tuple _, s => TypeEq.meta_tuple s
  | .dict _, s => TypeEq.meta_dict s
/-- type(x) != T -/
def rNeTy : R2 := fun x y H Q => ∃ (d : PyData) (T : String), x = .ty (tyD d) ∧ y = .ty T ∧ (∀ s : Shared, s.TypeIs (.type T) "type") ∧ Q (.bl (!decide (tyD d = T))) H
theorem op_neTy {X : Cx} : OpR X (compareOp .NotEq) rNeTy := by
  intro pins s σ H x y v u Q I rx ry h
  obtain ⟨d, T, rfl, rfl, hT, q⟩ := h
  cases rx
  cases ry
  refine TypeEq.ne_types (tyD_meta d) hT ⟨.bl _, H, I, rfl, ?_⟩
  have e : (Value.type (tyD d) == Value.type T) = decide (tyD d = T) := by
    by_cases h : tyD d = T
    · rw [h, decide_eq_true rfl]; exact beq_self_eq_true _
    · rw [decide_eq_false h, Bool.eq_false_iff]
      intro z
      rw [beq_iff_eq] at z
      injection z with z
      exact h z
  rw [e]
  exact q
end L2
set_option Elab.async false
set_option linter.all false
set_option maxRecDepth 100000
set_option maxHeartbeats 4000000
namespace Toy
open PySem L2
def namL : List Str → Bool
  | [] => false
  | p :: r => wrB p && r.all fun q => decide (V.str q = V.str "") || wrB q
def quo : Str := "'"
def nmB : PyData → Bool
  | .str x => decide (x.length ≤ 60) && namL (Txt.split x quo)
  | _ => false
/-! ### the texts of a thing -/
mutual
def txtB : PyData → Bool
  | .str x => PyData.strOk x && decide (x.length ≤ 2000)
  | .list ds => txtAll ds
  | .tuple ds => txtAll ds
  | _ => true
def txtAll : List PyData → Bool
  | [] => true
  | d :: ds => txtB d && txtAll ds
end
theorem app_cps (a b : Str) : (a ++ b).cps.toList = a.cps.toList ++ b.cps.toList := by
  show (a.cps ++ b.cps).toList = _
  exact Array.toList_append
theorem join_mem (y : Str) : ∀ (l : List Str) (p : Str), p ∈ l → (∀ c, c ∈ p.cps.toList → c ∈ (Str.join y l).cps.toList) ∧ p.length ≤ (Str.join y l).length
  | [], _, h => nomatch h
  | [x], p, h => by
    rw [List.mem_singleton.mp h]
    exact ⟨fun _ m => m, Nat.le_refl _⟩
  | x :: z :: r, p, h => by
    show (∀ c, c ∈ p.cps.toList → c ∈ (x ++ y ++ Str.join y (z :: r)).cps.toList) ∧ p.length ≤ (x ++ y ++ Str.join y (z :: r)).length
    rw [app_cps, app_cps, strLen_append, strLen_append]
    rcases List.mem_cons.mp h with rfl | h
    · exact ⟨fun c m => List.mem_append_left _ (List.mem_append_left _ m), by omega⟩
    · obtain ⟨a, b⟩ := join_mem y (z :: r) p h
      exact ⟨fun c m => List.mem_append_right _ (a c m), by omega⟩
theorem split_mem {x y p : Str} (h : p ∈ Txt.split x y) (ok : PyData.strOk x = true) : PyData.strOk p = true ∧ p.length ≤ x.length := by
  obtain ⟨a, b⟩ := join_mem y _ p h
  rw [StrLaws.join_split] at a b
  refine ⟨?_, b⟩
  unfold PyData.strOk
  rw [← Array.all_toList]
  exact List.all_eq_true.mpr fun c m => decide_eq_true (ok_code ok (a c m))
theorem split_ne (x y : Str) : Txt.split x y ≠ [] := by
  unfold Txt.split
  split
  · exact fun h => nomatch h
  · split
    · exact fun h => nomatch h
    · intro h
      have := length_partsBetween x (Builtin.Str.occurrences x y 0 x.length (x.length + 1)) y.length
      rw [h] at this
      exact absurd this (Nat.succ_ne_zero _).symm
theorem cutV_tail (xs : List V) : cutV xs (some 1) none = xs.drop 1 := by
  unfold cutV
  rw [HT.sIx_none, show HT.sIx xs.length 0 (some 1) = min 1 xs.length from HT.sIx_nat xs.length 0 1]
  by_cases h : 1 ≤ xs.length
  · rw [Nat.min_eq_left h, List.take_of_length_le (by rw [List.length_drop]; exact Nat.le_refl _)]
  · have z : xs.length = 0 := by omega
    rw [List.length_eq_zero_iff.mp z]
    simp
def spNm (K : PySem.W.Frag) : Sp := fun vs H Q _ => ∃ (v : V) (d : PyData), vs = [v] ∧ Dq K H v d ∧ txtB d = true ∧ ∀ H', Same H H' → Q (.bl (nmB d)) H'
structure Nt (mg : Str → Option Value) : Prop where
  type : mg "type" = none
  str : mg "str" = none
  isi : mg "isinstance" = none
structure Gv (P : Program) (w : World) (K : PySem.W.Frag) (mg : Str → Option Value) (base : Heap) (k : Nat) (x : Str) (f : Addr) (fd : FuncData) (ps : List Str) (sp : Sp) : Prop where
  ok : FnOk P w K mg base CX0 k f fd ps sp
  b : Binds K fd ps []
  k : PySem.W.keepIn K (.ref f) = true
  m : mg x = some (.ref f)
theorem nmB_not {d : PyData} (h : tyD d ≠ "str") : nmB d = false := by
  cases d <;> first | rfl | exact absurd rfl h
section
variable {P : Program} {w : World} {K : PySem.W.Frag} {mg : Str → Option Value} {base : Heap}
theorem scIN : FnScope ["value", "pieces", "piece"] ["value"] (defScope sIsName) := ⟨rfl, rfl, rfl, by decide +kernel, rfl, by decide +kernel, by decide +kernel⟩
theorem ok_isname {f g : Addr} {fd gd : FuncData} (F : Fun K "is_name" "is_name" sIsName f fd) (T : Nk mg) (U : Nt mg) (W : Gv P w K mg base 1 "is_written" g gd ["text"] spWr) : FnOk P w K mg base CX0 2 f fd ["value"] (spNm K) := by
  refine F.ok scIN (fun vs H Q E h => ?_) (fun cdv A outer s H vs Q E hr h => ?_)
  · obtain ⟨v, d, rfl, _⟩ := h
    rfl
  obtain ⟨v, d, rfl, hd, ht, q⟩ := h
  obtain ⟨t4, h4⟩ := T.ln
  refine ⟨_, pss_cons (ps_if (PW.pt (pw_or (pt_cmpR op_neTy (pe_callTy call_tyD rfl U.type (by decide +kernel) (pa_cons (pv 0) pa_nil)) (pe_bltn (v := .ty "str") rfl U.str (by decide +kernel) rfl (by decide) (by decide)) (nomark _))
      (pw_or1 (pt_cmpR op_gt (pe_callB call_len_str rfl T.len PySem.boot_len (pa_cons (pv 0) pa_nil)) (pe_glob (v := .int 60) rfl h4 ⟨_, rfl⟩) (nomark _))))) (pss_one (ps_ret pe_bl)) pss_nil)
    (pss_cons (ps_set (i := 1) scIN.nd rfl (.inl rfl) (pe_split (pv 0) pe_str))
    (pss_one (ps_ret (pe_and (pe_call W.ok hr rfl W.m W.k W.b .nil pass0 (pa_cons (pe_ix ix_list (pv 1) pe_int (fun _ _ => rfl)) pa_nil))
      (pe_one (pe_callB (cr_all rfl) rfl T.all (by decide +kernel) (pa_cons (pe_lc (own := [("piece", 2)]) (g := gName 2) (tt := tYes) rfl scIN.nd (pi_list (pe_slice sl_list (pv 1) (po_some pe_int) po_none)) (blkOk_by (own := [("piece", 2)]) (N := ["value", "pieces", "piece"]) (sc := defScope sIsName) (by decide +kernel))
        (fun _ _ _ _ _ => pg_name (i := 2) scIN.nd rfl (.inl rfl)) (fun _ _ _ _ _ => pts_nil) (fun _ _ _ _ _ => pe_or (pe_cmpR op_eq (pv 2) pe_str (nomark _)) (pe_one (pe_call W.ok hr rfl W.m W.k W.b .nil pass0 (pa_cons (pv 2) pa_nil))))) pa_nil))))))), ?_⟩
  refine ⟨_, rfl, _, d, rfl, hd, d, "str", rfl, rfl, TypeEq.meta_str, _, rfl, ?_⟩
  refine ite2 (fun h => ?_) (fun h => ?_)
  · have e : tyD d ≠ "str" := fun z => by
      rw [decide_eq_true z] at h
      cases h
    rw [← nmB_not e]
    exact q H (Same.refl H)
  · have e : tyD d = "str" := by
      by_cases z : tyD d = "str"
      · exact z
      · exact absurd (show (!decide (tyD d = "str")) = true by rw [decide_eq_false z]; rfl) h
    cases hd with
    | str x =>
      obtain ⟨hok, hx⟩ := Bool.and_eq_true_iff.mp ht
      have hx' : x.length ≤ 2000 := of_decide_eq_true hx
      have hz : ∀ {k : Nat}, k ≤ 2002 → k ≤ sizeLine := fun h => Nat.le_trans h (by decide)
      refine ⟨_, rfl, _, rfl, hz (by omega), _, _, rfl, rfl, _, rfl, ?_⟩
      refine ite2 (fun g => ?_) (fun g => ?_)
      · have g' : (x.length : Int) > 60 := of_decide_eq_true g
        have e : nmB (.str x) = false := by
          show (decide (x.length ≤ 60) && _) = false
          rw [decide_eq_false (by omega)]
          rfl
        rw [← e]
        exact q H (Same.refl H)
      · have g' : ¬ (x.length : Int) > 60 := of_decide_eq_false (Bool.eq_false_iff.mpr g)
        have en : nmB (.str x) = namL (Txt.split x quo) := by
          show (decide (x.length ≤ 60) && _) = _
          rw [decide_eq_true (by omega)]
          rfl
        rw [en] at q
        refine ⟨_, rfl, ⟨_, rfl⟩, x, quo, rfl, rfl, by decide, hz (by omega), fun L hL => ?_⟩
        have sL := same_new hL (.lst ((Txt.split x quo).map V.str))
        have aL : upd H L (.lst ((Txt.split x quo).map V.str)) L = some (.lst ((Txt.split x quo).map V.str)) := upd_same
        generalize upd H L (.lst ((Txt.split x quo).map V.str)) = H1 at sL aL ⊢
        have mem := fun (p : Str) (m : p ∈ Txt.split x quo) => split_mem m hok
        cases hl : Txt.split x quo with
        | nil => exact absurd hl (split_ne x quo)
        | cons p r =>
          rw [hl] at aL q mem
          obtain ⟨pk, pl⟩ := mem p List.mem_cons_self
          refine ⟨_, rfl, L, _, 0, _, rfl, rfl, SqL.of aL, atI_nat (j := 0) rfl, p, rfl, hz (by omega), pk, fun H2 s2 => ⟨_, rfl, ?_⟩⟩
          cases hw : wrB p with
          | false =>
            refine iteF ?_
            have e : namL (p :: r) = false := by show (wrB p && _) = false; rw [hw]; rfl
            rw [← e]
            exact q H2 (sL.trans s2)
          | true =>
            refine iteT ?_
            have e : namL (p :: r) = r.all fun q => decide (V.str q = V.str "") || wrB q := by show (wrB p && _) = _; rw [hw]; rfl
            rw [e] at q
            have aL2 := s2 _ _ aL
            refine ⟨_, rfl, _, rfl, L, _, rfl, SqL.of aL2, fun S hS => ?_⟩
            have sS := same_new hS (.lst (cutV ((p :: r).map V.str) (some 1) none))
            have aS : upd H2 S (.lst (cutV ((p :: r).map V.str) (some 1) none)) S = some (.lst (r.map V.str)) := by rw [upd_same, cutV_tail]; rfl
            generalize upd H2 S (.lst (cutV ((p :: r).map V.str) (some 1) none)) = H3 at sS aS ⊢
            refine ⟨S, rfl, ⟨_, SqL.of aS⟩, fun D nD => ?_⟩
            refine lc_it (walk_list (xs := r.map V.str)) (fun i H4 => Same H3 H4 ∧ H4 D = some (.lst ((r.take i).map fun q => V.bl (decide (V.str q = V.str "") || wrB q)))) ⟨same_new nD _, upd_same⟩ (fun i H4 _ z => SqL.of (z.1 _ _ aS)) ?_ ?_
            · rintro i y H4 _ hi ⟨s4, hD⟩ ⟨rfl, hy⟩
              refine ⟨rfl, ?_⟩
              simp only [tYes, ↓reduceIte]
              obtain ⟨u, hu, rfl⟩ : ∃ u, r[i]? = some u ∧ V.str u = y := by
                rw [List.getElem?_map] at hy
                cases z : r[i]? with
                | none => rw [z] at hy; cases hy
                | some u => rw [z] at hy; exact ⟨u, rfl, Option.some.inj hy⟩
              obtain ⟨uk, ul⟩ := mem u (List.mem_cons_of_mem _ (List.mem_of_getElem? hu))
              have hi' : i < r.length := (List.getElem?_eq_some_iff.mp hu).1
              have tk : ((r.take (i + 1)).map fun q => V.bl (decide (V.str q = V.str "") || wrB q)) = ((r.take i).map fun q => V.bl (decide (V.str q = V.str "") || wrB q)) ++ [V.bl (decide (V.str u = V.str "") || wrB u)] := by
                rw [List.take_add_one, hu]
                simp only [Option.toList, List.map_append, List.map_cons, List.map_nil]
              have len : ((r.take i).map fun q => V.bl (decide (V.str q = V.str "") || wrB q)).length < sizeLine := by
                rw [List.length_map, List.length_take]
                have hr2 : r.length ≤ x.length + 1 := by
                  have := PyProof.Rows.split_le x quo
                  rw [hl] at this
                  simp only [List.length_cons] at this
                  omega
                exact Nat.lt_of_le_of_lt (Nat.le_trans (Nat.min_le_right _ _) (Nat.le_trans hr2 (by omega : x.length + 1 ≤ 2001))) (by decide)
              refine ⟨_, rfl, rfl, _, rfl, ?_⟩
              refine ite2 (fun z => ?_) (fun z => ?_)
              · refine ⟨_, hD, len, fun b o e => by rw [upd_ne (ne_of_none e nD)]; exact s4 _ _ e, ?_⟩
                rw [upd_same, tk]
                have z' : decide (V.str u = V.str "") = true := z
                rw [z', Bool.true_or]
              · have z' : decide (V.str u = V.str "") = false := Bool.eq_false_iff.mpr z
                refine ⟨_, rfl, u, rfl, hz (by omega), uk, fun H5 s5 => ⟨_, s5 _ _ hD, len, fun b o e => by rw [upd_ne (ne_of_none e nD)]; exact s5 _ _ (s4 _ _ e), ?_⟩⟩
                rw [upd_same, tk, z', Bool.false_or]
            · rintro H4 ⟨s4, hD⟩
              rw [List.length_map, List.take_length] at hD
              refine ⟨D, r.map fun q => decide (V.str q = V.str "") || wrB q, rfl, SqL.of (by rw [hD, List.map_map]; rfl), ?_⟩
              have e : (r.map fun q => decide (V.str q = V.str "") || wrB q).all id = r.all fun q => decide (V.str q = V.str "") || wrB q := by rw [List.all_map]; rfl
              rw [e]
              exact q H4 (sL.trans (s2.trans (sS.trans s4)))
    | non => exact absurd (show ("NoneType" : String) = "str" from e) (by decide)
    | bl _ => exact absurd (show ("bool" : String) = "str" from e) (by decide)
    | int _ => exact absurd (show ("int" : String) = "str" from e) (by decide)
    | lst _ _ => exact absurd (show ("list" : String) = "str" from e) (by decide)
    | tup _ _ => exact absurd (show ("tuple" : String) = "str" from e) (by decide)
    | dic _ => exact absurd (show ("dict" : String) = "str" from e) (by decide)
end
end Toy
set_option Elab.async false
set_option linter.all false
set_option maxRecDepth 100000
set_option maxHeartbeats 4000000
namespace Toy
open PySem L2
theorem strD_canLay : ∀ l : List Str, (∀ p ∈ l, PyData.strOk p = true) → PyData.canLayAll0 (l.map PyData.str) = true
  | [], _ => by simp only [List.map_nil, PyData.canLayAll0]
  | c :: r, h => by simp only [List.map_cons, PyData.canLayAll0, PyData.canLay0, h c List.mem_cons_self, strD_canLay r fun x hx => h x (List.mem_cons_of_mem _ hx), Bool.and_self]
theorem strD_depth : ∀ l : List Str, PyData.depthAll (l.map PyData.str) = 0
  | [] => by simp only [List.map_nil, PyData.depthAll]
  | c :: r => by simp only [List.map_cons, PyData.depthAll, PyData.depth, strD_depth r, Nat.max_self]
theorem strD_shaped (l : List Str) (h : ∀ p ∈ l, PyData.strOk p = true) : SeqAt.shaped (.list (l.map PyData.str)) = true := by
  unfold SeqAt.shaped
  have e : (PyData.list (l.map PyData.str)).canLay0 = true := by simp only [PyData.canLay0, strD_canLay l h]
  rw [e, Bool.true_and]
  refine decide_eq_true ?_
  simp only [PyData.depth, strD_depth]
  omega
theorem dp_strD {K : PySem.W.Frag} {H : Hp} : ∀ l : List Str, DpAll K H (l.map V.str) (l.map PyData.str)
  | [] => .nil
  | _ :: r => .cons (.str _) (dp_strD r)
def okP (q : Str) : Bool := decide (V.str q = V.str "") || wrB q
theorem filtP_empty : ∀ r : List Str, ((r.filter fun c => !okP c).map PyData.str).isEmpty = r.all okP
  | [] => rfl
  | c :: r => by
    by_cases h : okP c = true
    · rw [List.filter_cons_of_neg (by rw [h]; decide), List.all_cons, h, Bool.true_and]
      exact filtP_empty r
    · have e : okP c = false := Bool.eq_false_iff.mpr h
      rw [List.filter_cons_of_pos (by rw [e]; rfl), List.all_cons, e]
      rfl
section
variable {P : Program} {w : World} {K : PySem.W.Frag} {mg : Str → Option Value} {base : Heap}
theorem kit_str : ∀ d : PyData, PySem.W.kitOne K (.type (tyD d)) (.type "str") = some (decide (tyD d = "str"))
  | .none => L2.kit_ty (show L2.kitB "NoneType" "str" = some (decide (("NoneType" : String) = "str")) by decide +kernel)
  | .bool _ => L2.kit_ty (show L2.kitB "bool" "str" = some (decide (("bool" : String) = "str")) by decide +kernel)
  | .int _ => L2.kit_ty (show L2.kitB "int" "str" = some (decide (("int" : String) = "str")) by decide +kernel)
  | .str _ => L2.kit_ty (show L2.kitB "str" "str" = some (decide (("str" : String) = "str")) by decide +kernel)
  | .list _ => L2.kit_ty (show L2.kitB "list" "str" = some (decide (("list" : String) = "str")) by decide +kernel)
  | .tuple _ => L2.kit_ty (show L2.kitB "tuple" "str" = some (decide (("tuple" : String) = "str")) by decide +kernel)
  | .dict _ => L2.kit_ty (show L2.kitB "dict" "str" = some (decide (("dict" : String) = "str")) by decide +kernel)
theorem kit_tup : ∀ d : PyData, PySem.W.kitOne K (.type (tyD d)) (.type "tuple") = some (decide (tyD d = "tuple"))
  | .none => L2.kit_ty (show L2.kitB "NoneType" "tuple" = some (decide (("NoneType" : String) = "tuple")) by decide +kernel)
  | .bool _ => L2.kit_ty (show L2.kitB "bool" "tuple" = some (decide (("bool" : String) = "tuple")) by decide +kernel)
  | .int _ => L2.kit_ty (show L2.kitB "int" "tuple" = some (decide (("int" : String) = "tuple")) by decide +kernel)
  | .str _ => L2.kit_ty (show L2.kitB "str" "tuple" = some (decide (("str" : String) = "tuple")) by decide +kernel)
  | .list _ => L2.kit_ty (show L2.kitB "list" "tuple" = some (decide (("list" : String) = "tuple")) by decide +kernel)
  | .tuple _ => L2.kit_ty (show L2.kitB "tuple" "tuple" = some (decide (("tuple" : String) = "tuple")) by decide +kernel)
  | .dict _ => L2.kit_ty (show L2.kitB "dict" "tuple" = some (decide (("dict" : String) = "tuple")) by decide +kernel)
theorem scLN : FnScope ["thing", "parts", "wrong", "each"] ["thing"] (defScope sLName) := ⟨rfl, rfl, rfl, by decide +kernel, rfl, by decide +kernel, by decide +kernel⟩
theorem ok_lname {f g : Addr} {fd gd : FuncData} (F : Fun K "_law_is_name" "_law_is_name" sLName f fd) (T : Nk mg) (U : Nt mg) (W : Gv P w K mg base 1 "_law_is_written" g gd ["text"] spWr) : FnOk P w K mg base CX0 2 f fd ["thing"] (spNm K) := by
  refine F.ok scLN (fun vs H Q E h => ?_) (fun cdv A outer s H vs Q E hr h => ?_)
  · obtain ⟨v, d, rfl, _⟩ := h
    rfl
  obtain ⟨v, d, rfl, hd, ht, q⟩ := h
  have hu : ∀ env, (A.deeper env).units = A.units + 3 := fun _ => rfl
  have hu' : A.units + 3 + 64 < cLine := by
    have := hr.un
    rw [hu] at this
    omega
  refine ⟨_, pss_cons (ps_if (PW.pt (pw_or (pt_not (pt_val (pe_callB (call_isD (T := "str")) rfl U.isi (by decide +kernel) (pa_cons (pv 0) (pa_cons (pe_bltn (v := .ty "str") rfl U.str (by decide +kernel) rfl (by decide) (by decide)) pa_nil)))))
      (pw_or1 (pt_cmpR op_gt (pe_callB call_len_str rfl T.len PySem.boot_len (pa_cons (pv 0) pa_nil)) pe_int (nomark _))))) (pss_one (ps_ret pe_bl)) pss_nil)
    (pss_cons (ps_set (i := 1) scLN.nd rfl (.inl rfl) (pe_split (pv 0) pe_str))
    (pss_cons (ps_setLc (i := 2) (own := [("each", 3)]) (g := gName 3) rfl scLN.nd rfl rfl (sw_true rfl rfl rfl (by decide +kernel)) (pi_list (pe_slice sl_list (pv 1) (po_some pe_int) po_none)) (blkOk_by (own := [("each", 3)]) (N := ["thing", "parts", "wrong", "each"]) (sc := defScope sLName) (by decide +kernel))
        (fun _ _ _ _ _ => pg_name (i := 3) scLN.nd rfl (.inl rfl)) (fun _ _ _ _ _ => pts_one (PW.pt (pw_and (pt_cmpR op_ne (pv 3) pe_str (nomark _)) (pw_and1 (pt_not (pt_val (pe_call W.ok hr rfl W.m W.k W.b .nil pass0 (pa_cons (pv 3) pa_nil)))))))) (fun _ _ _ _ _ => pv 3))
    (pss_one (ps_ret (pe_and (pe_call W.ok hr rfl W.m W.k W.b .nil pass0 (pa_cons (pe_ix ix_list (pv 1) pe_int (fun _ _ => rfl)) pa_nil))
      (pe_one (pe_cmpR (op_eqD hu') (pv 2) (pe_lst pa_nil) (nomark _)))))))), ?_⟩
  refine ⟨_, rfl, _, d, _, rfl, hd, kit_str d, _, rfl, ?_⟩
  refine ite2 (fun h => ?_) (fun h => ?_)
  · have e : tyD d ≠ "str" := fun z => by
      rw [decide_eq_true z] at h
      cases h
    rw [← nmB_not e]
    exact q H (Same.refl H)
  · have e : tyD d = "str" := by
      by_cases z : tyD d = "str"
      · exact z
      · exact absurd (show (!decide (tyD d = "str")) = true by rw [decide_eq_false z]; rfl) h
    cases hd with
    | str x =>
      obtain ⟨hok, hx⟩ := Bool.and_eq_true_iff.mp ht
      have hx' : x.length ≤ 2000 := of_decide_eq_true hx
      have hz : ∀ {k : Nat}, k ≤ 2002 → k ≤ sizeLine := fun h => Nat.le_trans h (by decide)
      refine ⟨_, rfl, _, rfl, hz (by omega), _, _, rfl, rfl, _, rfl, ?_⟩
      refine ite2 (fun g => ?_) (fun g => ?_)
      · have g' : (x.length : Int) > 60 := of_decide_eq_true g
        have e : nmB (.str x) = false := by
          show (decide (x.length ≤ 60) && _) = false
          rw [decide_eq_false (by omega)]
          rfl
        rw [← e]
        exact q H (Same.refl H)
      · have g' : ¬ (x.length : Int) > 60 := of_decide_eq_false (Bool.eq_false_iff.mpr g)
        have en : nmB (.str x) = namL (Txt.split x quo) := by
          show (decide (x.length ≤ 60) && _) = _
          rw [decide_eq_true (by omega)]
          rfl
        rw [en] at q
        refine ⟨_, rfl, ⟨_, rfl⟩, x, quo, rfl, rfl, by decide, hz (by omega), fun L hL => ?_⟩
        have sL := same_new hL (.lst ((Txt.split x quo).map V.str))
        have aL : upd H L (.lst ((Txt.split x quo).map V.str)) L = some (.lst ((Txt.split x quo).map V.str)) := upd_same
        generalize upd H L (.lst ((Txt.split x quo).map V.str)) = H1 at sL aL ⊢
        have mem := fun (p : Str) (m : p ∈ Txt.split x quo) => split_mem m hok
        have hlen : (Txt.split x quo).length ≤ x.length + 2 := PyProof.Rows.split_le x quo
        cases hl : Txt.split x quo with
        | nil => exact absurd hl (split_ne x quo)
        | cons p r =>
          rw [hl] at aL q mem hlen
          obtain ⟨pk, pl⟩ := mem p List.mem_cons_self
          refine ⟨_, rfl, _, rfl, L, _, rfl, SqL.of aL, fun S hS => ?_⟩
          have sS := same_new hS (.lst (cutV ((p :: r).map V.str) (some 1) none))
          have aS : upd H1 S (.lst (cutV ((p :: r).map V.str) (some 1) none)) S = some (.lst (r.map V.str)) := by rw [upd_same, cutV_tail]; rfl
          generalize upd H1 S (.lst (cutV ((p :: r).map V.str) (some 1) none)) = H3 at sS aS ⊢
          refine ⟨S, rfl, ⟨_, SqL.of aS⟩, fun D nD => ?_⟩
          refine lc_it (walk_list (xs := r.map V.str)) (fun i H4 => Same H3 H4 ∧ H4 D = some (.lst (((r.take i).filter fun q => !okP q).map V.str))) ⟨same_new nD _, upd_same⟩ (fun i H4 _ z => SqL.of (z.1 _ _ aS)) ?_ ?_
          · rintro i y H4 _ hi ⟨s4, hD⟩ ⟨rfl, hy⟩
            refine ⟨rfl, ?_⟩
            obtain ⟨u, hu, rfl⟩ : ∃ u, r[i]? = some u ∧ V.str u = y := by
              rw [List.getElem?_map] at hy
              cases z : r[i]? with
              | none => rw [z] at hy; cases hy
              | some u => rw [z] at hy; exact ⟨u, rfl, Option.some.inj hy⟩
            obtain ⟨uk, ul⟩ := mem u (List.mem_cons_of_mem _ (List.mem_of_getElem? hu))
            have tk : ((r.take (i + 1)).filter fun q => !okP q).map V.str = ((r.take i).filter fun q => !okP q).map V.str ++ (if (!okP u) = true then [V.str u] else []) := by
              rw [List.take_add_one, hu, List.filter_append, List.map_append]
              congr 1
              by_cases hs : (!okP u) = true
              · rw [if_pos hs]
                show (List.filter _ [u]).map _ = _
                rw [List.filter_cons_of_pos (p := fun q => !okP q) hs]
                rfl
              · rw [if_neg hs]
                show (List.filter _ [u]).map _ = _
                rw [List.filter_cons_of_neg (p := fun q => !okP q) hs]
                rfl
            have len : (((r.take i).filter fun q => !okP q).map V.str).length < sizeLine := by
              rw [List.length_map]
              have h1 := List.length_filter_le (fun q => !okP q) (r.take i)
              rw [List.length_take] at h1
              simp only [List.length_cons] at hlen
              exact Nat.lt_of_le_of_lt (Nat.le_trans h1 (Nat.le_trans (Nat.min_le_right _ _) (by omega : r.length ≤ 2001))) (by decide)
            refine ⟨_, rfl, rfl, _, rfl, ?_⟩
            refine ite2 (fun z => ?_) (fun z => ?_)
            · have z0 : decide (V.str u = V.str "") = false := by
                have z' : (!decide (V.str u = V.str "")) = true := z
                cases e0 : decide (V.str u = V.str "") with
                | false => rfl
                | true => rw [e0] at z'; cases z'
              have ou : okP u = wrB u := by unfold okP; rw [z0, Bool.false_or]
              refine ⟨_, rfl, u, rfl, hz (by omega), uk, fun H5 s5 => ⟨_, rfl, ?_⟩⟩
              refine ite2 (fun zw => ?_) (fun zw => ?_)
              · refine ⟨_, rfl, _, s5 _ _ hD, len, fun b o e => by rw [upd_ne (ne_of_none e nD)]; exact s5 _ _ (s4 _ _ e), ?_⟩
                rw [upd_same, tk, if_pos (by rw [ou]; exact zw)]
              · exact ⟨fun b o e => s5 _ _ (s4 _ _ e), by rw [tk, if_neg (by rw [ou]; exact zw), List.append_nil]; exact s5 _ _ hD⟩
            · have z0 : decide (V.str u = V.str "") = true := by
                cases e0 : decide (V.str u = V.str "") with
                | true => rfl
                | false => exact absurd (show (!decide (V.str u = V.str "")) = true by rw [e0]; rfl) z
              refine iteF ⟨s4, ?_⟩
              rw [tk, if_neg (by unfold okP; rw [z0, Bool.true_or]; decide), List.append_nil]
              exact hD
          · rintro H4 ⟨s4, hD⟩
            rw [List.length_map, List.take_length] at hD
            have sA : Same H H4 := sL.trans (sS.trans s4)
            have aL4 : H4 L = some (.lst ((p :: r).map V.str)) := s4 _ _ (sS _ _ aL)
            refine ⟨_, rfl, L, _, 0, _, rfl, rfl, SqL.of aL4, atI_nat (j := 0) rfl, p, rfl, hz (by omega), pk, fun H2 s2 => ⟨_, rfl, ?_⟩⟩
            cases hw : wrB p with
            | false =>
              refine iteF ?_
              have e : namL (p :: r) = false := by show (wrB p && _) = false; rw [hw]; rfl
              rw [← e]
              exact q H2 (sA.trans s2)
            | true =>
              refine iteT ?_
              have e : namL (p :: r) = r.all okP := by show (wrB p && _) = _; rw [hw]; rfl
              rw [e] at q
              refine ⟨_, rfl, by show 0 ≤ sizeLine; exact Nat.zero_le _, fun E5 h5 => ?_⟩
              have s5 := same_new h5 (.lst [])
              refine ⟨_, _, .lst (SqL.of (s5 _ _ (s2 _ _ hD))) (dp_strD _), .lst (SqL.of upd_same) .nil, strD_shaped _ (fun c hc => (mem c (List.mem_cons_of_mem _ (List.mem_filter.mp hc).1)).1), rfl, ?_⟩
              rw [eqv_nil, filtP_empty]
              exact q _ (sA.trans (s2.trans s5))
    | non => exact absurd (show ("NoneType" : String) = "str" from e) (by decide)
    | bl _ => exact absurd (show ("bool" : String) = "str" from e) (by decide)
    | int _ => exact absurd (show ("int" : String) = "str" from e) (by decide)
    | lst _ _ => exact absurd (show ("list" : String) = "str" from e) (by decide)
    | tup _ _ => exact absurd (show ("tuple" : String) = "str" from e) (by decide)
    | dic _ => exact absurd (show ("dict" : String) = "str" from e) (by decide)
end
end Toy
set_option Elab.async false
set_option linter.all false
set_option maxRecDepth 100000
set_option maxHeartbeats 4000000
namespace Toy
open PySem L2
abbrev sAmong : Stmt := top 19
def w3 (w : Str) : Bool := inV (.str w) [.str "thing", .str "none", .str "unit"]
def w2 (w : Str) : Bool := inV (.str w) [.str "pair", .str "either"]
def w1 (w : Str) : Bool := decide (V.str w = V.str "name")
/-- what should be kinds within a thing; none for what has no kind's form -/
def inner : PyData → Option (List PyData)
  | .tuple [.str w] => if w3 w = true then some [] else none
  | .tuple [.str w, d] => if (w1 w && nmB d) = true then some [] else none
  | .tuple [.str w, a, b] => if w2 w = true then some [a, b] else none
  | _ => none
/-- the data lies in G, the tuple in H -/
def KaRes (K : PySem.W.Frag) (G H : Hp) (u : V) : Option (List PyData) → Prop
  | none => u = .non
  | some ds => ∃ a xs, u = .ref a ∧ SqT K H a xs ∧ DqAll K G xs ds
def spKa (K : PySem.W.Frag) : Sp := fun vs H Q _ => ∃ (v : V) (d : PyData) (G : Hp), vs = [v] ∧ Same G H ∧ Dq K G v d ∧ txtB d = true ∧ ∀ u H', Same H H' → KaRes K G H' u (inner d) → Q u H'
structure Nu (mg : Str → Option Value) : Prop where
  tuple : mg "tuple" = none
theorem num_eq {n : Nat} {i : Int} (h : decide (V.int (n : Int) = V.int i) = true) : (n : Int) = i := by
  have z := of_decide_eq_true h
  injection z
theorem num_ne {n : Nat} {i : Int} (h : ¬ decide (V.int (n : Int) = V.int i) = true) : (n : Int) ≠ i := fun e => h (by rw [e]; exact decide_eq_true rfl)
theorem tup_of {d : PyData} (h : tyD d = "tuple") : ∃ ds, d = .tuple ds := by
  cases d with
  | tuple ds => exact ⟨ds, rfl⟩
  | none => exact absurd (show ("NoneType" : String) = "tuple" from h) (by decide)
  | bool _ => exact absurd (show ("bool" : String) = "tuple" from h) (by decide)
  | int _ => exact absurd (show ("int" : String) = "tuple" from h) (by decide)
  | str _ => exact absurd (show ("str" : String) = "tuple" from h) (by decide)
  | list _ => exact absurd (show ("list" : String) = "tuple" from h) (by decide)
  | dict _ => exact absurd (show ("dict" : String) = "tuple" from h) (by decide)
theorem str_of {d : PyData} (h : tyD d = "str") : ∃ x, d = .str x := by
  cases d with
  | str x => exact ⟨x, rfl⟩
  | none => exact absurd (show ("NoneType" : String) = "str" from h) (by decide)
  | bool _ => exact absurd (show ("bool" : String) = "str" from h) (by decide)
  | int _ => exact absurd (show ("int" : String) = "str" from h) (by decide)
  | tuple _ => exact absurd (show ("tuple" : String) = "str" from h) (by decide)
  | list _ => exact absurd (show ("list" : String) = "str" from h) (by decide)
  | dict _ => exact absurd (show ("dict" : String) = "str" from h) (by decide)
theorem inner_ty {d : PyData} (h : tyD d ≠ "tuple") : inner d = none := by
  cases d <;> first | rfl | exact absurd rfl h
theorem inner_hd {d : PyData} {r : List PyData} (h : tyD d ≠ "str") : inner (.tuple (d :: r)) = none := by
  cases d <;> first | rfl | exact absurd rfl h | (rcases r with _ | ⟨_, _ | ⟨_, _ | ⟨_, _⟩⟩⟩ <;> rfl)
theorem notT {s t : String} (h : (!decide (s = t)) = true) : s ≠ t := fun z => by rw [decide_eq_true z] at h; cases h
theorem isT {s t : String} (h : ¬ (!decide (s = t)) = true) : s = t := by
  by_cases z : s = t
  · exact z
  · exact absurd (show (!decide (s = t)) = true by rw [decide_eq_false z]; rfl) h
section
variable {P : Program} {w : World} {K : PySem.W.Frag} {mg : Str → Option Value} {base : Heap}
theorem dq_tuple {H : Hp} {v : V} {l : List PyData} (h : Dq K H v (.tuple l)) : ∃ a xs, v = .ref a ∧ SqT K H a xs ∧ DqAll K H xs l := by
  cases h with
  | tup h a => exact ⟨_, _, rfl, h, a⟩
theorem dq_str {H : Hp} {v : V} {x : Str} (h : Dq K H v (.str x)) : v = .str x := by
  cases h
  rfl
theorem dqAll_nil {H : Hp} {xs : List V} (h : DqAll K H xs []) : xs = [] := by
  cases h
  rfl
theorem dqAll_cons {H : Hp} {xs : List V} {d : PyData} {r : List PyData} (h : DqAll K H xs (d :: r)) : ∃ x rs, xs = x :: rs ∧ Dq K H x d ∧ DqAll K H rs r := by
  cases h with
  | cons a b => exact ⟨_, _, rfl, a, b⟩
theorem scKA : FnScope ["part", "word"] ["part"] (defScope sAmong) := ⟨rfl, rfl, rfl, by decide +kernel, rfl, by decide +kernel, by decide +kernel⟩
theorem ok_among {f g : Addr} {fd gd : FuncData} (F : Fun K "kinds_among" "kinds_among" sAmong f fd) (T : Nk mg) (U : Nt mg) (N : Nu mg) (G : Gv P w K mg base 2 "is_name" g gd ["value"] (spNm K)) : FnOk P w K mg base CX0 3 f fd ["part"] (spKa K) := by
  refine F.ok scKA (fun vs H Q E h => ?_) (fun cdv A outer s H vs Q E hr h => ?_)
  · obtain ⟨v, d, G, rfl, _⟩ := h
    rfl
  obtain ⟨v, d, G0, rfl, sG, hd, ht, q⟩ := h
  refine ⟨_, pss_cons (ps_if (PW.pt (pw_or (pt_cmpR op_neTy (pe_callTy call_tyD rfl U.type (by decide +kernel) (pa_cons (pv 0) pa_nil)) (pe_bltn (v := .ty "tuple") rfl N.tuple (by decide +kernel) rfl (by decide) (by decide)) (nomark _))
      (pw_or (pt_cmpR op_eq (pe_callB call_len_seq rfl T.len PySem.boot_len (pa_cons (pv 0) pa_nil)) pe_int (nomark _))
      (pw_or1 (pt_cmpR op_neTy (pe_callTy call_tyD rfl U.type (by decide +kernel) (pa_cons (pe_ix ix_tup (pv 0) pe_int (fun _ _ => rfl)) pa_nil)) (pe_bltn (v := .ty "str") rfl U.str (by decide +kernel) rfl (by decide) (by decide)) (nomark _)))))) (pss_one (ps_ret pe_non)) pss_nil)
    (pss_cons (ps_set (i := 1) scKA.nd rfl (.inl rfl) (pe_ix ix_tup (pv 0) pe_int (fun _ _ => rfl)))
    (pss_cons (ps_if (PW.pt (pw_and (pt_cmpR op_eq (pe_callB call_len_seq rfl T.len PySem.boot_len (pa_cons (pv 0) pa_nil)) pe_int (nomark _)) (pw_and1 (pt_cmpR op_in_seq (pv 1) (pe_tup (pa_cons pe_str (pa_cons pe_str (pa_cons pe_str pa_nil)))) (by rfl))))) (pss_one (ps_ret (pe_tup pa_nil))) pss_nil)
    (pss_cons (ps_if (PW.pt (pw_and (pt_cmpR op_eq (pe_callB call_len_seq rfl T.len PySem.boot_len (pa_cons (pv 0) pa_nil)) pe_int (nomark _)) (pw_and (pt_cmpR op_eq (pv 1) pe_str (nomark _)) (pw_and1 (pt_val (pe_call G.ok hr rfl G.m G.k G.b .nil pass0 (pa_cons (pe_ix ix_tup (pv 0) pe_int (fun _ _ => rfl)) pa_nil))))))) (pss_one (ps_ret (pe_tup pa_nil))) pss_nil)
    (pss_cons (ps_if (PW.pt (pw_and (pt_cmpR op_eq (pe_callB call_len_seq rfl T.len PySem.boot_len (pa_cons (pv 0) pa_nil)) pe_int (nomark _)) (pw_and1 (pt_cmpR op_in_seq (pv 1) (pe_tup (pa_cons pe_str (pa_cons pe_str pa_nil))) (by rfl))))) (pss_one (ps_ret (pe_slice sl_tup (pv 0) (po_some pe_int) po_none))) pss_nil)
    (pss_one (ps_ret pe_non)))))), ?_⟩
  have z3 : ∀ {k : Nat}, k ≤ 20 → k ≤ sizeLine := fun h => Nat.le_trans h (by decide)
  refine ⟨_, rfl, _, d, rfl, Dq.mono sG _ _ hd, d, "tuple", rfl, rfl, TypeEq.meta_tuple, _, rfl, ?_⟩
  refine ite2 (fun h => ?_) (fun h => ?_)
  · exact q .non H (Same.refl H) (by rw [inner_ty (notT h)]; rfl)
  obtain ⟨ds, rfl⟩ := tup_of (isT h)
  obtain ⟨a, xs, rfl, hxG, hA⟩ := dq_tuple hd
  have hx := sG.seqT hxG
  refine ⟨_, rfl, a, _, rfl, .inr hx, rfl, _, rfl, ?_⟩
  rcases ds with _ | ⟨d0, r⟩
  · obtain rfl := dqAll_nil hA
    exact iteT (q .non H (Same.refl H) rfl)
  · obtain ⟨x0, rs, rfl, h0, hR⟩ := dqAll_cons hA
    refine ite2 (fun g => absurd (num_eq g) (by simp only [List.length_cons]; omega)) (fun _ => ?_)
    refine ⟨_, rfl, a, _, 0, x0, rfl, rfl, hx, atI_nat (j := 0) rfl, x0, d0, rfl, Dq.mono sG _ _ h0, d0, "str", rfl, rfl, TypeEq.meta_str, _, rfl, ?_⟩
    refine ite2 (fun g => ?_) (fun g => ?_)
    · exact q .non H (Same.refl H) (by rw [inner_hd (notT g)]; rfl)
    obtain ⟨w, rfl⟩ := str_of (isT g)
    obtain rfl := dq_str h0
    refine ⟨_, rfl, a, _, 0, _, rfl, rfl, hx, atI_nat (j := 0) rfl, ?_⟩
    rcases r with _ | ⟨d1, _ | ⟨d2, _ | ⟨d3, r⟩⟩⟩
    · obtain rfl := dqAll_nil hR
      refine ⟨_, rfl, a, _, rfl, .inr hx, rfl, _, rfl, ?_⟩
      refine ite2 (fun _ => ?_) (fun g => absurd rfl (num_ne (n := 1) g))
      refine ⟨_, rfl, z3 (by show 3 ≤ 20; decide), fun t ht' => ⟨t, _, rfl, .inr (SqT.of upd_same), rfl, rfl, _, rfl, ?_⟩⟩
      have s1 := same_new ht' (.tup [.str "thing", .str "none", .str "unit"])
      refine ite2 (fun g => ?_) (fun g => ?_)
      · refine ⟨z3 (by show 0 ≤ 20; decide), fun p hp => ?_⟩
        exact q _ _ (s1.trans (same_new hp (.tup []))) (by show KaRes K _ _ _ (if w3 w = true then some [] else none); rw [if_pos (show w3 w = true from g)]; exact ⟨p, [], rfl, SqT.of upd_same, .nil⟩)
      · refine ⟨_, rfl, a, _, rfl, .inr (s1.seqT hx), rfl, _, rfl, ?_⟩
        refine ite2 (fun z => absurd (num_eq (n := 1) z) (by decide)) (fun _ => iteF ?_)
        refine ⟨_, rfl, a, _, rfl, .inr (s1.seqT hx), rfl, _, rfl, ?_⟩
        refine ite2 (fun z => absurd (num_eq (n := 1) z) (by decide)) (fun _ => iteF ?_)
        exact q .non _ s1 (by show KaRes K _ _ _ (if w3 w = true then some [] else none); rw [if_neg (show ¬ w3 w = true from g)]; rfl)
    · obtain ⟨x1, rs, rfl, h1, hR⟩ := dqAll_cons hR
      obtain rfl := dqAll_nil hR
      refine ⟨_, rfl, a, _, rfl, .inr hx, rfl, _, rfl, ?_⟩
      refine ite2 (fun z => absurd (num_eq (n := 2) z) (by decide)) (fun _ => iteF ?_)
      refine ⟨_, rfl, a, _, rfl, .inr hx, rfl, _, rfl, ?_⟩
      refine ite2 (fun _ => ?_) (fun g => absurd rfl (num_ne (n := 2) g))
      have rest : ∀ {H'}, Same H H' → (inner (.tuple [.str w, d1]) = none) → _ := fun {H'} s' e => q .non H' s' (by rw [e]; rfl)
      refine ⟨_, rfl, rfl, _, rfl, ?_⟩
      refine ite2 (fun g1 => ?_) (fun g1 => ?_)
      · refine ⟨_, rfl, a, _, 1, x1, rfl, rfl, hx, atI_nat (j := 1) rfl, x1, d1, rfl, Dq.mono sG _ _ h1, ?_, fun H' s' => ⟨_, rfl, ?_⟩⟩
        · have t2 : (txtB (.str w) && (txtB d1 && true)) = true := ht
          simp only [Bool.and_eq_true] at t2
          exact t2.2.1
        have e1 : w1 w = true := g1
        cases hn : nmB d1 with
        | true =>
          refine iteT ⟨z3 (by show 0 ≤ 20; decide), fun p hp => ?_⟩
          exact q _ _ (s'.trans (same_new hp (.tup []))) (by show KaRes K _ _ _ (if (w1 w && nmB d1) = true then some [] else none); rw [e1, hn]; exact ⟨p, [], rfl, SqT.of upd_same, .nil⟩)
        | false =>
          refine iteF ⟨_, rfl, a, _, rfl, .inr (s'.seqT hx), rfl, _, rfl, ?_⟩
          refine ite2 (fun z => absurd (num_eq (n := 2) z) (by decide)) (fun _ => iteF ?_)
          exact rest s' (by show (if (w1 w && nmB d1) = true then some [] else none) = none; rw [e1, hn]; rfl)
      · have e1 : w1 w = false := Bool.eq_false_iff.mpr g1
        refine iteF ⟨_, rfl, a, _, rfl, .inr hx, rfl, _, rfl, ?_⟩
        refine ite2 (fun z => absurd (num_eq (n := 2) z) (by decide)) (fun _ => iteF ?_)
        exact rest (Same.refl H) (by show (if (w1 w && nmB d1) = true then some [] else none) = none; rw [e1]; rfl)
    · obtain ⟨x1, rs, rfl, h1, hR1⟩ := dqAll_cons hR
      obtain ⟨x2, rs, rfl, h2, hR2⟩ := dqAll_cons hR1
      obtain rfl := dqAll_nil hR2
      refine ⟨_, rfl, a, _, rfl, .inr hx, rfl, _, rfl, ?_⟩
      refine ite2 (fun z => absurd (num_eq (n := 3) z) (by decide)) (fun _ => iteF ?_)
      refine ⟨_, rfl, a, _, rfl, .inr hx, rfl, _, rfl, ?_⟩
      refine ite2 (fun z => absurd (num_eq (n := 3) z) (by decide)) (fun _ => iteF ?_)
      refine ⟨_, rfl, a, _, rfl, .inr hx, rfl, _, rfl, ?_⟩
      refine ite2 (fun _ => ?_) (fun g => absurd rfl (num_ne (n := 3) g))
      refine ⟨_, rfl, z3 (by show 2 ≤ 20; decide), fun t ht' => ⟨t, _, rfl, .inr (SqT.of upd_same), rfl, rfl, _, rfl, ?_⟩⟩
      have s1 := same_new ht' (.tup [.str "pair", .str "either"])
      refine ite2 (fun g => ?_) (fun g => ?_)
      · refine ⟨_, rfl, _, rfl, a, _, rfl, s1.seqT hx, (fun z => absurd (show (1 : Nat) = 0 from z.1) (by decide)), fun p hp => ?_⟩
        have s2 := same_new hp (.tup (cutV [.str w, x1, x2] (some 1) none))
        exact q _ _ (s1.trans s2) (by show KaRes K _ _ _ (if w2 w = true then some [d1, d2] else none); rw [if_pos (show w2 w = true from g)]; exact ⟨p, [x1, x2], rfl, SqT.of (by rw [upd_same, cutV_tail]; rfl), hR⟩)
      · exact q .non _ s1 (by show KaRes K _ _ _ (if w2 w = true then some [d1, d2] else none); rw [if_neg (show ¬ w2 w = true from g)]; rfl)
    · obtain ⟨x1, rs, rfl, h1, hR1⟩ := dqAll_cons hR
      obtain ⟨x2, rs, rfl, h2, hR2⟩ := dqAll_cons hR1
      obtain ⟨x3, rs, rfl, h3, hR3⟩ := dqAll_cons hR2
      have ne : ∀ {i : Int}, i ≤ 3 → ¬ decide (V.int (((V.str w :: x1 :: x2 :: x3 :: rs).length : Nat) : Int) = V.int i) = true := fun {i} hi z => by
        have := num_eq z
        simp only [List.length_cons] at this
        omega
      refine ⟨_, rfl, a, _, rfl, .inr hx, rfl, _, rfl, ?_⟩
      refine ite2 (fun z => absurd z (ne (by decide))) (fun _ => iteF ?_)
      refine ⟨_, rfl, a, _, rfl, .inr hx, rfl, _, rfl, ?_⟩
      refine ite2 (fun z => absurd z (ne (by decide))) (fun _ => iteF ?_)
      refine ⟨_, rfl, a, _, rfl, .inr hx, rfl, _, rfl, ?_⟩
      refine ite2 (fun z => absurd z (ne (by decide))) (fun _ => iteF ?_)
      exact q .non H (Same.refl H) rfl
end
end Toy
set_option Elab.async false
set_option linter.all false
set_option maxRecDepth 100000
set_option maxHeartbeats 4000000
namespace Toy
open PySem L2
abbrev sHead : Stmt := top 31
def headB : PyData → Nat → List Str → Bool
  | .tuple (.str w :: r), n, ws => decide (r.length + 1 = n) && inV (.str w) (ws.map V.str)
  | _, _, _ => false
def spHd (K : PySem.W.Frag) : Sp := fun vs H Q _ => ∃ (v : V) (d : PyData) (n : Nat) (t : Addr) (ws : List Str), vs = [v, .int n, .ref t] ∧ Dq K H v d ∧ 1 ≤ n ∧ SqT K H t (ws.map V.str) ∧ Q (.bl (headB d n ws)) H
theorem head_ty {d : PyData} {n : Nat} {ws : List Str} (h : tyD d ≠ "tuple") : headB d n ws = false := by
  cases d <;> first | rfl | exact absurd rfl h
theorem head_hd {d : PyData} {r : List PyData} {n : Nat} {ws : List Str} (h : tyD d ≠ "str") : headB (.tuple (d :: r)) n ws = false := by
  cases d <;> first | rfl | exact absurd rfl h
theorem strs_flat : ∀ ws : List Str, (ws.map V.str).all flatV = true
  | [] => rfl
  | _ :: r => by rw [List.map_cons, List.all_cons, strs_flat r] <;> rfl
section
variable {P : Program} {w : World} {K : PySem.W.Frag} {mg : Str → Option Value} {base : Heap}
theorem scHd : FnScope ["thing", "many", "words"] ["thing", "many", "words"] (defScope sHead) := ⟨rfl, rfl, rfl, by decide +kernel, rfl, by decide +kernel, by decide +kernel⟩
theorem ok_head {f : Addr} {fd : FuncData} (F : Fun K "_law_is_headed" "_law_is_headed" sHead f fd) (T : Nk mg) (U : Nt mg) (N : Nu mg) : FnOk P w K mg base CX0 1 f fd ["thing", "many", "words"] (spHd K) := by
  refine F.ok scHd (fun vs H Q E h => ?_) (fun cdv A outer s H vs Q E hr h => ?_)
  · obtain ⟨v, d, n, t, ws, rfl, _⟩ := h
    rfl
  obtain ⟨v, d, n, t, ws, rfl, hd, hn, hw, q⟩ := h
  refine ⟨_, pss_cons (ps_if (PW.pt (pw_or (pt_not (pt_val (pe_callB (call_isD (T := "tuple")) rfl U.isi (by decide +kernel) (pa_cons (pv 0) (pa_cons (pe_bltn (v := .ty "tuple") rfl N.tuple (by decide +kernel) rfl (by decide) (by decide)) pa_nil)))))
      (pw_or1 (pt_cmpR op_ne (pe_callB call_len_seq rfl T.len PySem.boot_len (pa_cons (pv 0) pa_nil)) (pv 1) (nomark _))))) (pss_one (ps_ret pe_bl)) pss_nil)
    (pss_one (ps_ret (pe_and (pe_callB (call_isD (T := "str")) rfl U.isi (by decide +kernel) (pa_cons (pe_ix ix_tup (pv 0) pe_int (fun _ _ => rfl)) (pa_cons (pe_bltn (v := .ty "str") rfl U.str (by decide +kernel) rfl (by decide) (by decide)) pa_nil)))
      (pe_one (pe_cmpR op_in_seq (pe_ix ix_tup (pv 0) pe_int (fun _ _ => rfl)) (pv 2) (by rfl)))))), ?_⟩
  refine ⟨_, rfl, _, d, _, rfl, hd, kit_tup d, _, rfl, ?_⟩
  refine ite2 (fun h => ?_) (fun h => ?_)
  · rw [head_ty (notT h)] at q
    exact q
  obtain ⟨ds, rfl⟩ := tup_of (isT h)
  obtain ⟨a, xs, rfl, hx, hA⟩ := dq_tuple hd
  refine ⟨_, rfl, a, _, rfl, .inr hx, _, rfl, rfl, _, rfl, ?_⟩
  have hl := hA.len
  refine ite2 (fun g => ?_) (fun g => ?_)
  · have ne : ds.length ≠ n := fun z => by
      have z2 : (!decide (V.int (xs.length : Nat) = V.int (n : Nat))) = true := g
      rw [hl, z, decide_eq_true rfl] at z2
      cases z2
    have e : headB (.tuple ds) n ws = false := by
      rcases ds with _ | ⟨d0, r⟩
      · rfl
      · cases d0 <;> first | rfl | (show (decide (r.length + 1 = n) && _) = false; rw [decide_eq_false (show ¬ r.length + 1 = n from ne)]; rfl)
    rw [e] at q
    exact q
  · have en : ds.length = n := by
      by_cases z : ds.length = n
      · exact z
      · refine absurd (show (!decide (V.int (xs.length : Nat) = V.int (n : Nat))) = true from ?_) g
        rw [hl, decide_eq_false (fun y => z (by injection y with y; omega))]
        rfl
    rcases ds with _ | ⟨d0, r⟩
    · rw [← en] at hn
      exact absurd hn (by decide)
    · obtain ⟨x0, rs, rfl, h0, hR⟩ := dqAll_cons hA
      refine ⟨_, rfl, a, _, 0, x0, rfl, rfl, hx, atI_nat (j := 0) rfl, x0, d0, _, rfl, h0, kit_str d0, _, rfl, ?_⟩
      by_cases z : tyD d0 = "str"
      · rw [decide_eq_true z]
        obtain ⟨w, rfl⟩ := str_of z
        obtain rfl := dq_str h0
        refine iteT ⟨_, rfl, a, _, 0, _, rfl, rfl, hx, atI_nat (j := 0) rfl, _, rfl, t, _, rfl, .inr hw, rfl, strs_flat ws, ?_⟩
        have e : headB (.tuple (.str w :: r)) n ws = inV (.str w) (ws.map V.str) := by
          show (decide (r.length + 1 = n) && _) = _
          rw [decide_eq_true (show r.length + 1 = n from en), Bool.true_and]
        rw [e] at q
        exact q
      · rw [decide_eq_false z]
        refine iteF ?_
        rw [head_hd z] at q
        exact q
end
end Toy
set_option Elab.async false
set_option linter.all false
set_option maxRecDepth 100000
set_option maxHeartbeats 2000000
namespace Toy
open PySem L2
abbrev sForm : Stmt := top 32
abbrev L3 : List Str := ["thing", "none", "unit"]
abbrev L2w : List Str := ["pair", "either"]
abbrev L1 : List Str := ["name"]
def both (f : PyData → Bool) : PyData → Bool
  | .tuple [_, a, b] => f a && f b
  | _ => false
def named : PyData → Bool
  | .tuple [_, x] => nmB x
  | _ => false
/-- the form of a kind, so deep at most -/
def fB : Nat → PyData → Bool
  | 0, _ => false
  | n + 1, d => headB d 1 L3 || (if headB d 3 L2w = true then both (fB n) d else headB d 2 L1 && named d)
def spFm (K : PySem.W.Frag) (n : Nat) : Sp := fun vs H Q _ => ∃ (v : V) (d : PyData), vs = [v] ∧ Dq K H v d ∧ txtB d = true ∧ d.depth ≤ n ∧ ∀ H', Same H H' → Q (.bl (fB n d)) H'
theorem head_form {d : PyData} {n : Nat} {ws : List Str} (h : headB d n ws = true) : ∃ w r, d = .tuple (.str w :: r) ∧ r.length + 1 = n := by
  cases d with
  | tuple ds =>
    rcases ds with _ | ⟨d0, r⟩
    · cases h
    · cases d0 with
      | str w =>
        have z : (decide (r.length + 1 = n) && inV (.str w) (ws.map V.str)) = true := h
        simp only [Bool.and_eq_true, decide_eq_true_eq] at z
        exact ⟨w, r, rfl, z.1⟩
      | _ => cases h
  | _ => cases h
theorem head_zero {d : PyData} {n : Nat} {ws : List Str} (h : d.depth ≤ 0) : headB d n ws = false := by
  cases e : headB d n ws with
  | false => rfl
  | true =>
    obtain ⟨w, r, rfl, _⟩ := head_form e
    simp only [PyData.depth] at h
    omega
section
variable {P : Program} {w : World} {K : PySem.W.Frag} {mg : Str → Option Value} {base : Heap}
theorem scFm : FnScope ["thing"] ["thing"] (defScope sForm) := ⟨rfl, rfl, rfl, by decide +kernel, rfl, by decide +kernel, by decide +kernel⟩
theorem depth_two {w : Str} {a b : PyData} {n : Nat} (h : (PyData.tuple [.str w, a, b]).depth ≤ n + 1) : a.depth ≤ n ∧ b.depth ≤ n := by
  simp only [PyData.depth, PyData.depthAll] at h
  omega
theorem ok_form {f fH fN : Addr} {fd dH dN : FuncData} {n k : Nat} {sp' : Sp} (hk : 2 ≤ k) (F : Fun K "_law_is_formed" "_law_is_formed" sForm f fd) (Hd : Gv P w K mg base 1 "_law_is_headed" fH dH ["thing", "many", "words"] (spHd K)) (Nm : Gv P w K mg base 2 "_law_is_name" fN dN ["thing"] (spNm K))
    (R : Gv P w K mg base k "_law_is_formed" f fd ["thing"] sp') (hR : n ≠ 0 → sp' = spFm K (n - 1)) : FnOk P w K mg base CX0 (k + 1) f fd ["thing"] (spFm K n) := by
  refine F.ok scFm (fun vs H Q E h => ?_) (fun cdv A outer s H vs Q E hr h => ?_)
  · obtain ⟨v, d, rfl, _⟩ := h
    rfl
  obtain ⟨v, d, rfl, hd, ht, hdp, q⟩ := h
  have hr1 : Room 1 (A.deeper _) := hr.mono (by omega)
  have hr2 : Room 2 (A.deeper _) := hr.mono hk
  refine ⟨_, pss_cons (ps_if (pt_val (pe_call Hd.ok hr1 rfl Hd.m Hd.k Hd.b .nil pass0 (pa_cons (pv 0) (pa_cons pe_int (pa_cons (pe_tup (pa_cons pe_str (pa_cons pe_str (pa_cons pe_str pa_nil)))) pa_nil))))) (pss_one (ps_ret pe_bl)) pss_nil)
    (pss_cons (ps_if (pt_val (pe_call Hd.ok hr1 rfl Hd.m Hd.k Hd.b .nil pass0 (pa_cons (pv 0) (pa_cons pe_int (pa_cons (pe_tup (pa_cons pe_str (pa_cons pe_str pa_nil))) pa_nil)))))
      (pss_one (ps_ret (pe_and (pe_call R.ok hr rfl R.m R.k R.b .nil pass0 (pa_cons (pe_ix ix_tup (pv 0) pe_int (fun _ _ => rfl)) pa_nil)) (pe_one (pe_call R.ok hr rfl R.m R.k R.b .nil pass0 (pa_cons (pe_ix ix_tup (pv 0) pe_int (fun _ _ => rfl)) pa_nil)))))) pss_nil)
    (pss_one (ps_ret (pe_and (pe_call Hd.ok hr1 rfl Hd.m Hd.k Hd.b .nil pass0 (pa_cons (pv 0) (pa_cons pe_int (pa_cons (pe_tup (pa_cons pe_str pa_nil)) pa_nil)))) (pe_one (pe_call Nm.ok hr2 rfl Nm.m Nm.k Nm.b .nil pass0 (pa_cons (pe_ix ix_tup (pv 0) pe_int (fun _ _ => rfl)) pa_nil))))))), ?_⟩
  have z3 : ∀ {k : Nat}, k ≤ 20 → k ≤ sizeLine := fun h => Nat.le_trans h (by decide)
  refine ⟨_, rfl, z3 (by show 3 ≤ 20; decide), fun t1 h1 => ?_⟩
  have s1 := same_new h1 (.tup (L3.map V.str))
  refine ⟨v, d, 1, t1, L3, rfl, Dq.mono s1 _ _ hd, Nat.le_refl 1, SqT.of upd_same, headB d 1 L3, rfl, ?_⟩
  cases e1 : headB d 1 L3 with
  | true =>
    obtain ⟨m, rfl⟩ : ∃ m, n = m + 1 := by
      cases n with
      | zero => rw [head_zero hdp] at e1; cases e1
      | succ m => exact ⟨m, rfl⟩
    refine iteT ?_
    have e : fB (m + 1) d = true := by show (headB d 1 L3 || _) = true; rw [e1]; rfl
    rw [e] at q
    exact q _ s1
  | false =>
    refine iteF ⟨_, rfl, z3 (by show 2 ≤ 20; decide), fun t2 h2 => ?_⟩
    have s2 := s1.trans (same_new h2 (.tup (L2w.map V.str)))
    refine ⟨v, d, 3, t2, L2w, rfl, Dq.mono s2 _ _ hd, by omega, SqT.of upd_same, headB d 3 L2w, rfl, ?_⟩
    cases e2 : headB d 3 L2w with
    | true =>
      obtain ⟨w, r, rfl, hl⟩ := head_form e2
      obtain ⟨a, b, rfl⟩ : ∃ a b, r = [a, b] := by
        rcases r with _ | ⟨a, _ | ⟨b, _ | ⟨c, r⟩⟩⟩
        · cases hl
        · cases hl
        · exact ⟨a, b, rfl⟩
        · simp only [List.length_cons] at hl
          omega
      obtain ⟨m, rfl⟩ : ∃ m, n = m + 1 := by
        cases n with
        | zero => rw [head_zero hdp] at e2; cases e2
        | succ m => exact ⟨m, rfl⟩
      obtain rfl := hR (Nat.succ_ne_zero m)
      have e : fB (m + 1) (.tuple [.str w, a, b]) = (fB m a && fB m b) := by
        show (headB _ 1 L3 || (if headB _ 3 L2w = true then both (fB m) _ else _)) = _
        rw [e1, e2, if_pos rfl]
        rfl
      rw [e] at q
      obtain ⟨da, db⟩ := depth_two hdp
      have tt : (txtB (.str w) && (txtB a && (txtB b && true))) = true := ht
      simp only [Bool.and_eq_true] at tt
      obtain ⟨ad, xs, rfl, hx, hA⟩ := dq_tuple (Dq.mono s2 _ _ hd)
      obtain ⟨x0, rs, rfl, g0, hA⟩ := dqAll_cons hA
      obtain ⟨x1, rs, rfl, g1, hA⟩ := dqAll_cons hA
      obtain ⟨x2, rs, rfl, g2, hA⟩ := dqAll_cons hA
      refine iteT ⟨_, rfl, ad, _, 1, x1, rfl, rfl, hx, atI_nat (j := 1) rfl, x1, a, rfl, g1, tt.2.1, da, fun H3 s3 => ⟨_, rfl, ?_⟩⟩
      show if fB m a = true then _ else _
      cases ea : fB m a with
      | true =>
        rw [ea, Bool.true_and] at q
        refine iteT ⟨_, rfl, ad, _, 2, x2, rfl, rfl, s3.seqT hx, atI_nat (j := 2) rfl, x2, b, rfl, Dq.mono s3 _ _ g2, tt.2.2.1, db, fun H4 s4 => ?_⟩
        exact q H4 (s2.trans (s3.trans s4))
      | false =>
        rw [ea, Bool.false_and] at q
        exact iteF (q H3 (s2.trans s3))
    | false =>
      refine iteF ⟨_, rfl, z3 (by show 1 ≤ 20; decide), fun t3 h3 => ?_⟩
      have s3 := s2.trans (same_new h3 (.tup (L1.map V.str)))
      refine ⟨v, d, 2, t3, L1, rfl, Dq.mono s3 _ _ hd, by omega, SqT.of upd_same, headB d 2 L1, rfl, ?_⟩
      cases e3 : headB d 2 L1 with
      | false =>
        have e : fB n d = false := by
          cases n with
          | zero => rfl
          | succ m =>
            show (headB _ 1 L3 || (if headB _ 3 L2w = true then _ else headB d 2 L1 && named d)) = false
            rw [e1, e2, e3]
            rfl
        rw [e] at q
        exact iteF (q _ s3)
      | true =>
        obtain ⟨w, r, rfl, hl⟩ := head_form e3
        obtain ⟨a, rfl⟩ : ∃ a, r = [a] := by
          rcases r with _ | ⟨a, _ | ⟨b, r⟩⟩
          · cases hl
          · exact ⟨a, rfl⟩
          · simp only [List.length_cons] at hl
            omega
        obtain ⟨m, rfl⟩ : ∃ m, n = m + 1 := by
          cases n with
          | zero => rw [head_zero hdp] at e3; cases e3
          | succ m => exact ⟨m, rfl⟩
        have e : fB (m + 1) (.tuple [.str w, a]) = nmB a := by
          show (headB _ 1 L3 || (if headB _ 3 L2w = true then _ else headB _ 2 L1 && named _)) = _
          rw [e1, e2, e3]
          rfl
        rw [e] at q
        have tt : (txtB (.str w) && (txtB a && true)) = true := ht
        simp only [Bool.and_eq_true] at tt
        obtain ⟨ad, xs, rfl, hx, hA⟩ := dq_tuple (Dq.mono s3 _ _ hd)
        obtain ⟨x0, rs, rfl, g0, hA⟩ := dqAll_cons hA
        obtain ⟨x1, rs, rfl, g1, hA⟩ := dqAll_cons hA
        refine iteT ⟨_, rfl, ad, _, 1, x1, rfl, rfl, hx, atI_nat (j := 1) rfl, x1, a, rfl, g1, tt.2.1, fun H4 s4 => ?_⟩
        exact q H4 (s3.trans s4)
theorem none_leftF {f : Addr} {fd : FuncData} {k : Nat} : FnOk P w K mg base CX0 k f fd ["thing"] (fun _ _ _ _ => False) := ⟨fun _ _ _ _ h => h.elim, fun _ _ _ _ _ _ _ _ _ _ _ _ _ h => h.elim⟩
/-- each depth -/
theorem forms {f fH fN : Addr} {fd dH dN : FuncData} (F : Fun K "_law_is_formed" "_law_is_formed" sForm f fd) (bF : Binds K fd ["thing"] []) (mF : mg "_law_is_formed" = some (.ref f)) (Hd : Gv P w K mg base 1 "_law_is_headed" fH dH ["thing", "many", "words"] (spHd K)) (Nm : Gv P w K mg base 2 "_law_is_name" fN dN ["thing"] (spNm K)) :
    ∀ n : Nat, Gv P w K mg base (3 + n) "_law_is_formed" f fd ["thing"] (spFm K n)
  | 0 => ⟨ok_form (n := 0) (Nat.le_refl 2) F Hd Nm ⟨none_leftF, bF, F.kp, mF⟩ (fun h => absurd rfl h), bF, F.kp, mF⟩
  | n + 1 => ⟨ok_form (n := n + 1) (k := 3 + n) (by omega) F Hd Nm (forms F bF mF Hd Nm n) (fun _ => rfl), bF, F.kp, mF⟩
end
end Toy
set_option Elab.async false
set_option linter.all false
set_option maxRecDepth 100000
set_option maxHeartbeats 2000000
namespace Toy
open PySem L2
abbrev sMeas : Stmt := top 33
def nameOf : PyData → List Str
  | .tuple [_, .str x] => [x]
  | _ => []
def kids : PyData → Option (PyData × PyData)
  | .tuple [_, a, b] => some (a, b)
  | _ => none
def two (x y : Nat × Nat × List Str) : Nat × Nat × List Str := (max x.1 y.1 + 1, x.2.1 + y.2.1 + 1, x.2.2 ++ y.2.2)
/-- how deep, how many parts, the names -/
def ms : Nat → PyData → Nat × Nat × List Str
  | 0, _ => (1, 1, [])
  | n + 1, d => match kids d with
    | some (a, b) => two (ms n a) (ms n b)
    | none => (1, 1, nameOf d)
theorem ms_names : ∀ (n : Nat) (d : PyData), (ms n d).2.2.length ≤ (ms n d).2.1
  | 0, _ => Nat.zero_le _
  | n + 1, d => by
    show (match kids d with | some (a, b) => two (ms n a) (ms n b) | none => (1, 1, nameOf d)).2.2.length ≤ (match kids d with | some (a, b) => two (ms n a) (ms n b) | none => (1, 1, nameOf d)).2.1
    cases kids d with
    | none =>
      show (nameOf d).length ≤ 1
      unfold nameOf
      split
      · exact Nat.le_refl 1
      · exact Nat.zero_le _
    | some p =>
      obtain ⟨a, b⟩ := p
      show ((ms n a).2.2 ++ (ms n b).2.2).length ≤ (ms n a).2.1 + (ms n b).2.1 + 1
      rw [List.length_append]
      have h1 := ms_names n a
      have h2 := ms_names n b
      omega
def MsAt (H : Hp) (p : Addr) (m : Nat × Nat × List Str) : Prop := ∃ l, H p = some (.tup [.int (m.1 : Nat), .int (m.2.1 : Nat), .ref l]) ∧ H l = some (.lst (m.2.2.map V.str))
theorem MsAt.mono {H H' : Hp} {p : Addr} {m : Nat × Nat × List Str} (e : Same H H') (h : MsAt H p m) : MsAt H' p m := let ⟨l, a, b⟩ := h; ⟨l, e _ _ a, e _ _ b⟩
def spMs (K : PySem.W.Frag) (n : Nat) : Sp := fun vs H Q _ => ∃ (v : V) (d : PyData), vs = [v] ∧ Dq K H v d ∧ fB n d = true ∧ (ms n d).2.1 ≤ 1000000 ∧ ∀ p H', Same H H' → MsAt H' p (ms n d) → Q (.ref p) H'
theorem fB_ways {n : Nat} {d : PyData} (h : fB (n + 1) d = true) : (∃ w, d = .tuple [.str w] ∧ w2 w = false ∧ w1 w = false) ∨ (∃ w x, d = .tuple [.str w, .str x] ∧ w2 w = false ∧ w1 w = true) ∨ ∃ w a b, d = .tuple [.str w, a, b] ∧ w2 w = true ∧ fB n a = true ∧ fB n b = true := by
  have e : (headB d 1 L3 || (if headB d 3 L2w = true then both (fB n) d else headB d 2 L1 && named d)) = true := h
  have fl : ∀ w : Str, inV (.str w) ((["name"] : List Str).map V.str) = true → w = "name" := fun w z => by
    have z' : (eqV (.str "name") (.str w) || false) = true := z
    rw [Bool.or_false] at z'
    have z2 : (("name" : Str) == w) = true := z'
    exact (eq_of_beq z2).symm
  cases h1 : headB d 1 L3 with
  | true =>
    obtain ⟨w, r, rfl, hl⟩ := head_form h1
    obtain rfl : r = [] := List.length_eq_zero_iff.mp (by omega)
    have hw : inV (.str w) (L3.map V.str) = true := by
      have z : (decide (([] : List PyData).length + 1 = 1) && inV (.str w) (L3.map V.str)) = true := h1
      rw [Bool.and_eq_true] at z
      exact z.2
    have cs : w = "thing" ∨ w = "none" ∨ w = "unit" := by
      have z : ((("thing" : Str) == w) || ((("none" : Str) == w) || ((("unit" : Str) == w) || false))) = true := hw
      simp only [Bool.or_eq_true, Bool.or_false] at z
      rcases z with z | z | z
      · exact .inl (eq_of_beq z).symm
      · exact .inr (.inl (eq_of_beq z).symm)
      · exact .inr (.inr (eq_of_beq z).symm)
    refine .inl ⟨w, rfl, ?_⟩
    rcases cs with rfl | rfl | rfl <;> exact ⟨by decide +kernel, by decide +kernel⟩
  | false =>
    rw [h1, Bool.false_or] at e
    cases h3 : headB d 3 L2w with
    | true =>
      rw [h3, if_pos rfl] at e
      obtain ⟨w, r, rfl, hl⟩ := head_form h3
      rcases r with _ | ⟨a, _ | ⟨b, _ | ⟨c, r⟩⟩⟩
      · cases hl
      · cases hl
      · have e' : (fB n a && fB n b) = true := e
        rw [Bool.and_eq_true] at e'
        have hw : w2 w = true := by
          have z : (decide (([a, b] : List PyData).length + 1 = 3) && inV (.str w) (L2w.map V.str)) = true := h3
          rw [Bool.and_eq_true] at z
          exact z.2
        exact .inr (.inr ⟨w, a, b, rfl, hw, e'.1, e'.2⟩)
      · simp only [List.length_cons] at hl
        omega
    | false =>
      rw [h3, if_neg Bool.false_ne_true, Bool.and_eq_true] at e
      obtain ⟨w, r, rfl, hl⟩ := head_form e.1
      rcases r with _ | ⟨a, _ | ⟨b, r⟩⟩
      · cases hl
      · have hn : nmB a = true := e.2
        have hw : w = "name" := fl w (by
          have z : (decide (([a] : List PyData).length + 1 = 2) && inV (.str w) (L1.map V.str)) = true := e.1
          rw [Bool.and_eq_true] at z
          exact z.2)
        subst hw
        cases a with
        | str x => exact .inr (.inl ⟨_, x, rfl, by decide +kernel, by decide +kernel⟩)
        | _ => cases hn
      · simp only [List.length_cons] at hl
        omega
end Toy
set_option Elab.async false
set_option linter.all false
set_option maxRecDepth 100000
set_option maxHeartbeats 2000000
namespace Toy
open PySem L2
structure Nx (mg : Str → Option Value) : Prop where
  max : mg "max" = none
theorem max_int (i j : Nat) : (if ((j : Nat) : Int) > ((i : Nat) : Int) then ((j : Nat) : Int) else ((i : Nat) : Int)) = ((max i j : Nat) : Int) := by
  by_cases h : ((j : Nat) : Int) > ((i : Nat) : Int)
  · rw [if_pos h]; omega
  · rw [if_neg h]; omega
section
variable {P : Program} {w : World} {K : PySem.W.Frag} {mg : Str → Option Value} {base : Heap}
theorem scMs : FnScope ["kind", "one", "two"] ["kind"] (defScope sMeas) := ⟨rfl, rfl, rfl, by decide +kernel, rfl, by decide +kernel, by decide +kernel⟩
theorem ok_meas {f : Addr} {fd : FuncData} {n k : Nat} {sp' : Sp} (F : Fun K "_law_measures" "_law_measures" sMeas f fd) (N : Nx mg) (R : Gv P w K mg base k "_law_measures" f fd ["kind"] sp') (hR : n ≠ 0 → sp' = spMs K (n - 1)) : FnOk P w K mg base CX0 (k + 1) f fd ["kind"] (spMs K n) := by
  refine F.ok scMs (fun vs H Q E h => ?_) (fun cdv A outer s H vs Q E hr h => ?_)
  · obtain ⟨v, d, rfl, _⟩ := h
    rfl
  obtain ⟨v, d, rfl, hd, hf, hz, q⟩ := h
  refine ⟨_, pss_cons (ps_if (pt_cmpR op_notIn_seq (pe_ix ix_tup (pv 0) pe_int (fun _ _ => rfl)) (pe_tup (pa_cons pe_str (pa_cons pe_str pa_nil))) (by rfl))
      (pss_one (ps_ret (pe_tup (pa_cons pe_int (pa_cons pe_int (pa_cons (pe_ifExp (pt_cmpR op_eq (pe_ix ix_tup (pv 0) pe_int (fun _ _ => rfl)) pe_str (nomark _)) (pe_lst (pa_cons (pe_ix ix_tup (pv 0) pe_int (fun _ _ => rfl)) pa_nil)) (pe_lst pa_nil)) pa_nil)))))) pss_nil)
    (pss_cons (ps_par (i := 1) (j := 2) rfl scMs.nd rfl rfl (by decide) rfl rfl (pa_cons (pe_call R.ok hr rfl R.m R.k R.b .nil pass0 (pa_cons (pe_ix ix_tup (pv 0) pe_int (fun _ _ => rfl)) pa_nil)) (pa_cons (pe_call R.ok hr rfl R.m R.k R.b .nil pass0 (pa_cons (pe_ix ix_tup (pv 0) pe_int (fun _ _ => rfl)) pa_nil)) pa_nil)) rfl)
    (pss_one (ps_ret (pe_tup (pa_cons (pe_op op_add (pe_callB (call_max2 rfl) rfl N.max (by decide +kernel) (pa_cons (pe_ix ix_tup (pv 1) pe_int (fun _ _ => rfl)) (pa_cons (pe_ix ix_tup (pv 2) pe_int (fun _ _ => rfl)) pa_nil))) pe_int)
      (pa_cons (pe_op op_add (pe_op op_add (pe_ix ix_tup (pv 1) pe_int (fun _ _ => rfl)) (pe_ix ix_tup (pv 2) pe_int (fun _ _ => rfl))) pe_int) (pa_cons (pe_op op_cat (pe_ix ix_tup (pv 1) pe_int (fun _ _ => rfl)) (pe_ix ix_tup (pv 2) pe_int (fun _ _ => rfl))) pa_nil))))))), ?_⟩
  have z3 : ∀ {k : Nat}, k ≤ 20 → k ≤ sizeLine := fun h => Nat.le_trans h (by decide)
  obtain ⟨m, rfl⟩ : ∃ m, n = m + 1 := by
    cases n with
    | zero => cases hf
    | succ m => exact ⟨m, rfl⟩
  rcases fB_ways hf with ⟨w, rfl, hw, hv⟩ | ⟨w, x, rfl, hw, hv⟩ | ⟨w, a, b, rfl, hw, fa, fb⟩
  · obtain ⟨ad, xs, rfl, hx, hA⟩ := dq_tuple hd
    obtain ⟨x0, rs, rfl, g0, hA⟩ := dqAll_cons hA
    obtain rfl := dqAll_nil hA
    obtain rfl := dq_str g0
    refine ⟨_, rfl, ad, _, 0, _, rfl, rfl, hx, atI_nat (j := 0) rfl, z3 (by show 2 ≤ 20; decide), fun t ht => ⟨t, _, rfl, .inr (SqT.of upd_same), rfl, rfl, _, rfl, ?_⟩⟩
    have s1 := same_new ht (.tup [.str "pair", .str "either"])
    refine ite2 (fun _ => ?_) (fun z => absurd (show (!w2 w) = true by rw [hw]; rfl) z)
    refine ⟨_, rfl, ad, _, 0, _, rfl, rfl, s1.seqT hx, atI_nat (j := 0) rfl, rfl, _, rfl, ?_⟩
    refine ite2 (fun z => absurd (show w1 w = true from z) (by rw [hv]; decide)) (fun _ => ?_)
    refine ⟨z3 (by show 0 ≤ 20; decide), fun l hl => ⟨z3 (by show 3 ≤ 20; decide), fun p hp => ?_⟩⟩
    have s2 := s1.trans ((same_new hl (.lst [])).trans (same_new hp (.tup [.int 1, .int 1, .ref l])))
    exact q p _ s2 ⟨l, upd_same, same_new hp _ _ _ upd_same⟩
  · obtain ⟨ad, xs, rfl, hx, hA⟩ := dq_tuple hd
    obtain ⟨x0, rs, rfl, g0, hA⟩ := dqAll_cons hA
    obtain ⟨x1, rs, rfl, g1, hA⟩ := dqAll_cons hA
    obtain rfl := dqAll_nil hA
    obtain rfl := dq_str g0
    obtain rfl := dq_str g1
    refine ⟨_, rfl, ad, _, 0, _, rfl, rfl, hx, atI_nat (j := 0) rfl, z3 (by show 2 ≤ 20; decide), fun t ht => ⟨t, _, rfl, .inr (SqT.of upd_same), rfl, rfl, _, rfl, ?_⟩⟩
    have s1 := same_new ht (.tup [.str "pair", .str "either"])
    refine ite2 (fun _ => ?_) (fun z => absurd (show (!w2 w) = true by rw [hw]; rfl) z)
    refine ⟨_, rfl, ad, _, 0, _, rfl, rfl, s1.seqT hx, atI_nat (j := 0) rfl, rfl, _, rfl, ?_⟩
    refine ite2 (fun _ => ?_) (fun z => absurd (show w1 w = true from hv) z)
    refine ⟨_, rfl, ad, _, 1, _, rfl, rfl, s1.seqT hx, atI_nat (j := 1) rfl, z3 (by show 1 ≤ 20; decide), fun l hl => ⟨z3 (by show 3 ≤ 20; decide), fun p hp => ?_⟩⟩
    have s2 := s1.trans ((same_new hl (.lst [.str x])).trans (same_new hp (.tup [.int 1, .int 1, .ref l])))
    exact q p _ s2 ⟨l, upd_same, same_new hp _ _ _ upd_same⟩
  · obtain rfl := hR (Nat.succ_ne_zero m)
    obtain ⟨ad, xs, rfl, hx, hA⟩ := dq_tuple hd
    obtain ⟨x0, rs, rfl, g0, hA⟩ := dqAll_cons hA
    obtain ⟨x1, rs, rfl, g1, hA⟩ := dqAll_cons hA
    obtain ⟨x2, rs, rfl, g2, hA⟩ := dqAll_cons hA
    obtain rfl := dqAll_nil hA
    obtain rfl := dq_str g0
    have em : ms (m + 1) (.tuple [.str w, a, b]) = two (ms m a) (ms m b) := rfl
    rw [em] at hz q
    have hz' : (ms m a).2.1 + (ms m b).2.1 + 1 ≤ 1000000 := hz
    refine ⟨_, rfl, ad, _, 0, _, rfl, rfl, hx, atI_nat (j := 0) rfl, z3 (by show 2 ≤ 20; decide), fun t ht => ⟨t, _, rfl, .inr (SqT.of upd_same), rfl, rfl, _, rfl, ?_⟩⟩
    have s1 := same_new ht (.tup [.str "pair", .str "either"])
    refine ite2 (fun z => absurd (show (!w2 w) = true from z) (by rw [hw]; decide)) (fun _ => ?_)
    refine ⟨_, rfl, ad, _, 1, _, rfl, rfl, s1.seqT hx, atI_nat (j := 1) rfl, x1, a, rfl, Dq.mono s1 _ _ g1, fa, by show (ms m a).2.1 ≤ 1000000; omega, fun p1 H2 s2 m1 => ?_⟩
    refine ⟨_, rfl, ad, _, 2, _, rfl, rfl, s2.seqT (s1.seqT hx), atI_nat (j := 2) rfl, x2, b, rfl, Dq.mono (s1.trans s2) _ _ g2, fb, by show (ms m b).2.1 ≤ 1000000; omega, fun p2 H3 s3 m2 => ⟨_, _, rfl, ?_⟩⟩
    obtain ⟨l1, t1, e1⟩ := m1.mono s3
    obtain ⟨l2, t2, e2⟩ := m2
    refine ⟨_, rfl, p1, _, 0, _, rfl, rfl, SqT.of t1, atI_nat (j := 0) rfl, _, rfl, p2, _, 0, _, rfl, rfl, SqT.of t2, atI_nat (j := 0) rfl, _, _, rfl, _, _, rfl, rfl, ?_⟩
    refine ⟨_, rfl, p1, _, 1, _, rfl, rfl, SqT.of t1, atI_nat (j := 1) rfl, _, rfl, p2, _, 1, _, rfl, rfl, SqT.of t2, atI_nat (j := 1) rfl, _, _, rfl, rfl, _, _, rfl, rfl, ?_⟩
    refine ⟨_, rfl, p1, _, 2, _, rfl, rfl, SqT.of t1, atI_nat (j := 2) rfl, _, rfl, p2, _, 2, _, rfl, rfl, SqT.of t2, atI_nat (j := 2) rfl, l1, l2, _, _, rfl, rfl, e1, e2, ?_, fun l hl => ⟨z3 (by show 3 ≤ 20; decide), fun p hp => ?_⟩⟩
    · rw [List.length_map, List.length_map]
      have h1 : (ms (m + 1 - 1) a).2.2.length ≤ (ms m a).2.1 := ms_names m a
      have h2 : (ms (m + 1 - 1) b).2.2.length ≤ (ms m b).2.1 := ms_names m b
      exact Nat.le_trans (by omega : _ ≤ 1000000) (by decide)
    · refine q p _ ?_ ⟨l, ?_, ?_⟩
      · exact s1.trans (s2.trans (s3.trans ((same_new hl _).trans (same_new hp _))))
      · rw [upd_same, max_int]
        rfl
      · refine same_new hp _ _ _ ?_
        rw [upd_same, ← List.map_append]
        rfl
theorem none_leftM {f : Addr} {fd : FuncData} {k : Nat} : FnOk P w K mg base CX0 k f fd ["kind"] (fun _ _ _ _ => False) := ⟨fun _ _ _ _ h => h.elim, fun _ _ _ _ _ _ _ _ _ _ _ _ _ h => h.elim⟩
theorem measures {f : Addr} {fd : FuncData} (F : Fun K "_law_measures" "_law_measures" sMeas f fd) (bF : Binds K fd ["kind"] []) (mF : mg "_law_measures" = some (.ref f)) (N : Nx mg) : ∀ n : Nat, Gv P w K mg base (1 + n) "_law_measures" f fd ["kind"] (spMs K n)
  | 0 => ⟨ok_meas (n := 0) (k := 0) F N ⟨none_leftM, bF, F.kp, mF⟩ (fun h => absurd rfl h), bF, F.kp, mF⟩
  | n + 1 => ⟨ok_meas (n := n + 1) (k := 1 + n) F N (measures F bF mF N n) (fun _ => rfl), bF, F.kp, mF⟩
end
end Toy
set_option Elab.async false
set_option linter.all false
set_option maxRecDepth 100000
set_option maxHeartbeats 2000000
namespace Toy
open PySem L2
abbrev sLKind : Stmt := top 34
/-- a KIND: its form, so deep, so many parts -/
def kdB (n : Nat) (d : PyData) : Bool := fB n d && (decide ((ms n d).1 ≤ 30) && decide ((ms n d).2.1 ≤ 2000))
def spKd (K : PySem.W.Frag) (n : Nat) : Sp := fun vs H Q _ => ∃ (v : V) (d : PyData), vs = [v] ∧ Dq K H v d ∧ txtB d = true ∧ d.depth ≤ n ∧ (ms n d).2.1 ≤ 1000000 ∧ ∀ H', Same H H' → Q (.bl (kdB n d)) H'
section
variable {P : Program} {w : World} {K : PySem.W.Frag} {mg : Str → Option Value} {base : Heap}
theorem scLK : FnScope ["thing", "found"] ["thing"] (defScope sLKind) := ⟨rfl, rfl, rfl, by decide +kernel, rfl, by decide +kernel, by decide +kernel⟩
theorem ok_lkind {f fF fM : Addr} {fd dF dM : FuncData} {n : Nat} (F : Fun K "_law_is_kind" "_law_is_kind" sLKind f fd) (Fm : Gv P w K mg base (3 + n) "_law_is_formed" fF dF ["thing"] (spFm K n)) (Ms : Gv P w K mg base (1 + n) "_law_measures" fM dM ["kind"] (spMs K n)) : FnOk P w K mg base CX0 (3 + n + 1) f fd ["thing"] (spKd K n) := by
  refine F.ok scLK (fun vs H Q E h => ?_) (fun cdv A outer s H vs Q E hr h => ?_)
  · obtain ⟨v, d, rfl, _⟩ := h
    rfl
  obtain ⟨v, d, rfl, hd, ht, hdp, hz, q⟩ := h
  have hr3 : Room (3 + n) (A.deeper _) := hr.mono (by omega)
  have hr1 : Room (1 + n) (A.deeper _) := hr.mono (by omega)
  refine ⟨_, pss_cons (ps_if (pt_not (pt_val (pe_call Fm.ok hr3 rfl Fm.m Fm.k Fm.b .nil pass0 (pa_cons (pv 0) pa_nil)))) (pss_one (ps_ret pe_bl)) pss_nil)
    (pss_cons (ps_set (i := 1) scLK.nd rfl (.inl rfl) (pe_call Ms.ok hr1 rfl Ms.m Ms.k Ms.b .nil pass0 (pa_cons (pv 0) pa_nil)))
    (pss_one (ps_ret (pe_and (pe_cmpR op_le (pe_ix ix_tup (pv 1) pe_int (fun _ _ => rfl)) pe_int (nomark _)) (pe_one (pe_cmpR op_le (pe_ix ix_tup (pv 1) pe_int (fun _ _ => rfl)) pe_int (nomark _))))))), ?_⟩
  refine ⟨_, rfl, v, d, rfl, hd, ht, hdp, fun H1 s1 => ⟨_, rfl, ?_⟩⟩
  cases hf : fB n d with
  | false =>
    have e : kdB n d = false := by unfold kdB; rw [hf]; rfl
    rw [e] at q
    exact iteT (q H1 s1)
  | true =>
    refine iteF ⟨_, rfl, v, d, rfl, Dq.mono s1 _ _ hd, hf, hz, fun p H2 s2 m => ?_⟩
    obtain ⟨l, t, e1⟩ := m
    have e : kdB n d = (decide ((ms n d).1 ≤ 30) && decide ((ms n d).2.1 ≤ 2000)) := by unfold kdB; rw [hf]; rfl
    rw [e] at q
    refine ⟨_, rfl, p, _, 0, _, rfl, rfl, SqT.of t, atI_nat (j := 0) rfl, _, _, rfl, rfl, _, rfl, ?_⟩
    refine ite2 (fun g => ?_) (fun g => ?_)
    · have g' : ((ms n d).1 : Int) ≤ 30 := of_decide_eq_true g
      rw [decide_eq_true (by omega), Bool.true_and] at q
      refine ⟨_, rfl, p, _, 1, _, rfl, rfl, SqT.of t, atI_nat (j := 1) rfl, _, _, rfl, rfl, ?_⟩
      have ee : decide (((ms n d).2.1 : Int) ≤ 2000) = decide ((ms n d).2.1 ≤ 2000) := by
        by_cases z : (ms n d).2.1 ≤ 2000
        · rw [decide_eq_true z, decide_eq_true (by omega)]
        · rw [decide_eq_false z, decide_eq_false (by omega)]
      rw [← ee] at q
      exact q H2 (s1.trans s2)
    · have g' : ¬ ((ms n d).1 : Int) ≤ 30 := of_decide_eq_false (Bool.eq_false_iff.mpr g)
      rw [decide_eq_false (by omega), Bool.false_and] at q
      exact q H2 (s1.trans s2)
end
end Toy
set_option Elab.async false
set_option linter.all false
set_option maxRecDepth 100000
set_option maxHeartbeats 1000000
namespace Toy
open PySem L2
abbrev sFound : Stmt := top 18
/-- the search: what waits (the last one first), what is found -/
def pf : Nat → List (PyData × Nat) → List (PyData × Nat) → Option (List (PyData × Nat))
  | _, [], fd => some fd
  | 0, _ :: _, _ => none
  | n + 1, (d, k) :: st, fd => match inner d with
    | none => none
    | some ds => if 30 < k then none else pf n ((ds.map fun x => (x, k + 1)).reverse ++ st) (fd ++ [(d, k)])
def Row (K : PySem.W.Frag) (G H : Hp) (v : V) (p : PyData × Nat) : Prop := ∃ t x, v = .ref t ∧ H t = some (.tup [x, .int (p.2 : Nat)]) ∧ Dq K G x p.1 ∧ txtB p.1 = true
def Rows (K : PySem.W.Frag) (G H : Hp) : List V → List (PyData × Nat) → Prop
  | [], [] => True
  | v :: vs, p :: ps => Row K G H v p ∧ Rows K G H vs ps
  | _, _ => False
theorem Row.keep {K : PySem.W.Frag} {G H H' : Hp} {v : V} {p : PyData × Nat} (e : ∀ b xs, H b = some (.tup xs) → H' b = some (.tup xs)) (h : Row K G H v p) : Row K G H' v p := let ⟨t, x, a, b, c⟩ := h; ⟨t, x, a, e _ _ b, c⟩
theorem Rows.keep {K : PySem.W.Frag} {G H H' : Hp} (e : ∀ b xs, H b = some (.tup xs) → H' b = some (.tup xs)) : ∀ {vs : List V} {ps : List (PyData × Nat)}, Rows K G H vs ps → Rows K G H' vs ps
  | [], [], _ => trivial
  | _ :: _, _ :: _, h => ⟨h.1.keep e, Rows.keep e h.2⟩
  | [], _ :: _, h => h.elim
  | _ :: _, [], h => h.elim
theorem Rows.len {K : PySem.W.Frag} {G H : Hp} : ∀ {vs : List V} {ps : List (PyData × Nat)}, Rows K G H vs ps → vs.length = ps.length
  | [], [], _ => rfl
  | _ :: _, _ :: _, h => congrArg Nat.succ h.2.len
  | [], _ :: _, h => h.elim
  | _ :: _, [], h => h.elim
theorem Rows.app {K : PySem.W.Frag} {G H : Hp} : ∀ {vs ws : List V} {ps qs : List (PyData × Nat)}, Rows K G H vs ps → Rows K G H ws qs → Rows K G H (vs ++ ws) (ps ++ qs)
  | [], _, [], _, _, s => s
  | _ :: _, _, _ :: _, _, h, s => ⟨h.1, h.2.app s⟩
  | [], _, _ :: _, _, h, _ => h.elim
  | _ :: _, _, [], _, h, _ => h.elim
theorem Rows.rev {K : PySem.W.Frag} {G H : Hp} : ∀ {vs : List V} {ps : List (PyData × Nat)}, Rows K G H vs ps → Rows K G H vs.reverse ps.reverse
  | [], [], _ => trivial
  | v :: vs, p :: ps, h => by
    rw [List.reverse_cons, List.reverse_cons]
    exact h.2.rev.app ⟨h.1, trivial⟩
  | [], _ :: _, h => h.elim
  | _ :: _, [], h => h.elim
/-- what the search tells -/
def PfRes (K : PySem.W.Frag) (G H : Hp) (u : V) : Option (List (PyData × Nat)) → Prop
  | none => u = .non
  | some fd => ∃ l fs, u = .ref l ∧ H l = some (.lst fs) ∧ Rows K G H fs fd
def spPf (K : PySem.W.Frag) : Sp := fun vs H Q _ => ∃ (v : V) (d : PyData) (G : Hp), vs = [v] ∧ Same G H ∧ Dq K G v d ∧ txtB d = true ∧ ∀ u H', Same H H' → PfRes K G H' u (pf 2000 [(d, 1)] []) → Q u H'
theorem inner_txt {d : PyData} {ds : List PyData} (h : inner d = some ds) (t : txtB d = true) : ∀ x ∈ ds, txtB x = true := by
  unfold inner at h
  split at h
  · split at h
    · cases h; exact fun _ m => nomatch m
    · cases h
  · split at h
    · cases h; exact fun _ m => nomatch m
    · cases h
  · split at h
    · cases h
      rename_i a b _
      have tt : (txtB (.str _) && (txtB a && (txtB b && true))) = true := t
      simp only [Bool.and_eq_true] at tt
      intro x m
      rcases List.mem_cons.mp m with rfl | m
      · exact tt.2.1
      · rw [List.mem_singleton.mp m]; exact tt.2.2.1
    · cases h
  · cases h
end Toy
set_option Elab.async false
set_option linter.all false
set_option maxRecDepth 100000
set_option maxHeartbeats 1000000
namespace Toy
open PySem L2
structure Np (mg : Str → Option Value) : Prop where
  deep : ∃ t, mg "DEEPEST" = some (.int 30 t)
  most : ∃ t, mg "MOST_PARTS" = some (.int 2000 t)
theorem keep_same {H H' : Hp} (e : Same H H') : ∀ b xs, H b = some (.tup xs) → H' b = some (.tup xs) := fun b xs h => e _ _ h
theorem keep_upd {H : Hp} {w : Addr} {ws zs : List V} (h : H w = some (.lst ws)) : ∀ b xs, H b = some (.tup xs) → upd H w (.lst zs) b = some (.tup xs) := fun b xs e => by
  rw [upd_ne (fun z => by rw [z, h] at e; cases e)]
  exact e
theorem rows_cons_inv {K : PySem.W.Frag} {G H : Hp} {vs : List V} {p : PyData × Nat} {ps : List (PyData × Nat)} (h : Rows K G H vs (p :: ps)) : ∃ v r, vs = v :: r ∧ Row K G H v p ∧ Rows K G H r ps := by
  cases vs with
  | nil => exact h.elim
  | cons v r => exact ⟨v, r, rfl, h.1, h.2⟩
theorem rows_nil_inv {K : PySem.W.Frag} {G H : Hp} {ps : List (PyData × Nat)} (h : Rows K G H [] ps) : ps = [] := by
  cases ps with
  | nil => rfl
  | cons p ps => exact h.elim
theorem dqAll_at {K : PySem.W.Frag} {H : Hp} {y : V} : ∀ (vs : List V) (ds : List PyData) (i : Nat), DqAll K H vs ds → vs[i]? = some y → ∃ e, ds[i]? = some e ∧ Dq K H y e
  | [], _, i, _, h => by simp at h
  | v :: vs, [], i, D, h => by cases D
  | v :: vs, d :: ds, 0, D, h => by
    cases D with
    | cons r t => cases h; exact ⟨_, rfl, r⟩
  | v :: vs, d :: ds, i + 1, D, h => by
    cases D with
    | cons r t => exact dqAll_at vs ds i t h
section
variable {P : Program} {w : World} {K : PySem.W.Frag} {mg : Str → Option Value} {base : Heap}
theorem scPf : FnScope ["value", "found", "waiting", "part", "depth", "inner", "one"] ["value"] (defScope sFound) := ⟨rfl, rfl, rfl, by decide +kernel, rfl, by decide +kernel, by decide +kernel⟩
theorem ok_found {f g : Addr} {fd gd : FuncData} (F : Fun K "parts_found" "parts_found" sFound f fd) (T : Nk mg) (N : Np mg) (KA : Gv P w K mg base 3 "kinds_among" g gd ["part"] (spKa K)) : FnOk P w K mg base CX0 4 f fd ["value"] (spPf K) := by
  refine F.ok scPf (fun vs H Q E h => ?_) (fun cdv A outer s H vs Q E hr h => ?_)
  · obtain ⟨v, d, G, rfl, _⟩ := h
    rfl
  obtain ⟨v, d, G, rfl, sG, hd, ht, q⟩ := h
  obtain ⟨t5, h5⟩ := N.deep
  obtain ⟨t6, h6⟩ := N.most
  refine ⟨_, pss_cons (ps_set (i := 1) scPf.nd rfl (.inl rfl) (pe_lst pa_nil))
    (pss_cons (ps_set (i := 2) scPf.nd rfl (.inl rfl) (pe_lst (pa_cons (pe_tup (pa_cons (pv 0) (pa_cons pe_int pa_nil))) pa_nil)))
    (pss_cons (ps_while PassesOwn.never (pt_truth (pv 2) (by intro _; rfl))
      (pss_cons (ps_asg (pe_bm0 PySem.F.plainAttrs_list PySem.F.slot_list_pop PySem.F.type_list_pop mt_pop (pv 2)) (pg_tup rfl (pgs_cons (pg_name (i := 3) scPf.nd rfl (.inl rfl)) (pgs_cons (pg_name (i := 4) scPf.nd rfl (.inr rfl)) pgs_nil))))
      (pss_cons (ps_set (i := 5) scPf.nd rfl (.inl rfl) (pe_call KA.ok hr rfl KA.m KA.k KA.b .nil pass0 (pa_cons (pv 3) pa_nil)))
      (pss_cons (ps_if (PW.pt (pw_or (pt_cmpR op_isN (pv 5) pe_non (nomark _)) (pw_or (pt_cmpR op_gt (pv 4) (pe_glob (v := .int 30) rfl h5 ⟨_, rfl⟩) (nomark _)) (pw_or1 (pt_cmpR op_eq (pe_callB call_len_seq rfl T.len PySem.boot_len (pa_cons (pv 1) pa_nil)) (pe_glob (v := .int 2000) rfl h6 ⟨_, rfl⟩) (nomark _)))))) (pss_one (ps_ret pe_non)) pss_nil)
      (pss_cons (ps_expr (pe_bm PySem.F.plainAttrs_list PySem.F.slot_list_append PySem.F.type_list_append mt_append (pv 1) (pa_cons (pe_tup (pa_cons (pv 3) (pa_cons (pv 4) pa_nil))) pa_nil)))
      (pss_one (ps_expr (pe_bm PySem.F.plainAttrs_list PySem.F.slot_list_extend PySem.F.type_list_extend mt_extend (pv 2) (pa_cons
        (pe_lc (own := [("one", 6)]) (g := gName 6) (tt := tYes) rfl scPf.nd (pi_tup (pv 5)) (blkOk_by (own := [("one", 6)]) (N := ["value", "found", "waiting", "part", "depth", "inner", "one"]) (sc := defScope sFound) (by decide +kernel))
          (fun _ _ _ _ _ => pg_name (i := 6) scPf.nd rfl (.inl rfl)) (fun _ _ _ _ _ => pts_nil) (fun _ _ _ _ _ => pe_tup (pa_cons (pv 6) (pa_cons (pe_op op_add (pv 4) pe_int) pa_nil)))) pa_nil)))))))))
    (pss_one (ps_ret (pv 1))))), ?_⟩
  have z3 : ∀ {k : Nat}, k ≤ 5000 → k ≤ sizeLine := fun h => Nat.le_trans h (by decide)
  refine ⟨z3 (by show 0 ≤ 5000; decide), fun fa hfa => ?_⟩
  have s1 := same_new hfa (.lst [])
  have f1 : upd H fa (.lst []) fa = some (.lst []) := upd_same
  generalize upd H fa (.lst []) = H1 at s1 f1 ⊢
  refine ⟨_, rfl, z3 (by show 2 ≤ 5000; decide), fun t0 ht0 => ⟨z3 (by show 1 ≤ 5000; decide), fun wa hwa => ?_⟩⟩
  have s2 := same_new ht0 (.tup [v, .int 1])
  have s3 := same_new hwa (.lst [.ref t0])
  have f3 := s3 _ _ (s2 _ _ f1)
  have w3 : upd (upd H1 t0 (.tup [v, .int 1])) wa (.lst [.ref t0]) wa = some (.lst [.ref t0]) := upd_same
  have r0 : upd (upd H1 t0 (.tup [v, .int 1])) wa (.lst [.ref t0]) t0 = some (.tup [v, .int 1]) := s3 _ _ upd_same
  have S3 := s1.trans (s2.trans s3)
  have hwaH : H wa = none := (s1.trans s2).free hwa
  generalize upd (upd H1 t0 (.tup [v, .int 1])) wa (.lst [.ref t0]) = H3 at s3 f3 w3 r0 S3 ⊢
  have nfw : fa ≠ wa := fun z => by rw [z] at f1; rw [s2 _ _ f1] at hwa; cases hwa
  dsimp only [gName, tSeq]
  refine while_by (fun σ H' => ∃ n st fnd ws fs c3 c4 c5, σ = [some v, some (.ref fa), some (.ref wa), c3, c4, c5, none] ∧ Same H H' ∧ H' fa = some (.lst fs) ∧ H' wa = some (.lst ws) ∧ Rows K G H' ws.reverse st ∧ Rows K G H' fs fnd ∧
      n + fnd.length = 2000 ∧ st.length ≤ 2 * fnd.length + 1 ∧ pf n st fnd = pf 2000 [(d, 1)] []) (fun _ H' => match H' fa with | some (.lst fs) => 2001 - fs.length | _ => 0)
    ⟨2000, [(d, 1)], [], [.ref t0], [], none, none, none, rfl, S3, f3, w3, ⟨⟨t0, v, rfl, r0, hd, ht⟩, trivial⟩, trivial, rfl, (by show 1 ≤ 1; exact Nat.le_refl 1), rfl⟩ ?_ ?_
  · rintro σ H' ⟨n, st, fnd, ws, fs, c3, c4, c5, rfl, sH, hf, hw, rw', rf, hn, hst, hpf⟩
    have sG' : Same G H' := sG.trans sH
    rcases List.eq_nil_or_concat ws with rfl | ⟨w', y, rfl⟩
    · -- the end
      refine ⟨_, rfl, false, .inl ⟨[], SqL.of hw, rfl⟩, iteF ?_⟩
      have e : st = [] := rows_nil_inv rw'
      subst e
      have e2 : pf n [] fnd = some fnd := by cases n <;> rfl
      rw [e2] at hpf
      exact ⟨_, rfl, q _ H' sH (by rw [← hpf]; exact ⟨fa, fs, rfl, hf, rf⟩)⟩
    · rw [List.concat_eq_append] at hw rw'
      rw [List.reverse_append, List.reverse_singleton, List.singleton_append] at rw'
      rcases st with _ | ⟨⟨d1, k⟩, st'⟩
      · exact rw'.elim
      obtain ⟨⟨t, x, rfl, hT, hD, hX⟩, rw2⟩ := rw'
      refine ⟨_, rfl, true, .inl ⟨_, SqL.of hw, by simp⟩, iteT ?_⟩
      refine ⟨_, rfl, .inl ⟨rfl, _, SqL.of hw⟩, wa, _, .ref t, rfl, rfl, hw, by simp, ?_⟩
      have dl : (w' ++ [V.ref t]).dropLast = w' := by simp
      rw [dl]
      have k1 := keep_upd (zs := w') hw
      have sH1 : Same H (upd H' wa (.lst w')) := fun b o e => by rw [upd_ne (ne_of_none e hwaH)]; exact sH _ _ e
      have hT1 := k1 _ _ hT
      have hf1 : upd H' wa (.lst w') fa = some (.lst fs) := by rw [upd_ne nfw]; exact hf
      have hw1 : upd H' wa (.lst w') wa = some (.lst w') := upd_same
      have rw3 := rw2.keep k1
      have rf1 := rf.keep k1
      generalize upd H' wa (.lst w') = H4 at sH1 hT1 hf1 hw1 rw3 rf1 ⊢
      refine ⟨t, _, rfl, SqT.of hT1, rfl, _, _, rfl, _, _, rfl, rfl, ?_⟩
      refine ⟨_, rfl, x, d1, G, rfl, sG.trans sH1, hD, hX, fun u H5 s5 res => ?_⟩
      have sH5 := sH1.trans s5
      have hf5 := s5 _ _ hf1
      have hw5 := s5 _ _ hw1
      have rw5 := rw3.keep (keep_same s5)
      have rf5 := rf1.keep (keep_same s5)
      have fl := rf5.len
      have out : pf n ((d1, k) :: st') fnd = none → _ := fun e => q .non H5 sH5 (by rw [← hpf, e]; rfl)
      refine ⟨_, rfl, rfl, _, rfl, ?_⟩
      cases hi : inner d1 with
      | none =>
        rw [hi] at res
        obtain rfl : u = .non := res
        exact iteT (out (by cases n with
          | zero => rfl
          | succ m => show (match inner d1 with | none => none | some ds => _) = none; rw [hi]))
      | some ds =>
        rw [hi] at res
        obtain ⟨a, xs, rfl, hx, hA⟩ := res
        refine iteF ⟨_, rfl, _, _, rfl, rfl, _, rfl, ?_⟩
        refine ite2 (fun g => ?_) (fun g => ?_)
        · have g' : (k : Int) > 30 := of_decide_eq_true g
          exact out (by cases n with
            | zero => rfl
            | succ m => show (match inner d1 with | none => none | some ds => _) = none; rw [hi]; exact if_pos (by omega))
        · have g' : ¬ (k : Int) > 30 := of_decide_eq_false (Bool.eq_false_iff.mpr g)
          refine ⟨_, rfl, fa, _, rfl, .inl (SqL.of hf5), rfl, _, rfl, ?_⟩
          refine ite2 (fun z => ?_) (fun z => ?_)
          · have z' := num_eq z
            obtain rfl : n = 0 := by omega
            exact out rfl
          · have z' := num_ne z
            obtain ⟨m, rfl⟩ : ∃ m, n = m + 1 := ⟨n - 1, by omega⟩
            have ep : pf (m + 1) ((d1, k) :: st') fnd = pf m ((ds.map fun x => (x, k + 1)).reverse ++ st') (fnd ++ [(d1, k)]) := by
              show (match inner d1 with | none => none | some ds => if 30 < k then none else pf m ((ds.map fun x => (x, k + 1)).reverse ++ st') (fnd ++ [(d1, k)])) = _
              rw [hi]
              exact if_neg (by omega)
            have hds : ds.length ≤ 2 := by
              unfold inner at hi
              split at hi
              · split at hi
                · cases hi; exact Nat.zero_le _
                · cases hi
              · split at hi
                · cases hi; exact Nat.zero_le _
                · cases hi
              · split at hi
                · cases hi; exact Nat.le_refl 2
                · cases hi
              · cases hi
            refine ⟨_, rfl, .inl ⟨rfl, _, SqL.of hf5⟩, _, rfl, _, rfl, z3 (by show 2 ≤ 5000; decide), fun t2 ht2 => ?_⟩
            have s6 := same_new ht2 (.tup [x, .int (k : Nat)])
            refine ⟨fa, fs, .ref t2, rfl, rfl, s6 _ _ hf5, Nat.lt_of_le_of_lt (by omega : fs.length ≤ 2000) (by decide), ?_⟩
            have s7 : Same H (upd (upd H5 t2 (.tup [x, .int (k : Nat)])) fa (.lst (fs ++ [.ref t2]))) := fun b o e => by rw [upd_ne (ne_of_none e hfa)]; exact s6 _ _ (sH5 _ _ e)
            have k7 : ∀ b zs, H5 b = some (.tup zs) → upd (upd H5 t2 (.tup [x, .int (k : Nat)])) fa (.lst (fs ++ [.ref t2])) b = some (.tup zs) := fun b zs e => keep_upd (s6 _ _ hf5) _ _ (s6 _ _ e)
            have hx7 : SqT K (upd (upd H5 t2 (.tup [x, .int (k : Nat)])) fa (.lst (fs ++ [.ref t2]))) a xs := by
              rcases hx with (h | ⟨o, h⟩) | h
              · exact .inl (.inl (k7 _ _ h))
              · exact .inl (.inr ⟨o, by rw [upd_ne (fun z => by rw [z, hf5] at h; cases h)]; exact s6 _ _ h⟩)
              · exact .inr h
            have hw7 : upd (upd H5 t2 (.tup [x, .int (k : Nat)])) fa (.lst (fs ++ [.ref t2])) wa = some (.lst w') := by rw [upd_ne (Ne.symm nfw)]; exact s6 _ _ hw5
            have hf7 : upd (upd H5 t2 (.tup [x, .int (k : Nat)])) fa (.lst (fs ++ [.ref t2])) fa = some (.lst (fs ++ [.ref t2])) := upd_same
            have ht7 : upd (upd H5 t2 (.tup [x, .int (k : Nat)])) fa (.lst (fs ++ [.ref t2])) t2 = some (.tup [x, .int (k : Nat)]) := keep_upd (s6 _ _ hf5) _ _ upd_same
            have rw7 := rw5.keep k7
            have one7 : Rows K G (upd (upd H5 t2 (.tup [x, .int (k : Nat)])) fa (.lst (fs ++ [.ref t2]))) [.ref t2] [(d1, k)] := ⟨⟨t2, x, rfl, ht7, hD, hX⟩, trivial⟩
            have rf7 := (rf5.keep k7).app one7
            clear one7
            generalize upd (upd H5 t2 (.tup [x, .int (k : Nat)])) fa (.lst (fs ++ [.ref t2])) = H7 at s7 k7 hx7 hw7 hf7 ht7 rw7 rf7 ⊢
            have txs := inner_txt hi hX
            refine ⟨_, rfl, .inl ⟨rfl, _, SqL.of hw7⟩, _, rfl, a, rfl, ⟨_, hx7⟩, fun D nD => ?_⟩
            refine lc_it (walk_tup (xs := xs)) (fun i H8 => Same H7 H8 ∧ ∃ zs, H8 D = some (.lst zs) ∧ zs.length = i ∧ Rows K G H8 zs ((ds.take i).map fun x => (x, k + 1))) ⟨same_new nD _, [], upd_same, rfl, trivial⟩ (fun i H8 _ z => z.1.seqT hx7) ?_ ?_
            · rintro i y H8 _ hii ⟨s8, zs, hzD, hzl, hzr⟩ ⟨rfl, hy⟩
              refine ⟨rfl, ?_⟩
              simp only [tYes, ↓reduceIte]
              obtain ⟨e, he, hde⟩ := dqAll_at _ _ _ hA hy
              refine ⟨_, rfl, _, rfl, _, _, rfl, rfl, z3 (by show 2 ≤ 5000; decide), fun t3 ht3 => ?_⟩
              have s9 := same_new ht3 (.tup [y, .int ((k : Nat) + 1 : Int)])
              have hz9 := s9 _ _ hzD
              have hil : i < ds.length := (List.getElem?_eq_some_iff.mp he).1
              refine ⟨zs, hz9, Nat.lt_of_le_of_lt (by omega : zs.length ≤ 2) (by decide), fun b o q => by rw [upd_ne (ne_of_none q nD)]; exact s9 _ _ (s8 _ _ q), zs ++ [.ref t3], upd_same, by rw [List.length_append, hzl]; rfl, ?_⟩
              rw [List.take_add_one, he, List.map_append]
              refine Rows.app ((hzr.keep (keep_same s9)).keep (keep_upd hz9)) ⟨⟨t3, y, rfl, keep_upd hz9 _ _ upd_same, hde, txs e (List.mem_of_getElem? he)⟩, trivial⟩
            · rintro H8 ⟨s8, zs, hzD, hzl, hzr⟩
              have el : xs.length = ds.length := hA.len
              rw [el, List.take_length] at hzr
              have hzlen := hzr.len
              rw [List.length_map] at hzlen
              have hw8 := s8 _ _ hw7
              have hf8 := s8 _ _ hf7
              have wl : w'.length = st'.length := by have := rw7.len; rwa [List.length_reverse] at this
              have hst' : st'.length + 1 ≤ 2 * fnd.length + 1 := hst
              refine ⟨wa, D, w', zs, rfl, rfl, hw8, hzD, z3 (by omega), ?_⟩
              have nwf : fa ≠ wa := nfw
              refine ⟨⟨m, (ds.map fun x => (x, k + 1)).reverse ++ st', fnd ++ [(d1, k)], w' ++ zs, fs ++ [.ref t2], _, _, _, rfl, fun b o e => by rw [upd_ne (ne_of_none e hwaH)]; exact s8 _ _ (s7 _ _ e), by rw [upd_ne nwf]; exact hf8, upd_same, ?_, ?_, ?_, ?_, by rw [← ep]; exact hpf⟩, ?_⟩
              · rw [List.reverse_append]
                exact (hzr.rev.app (rw7.keep (keep_same s8))).keep (keep_upd hw8)
              · exact (rf7.keep (keep_same s8)).keep (keep_upd hw8)
              · rw [List.length_append, List.length_singleton]; omega
              · rw [List.length_append, List.length_reverse, List.length_map, List.length_append, List.length_singleton]; omega
              · show (match upd H8 wa (.lst (w' ++ zs)) fa with | some (.lst fs) => 2001 - fs.length | _ => 0) < (match H' fa with | some (.lst fs) => 2001 - fs.length | _ => 0)
                rw [upd_ne nwf, hf8, hf]
                show 2001 - (fs ++ [V.ref t2]).length < 2001 - fs.length
                rw [List.length_append, List.length_singleton]
                omega
  · intro σ H' Q1 Q2 hq hc
    obtain ⟨x, ex, k, tr, q1⟩ := hc
    exact ⟨x, ex, k, tr, hq _ _ q1⟩
end
end Toy
set_option Elab.async false
set_option linter.all false
set_option maxRecDepth 100000
set_option maxHeartbeats 1000000
/-! sorted of texts, any number of them -/
namespace StrO
open PySem PyProof.Rows Srt SrtO
def ltS (v u : Value) : Bool := decide ((strOf v).cps.toList < (strOf u).cps.toList)
theorem ltS_swo : Swo ltS := by
  refine ⟨fun x y h => ?_, fun x y z h1 h2 => ?_⟩
  · have a := of_decide_eq_true (p := (strOf x).cps.toList < (strOf y).cps.toList) h
    exact decide_eq_false (p := (strOf y).cps.toList < (strOf x).cps.toList) (List.lt_asymm a)
  · have a := of_decide_eq_false (p := (strOf y).cps.toList < (strOf x).cps.toList) h1
    have b := of_decide_eq_false (p := (strOf z).cps.toList < (strOf y).cps.toList) h2
    refine decide_eq_false (p := (strOf z).cps.toList < (strOf x).cps.toList) ?_
    rw [List.not_lt] at a b ⊢
    exact List.le_trans a b
/-- in no descending order -/
def upS (xs : List Str) : Prop := xs.Pairwise fun x y => ¬ y.cps.toList < x.cps.toList
section
variable {prog : Program} {w : World} {A : Around} {E : Value → Shared → Prop} {s : Shared}
theorem strs_cmp {vs : List Value} {xs : List Str} (hI : StrsAre vs xs) : Cmp prog w A s oneType' (fun p => p.1 ∈ vs) (lt2 ltS) := by
  intro p q hm hm'
  obtain ⟨x, tx, ex⟩ := hI.all _ hm
  obtain ⟨y, ty, ey⟩ := hI.all _ hm'
  show wpAny (model prog w) A (keyLt' oneType' p.1 q.1) (fun r s' => s' = s ∧ r = ltS p.1 q.1) (fun _ _ => False) s
  rw [ex, ey, keyLt'_oneType]
  exact oneLt_str ⟨rfl, rfl⟩
theorem strs_sortable {a : Addr} {vs : List Value} {xs : List Str} (hI : StrsAre vs xs) (h2 : 2 ≤ vs.length) : SortableO prog w A s a vs ltS := by
  intro hp _
  refine ⟨oneType', fun Q E hq => ?_, strs_cmp hI⟩
  match vs, hI, h2 with
  | v1 :: v2 :: more, hI, _ =>
    rw [keyKind_strs hI]
    exact wpAny_pure hq
  | [], _, z => exact absurd z (by decide)
  | [v], _, z => exact absurd z (by simp)
theorem strs_out {vs out : List Value} {xs : List Str} (hI : StrsAre vs xs) (hs : Srtd ltS out) (hb : Stb ltS out vs) : StrsAre out (out.map strOf) ∧ (out.map strOf).Perm xs ∧ upS (out.map strOf) := by
  refine ⟨strsAre_map out fun v hv => hI.all v (hb.perm.mem_iff.mp hv), ?_, ?_⟩
  · have z := hb.perm.map strOf
    rw [hI.strs] at z
    exact z
  · exact List.pairwise_map.mpr (hs.imp fun {x y} h => of_decide_eq_false (p := (strOf y).cps.toList < (strOf x).cps.toList) h)
end
end StrO
namespace L2
open PySem PySem.Spec PyProof.Rows StrO
/-- sorted of a list of texts -/
def rSortedX (K : PySem.W.Frag) : List V → Hp → VK → Prop := fun vs H Q => ∃ (a : Addr) (xs : List Str), vs = [V.ref a] ∧ SqL K H a (xs.map V.str) ∧
  ∀ (ys : List Str) (p : Addr), ys.Perm xs → upS ys → H p = none → Q (.ref p) (upd H p (.lst (ys.map V.str)))
theorem cr_sortedX {X : Cx} : CallR X (.builtin "sorted") (rSortedX X.K) := by
  intro pins s σ H vs us Q I r h
  obtain ⟨a, xs, rfl, hs, q⟩ := h
  obtain ⟨its, rv, hl, hz⟩ := I.list hs
  rw [Vals.ref1 r]
  have hI := rv.strs
  have hz2 : xs.length ≤ sizeLine := by rw [List.length_map] at hz; exact hz
  refine SrtO.sorted_ord ltS_swo hl.isList (by rw [← rv.length]; exact hz) (fun h2 h1 b _ _ => strs_sortable hI h2) fun out h1 h2 => ?_
  obtain ⟨k1, k2, k3⟩ := strs_out hI h1 h2
  obtain ⟨ep, he⟩ := PyProof.Rows.sortedAll_at s.heap its out.toArray
  have len : ((out.map strOf).map V.str).length ≤ sizeLine := by rw [List.length_map, k2.length_eq]; exact hz2
  exact ⟨.ref _, upd H (s.heap.objs.size + 1) (.lst ((out.map strOf).map V.str)), I.laid (t' := s.toks) (fun _ _ => PyProof.Rows.sortedAll_old) (Nat.le_succ _) ⟨len, out, ep, vals_of_strs k1, he⟩, rfl, q _ _ k2 k3 (I.hok.fresh (Nat.le_succ _))⟩
end L2
set_option Elab.async false
set_option linter.all false
set_option maxRecDepth 100000
set_option maxHeartbeats 1000000
/-! a set of texts, made of a list, and sorted -/
namespace StrT
open PySem PySem.Spec PyProof.Rows L2 StrO
def kyS (e : Int × Value) : Str := strOf e.2
def GdS (P : Program) (w : World) (e : Int × Value) : Prop := ∃ x tx, e.2 = Value.str x tx ∧ e.1 = (PySem.strKind P w).hash x
/-- the set of texts at a -/
structure StD (P : Program) (w : World) (S : Str → Bool) (n : Nat) (es : Array (Int × Value)) (t : SetTable) : Prop where
  gd : ∀ e ∈ es.toList, GdS P w e
  nd : (es.toList.map kyS).Nodup
  mem : ∀ x, S x = true ↔ x ∈ es.toList.map kyS
  small : es.size < scanBound
  fit : t.fits es.size = true
  size : es.size = n
  ris : Ris t.place.toList
  led : w.params.followText "set-order" = true ∨ t.led = true
def StS (P : Program) (w : World) (h : Heap) (a : Addr) (S : Str → Bool) (n : Nat) : Prop :=
  ∃ o es ep t, h.get? a = some o ∧ o.ExactSet ∧ o.data = .set es ep t ∧ StD P w S n es t
section
variable {P : Program} {w : World} {h : Heap} {a : Addr} {S : Str → Bool} {n : Nat}
theorem gds_elems {l : List (Int × Value)} (g : ∀ e ∈ l, GdS P w e) : ElemsOf (PySem.strKind P w) l := fun e he => by
  obtain ⟨x, tx, e1, e2⟩ := g e he
  exact ⟨⟨x, by rw [e1]; exact strKind_is P w x tx, e2⟩, by rw [e1]; rfl⟩
theorem gds_is {e : Int × Value} (g : GdS P w e) (x : Str) : (PySem.strKind P w).is x e.2 = true ↔ kyS e = x := by
  obtain ⟨y, ty, e1, _⟩ := g
  unfold kyS
  rw [e1]
  show ((Value.str y ty).isStrOf x = true) ↔ y = x
  simp [Value.isStrOf]
theorem gds_mem {l : List (Int × Value)} (g : ∀ e ∈ l, GdS P w e) (x : Str) : x ∈ l.map kyS ↔ ∃ e ∈ l, (PySem.strKind P w).is x e.2 = true := by
  rw [List.mem_map]
  exact ⟨fun ⟨e, he, q⟩ => ⟨e, he, (gds_is (g e he) x).2 q⟩, fun ⟨e, he, q⟩ => ⟨e, he, (gds_is (g e he) x).1 q⟩⟩
end
section
variable {P : Program} {w : World} {A : Around} {E : Value → Shared → Prop} {s : Shared} {a : Addr} {S : Str → Bool} {n : Nat}
theorem sts_tail {gv : Bool → Sem Unit} (hg : ∀ (b : Bool) (s₁ : Shared) (Q' : Unit → Shared → Prop), Q' () s₁ → wpAny (model P w) A (gv b) Q' E s₁)
    {o : Obj} {es es1 : Array (Int × Value)} {ep : Nat} {t t2 : SetTable} (ho : s.heap.get? a = some o) (hex : o.ExactSet) (hd : o.data = .set es ep t) {S' : Str → Bool} (D : StD P w S' es1.size es1 t2) {was : Bool} {R : Option Bool → Shared → Prop}
    (hR : ∀ hp, Heap.SameBut a s.heap hp → StS P w hp a S' es1.size → R (some true) { s with heap := hp }) :
    wpAny (model P w) A (do
      storeSet a es1 t2
      if (!was && t2.tooFull) = true then do
        gv (relayAll t2 es1 (SetTable.grown es1.size)).2.2
        storeSet a (relayAll t2 es1 (SetTable.grown es1.size)).1 (relayAll t2 es1 (SetTable.grown es1.size)).2.1
        pure (some true)
      else pure (some true)) R E s := by
  have at1 := store_at (es' := es1) (t' := t2) ho hd
  have but1 := Heap.SameBut.update s.heap a (Obj.putSet es1 t2)
  refine wpAny_bind (wpAny_storeSet_of ho hd ?_ (fits_of_scanBound D.small))
  split
  · have pm := relayAll_perm t2 es1 (SetTable.grown es1.size)
    have f3 := relayAll_fits t2 es1 (SetTable.grown es1.size)
    have r3 := relayAll_ris t2 es1 (SetTable.grown es1.size)
    have l3 := relayAll_led t2 es1 (SetTable.grown es1.size)
    generalize relayAll t2 es1 (SetTable.grown es1.size) = Z at pm f3 r3 l3 ⊢
    obtain ⟨es2, t3, gave⟩ := Z
    dsimp only at pm f3 r3 l3 ⊢
    have z2 : es2.size = es1.size := by rw [← Array.length_toList, pm.length_eq, Array.length_toList]
    have b2 : es2.size < scanBound := by rw [z2]; exact D.small
    refine wpAny_bind (hg _ _ _ (wpAny_bind (wpAny_storeSet_of at1 rfl (wpAny_pure (hR _ (but1.trans (Heap.SameBut.update _ a _)) ?_)) (fits_of_scanBound b2))))
    exact ⟨_, es2, _, t3, store_at (es' := es2) (t' := t3) at1 rfl, hex, rfl, fun e he => D.gd e (pm.mem_iff.mp he), (pm.map kyS).nodup_iff.mpr D.nd, fun x => (D.mem x).trans (pm.map kyS).mem_iff.symm, b2, f3, z2, r3, D.led.imp id fun z => by rw [l3]; exact z⟩
  · exact wpAny_pure (hR _ but1 ⟨_, es1, _, t2, at1, hex, rfl, D⟩)
theorem sts_add {x : Str} {tk : Tok} {Q : Bool → Shared → Prop} (R : StS P w s.heap a S n) (room : n + 1 < scanBound)
    (hQ : ∀ hp, Heap.SameBut a s.heap hp → StS P w hp a (fun y => S y || decide (y = x)) (if S x = true then n else n + 1) → Q (!S x) { s with heap := hp }) :
    wpAny (model P w) A (setAddHashed a (.str x tk) ((PySem.strKind P w).hash x)) Q E s := by
  obtain ⟨o, es, ep, t, ho, hex, hd, D⟩ := R
  have kx : (PySem.strKind P w).is x (.str x tk) = true := strKind_is P w x tk
  have sc : (Value.str x tk).scannable = true := rfl
  have el : ElemsOf (PySem.strKind P w) es.toList := gds_elems D.gd
  unfold setAddHashed setAddHashedIn
  refine wpAny_holding (wpAny_bind (wpAny_setState_of ho hd D.fit ?_))
  dsimp only
  rw [byScan_of sc D.small el]
  simp only [↓reduceIte]
  unfold setAddByScan
  refine wpAny_bind (wpAny_bind (wpAny_rule (wpAny_bind (wpAny_setScan_of kx ho hd D.fit el ?_))))
  cases hfi : List.findIdx? (fun e => (PySem.strKind P w).is x e.2) es.toList with
  | some j =>
    dsimp only
    obtain ⟨hj, pj, _⟩ := List.findIdx?_eq_some_iff_getElem.mp hfi
    have Sx : S x = true := (D.mem x).2 ((gds_mem D.gd x).2 ⟨es.toList[j], List.getElem_mem hj, pj⟩)
    have q := hQ s.heap (Heap.SameBut.refl a s.heap) ⟨o, es, ep, t, ho, hex, hd, { D with
      mem := fun y => by
        rw [Bool.or_eq_true, decide_eq_true_eq, ← D.mem y]
        exact ⟨fun z => z.elim id (fun e => e ▸ Sx), .inl⟩
      size := by rw [if_pos Sx]; exact D.size }⟩
    rw [Sx] at q
    exact wpAny_pure (wpAny_pure q)
  | none =>
    dsimp only
    have nx : x ∉ es.toList.map kyS := fun z => by
      obtain ⟨e, he, q⟩ := (gds_mem D.gd x).1 z
      have c := List.findIdx?_eq_none_iff.mp hfi e he
      rw [q] at c
      cases c
    have Sx : S x = false := by
      cases q : S x with
      | false => rfl
      | true => exact absurd ((D.mem x).1 q) nx
    have gw : ∀ (b : Bool) {s₁ : Shared} {Q' : Unit → Shared → Prop}, Q' () s₁ → wpAny (model P w) A (match b with | true => rule "set.scan.the-table-gave-way" | false => pure ()) Q' E s₁ :=
      fun b _ _ q => by cases b <;> first | exact wpAny_pure q | exact wpAny_rule q
    have pm := layNew_perm t es ((PySem.strKind P w).hash x) (.str x tk)
    have f1 := layNew_fits t es ((PySem.strKind P w).hash x) (.str x tk)
    have r1 := layNew_ris t es ((PySem.strKind P w).hash x) (.str x tk) D.ris
    have l1 := layNew_led t es ((PySem.strKind P w).hash x) (.str x tk)
    generalize layNew t es ((PySem.strKind P w).hash x) (.str x tk) = Z at pm f1 r1 l1 ⊢
    obtain ⟨es1, t1, was, gave⟩ := Z
    dsimp only at pm f1 r1 l1 ⊢
    rw [Array.toList_push] at pm
    have pc : es1.toList.Perm (((PySem.strKind P w).hash x, Value.str x tk) :: es.toList) := pm.trans (List.perm_append_singleton _ _)
    have pk : (es1.toList.map kyS).Perm (x :: es.toList.map kyS) := pc.map kyS
    have z1 : es1.size = n + 1 := by rw [← Array.length_toList, pc.length_eq, List.length_cons, Array.length_toList, D.size]
    have D1 : ∀ t2 : SetTable, t2.fits es1.size = true → Ris t2.place.toList → (t2.led = t1.led) → StD P w (fun y => S y || decide (y = x)) es1.size es1 t2 := fun t2 hf hr hl => {
      gd := fun e he => by
        rcases List.mem_cons.mp (pc.mem_iff.mp he) with z | z
        · rw [z]; exact ⟨x, tk, rfl, rfl⟩
        · exact D.gd e z
      nd := pk.nodup_iff.mpr (List.nodup_cons.mpr ⟨nx, D.nd⟩)
      mem := fun y => by
        rw [Bool.or_eq_true, decide_eq_true_eq, D.mem y, pk.mem_iff, List.mem_cons]
        exact Or.comm
      small := by rw [z1]; exact room
      fit := hf
      size := rfl
      ris := hr
      led := D.led.imp id fun z => by rw [hl, l1]; exact z }
    have fin : ∀ hp, Heap.SameBut a s.heap hp → StS P w hp a (fun y => S y || decide (y = x)) es1.size → Q true { s with heap := hp } := fun hp sb r => by
      have q := hQ hp sb
      rw [Sx] at q
      rw [z1] at r
      exact q r
    refine wpAny_bind (gw _ ?_)
    split
    · refine wpAny_bind ?_
      rw [hashByValue_scannable 8 sc]
      refine wpAny_pure (sts_tail ?_ ho hex hd (D1 _ ?_ ?_ ?_) ?_)
      · intro b s₁ Q' q; cases b <;> first | exact wpAny_pure q | exact wpAny_rule q
      · first | (split <;> first | exact f1 | exact SetTable.fits_plain_off f1) | exact f1
      · first | (split <;> exact r1) | exact r1
      · first | (split <;> rfl) | rfl
      · intro hp sb r; dsimp only; exact wpAny_pure (fin hp sb r)
    · refine wpAny_bind (wpAny_pure ?_)
      simp only [↓reduceIte]
      refine sts_tail ?_ ho hex hd (D1 t1 f1 r1 rfl) ?_
      · intro b s₁ Q' q; cases b <;> first | exact wpAny_pure q | exact wpAny_rule q
      · intro hp sb r; dsimp only; exact wpAny_pure (fin hp sb r)
end
end StrT
set_option Elab.async false
set_option linter.all false
set_option maxRecDepth 100000
set_option maxHeartbeats 3200000
namespace StrT
open PySem PySem.Spec PyProof.Rows L2 StrO
theorem StS.at {P : Program} {w : World} {h h' : Heap} {a : Addr} {S : Str → Bool} {n : Nat} (R : StS P w h a S n) (k : ∀ o, h.get? a = some o → h'.get? a = some o) : StS P w h' a S n := by
  obtain ⟨o, es, ep, t, ho, r⟩ := R
  exact ⟨o, es, ep, t, k o ho, r⟩
theorem StS.congr {P : Program} {w : World} {h : Heap} {a : Addr} {S S' : Str → Bool} {n : Nat} (R : StS P w h a S n) (e : ∀ x, S' x = S x) : StS P w h a S' n := by
  have q : S' = S := funext e
  rw [q]; exact R
abbrev freshSet (w : World) : Obj := { cls := .type "set", dict := none, data := .set #[] 0 (.fresh 0 0 (!w.params.followText "set-order")) }
theorem sts_fresh {P : Program} {w : World} {h : Heap} {a : Addr} {xs : List Str} (ho : h.get? a = some (freshSet w)) : StS P w h a (fun x => decide (x ∈ xs.take 0)) 0 :=
  ⟨_, #[], 0, _, ho, ⟨rfl, rfl, rfl⟩, rfl, {
    gd := fun e he => by simp at he
    nd := by simp
    mem := fun x => by simp
    small := by decide
    fit := by rfl
    size := rfl
    ris := List.Pairwise.nil
    led := by
      show _ ∨ (!w.params.followText "set-order") = true
      cases w.params.followText "set-order"
      · exact .inr rfl
      · exact .inl rfl }⟩
theorem strs_item {us : List Value} {xs : List Str} (h : StrsAre us xs) {i : Nat} {v : Value} (hv : us[i]? = some v) : ∃ x t, xs[i]? = some x ∧ v = .str x t := by
  have hi : i < xs.length := by
    rw [← StrsAre.len_eq h]; exact (List.getElem?_eq_some_iff.mp hv).1
  obtain ⟨t, e⟩ := SS.strs_at h i v hv
  refine ⟨xs[i], t, List.getElem?_eq_getElem hi, ?_⟩
  rw [e, List.getD_eq_getElem?_getD, List.getElem?_eq_getElem hi]
  rfl
section
variable {P : Program} {w : World} {A : Around} {E : Value → Shared → Prop} {s : Shared}
theorem update_strs {I : Addr} {fp wr : List Addr} {G : Array GenState → Array GenState → Prop} {n : Nat} {Pv : Nat → Value → Prop} {St : Nat → Shared → Prop} {R : Result → Shared → Prop}
    (W : WalksS P w A.in1 I fp wr G n Pv St) (a : Addr) (ha : a ∉ fp) (xs : List Str) (hn : n = xs.length) (hb : xs.length + 1 < scanBound) (hval : ∀ i v, Pv i v → ∃ x t, xs[i]? = some x ∧ v = .str x t) :
    ∀ (k i : Nat) (s : Shared), n - i = k → i ≤ n → St i s → (∃ c, c ≤ i ∧ StS P w s.heap a (fun x => decide (x ∈ xs.take i)) c) →
      (∀ s' c, Moved (a :: wr) G s s' → c ≤ n → StS P w s'.heap a (fun x => decide (x ∈ xs)) c → R (.ok (.ret .none)) s') →
      codeAny (model P w) A (.builtin "set.update.loop" ⟨[.ref a, .ref I], []⟩) R s := by
  have naw : a ∉ wr := fun z => ha (W.sub _ z)
  have sub : ∀ b ∈ wr, b ∈ a :: wr := fun b hb => List.mem_cons_of_mem _ hb
  intro k
  induction k with
  | zero =>
    intro i s hk hi hst ⟨c, hc, hS⟩ hR
    obtain rfl : i = n := by omega
    refine codeAny_builtin PyProof.Rows.F.entry_set_update_loop ?_
    rw [Around.under_plainId PyProof.Rows.F.plain_set_update_loop _]
    show wpAny _ A.in1 (pyNext (.ref I) >>= _) _ _ s
    refine wpAny_bind (W.done s _ _ hst fun s' mv => ?_)
    show wpAny _ A.in1 (ret Value.none) _ _ s'
    rw [List.take_of_length_le (by omega : xs.length ≤ i)] at hS
    exact wpAny_pure (hR s' c (mv.mono sub) hc (hS.at fun o e => mv.heap a o naw e))
  | succ k ih =>
    intro i s hk hi hst ⟨c, hc, hS⟩ hR
    have lt : i < n := by omega
    refine codeAny_builtin PyProof.Rows.F.entry_set_update_loop ?_
    rw [Around.under_plainId PyProof.Rows.F.plain_set_update_loop _]
    show wpAny _ A.in1 (pyNext (.ref I) >>= _) _ _ s
    refine wpAny_bind (W.item i s _ _ lt hst fun v s' hv hst' mv => ?_)
    obtain ⟨x, tx, hx, rfl⟩ := hval i v hv
    have hS1 : StS P w s'.heap a (fun y => decide (y ∈ xs.take i)) c := hS.at fun o e => mv.heap a o naw e
    show wpAny _ A.in1 (holding [Value.str x tx] (setAdd a (.str x tx)) >>= _) _ _ s'
    refine wpAny_bind (wpAny_holding ?_)
    unfold setAdd
    refine wpAny_holding (wpAny_bind ((PySem.strKind P w).pyHash (k := x) (strKind_is _ _ _ _) ?_))
    refine sts_add (s := { s' with toks := s'.toks + 1 }) hS1 (by omega) fun hp but hS2 => ?_
    have hS3 : StS P w hp a (fun y => decide (y ∈ xs.take (i + 1))) (if decide (x ∈ xs.take i) = true then c else c + 1) := hS2.congr fun y => by
      rw [List.take_add_one, hx]
      simp [List.mem_append]
    have le3 : (if decide (x ∈ xs.take i) = true then c else c + 1) ≤ i + 1 := by
      split <;> omega
    have oth : ∀ b o, b ≠ a → s'.heap.get? b = some o → hp.get? b = some o := fun b o nb e => by rw [but.2 b nb]; exact e
    refine wpAny_pure ⟨plainId_quiet PyProof.Rows.F.plain_set_update_loop _, ih (i + 1) _ (by omega) lt (W.frame _ s' _ _ hst' (Nat.le_succ _) fun b hb o e => oth b o (fun z => ha (by rw [← z]; exact hb)) e) ⟨_, le3, hS3⟩ fun s2 c2 mv2 hc2 hS4 => ?_⟩
    exact hR s2 c2 (Moved.trans W.gtrans ((mv.mono sub).then_heap (Nat.le_succ _) fun b o nb e => oth b o (fun z => nb (by rw [z]; exact List.mem_cons_self)) e) mv2) hc2 hS4
theorem call_set_texts {l : Addr} {items : Array Value} (xs : List Str) {Q : Value → Shared → Prop} (hh : A.handled = none) (hl : s.heap.IsList l items) (hit : StrsAre items.toList xs) (hb : xs.length + 1 < scanBound)
    (h : ∀ (hp : Heap) (tk c : Nat), StS P w hp s.heap.objs.size (fun x => decide (x ∈ xs)) c → c ≤ xs.length → (∀ b o, s.heap.get? b = some o → hp.get? b = some o) → Q (.ref s.heap.objs.size) { s with heap := hp, toks := tk }) :
    wpAny (model P w) A (call (.type "set") [.ref l]) Q E s := by
  have isz : items.size = xs.length := by
    have z := StrsAre.len_eq hit
    rw [Array.length_toList] at z
    exact z
  obtain ⟨c0, tl, hmro⟩ := PySem.F.called_set.mro
  have made := PySem.F.called_set.made
  have subs := PySem.F.called_set.sub
  refine wpAny_call (codeAny_of_tree ?_)
  show wpAny _ _ (callAny (.type "set") _) _ _ _
  refine wpAny_pure ⟨Code.quiet_builtin _ (by decide +kernel), codeAny_builtin PySem.F.entry_type_call ?_⟩
  rw [Around.under_plain (weight_type_call_type "set" [.ref l] []) rfl]
  have g1 := PySem.F.called_set.notType
  have g2 := PySem.F.called_set.canCreate
  have g3 := PySem.F.typeCall_set_1 (.ref l)
  repeat (any_goals (first | assumption | wp_step))
  refine codeAny_mono (code_set_led1 (.ref l) (E := E) (Q₁ := fun obj s₁ => obj = .ref s.heap.objs.size ∧ s₁ = { s with heap := s.heap.push (freshSet w) }) ⟨rfl, rfl⟩) fun r s₁ hr => ?_
  cases r with
  | error e => exact hr
  | ok fl =>
    cases fl with
    | ret obj =>
      obtain ⟨rfl, rfl⟩ := hr
      have atS : (s.heap.push (freshSet w)).get? s.heap.objs.size = some (freshSet w) := Heap.get?_push_size _ rfl
      have tyS : Shared.TypeIs { s with heap := s.heap.push (freshSet w) } (.ref s.heap.objs.size) "set" := ⟨_, atS, rfl⟩
      have li := PySem.F.called_set.init.lookup
      have bi := PySem.F.called_set.init.bind (.ref s.heap.objs.size)
      repeat (any_goals (first | assumption | wp_step))
      refine codeAny_mono (codeAny_call_builtin (R := wants (fun r s₂ => r = .none ∧ ∃ hp tk c, s₂ = { s with heap := hp, toks := tk } ∧ StS P w hp s.heap.objs.size (fun x => decide (x ∈ xs)) c ∧ c ≤ xs.length ∧
          (∀ b o, s.heap.get? b = some o → hp.get? b = some o)) E) PySem.F.called_set.init.plain PySem.F.entry_set_init (check_set_init_1 tyS ?_)) fun r₂ s₂ hr₂ => ?_
      · obtain ⟨ol, hol, hcl, nl, hdl⟩ := hl
        obtain ⟨ocls, odict, odata, oslots⟩ := ol
        simp only at hcl hdl
        subst hcl; subst hdl
        have hol2 : (s.heap.push (freshSet w)).get? l = some { cls := .type "list", dict := odict, data := .seq items nl, slots := oslots } := Heap.get?_push_of_some _ hol
        have m1 := PySem.F.sub_list_set
        have m2 := PySem.F.sub_list_frozenset
        have m3 : (Value.type "list" == Value.type "dict") = false := by decide
        have isl : (s.heap.push (freshSet w)).IsList l items := ⟨_, hol2, rfl, nl, rfl⟩
        unfold Builtin.«set.__init__» noKeywords Builtin.Frozenset.updateFrom
        generalize hPI : pyIter = PI
        wp_walk
        subst hPI
        refine wpAny_pyIter_list isl ?_
        refine wpAny_bind (wpAny_runValue ?_)
        have lS : l < s.heap.objs.size := Heap.lt_size hol
        have hh3 : A.in1.in1.in1.handled = none := by simp [hh]
        have sz1 : (s.heap.push (freshSet w)).objs.size = s.heap.objs.size + 1 := Heap.size_push ..
        have neI : l ≠ (s.heap.push (freshSet w)).objs.size := by rw [sz1]; exact Nat.ne_of_lt (Nat.lt_succ_of_lt lS)
        have nfS : s.heap.objs.size ∉ [(s.heap.push (freshSet w)).objs.size, l] := by
          rw [sz1]
          simp only [List.mem_cons, List.not_mem_nil, or_false, not_or]
          exact ⟨Nat.ne_of_lt (Nat.lt_succ_self _), Nat.ne_of_gt lS⟩
        refine update_strs ((Walks.list hh3 _ l neI items).toS) s.heap.objs.size nfS xs isz hb (fun i v hv => strs_item hit (by rw [Array.getElem?_toList]; exact hv)) (items.size - 0) 0 _ (by omega) (Nat.zero_le _)
          ⟨⟨_, Heap.get?_push_size _ rfl, rfl, rfl⟩, (isl.push _)⟩ ⟨0, Nat.le_refl 0, sts_fresh (Heap.get?_push_of_some _ atS)⟩ ?hR
        case hR =>
          intro s' c' mv le' hS'
          obtain ⟨hp, gn, dr, tk', os'⟩ := s'
          obtain rfl : gn = s.gens := mv.gens
          obtain rfl : dr = s.drawn := mv.drawn
          obtain rfl : os' = s.os := mv.os
          show wpAny _ _ _ _ _ _
          refine wpAny_pure ?_
          show wpAny _ _ (ret Value.none) _ _ _
          rw [isz] at le'
          refine wpAny_pure ⟨rfl, hp, tk', c', rfl, hS', le', fun b o e => ?_⟩
          have b0 : b < s.heap.objs.size := Heap.lt_size e
          exact mv.heap b o (by rw [sz1]; simp only [List.mem_cons, List.not_mem_nil, or_false, not_or]; exact ⟨Nat.ne_of_lt b0, Nat.ne_of_lt (Nat.lt_succ_of_lt b0)⟩) (Heap.get?_push_of_some _ (Heap.get?_push_of_some _ e))
      · cases r₂ with
        | error e => exact hr₂
        | ok fl₂ =>
          cases fl₂ with
          | ret r =>
            obtain ⟨rfl, hp, tk, c', rfl, hS', le', k'⟩ := hr₂
            repeat (any_goals (first | assumption | wp_step))
            exact h _ _ _ hS' le' k'
          | _ => exact hr₂.elim
    | _ => exact hr.elim
/-- sorted of a set of texts: its members, rising -/
theorem sorted_sts {S : Str → Bool} {n : Nat} {Q : Value → Shared → Prop} {a : Addr} (R : StS P w s.heap a S n) (hh : A.handled = none)
    (hQ : ∀ s' p (out : List Value) (c : Nat) (ys : List Str), (∀ b o, s.heap.get? b = some o → s'.heap.get? b = some o) → s'.gens = s.gens → s'.os = s.os → s.heap.objs.size ≤ p →
      s'.heap.get? p = some (seqObj "list" out.toArray c) → StrsAre out ys → upS ys → ys.Nodup → (∀ x, x ∈ ys ↔ S x = true) → ys.length = n → Q (.ref p) s') :
    wpAny (model P w) A (call (.builtin "sorted") [.ref a]) Q E s := by
  obtain ⟨o, es, ep, t, ho, hex, hd, D⟩ := R
  refine Calls.call_function_entry kind_sorted plain_sorted entry_sorted (args_sorted1 _) ?_
  unfold Builtin.«sorted»
  refine wpAny_bind (m := checkCount "sorted" 1 1 _) (wpAny_pure ?_)
  refine wpAny_bind (collect_set (A := A.in1) hh ⟨o, ho, hex.1, hd⟩ D.fit D.small D.ris D.led fun s1 vs k1 hz g1 o1 pm => ?_)
  have vl : vs.length = n := by rw [pm.length_eq, List.length_map, Array.length_toList]; exact D.size
  have hI : StrsAre vs (vs.map strOf) := strsAre_map vs fun v hv => by
    obtain ⟨e, he, q⟩ := List.mem_map.mp (pm.mem_iff.mp hv)
    obtain ⟨x, tx, e1, _⟩ := D.gd e he
    exact ⟨x, tx, by rw [← q]; exact e1⟩
  have pk : (vs.map strOf).Perm (es.toList.map kyS) := by
    have q := pm.map strOf
    rw [List.map_map] at q
    exact q
  have small : n < scanBound := by rw [← D.size]; exact D.small
  have vz : vs.length ≤ sizeLine := by rw [vl]; exact Nat.le_trans (Nat.le_of_lt small) (by decide)
  refine wpAny_bind (wpAny_newList ?_ vz)
  have oL : (s1.heap.push (seqObj "list" vs.toArray 0)).get? s1.heap.objs.size = some (seqObj "list" vs.toArray 0) := Heap.get?_push_size _ rfl
  refine wpAny_bind (wpAny_holding (wpAny_call_entry slot_list_sort ⟨_, oL, rfl⟩ entry_list_sort (SrtO.list_sort_ord ltS_swo oL vz (fun h2 => strs_sortable hI h2) fun out h1 h2 => ⟨.none, rfl, ?_⟩) (args_list_sort _)))
  obtain ⟨c, hc⟩ := sortedHeap_at (vs := vs) (out := out.toArray) oL
  obtain ⟨a1, a2, a3⟩ := strs_out hI h1 h2
  have pn : (out.map strOf).Perm (es.toList.map kyS) := a2.trans pk
  refine wpAny_pure ⟨_, rfl, hQ _ s1.heap.objs.size out c (out.map strOf) (fun b u e => ?_) g1 o1 hz hc a1 a3 (pn.nodup_iff.mpr D.nd) (fun x => by rw [pn.mem_iff, ← D.mem x]) ?_⟩
  · have q := k1 b u e
    have lt := Heap.lt_size q
    show (sortedHeap (s1.heap.push (seqObj "list" vs.toArray 0)) s1.heap.objs.size vs out.toArray).get? b = some u
    rw [sortedHeap_old (Nat.ne_of_lt lt) (by rw [size_push']; exact Nat.lt_succ_of_lt lt)]
    exact Heap.get?_push_of_some _ q
  · rw [pn.length_eq, List.length_map, Array.length_toList]; exact D.size
end
end StrT
set_option Elab.async false
set_option linter.all false
set_option maxRecDepth 100000
set_option maxHeartbeats 1000000
namespace L2
open PySem PySem.Spec PyProof.Rows StrO StrT
/-- sorted(set(xs)), xs a list of texts -/
def tSortSet (K : PySem.W.Frag) (ta : TE) : TE := fun σ H Q => ta σ H fun x H1 => ∃ (l : Addr) (xs : List Str), x = .ref l ∧ SqL K H1 l (xs.map V.str) ∧ xs.length ≤ 4000 ∧
  ∀ (ys : List Str) (p : Addr), upS ys → ys.Nodup → (∀ z, z ∈ ys ↔ z ∈ xs) → ys.length ≤ xs.length → H1 p = none → Q (.ref p) (upd H1 p (.lst (ys.map V.str)))
theorem pe_sortSet {X : Cx} {a : Expr} {ta : TE} {p p2 q pos : Pos} (hg : Gl X "sorted") (hm : X.mg "sorted" = none) (hg2 : Gl X "set") (hm2 : X.mg "set" = none) (ha : PE X a ta) (hb : bootBuiltins "sorted" = some (.builtin "sorted") := by decide +kernel) (hc : X.calm = true := by rfl)
    (na : starEach [a] X.env = (false, eval a X.env) :: starEach [] X.env := by rfl) : PE X (.Call (.Name "sorted" p) [.Call (.Name "set" p2) [a] [] q] [] pos) (tSortSet X.K ta) := by
  refine ⟨fun pins s σ H Q I h => ?_⟩
  refine Call_ (ld_blt I hg hm hb ?_)
  refine PyProof.Rows.callWith_builtin1 (PyProof.Rows.args_cons ?_ rfl) rfl rfl
  refine Call_ (ld_blt I hg2 hm2 boot_set ?_)
  refine PyProof.Rows.callWith_type1 (PyProof.Rows.args_cons (thn (ha.run pins s σ H _ I h) fun v s1 ⟨x, H1, I1, r1, q1⟩ => PyProof.Rows.args_nil ?_) na) na rfl
  obtain ⟨l, xs, rfl, hq, hz, q1⟩ := q1
  cases r1
  obtain ⟨its, r, pl, _⟩ := I1.list hq
  refine call_set_texts xs (I1.ok.hd hc) pl.isList (by simpa using r.strs) (by unfold scanBound; omega) fun h' tk c hS hcl hk => ?_
  refine PyProof.Rows.args_nil ?_
  have I2 : Inv X pins σ H1 { s1 with heap := h', toks := tk } := I1.kept hk
  have hS : StS X.prog X.w ({ s1 with heap := h', toks := tk } : Shared).heap s1.heap.objs.size (fun x => decide (x ∈ xs)) c := hS
  generalize s1.heap.objs.size = aS at hS ⊢
  generalize ({ s1 with heap := h', toks := tk } : Shared) = s2 at I2 hS ⊢
  refine sorted_sts hS (I2.ok.hd hc) fun s' p out cc ys k g o hp hg2 hi up nd mem len => ?_
  have hlen : (ys.map V.str).length ≤ sizeLine := by rw [List.length_map, len]; exact Nat.le_trans (Nat.le_trans hcl hz) (by decide)
  have hn : H1 p = none := I2.hok.fresh hp
  have J : Inv X pins σ (upd H1 p (.lst (ys.map V.str))) { s2 with heap := s'.heap, gens := s'.gens, drawn := s'.drawn, toks := s'.toks } :=
    I2.call (ch := []) (Un.laid k hp hn) (I2.hok.laid k hp ⟨hlen, out, cc, vals_of_strs hi, hg2⟩) (by rw [g]; exact I2.bare) (fun _ z => nomatch z)
  have e : s' = { s2 with heap := s'.heap, gens := s'.gens, drawn := s'.drawn, toks := s'.toks } := by
    cases s'
    cases s2
    cases o
    rfl
  rw [e]
  exact ⟨.ref p, _, J, rfl, q1 ys p up nd (fun z => by rw [mem z, decide_eq_true_eq]) (by rw [len]; exact hcl) hn⟩
/-! ### rising texts are told by their members -/
theorem up_lt {x y : Str} (h : ¬ y.cps.toList < x.cps.toList) (n : x ≠ y) : x.cps.toList < y.cps.toList := by
  rw [List.not_lt] at h
  have e : x.cps.toList ≠ y.cps.toList := fun z => n (by
    cases x with
    | mk a => cases y with
      | mk b => exact congrArg Str.mk (by simpa using z))
  rcases Decidable.em (x.cps.toList < y.cps.toList) with g | g
  · exact g
  · exact absurd (List.le_antisymm h (List.not_lt.mp g)) e
theorem up_eq : ∀ {xs ys : List Str}, upS xs → xs.Nodup → upS ys → ys.Nodup → (∀ z, z ∈ xs ↔ z ∈ ys) → xs = ys
  | [], [], _, _, _, _, _ => rfl
  | [], y :: ys, _, _, _, _, h => absurd ((h y).2 List.mem_cons_self) (fun z => nomatch z)
  | x :: xs, [], _, _, _, _, h => absurd ((h x).1 List.mem_cons_self) (fun z => nomatch z)
  | x :: xs, y :: ys, u, n, u', n', h => by
    obtain ⟨a1, a2⟩ := List.pairwise_cons.mp u
    obtain ⟨b1, b2⟩ := List.pairwise_cons.mp u'
    obtain ⟨c1, c2⟩ := List.nodup_cons.mp n
    obtain ⟨d1, d2⟩ := List.nodup_cons.mp n'
    have e : x = y := by
      by_cases g : x = y
      · exact g
      · exfalso
        have hx : x ∈ ys := (List.mem_cons.mp ((h x).1 List.mem_cons_self)).resolve_left g
        have hy : y ∈ xs := (List.mem_cons.mp ((h y).2 List.mem_cons_self)).resolve_left fun z => g z.symm
        exact absurd (up_lt (a1 y hy) g) (b1 x hx)
    subst e
    rw [up_eq a2 c2 b2 d2 fun z => ?_]
    have q := h z
    rw [List.mem_cons, List.mem_cons] at q
    constructor
    · intro m
      exact (q.1 (.inr m)).resolve_left fun e => c1 (e ▸ m)
    · intro m
      exact (q.2 (.inr m)).resolve_left fun e => d1 (e ▸ m)
end L2
set_option Elab.async false
set_option linter.all false
set_option maxRecDepth 100000
set_option maxHeartbeats 1000000
namespace Toy
open PySem L2
/-! ### what the search tells -/
/-- the parts with their depths, in the order in which they are found -/
def prt : Nat → PyData → Nat → List (PyData × Nat)
  | 0, d, k => [(d, k)]
  | n + 1, d, k => (d, k) :: (match kids d with | some (a, b) => prt n b (k + 1) ++ prt n a (k + 1) | none => [])
theorem ms_pos : ∀ (n : Nat) (d : PyData), 1 ≤ (ms n d).1 ∧ 1 ≤ (ms n d).2.1
  | 0, _ => ⟨Nat.le_refl 1, Nat.le_refl 1⟩
  | n + 1, d => by
    show 1 ≤ (match kids d with | some (a, b) => two (ms n a) (ms n b) | none => (1, 1, nameOf d)).1 ∧ 1 ≤ (match kids d with | some (a, b) => two (ms n a) (ms n b) | none => (1, 1, nameOf d)).2.1
    cases kids d with
    | none => exact ⟨Nat.le_refl 1, Nat.le_refl 1⟩
    | some p => obtain ⟨a, b⟩ := p; exact ⟨Nat.le_add_left 1 _, Nat.le_add_left 1 _⟩
theorem inv_name (w : Str) : inV (.str w) ((["name"] : List Str).map V.str) = w1 w := by
  show ((("name" : Str) == w) || false) = decide (V.str w = V.str "name")
  rw [Bool.or_false]
  by_cases h : ("name" : Str) = w
  · subst h; simp
  · rw [decide_eq_false (fun z => h (by injection z with z; exact z.symm))]
    exact Bool.eq_false_iff.mpr fun z => h (eq_of_beq z)
theorem fB_one (n : Nat) (w : Str) : fB (n + 1) (.tuple [.str w]) = w3 w := by
  show (w3 w || false) = w3 w
  exact Bool.or_false _
theorem fB_nam (n : Nat) (w : Str) (d : PyData) : fB (n + 1) (.tuple [.str w, d]) = (w1 w && nmB d) := by
  show (inV (.str w) (L1.map V.str) && nmB d) = _
  rw [inv_name]
theorem fB_two (n : Nat) (w : Str) (a b : PyData) : fB (n + 1) (.tuple [.str w, a, b]) = (w2 w && (fB n a && fB n b)) := by
  show (if w2 w = true then (fB n a && fB n b) else false) = _
  cases w2 w <;> rfl
theorem fB_no {d : PyData} (h : inner d = none) : ∀ n, fB n d = false
  | 0 => rfl
  | n + 1 => by
    cases d with
    | tuple ds =>
      rcases ds with _ | ⟨d0, r⟩
      · rfl
      · cases d0 with
        | str w =>
          rcases r with _ | ⟨x, _ | ⟨y, _ | ⟨z, r⟩⟩⟩
          · rw [fB_one]
            have e : (if w3 w = true then some ([] : List PyData) else none) = none := h
            cases q : w3 w with
            | false => rfl
            | true => rw [q] at e; cases e
          · rw [fB_nam]
            have e : (if (w1 w && nmB x) = true then some ([] : List PyData) else none) = none := h
            cases q : (w1 w && nmB x) with
            | false => rfl
            | true => rw [q] at e; cases e
          · rw [fB_two]
            have e : (if w2 w = true then some [x, y] else none) = none := h
            cases q : w2 w with
            | false => rfl
            | true => rw [q] at e; cases e
          · have e : ∀ (k : Nat) (ws : List Str), k ≤ 3 → headB (.tuple (.str w :: x :: y :: z :: r)) k ws = false := fun k ws hk => by
              show (decide ((x :: y :: z :: r).length + 1 = k) && _) = false
              rw [decide_eq_false (by simp only [List.length_cons]; omega)]
              rfl
            show (headB _ 1 L3 || (if headB _ 3 L2w = true then _ else headB _ 2 L1 && named _)) = false
            rw [e 1 _ (by decide), e 3 _ (by decide), e 2 _ (by decide)]
            rfl
        | _ => rfl
    | _ => rfl
theorem inner_ways (d : PyData) : inner d = none ∨ (inner d = some [] ∧ kids d = none ∧ ∀ n, fB (n + 1) d = true) ∨ ∃ w a b, d = .tuple [.str w, a, b] ∧ w2 w = true ∧ inner d = some [a, b] := by
  cases d with
  | tuple ds =>
    rcases ds with _ | ⟨d0, r⟩
    · exact .inl rfl
    · cases d0 with
      | str w =>
        rcases r with _ | ⟨x, _ | ⟨y, _ | ⟨z, r⟩⟩⟩
        · cases q : w3 w with
          | false => exact .inl (by show (if w3 w = true then some ([] : List PyData) else none) = none; rw [q]; rfl)
          | true => exact .inr (.inl ⟨by show (if w3 w = true then some ([] : List PyData) else none) = some []; rw [q]; rfl, rfl, fun n => by rw [fB_one, q]⟩)
        · cases q : (w1 w && nmB x) with
          | false => exact .inl (by show (if (w1 w && nmB x) = true then some ([] : List PyData) else none) = none; rw [q]; rfl)
          | true => exact .inr (.inl ⟨by show (if (w1 w && nmB x) = true then some ([] : List PyData) else none) = some []; rw [q]; rfl, rfl, fun n => by rw [fB_nam, q]⟩)
        · cases q : w2 w with
          | false => exact .inl (by show (if w2 w = true then some [x, y] else none) = none; rw [q]; rfl)
          | true => exact .inr (.inr ⟨w, x, y, rfl, q, by show (if w2 w = true then some [x, y] else none) = some [x, y]; rw [q]; rfl⟩)
        · exact .inl rfl
      | _ => first | exact .inl rfl | (rcases r with _ | ⟨_, _ | ⟨_, _ | ⟨_, _⟩⟩⟩ <;> exact .inl rfl)
  | _ => exact .inl rfl
def okk (m n k : Nat) (d : PyData) : Bool := fB m d && (decide ((ms m d).1 + k ≤ 31) && decide ((ms m d).2.1 ≤ n))
theorem pf_no {d : PyData} (h : inner d = none) (n k : Nat) (st fd : List (PyData × Nat)) : pf n ((d, k) :: st) fd = none := by
  cases n with
  | zero => rfl
  | succ n => show (match inner d with | none => none | some ds => _) = none; rw [h]
theorem pf_some {d : PyData} {ds : List PyData} (h : inner d = some ds) (n k : Nat) (st fd : List (PyData × Nat)) : pf (n + 1) ((d, k) :: st) fd = if 30 < k then none else pf n ((ds.map fun x => (x, k + 1)).reverse ++ st) (fd ++ [(d, k)]) := by
  show (match inner d with | none => none | some ds => if 30 < k then none else pf n ((ds.map fun x => (x, k + 1)).reverse ++ st) (fd ++ [(d, k)])) = _
  rw [h]
theorem pf_eq : ∀ (m : Nat) (d : PyData) (k n : Nat) (st fd : List (PyData × Nat)), d.depth ≤ m →
    pf n ((d, k) :: st) fd = if okk m n k d = true then pf (n - (ms m d).2.1) st (fd ++ prt m d k) else none
  | 0, d, k, n, st, fd, hd => by
    rcases inner_ways d with h | ⟨h, hk, hf⟩ | ⟨w, a, b, rfl, hw, h⟩
    · rw [pf_no h]; rfl
    · exfalso
      cases d with
      | tuple ds => simp only [PyData.depth] at hd; omega
      | _ => cases h
    · simp only [PyData.depth] at hd; omega
  | m + 1, d, k, n, st, fd, hd => by
    rcases inner_ways d with h | ⟨h, hk, hf⟩ | ⟨w, a, b, rfl, hw, h⟩
    · rw [pf_no h]
      have e : okk (m + 1) n k d = false := by unfold okk; rw [fB_no h]; rfl
      rw [e]; rfl
    · have em : ms (m + 1) d = (1, 1, nameOf d) := by
        show (match kids d with | some (a, b) => two (ms m a) (ms m b) | none => (1, 1, nameOf d)) = _
        rw [hk]
      have ep : prt (m + 1) d k = [(d, k)] := by
        show (d, k) :: (match kids d with | some (a, b) => prt m b (k + 1) ++ prt m a (k + 1) | none => []) = _
        rw [hk]
      have eo : okk (m + 1) n k d = (decide (1 + k ≤ 31) && decide (1 ≤ n)) := by unfold okk; rw [hf m, em]; rfl
      rw [eo, em, ep]
      cases n with
      | zero =>
        rw [decide_eq_false (by omega : ¬ (1 ≤ 0)), Bool.and_false]
        rfl
      | succ n =>
        rw [pf_some h]
        by_cases g : 30 < k
        · rw [if_pos g, decide_eq_false (by omega : ¬ (1 + k ≤ 31))]
          rfl
        · rw [if_neg g, decide_eq_true (by omega : 1 + k ≤ 31), decide_eq_true (by omega : 1 ≤ n + 1)]
          rfl
    · obtain ⟨da, db⟩ := depth_two hd
      have em : ms (m + 1) (.tuple [.str w, a, b]) = two (ms m a) (ms m b) := rfl
      have ep : prt (m + 1) (.tuple [.str w, a, b]) k = (.tuple [.str w, a, b], k) :: (prt m b (k + 1) ++ prt m a (k + 1)) := rfl
      have pa := ms_pos m a
      have pb := ms_pos m b
      have eo : okk (m + 1) n k (.tuple [.str w, a, b]) = ((fB m a && fB m b) && (decide (max (ms m a).1 (ms m b).1 + 1 + k ≤ 31) && decide ((ms m a).2.1 + (ms m b).2.1 + 1 ≤ n))) := by
        unfold okk
        rw [fB_two, hw, Bool.true_and, em]
        rfl
      rw [eo, em, ep]
      cases n with
      | zero =>
        rw [decide_eq_false (by omega : ¬ ((ms m a).2.1 + (ms m b).2.1 + 1 ≤ 0)), Bool.and_false, Bool.and_false]
        rfl
      | succ n =>
        rw [pf_some h]
        by_cases g : 30 < k
        · rw [if_pos g, decide_eq_false (by omega : ¬ (max (ms m a).1 (ms m b).1 + 1 + k ≤ 31)), Bool.false_and, Bool.and_false]
          rfl
        · rw [if_neg g]
          show pf n ((b, k + 1) :: (a, k + 1) :: st) (fd ++ [(PyData.tuple [.str w, a, b], k)]) = _
          rw [pf_eq m b (k + 1) n _ _ db]
          cases hb : okk m n (k + 1) b with
          | false =>
            have e : ((fB m a && fB m b) && (decide (max (ms m a).1 (ms m b).1 + 1 + k ≤ 31) && decide ((ms m a).2.1 + (ms m b).2.1 + 1 ≤ n + 1))) = false := by
              rw [Bool.eq_false_iff]
              intro z
              simp only [Bool.and_eq_true, decide_eq_true_eq] at z
              have : okk m n (k + 1) b = true := by
                unfold okk
                simp only [Bool.and_eq_true, decide_eq_true_eq]
                exact ⟨z.1.2, by omega, by omega⟩
              rw [hb] at this
              cases this
            rw [e]
            rfl
          | true =>
            rw [if_pos rfl, pf_eq m a (k + 1) _ _ _ da]
            have hb' := hb
            unfold okk at hb'
            simp only [Bool.and_eq_true, decide_eq_true_eq] at hb'
            have e : ((fB m a && fB m b) && (decide (max (ms m a).1 (ms m b).1 + 1 + k ≤ 31) && decide ((ms m a).2.1 + (ms m b).2.1 + 1 ≤ n + 1))) = okk m (n - (ms m b).2.1) (k + 1) a := by
              unfold okk
              rw [Bool.eq_iff_iff]
              simp only [Bool.and_eq_true, decide_eq_true_eq]
              constructor
              · rintro ⟨⟨h1, h2⟩, h3, h4⟩
                exact ⟨h1, by omega, by omega⟩
              · rintro ⟨h1, h3, h4⟩
                exact ⟨⟨h1, hb'.1⟩, by omega, by omega⟩
            rw [e]
            have e2 : n - (ms m b).2.1 - (ms m a).2.1 = n + 1 - (two (ms m a) (ms m b)).2.1 := by
              show _ = n + 1 - ((ms m a).2.1 + (ms m b).2.1 + 1)
              omega
            rw [e2, List.append_assoc, List.append_assoc]
            rfl
theorem pf_kd {m : Nat} {d : PyData} (hd : d.depth ≤ m) : pf 2000 [(d, 1)] [] = if kdB m d = true then some (prt m d 1) else none := by
  rw [pf_eq m d 1 2000 [] [] hd]
  have e : okk m 2000 1 d = kdB m d := by
    unfold okk kdB
    congr 2
    exact decide_eq_decide.mpr (by omega)
  rw [e]
  cases kdB m d with
  | false => rfl
  | true =>
    rw [if_pos rfl, if_pos rfl, List.nil_append]
    cases (2000 - (ms m d).2.1) <;> rfl
theorem prt_len : ∀ (n : Nat) (d : PyData) (k : Nat), (prt n d k).length = (ms n d).2.1
  | 0, _, _ => rfl
  | n + 1, d, k => by
    show ((d, k) :: (match kids d with | some (a, b) => prt n b (k + 1) ++ prt n a (k + 1) | none => [])).length = (match kids d with | some (a, b) => two (ms n a) (ms n b) | none => (1, 1, nameOf d)).2.1
    cases kids d with
    | none => rfl
    | some p =>
      obtain ⟨a, b⟩ := p
      show (prt n b (k + 1) ++ prt n a (k + 1)).length + 1 = (ms n a).2.1 + (ms n b).2.1 + 1
      rw [List.length_append, prt_len n b, prt_len n a]
      omega
theorem prt_top : ∀ (n : Nat) (d : PyData) (k : Nat), (∀ p ∈ prt n d k, p.2 + 1 ≤ k + (ms n d).1) ∧ ∃ p ∈ prt n d k, p.2 + 1 = k + (ms n d).1
  | 0, d, k => ⟨fun p h => by rw [List.mem_singleton.mp h]; exact Nat.le_refl _, ⟨(d, k), List.mem_singleton.mpr rfl, rfl⟩⟩
  | n + 1, d, k => by
    show (∀ p ∈ ((d, k) :: (match kids d with | some (a, b) => prt n b (k + 1) ++ prt n a (k + 1) | none => [])), p.2 + 1 ≤ k + (match kids d with | some (a, b) => two (ms n a) (ms n b) | none => (1, 1, nameOf d)).1) ∧
      ∃ p ∈ ((d, k) :: (match kids d with | some (a, b) => prt n b (k + 1) ++ prt n a (k + 1) | none => [])), p.2 + 1 = k + (match kids d with | some (a, b) => two (ms n a) (ms n b) | none => (1, 1, nameOf d)).1
    cases kids d with
    | none => exact ⟨fun p h => by rw [List.mem_singleton.mp h]; exact Nat.le_refl _, ⟨(d, k), List.mem_singleton.mpr rfl, rfl⟩⟩
    | some q =>
      obtain ⟨a, b⟩ := q
      obtain ⟨a1, pa, ma, ea⟩ := prt_top n a (k + 1)
      obtain ⟨b1, pb, mb, eb⟩ := prt_top n b (k + 1)
      show (∀ p ∈ ((d, k) :: (prt n b (k + 1) ++ prt n a (k + 1))), p.2 + 1 ≤ k + (max (ms n a).1 (ms n b).1 + 1)) ∧ ∃ p ∈ ((d, k) :: (prt n b (k + 1) ++ prt n a (k + 1))), p.2 + 1 = k + (max (ms n a).1 (ms n b).1 + 1)
      refine ⟨fun p h => ?_, ?_⟩
      · rcases List.mem_cons.mp h with rfl | h
        · show k + 1 ≤ _; omega
        · rcases List.mem_append.mp h with h | h
          · have := b1 p h; omega
          · have := a1 p h; omega
      · by_cases g : (ms n a).1 ≤ (ms n b).1
        · exact ⟨pb, List.mem_cons_of_mem _ (List.mem_append_left _ mb), by omega⟩
        · exact ⟨pa, List.mem_cons_of_mem _ (List.mem_append_right _ ma), by omega⟩
/-- a part's form -/
def Frm (d : PyData) : Prop := (∃ w, d = .tuple [.str w] ∧ w1 w = false) ∨ (∃ w x, d = .tuple [.str w, .str x] ∧ w1 w = true) ∨ ∃ w a b, d = .tuple [.str w, a, b] ∧ w1 w = false
theorem w2_name {w : Str} (h : w2 w = true) : w1 w = false := by
  cases q : w1 w with
  | false => rfl
  | true =>
    have e : V.str w = V.str "name" := of_decide_eq_true q
    injection e with e
    rw [e] at h
    exact absurd h (by decide +kernel)
theorem frm_of {n : Nat} {d : PyData} (h : fB (n + 1) d = true) : Frm d := by
  rcases fB_ways h with ⟨w, rfl, _, b⟩ | ⟨w, x, rfl, _, b⟩ | ⟨w, a, b, rfl, c, _⟩
  · exact .inl ⟨w, rfl, b⟩
  · exact .inr (.inl ⟨w, x, rfl, b⟩)
  · exact .inr (.inr ⟨w, a, b, rfl, w2_name c⟩)
theorem prt_frm : ∀ (n : Nat) (d : PyData) (k : Nat), fB n d = true → ∀ p ∈ prt n d k, Frm p.1
  | 0, _, _, h => by cases h
  | n + 1, d, k, h => by
    have hf := frm_of h
    rcases fB_ways h with ⟨w, rfl, _, _⟩ | ⟨w, x, rfl, _, _⟩ | ⟨w, a, b, rfl, _, fa, fb⟩
    · intro p m
      rw [List.mem_singleton.mp m]; exact hf
    · intro p m
      rw [List.mem_singleton.mp m]; exact hf
    · intro p m
      have m' : p ∈ ((.tuple [.str w, a, b], k) :: (prt n b (k + 1) ++ prt n a (k + 1))) := m
      rcases List.mem_cons.mp m' with rfl | m'
      · exact hf
      · rcases List.mem_append.mp m' with m' | m'
        · exact prt_frm n b _ fb p m'
        · exact prt_frm n a _ fa p m'
/-- the names among the parts -/
def nmsOf (l : List (PyData × Nat)) : List Str := l.flatMap fun p => nameOf p.1
theorem prt_names : ∀ (n : Nat) (d : PyData) (k : Nat), fB n d = true → (nmsOf (prt n d k)).Perm (ms n d).2.2
  | 0, _, _, h => by cases h
  | n + 1, d, k, h => by
    rcases fB_ways h with ⟨w, rfl, _, _⟩ | ⟨w, x, rfl, _, _⟩ | ⟨w, a, b, rfl, _, fa, fb⟩
    · exact List.Perm.refl _
    · exact List.Perm.refl _
    · have e : nmsOf (prt (n + 1) (.tuple [.str w, a, b]) k) = nmsOf (prt n b (k + 1)) ++ nmsOf (prt n a (k + 1)) := by
        show nmsOf ((.tuple [.str w, a, b], k) :: (prt n b (k + 1) ++ prt n a (k + 1))) = _
        unfold nmsOf
        rw [List.flatMap_cons, List.flatMap_append]
        show nameOf (.tuple [.str w, a, b]) ++ _ = _
        have z : nameOf (.tuple [.str w, a, b]) = [] := by
          cases a <;> rfl
        rw [z, List.nil_append]
      rw [e]
      exact (List.Perm.append (prt_names n b _ fb) (prt_names n a _ fa)).trans List.perm_append_comm
end Toy
set_option Elab.async false
set_option linter.all false
set_option maxRecDepth 100000
set_option maxHeartbeats 2000000
namespace Toy
open PySem L2 StrO
abbrev sIsKind : Stmt := top 12
abbrev sDeep : Stmt := top 13
abbrev sMany : Stmt := top 14
abbrev sNames : Stmt := top 15
abbrev sNmAm : Stmt := top 16
abbrev sKnown : Stmt := top 17
/-- a kind: what is asked of it -/
def KdOf (K : PySem.W.Frag) (m : Nat) (H : Hp) (v : V) (d : PyData) : Prop := Dq K H v d ∧ txtB d = true ∧ d.depth ≤ m ∧ kdB m d = true
def spPk (K : PySem.W.Frag) (m : Nat) : Sp := fun vs H Q _ => ∃ (v : V) (d : PyData), vs = [v] ∧ KdOf K m H v d ∧ ∀ l fs H', Same H H' → H' l = some (.lst fs) → Rows K H H' fs (prt m d 1) → Q (.ref l) H'
def spIk (K : PySem.W.Frag) (m : Nat) : Sp := fun vs H Q _ => ∃ (v : V) (d : PyData), vs = [v] ∧ Dq K H v d ∧ txtB d = true ∧ d.depth ≤ m ∧ ∀ H', Same H H' → Q (.bl (kdB m d)) H'
def spDk (K : PySem.W.Frag) (m : Nat) : Sp := fun vs H Q _ => ∃ (v : V) (d : PyData), vs = [v] ∧ KdOf K m H v d ∧ ∀ H', Same H H' → Q (.int ((ms m d).1 : Nat)) H'
def spMk (K : PySem.W.Frag) (m : Nat) : Sp := fun vs H Q _ => ∃ (v : V) (d : PyData), vs = [v] ∧ KdOf K m H v d ∧ ∀ H', Same H H' → Q (.int ((ms m d).2.1 : Nat)) H'
def spNa (K : PySem.W.Frag) : Sp := fun vs H Q _ => ∃ (l : Addr) (fs : List V) (G : Hp) (ps : List (PyData × Nat)), vs = [.ref l] ∧ H l = some (.lst fs) ∧ Rows K G H fs ps ∧ Same G H ∧ ps.length ≤ 3000 ∧ (∀ p ∈ ps, Frm p.1) ∧
  ∀ D H', Same H H' → H' D = some (.lst ((nmsOf ps).map V.str)) → Q (.ref D) H'
def spNi (K : PySem.W.Frag) (m : Nat) : Sp := fun vs H Q _ => ∃ (v : V) (d : PyData), vs = [v] ∧ KdOf K m H v d ∧ ∀ t ys H', Same H H' → H' t = some (.tup (ys.map V.str)) → upS ys → ys.Nodup → (∀ z, z ∈ ys ↔ z ∈ (ms m d).2.2) → Q (.ref t) H'
structure Ng (mg : Str → Option Value) : Prop where
  sorted : mg "sorted" = none
  set : mg "set" = none
  max : mg "max" = none
theorem rows_get {K : PySem.W.Frag} {G H : Hp} : ∀ {vs : List V} {ps : List (PyData × Nat)} {i : Nat} {v : V}, Rows K G H vs ps → vs[i]? = some v → ∃ p, ps[i]? = some p ∧ Row K G H v p
  | [], _, i, v, _, h => by simp at h
  | _ :: _, [], _, _, r, _ => r.elim
  | x :: vs, p :: ps, 0, v, r, h => by cases h; exact ⟨p, rfl, r.1⟩
  | x :: vs, p :: ps, i + 1, v, r, h => rows_get (vs := vs) (ps := ps) (i := i) r.2 h
theorem names_le (ps : List (PyData × Nat)) : (nmsOf ps).length ≤ ps.length := by
  induction ps with
  | nil => exact Nat.le_refl _
  | cons p r ih =>
    unfold nmsOf at ih ⊢
    rw [List.flatMap_cons, List.length_append, List.length_cons]
    have : (nameOf p.1).length ≤ 1 := by
      unfold nameOf
      split
      · exact Nat.le_refl 1
      · exact Nat.zero_le _
    omega
theorem nms_app (a b : List (PyData × Nat)) : nmsOf (a ++ b) = nmsOf a ++ nmsOf b := List.flatMap_append
section
variable {P : Program} {w : World} {K : PySem.W.Frag} {mg : Str → Option Value} {base : Heap} {m : Nat}
theorem scKn : FnScope ["kind", "found"] ["kind"] (defScope sKnown) := ⟨rfl, rfl, rfl, by decide +kernel, rfl, by decide +kernel, by decide +kernel⟩
theorem ok_known {f g : Addr} {fd gd : FuncData} (F : Fun K "parts_known" "parts_known" sKnown f fd) (PF : Gv P w K mg base 4 "parts_found" g gd ["value"] (spPf K)) : FnOk P w K mg base CX0 5 f fd ["kind"] (spPk K m) := by
  refine F.ok scKn (fun vs H Q E h => ?_) (fun cdv A outer s H vs Q E hr h => ?_)
  · obtain ⟨v, d, rfl, _⟩ := h
    rfl
  obtain ⟨v, d, rfl, ⟨hd, ht, hdp, hk⟩, q⟩ := h
  refine ⟨_, pss_cons (ps_set (i := 1) scKn.nd rfl (.inl rfl) (pe_call PF.ok hr rfl PF.m PF.k PF.b .nil pass0 (pa_cons (pv 0) pa_nil)))
    (pss_cons (ps_if (pt_cmpR op_isN (pv 1) pe_non (nomark _)) (pss_one ps_never) pss_nil)
    (pss_one (ps_ret (pv 1)))), ?_⟩
  refine ⟨_, rfl, v, d, H, rfl, Same.refl H, hd, ht, fun u H1 s1 res => ?_⟩
  rw [pf_kd hdp, hk, if_pos rfl] at res
  obtain ⟨l, fs, rfl, hl, hR⟩ := res
  refine ⟨_, rfl, rfl, _, rfl, iteF ⟨_, rfl, q l fs H1 s1 hl hR⟩⟩
theorem scIk : FnScope ["value"] ["value"] (defScope sIsKind) := ⟨rfl, rfl, rfl, by decide +kernel, rfl, by decide +kernel, by decide +kernel⟩
theorem ok_iskind {f g : Addr} {fd gd : FuncData} (F : Fun K "is_kind" "is_kind" sIsKind f fd) (PF : Gv P w K mg base 4 "parts_found" g gd ["value"] (spPf K)) : FnOk P w K mg base CX0 5 f fd ["value"] (spIk K m) := by
  refine F.ok scIk (fun vs H Q E h => ?_) (fun cdv A outer s H vs Q E hr h => ?_)
  · obtain ⟨v, d, rfl, _⟩ := h
    rfl
  obtain ⟨v, d, rfl, hd, ht, hdp, q⟩ := h
  refine ⟨_, pss_one (ps_ret (pe_cmpR op_notN (pe_call PF.ok hr rfl PF.m PF.k PF.b .nil pass0 (pa_cons (pv 0) pa_nil)) pe_non (nomark _))), ?_⟩
  refine ⟨_, rfl, v, d, H, rfl, Same.refl H, hd, ht, fun u H1 s1 res => ?_⟩
  rw [pf_kd hdp] at res
  cases hk : kdB m d with
  | true =>
    rw [hk, if_pos rfl] at res
    obtain ⟨l, fs, rfl, hl, hR⟩ := res
    have z := q H1 s1
    rw [hk] at z
    exact ⟨rfl, z⟩
  | false =>
    rw [hk] at res
    obtain rfl : u = .non := res
    have z := q H1 s1
    rw [hk] at z
    exact ⟨rfl, z⟩
theorem scMk : FnScope ["kind"] ["kind"] (defScope sMany) := ⟨rfl, rfl, rfl, by decide +kernel, rfl, by decide +kernel, by decide +kernel⟩
theorem ok_many {f g : Addr} {fd gd : FuncData} (F : Fun K "parts_of_kind" "parts_of_kind" sMany f fd) (T : Nk mg) (PK : Gv P w K mg base 5 "parts_known" g gd ["kind"] (spPk K m)) : FnOk P w K mg base CX0 6 f fd ["kind"] (spMk K m) := by
  refine F.ok scMk (fun vs H Q E h => ?_) (fun cdv A outer s H vs Q E hr h => ?_)
  · obtain ⟨v, d, rfl, _⟩ := h
    rfl
  obtain ⟨v, d, rfl, hk, q⟩ := h
  refine ⟨_, pss_one (ps_ret (pe_callB call_len_seq rfl T.len PySem.boot_len (pa_cons (pe_call PK.ok hr rfl PK.m PK.k PK.b .nil pass0 (pa_cons (pv 0) pa_nil)) pa_nil))), ?_⟩
  refine ⟨_, rfl, v, d, rfl, hk, fun l fs H1 s1 hl hR => ⟨l, fs, rfl, .inl (SqL.of hl), ?_⟩⟩
  rw [hR.len, prt_len]
  exact q H1 s1
theorem scDk : FnScope ["kind", "part", "depth"] ["kind"] (defScope sDeep) := ⟨rfl, rfl, rfl, by decide +kernel, rfl, by decide +kernel, by decide +kernel⟩
theorem kd_len {d : PyData} (h : kdB m d = true) : (prt m d 1).length ≤ 2000 := by
  rw [prt_len]
  unfold kdB at h
  simp only [Bool.and_eq_true, decide_eq_true_eq] at h
  exact h.2.2
theorem ok_deep {f g : Addr} {fd gd : FuncData} (F : Fun K "depth_of_kind" "depth_of_kind" sDeep f fd) (N : Ng mg) (PK : Gv P w K mg base 5 "parts_known" g gd ["kind"] (spPk K m)) : FnOk P w K mg base CX0 6 f fd ["kind"] (spDk K m) := by
  refine F.ok scDk (fun vs H Q E h => ?_) (fun cdv A outer s H vs Q E hr h => ?_)
  · obtain ⟨v, d, rfl, _⟩ := h
    rfl
  obtain ⟨v, d, rfl, hk, q⟩ := h
  refine ⟨_, pss_one (ps_ret (pe_callB (cr_max rfl) rfl N.max (by decide +kernel) (pa_cons (pe_lc (own := [("part", 1), ("depth", 2)]) (g := gTup K 2 (gCons (gName 1) (gCons (gName 2) gNil))) (tt := tYes) rfl scDk.nd (pi_list (pe_call PK.ok hr rfl PK.m PK.k PK.b .nil pass0 (pa_cons (pv 0) pa_nil))) (blkOk_by (own := [("part", 1), ("depth", 2)]) (N := ["kind", "part", "depth"]) (sc := defScope sDeep) (by decide +kernel))
        (fun _ _ _ _ _ => pg_tup rfl (pgs_cons (pg_name (i := 1) scDk.nd rfl (.inl rfl)) (pgs_cons (pg_name (i := 2) scDk.nd rfl (.inl rfl)) pgs_nil))) (fun _ _ _ _ _ => pts_nil) (fun _ _ _ _ _ => pv 2)) pa_nil))), ?_⟩
  refine ⟨_, rfl, v, d, rfl, hk, fun l fs H1 s1 hl hR => ⟨l, rfl, ⟨_, SqL.of hl⟩, fun D nD => ?_⟩⟩
  have hlen := kd_len hk.2.2.2
  have hfl := hR.len
  refine lc_it (walk_list (xs := fs)) (fun i H2 => Same H1 H2 ∧ H2 D = some (.lst ((((prt m d 1).take i).map fun p => (p.2 : Int)).map V.int))) ⟨same_new nD _, upd_same⟩ (fun i H2 _ z => SqL.of (z.1 _ _ hl)) ?_ ?_
  · rintro i y H2 _ hi ⟨s2, hD⟩ ⟨rfl, hy⟩
    obtain ⟨p, hp, ⟨t, x, rfl, hT, _⟩⟩ := rows_get hR hy
    refine ⟨t, _, rfl, SqT.of (s2 _ _ hT), rfl, _, _, rfl, _, _, rfl, rfl, rfl, ?_⟩
    simp only [tYes, ↓reduceIte]
    refine ⟨_, rfl, _, hD, ?_, fun b o e => by rw [upd_ne (ne_of_none e nD)]; exact s2 _ _ e, ?_⟩
    · rw [List.length_map, List.length_map, List.length_take]
      exact Nat.lt_of_le_of_lt (Nat.le_trans (Nat.min_le_right _ _) hlen) (by decide)
    · rw [upd_same, List.take_add_one, hp, List.map_append, List.map_append]
      rfl
  · rintro H2 ⟨s2, hD⟩
    rw [hfl, List.take_length] at hD
    obtain ⟨up, p0, mp, ep⟩ := prt_top m d 1
    refine ⟨D, _, rfl, SqL.of hD, by rw [List.length_map, prt_len]; exact (ms_pos m d).2, fun mx hm hle => ?_⟩
    obtain ⟨p1, m1, rfl⟩ := List.mem_map.mp hm
    have h1 := up p1 m1
    have h2 : ((p0.2 : Nat) : Int) ≤ (p1.2 : Nat) := hle _ (List.mem_map.mpr ⟨p0, mp, rfl⟩)
    have e : ((p1.2 : Nat) : Int) = ((ms m d).1 : Nat) := by omega
    rw [e]
    exact q _ (s1.trans s2)
end
end Toy
set_option Elab.async false
set_option linter.all false
set_option maxRecDepth 100000
set_option maxHeartbeats 2000000
namespace Toy
open PySem L2 StrO
section
variable {P : Program} {w : World} {K : PySem.W.Frag} {mg : Str → Option Value} {base : Heap} {m : Nat}
theorem scNa : FnScope ["parts", "part", "depth"] ["parts"] (defScope sNmAm) := ⟨rfl, rfl, rfl, by decide +kernel, rfl, by decide +kernel, by decide +kernel⟩
theorem frm_name {d : PyData} (h : Frm d) : ∃ w r, d = .tuple (.str w :: r) ∧ ((w1 w = true ∧ ∃ x, r = [.str x] ∧ nameOf d = [x]) ∨ (w1 w = false ∧ nameOf d = [])) := by
  rcases h with ⟨w, rfl, b⟩ | ⟨w, x, rfl, b⟩ | ⟨w, a, c, rfl, b⟩
  · exact ⟨w, _, rfl, .inr ⟨b, rfl⟩⟩
  · exact ⟨w, _, rfl, .inl ⟨b, x, rfl, rfl⟩⟩
  · exact ⟨w, _, rfl, .inr ⟨b, by cases a <;> rfl⟩⟩
theorem ok_nmam {f : Addr} {fd : FuncData} (F : Fun K "names_among" "names_among" sNmAm f fd) : FnOk P w K mg base CX0 1 f fd ["parts"] (spNa K) := by
  refine F.ok scNa (fun vs H Q E h => ?_) (fun cdv A outer s H vs Q E hr h => ?_)
  · obtain ⟨l, fs, G, ps, rfl, _⟩ := h
    rfl
  obtain ⟨l, fs, G, ps, rfl, hl, hR, sG, hz, hf, q⟩ := h
  refine ⟨_, pss_one (ps_ret (pe_lc (own := [("part", 1), ("depth", 2)]) (g := gTup K 2 (gCons (gName 1) (gCons (gName 2) gNil))) (tt := tTest (tOp rEq (tOp (rIxT K) (tVar 1) (tC (.int 0))) (tC (.str "name")))) (te := tOp (rIxT K) (tVar 1) (tC (.int 1))) rfl scNa.nd (pi_list (pv 0)) (blkOk_by (own := [("part", 1), ("depth", 2)]) (N := ["parts", "part", "depth"]) (sc := defScope sNmAm) (by decide +kernel))
        (fun _ _ _ _ _ => pg_tup rfl (pgs_cons (pg_name (i := 1) scNa.nd rfl (.inl rfl)) (pgs_cons (pg_name (i := 2) scNa.nd rfl (.inl rfl)) pgs_nil))) (fun _ _ _ _ _ => pts_one (pt_cmpR op_eq (pe_ix ix_tup (pv 1) pe_int (fun _ _ => rfl)) pe_str (nomark _))) (fun _ _ _ _ _ => pe_ix ix_tup (pv 1) pe_int (fun _ _ => rfl)))), ?_⟩
  refine ⟨_, rfl, l, rfl, ⟨_, SqL.of hl⟩, fun D nD => ?_⟩
  have hfl := hR.len
  refine lc_it (walk_list (xs := fs)) (fun i H2 => Same H H2 ∧ H2 D = some (.lst ((nmsOf (ps.take i)).map V.str))) ⟨same_new nD _, upd_same⟩ (fun i H2 _ z => SqL.of (z.1 _ _ hl)) ?_ ?_
  · rintro i y H2 _ hi ⟨s2, hD⟩ ⟨rfl, hy⟩
    obtain ⟨p, hp, ⟨t, x, rfl, hT, hx, _⟩⟩ := rows_get hR hy
    refine ⟨t, _, rfl, SqT.of (s2 _ _ hT), rfl, _, _, rfl, _, _, rfl, rfl, rfl, ?_⟩
    obtain ⟨w, r, ed, cs⟩ := frm_name (hf p (List.mem_of_getElem? hp))
    have e0 : nmsOf (ps.take (i + 1)) = nmsOf (ps.take i) ++ nameOf p.1 := by
      rw [List.take_add_one, hp, nms_app]
      show _ ++ nmsOf [p] = _
      unfold nmsOf
      rw [List.flatMap_singleton]
    rw [ed] at hx
    obtain ⟨ad, xs, rfl, hxs, hA⟩ := dq_tuple hx
    obtain ⟨x0, rs, rfl, g0, hA1⟩ := dqAll_cons hA
    obtain rfl := dq_str g0
    have hxs' := (sG.trans s2).seqT hxs
    refine ⟨_, rfl, ad, _, 0, _, rfl, rfl, hxs', atI_nat (j := 0) rfl, rfl, _, rfl, ?_⟩
    rcases cs with ⟨hw, x, rfl, en⟩ | ⟨hw, en⟩
    · obtain ⟨x1, rs, rfl, g1, hA2⟩ := dqAll_cons hA1
      obtain rfl := dq_str g1
      refine ite2 (fun _ => ?_) (fun z => absurd (show w1 w = true from hw) z)
      refine ⟨_, rfl, ad, _, 1, _, rfl, rfl, hxs', atI_nat (j := 1) rfl, _, hD, ?_, fun b o e => by rw [upd_ne (ne_of_none e nD)]; exact s2 _ _ e, ?_⟩
      · rw [List.length_map]
        exact Nat.lt_of_le_of_lt (Nat.le_trans (names_le _) (Nat.le_trans (List.length_take_le _ _) (by omega : i ≤ 3000))) (by decide)
      · rw [upd_same, e0, en, List.map_append]
        rfl
    · refine ite2 (fun z => absurd (show w1 w = true from z) (by rw [hw]; decide)) (fun _ => ?_)
      exact ⟨s2, by rw [e0, en, List.append_nil]; exact hD⟩
  · rintro H2 ⟨s2, hD⟩
    rw [hfl, List.take_length] at hD
    exact q D H2 s2 hD
theorem scNi : FnScope ["kind"] ["kind"] (defScope sNames) := ⟨rfl, rfl, rfl, by decide +kernel, rfl, by decide +kernel, by decide +kernel⟩
theorem kd_form {d : PyData} (h : kdB m d = true) : fB m d = true := by
  unfold kdB at h
  simp only [Bool.and_eq_true] at h
  exact h.1
theorem ok_names {f g g2 : Addr} {fd gd gd2 : FuncData} (F : Fun K "names_in" "names_in" sNames f fd) (N : Ng mg) (U : Nu mg) (PK : Gv P w K mg base 5 "parts_known" g gd ["kind"] (spPk K m)) (NA : Gv P w K mg base 1 "names_among" g2 gd2 ["parts"] (spNa K)) : FnOk P w K mg base CX0 6 f fd ["kind"] (spNi K m) := by
  refine F.ok scNi (fun vs H Q E h => ?_) (fun cdv A outer s H vs Q E hr h => ?_)
  · obtain ⟨v, d, rfl, _⟩ := h
    rfl
  obtain ⟨v, d, rfl, hk, q⟩ := h
  have hr1 : Room 1 (A.deeper _) := hr.mono (by omega)
  refine ⟨_, pss_one (ps_ret (pe_callTy call_tuple_of rfl U.tuple (by decide +kernel) (pa_cons (pe_sortSet rfl N.sorted rfl N.set (pe_call NA.ok hr1 rfl NA.m NA.k NA.b .nil pass0 (pa_cons (pe_call PK.ok hr rfl PK.m PK.k PK.b .nil pass0 (pa_cons (pv 0) pa_nil)) pa_nil))) pa_nil))), ?_⟩
  refine ⟨_, rfl, v, d, rfl, hk, fun l fs H1 s1 hl hR => ?_⟩
  have hlen := kd_len hk.2.2.2
  have hff := kd_form hk.2.2.2
  refine ⟨l, fs, H, prt m d 1, rfl, hl, hR, s1, by omega, prt_frm m d 1 hff, fun D H2 s2 hD => ?_⟩
  refine ⟨D, _, rfl, SqL.of hD, Nat.le_trans (names_le _) (by omega), fun ys p up nd mem len hp => ?_⟩
  refine ⟨p, _, rfl, .inl ⟨SqL.of upd_same, fun t ht => ?_⟩⟩
  have s3 := same_new hp (.lst (ys.map V.str))
  have s4 := same_new ht (.tup (ys.map V.str))
  refine q t ys _ (s1.trans (s2.trans (s3.trans s4))) upd_same up nd fun z => ?_
  rw [mem z]
  exact (prt_names m d 1 hff).mem_iff
end
end Toy
set_option Elab.async false
set_option linter.all false
set_option maxRecDepth 100000
set_option maxHeartbeats 1000000
namespace L2
open PySem PySem.Spec PyProof.Rows
/-! ### repr of any drawn data -/
def rRepA (K : PySem.W.Frag) : List V → Hp → VK → Prop := fun xs H Q => ∃ (v : V) (d : PyData), xs = [v] ∧ Dq K H v d ∧ d.showable = true ∧ d.shown.length ≤ sizeLine ∧ d.depth ≤ 300 ∧ Q (.str d.shown) H
theorem call_repA {X : Cx} (hu : X.A.units + 400 < cLine) (hg : X.A.guards = some []) : CallR X (.builtin "repr") (rRepA X.K) := by
  intro pins s σ H xs us Q I r h
  obtain ⟨v, d, rfl, D, ok, hz, hdep, q⟩ := h
  cases r with
  | cons rx rr =>
    cases rr
    have ru := rx
    have fin : ∀ (h' : Heap) (u : Tok) (tk : Nat), (∀ b o, s.heap.get? b = some o → h'.get? b = some o) → EP X pins σ Q (.str d.shown u) { s with heap := h', toks := tk } := fun h' u tk k => ⟨.str _, H, I.kept (t' := tk) k, ⟨u, rfl⟩, q⟩
    obtain ⟨as, R⟩ := Dq.reads I _ _ _ D ru
    cases d with
    | none =>
      cases D
      cases rx
      have z := fin s.heap s.toks (s.toks + 1) (fun _ _ e => e)
      simp only [PyData.shown] at z
      exact PySem.P.repr_of_none z
    | bool b =>
      cases D
      cases rx
      have z := fin s.heap s.toks (s.toks + 1) (fun _ _ e => e)
      simp only [PyData.shown] at z
      exact PySem.P.repr_of_bool z
    | int i =>
      cases D
      obtain ⟨t, rfl⟩ := rx
      have z := fin s.heap s.toks (s.toks + 1) (fun _ _ e => e)
      simp only [PyData.shown] at z
      exact PySem.P.repr_of_int (by simpa [PyData.showable] using ok) z
    | str x =>
      cases D
      obtain ⟨t, rfl⟩ := rx
      have z := fin s.heap s.toks (s.toks + 1) (fun _ _ e => e)
      simp only [PyData.shown] at z hz
      exact PySem.P.repr_of_str z hz
    | list ds =>
      cases D with
      | @lst _ xs _ hs ha =>
        cases rx
        have zt : (listText (PyData.shownAll ds)).length ≤ sizeLine := by simpa only [PyData.shown] using hz
        simp only [PyData.shown] at fin
        obtain ⟨its, rv, ⟨o, n, ho, hc, _, hd⟩, _⟩ := I.list hs
        obtain ⟨bs, hb, hk⟩ := Dq.reprAll I ds _ its ha rv (by simpa [PyData.showable] using ok) fun t ht => Nat.le_trans (listText_mem_le ht) zt
        have off := not_mem_of_deeper R (show PyData.depthAll ds < (PyData.list ds).depth by simp only [PyData.depth]; omega) hb
        have dep : PyData.depthAll ds + 1 ≤ 300 := by simp only [PyData.depth] at hdep; omega
        refine call_repr_slot (by omega) ⟨o, ho, hc⟩ PySem.F.slot_list_repr.toG ?_
        cases its with
        | nil =>
          have e : PyData.shownAll ds = [] := List.eq_nil_of_length_eq_zero (by simpa using hk.length_eq)
          have z := fin s.heap s.toks (s.toks + 1) (fun _ _ e => e)
          rw [e, listText_nil] at z
          exact call_list_repr_empty ⟨o, ho, hc⟩ ho hd ⟨_, _, rfl, z⟩
        | cons x l =>
          exact call_list_reprK ho hc hd off (by simpa using hk.length_eq) (fun i y e => hk.item i y (by simpa using e)) hg (fun b _ => Clear.nil b) (by show X.A.units + 1 + _ < cLine; omega) (fun _ _ e => e) (fun h' u tk k => ⟨_, _, rfl, fin h' u tk k⟩) zt
    | tuple ds =>
      cases D with
      | @tup _ xs _ hs ha =>
        cases rx
        have zt : (tupleText (PyData.shownAll ds)).length ≤ sizeLine := by simpa only [PyData.shown] using hz
        simp only [PyData.shown] at fin
        obtain ⟨its, rv, ⟨o, ho, hc, n, hd⟩, _⟩ := I.tuple hs
        obtain ⟨bs, hb, hk⟩ := Dq.reprAll I ds _ its ha rv (by simpa [PyData.showable] using ok) fun t ht => Nat.le_trans (tupleText_mem_le ht) zt
        have off := not_mem_of_deeper R (show PyData.depthAll ds < (PyData.tuple ds).depth by simp only [PyData.depth]; omega) hb
        have dep : PyData.depthAll ds + 1 ≤ 300 := by simp only [PyData.depth] at hdep; omega
        refine call_repr_slot (by omega) ⟨o, ho, hc⟩ PySem.F.slot_tuple_repr ?_
        exact call_tuple_reprK ho hc hd off hk hg (fun b _ => Clear.nil b) (by show X.A.units + 1 + _ < cLine; omega) (fun _ _ e => e) (fun h' u tk k => ⟨_, _, rfl, fin h' u tk k⟩) zt
    | dict kvs =>
      cases D with
      | dic h =>
        cases rx
        obtain ⟨o, n, ho, hc, hd, hsys⟩ := dic_at I h
        simp only [PyData.shown, PyData.shownKv] at fin hz
        refine call_repr_slot (by omega) ⟨o, ho, hc⟩ PySem.F.slot_dict_repr ?_
        exact call_dict_reprK (as := []) (d := 0) ho hc hd hsys (by simp) (by simpa using ReprEntriesK.nil) hg (fun b _ => Clear.nil b) (by show X.A.units + 1 + _ < cLine; omega) (fun _ _ e => e) (fun h' u tk k => ⟨_, _, rfl, fin h' u tk k⟩) hz
/-! ### f(k = v): by keywords alone -/
structure KBo (K : PySem.W.Frag) (fd : FuncData) (ps : List Str) : Prop where
  to : ∀ (s : Shared) (ws : List Value), ws.length = ps.length → BindsTo s fd ⟨[], ps.zip ws⟩ (ps.zip ws)
theorem Fun.bindsK {K : PySem.W.Frag} {x qual : Str} {st : Stmt} {f : Addr} {fd : FuncData} {ps : List Str} (F : Fun K x qual st f fd)
    (h : ∀ (kV doc pm : Value) (an : Option Addr) (cdv ct : Value) (ws : List Value), ws.length = ps.length → bindArgs (PySem.W.fnOf x qual (defArgs st) (defBody st) (defScope st) .none kV doc pm an cdv ct) ⟨[], ps.zip ws⟩ = pure (ps.zip ws)) : KBo K fd ps := by
  obtain ⟨oc, od, kV, doc, pm, an, cdv, ct, osl, rfl, lk, hcd⟩ := F.ex
  exact ⟨fun s ws hl => BindsTo.of_eq (h kV doc pm an cdv ct ws hl)⟩
def tCallKo (sp : Sp) (tk : TA) : TE := fun σ H Q => tk σ H fun zs H2 => sp zs H2 Q E0
theorem pe_callKo {X : Cx} {k : Nat} {f : Addr} {fd : FuncData} {ps : List Str} {sp : Sp} {x : Str} {p pos : Pos} {kws : List Keyword} {tk : TA} (F : FnOk X.prog X.w X.K X.mg X.base CX0 k f fd ps sp) (hr : Room k X.A) (hg : Gl X x) (hm : X.mg x = some (.ref f)) (hk : PySem.W.keepIn X.K (.ref f) = true) (hb : KBo X.K fd ps)
    (hkw : PK X kws tk) (hall : (backToKw pos (keywordEach kws X.env)).all (·.1.isSome) = true := by rfl) (hks : (backToKw pos (keywordEach kws X.env)).filterMap (·.1) = ps := by rfl) (hdb : (x == ("__debug__" : Str)) = false := by decide)
    (hpl : ((backTo pos (starEach [] X.env)).any (·.1) || (backToKw pos (keywordEach kws X.env)).any (·.1.isNone)) = false := by rfl) :
    PE X (.Call (.Name x p) [] kws pos) (tCallKo sp tk) := by
  refine ⟨fun pins s σ H Q I h => ?_⟩
  refine wpAny_Call_Name_kw (ld_glob I hg hm ?_ hdb)
  refine PySem.W.callWith_KW0 (h₀ := X.base) I.ok.mod.kin hk hall ?_ hpl
  refine thn (hkw.run pos pins s σ H _ I h) fun ws s2 ⟨zs, H2, I2, rz, q2⟩ => ⟨I2.kIn, ?_⟩
  rw [hks]
  have hl : ws.length = ps.length := by rw [← rz.length]; exact F.len _ _ _ _ q2
  refine wpAny_call (codeAny_mono (F.run X.A X.stack s2 H2 ⟨[], ps.zip ws⟩ ws zs Q E0 hr I2.env0 (hb.to s2 ws hl) rz q2) fun r s' hq => ?_)
  cases r with
  | error e => exact (pass0 (X := X)) pins σ H2 s2 e s' I2 hq
  | ok fl =>
    cases fl with
    | ret u => exact I2.after hq
    | next => exact False.elim hq
    | brk => exact False.elim hq
    | cont => exact False.elim hq
end L2
set_option Elab.async false
set_option linter.all false
set_option maxRecDepth 100000
set_option maxHeartbeats 1000000
/-! t[::-1] of a tuple; text times number -/
namespace HT
open PySem PySem.Spec PyProof.Rows
section
variable {prog : Program} {w : World} {A : Around} {E : Value → Shared → Prop} {s : Shared}
theorem applied_back {sl : Addr} {vk : Value} {n : Nat} {Q : Int × Int × Nat → Shared → Prop} (hs : s.heap.IsSliceOf sl .none .none vk) (pk : IsPart vk (some (-1)))
    (h : Q ((n : Int) - 1, -1, n) s) : wpAny (model prog w) A (Builtin.Slice.sliceApplied (.ref sl) (pure (n : Int))) Q E s := by
  obtain ⟨os, hos, hcs, hds⟩ := id hs
  unfold Builtin.Slice.sliceApplied Builtin.Slice.sliceFields
  refine wpAny_bind (wpAny_bind (wpAny_field hos hds (x := .none) rfl (wpAny_bind (wpAny_field hos hds (x := .none) rfl (wpAny_bind (wpAny_field hos hds (x := vk) rfl (wpAny_pure ?_)))))))
  refine wpAny_bind (slicePart_ pk ?_)
  show wpAny _ _ (if ((-1 : Int) == 0) = true then _ else _) _ _ s
  rw [if_neg (by decide)]
  refine wpAny_bind (slicePart_none (wpAny_bind (slicePart_none (wpAny_bind (wpAny_pure ?_)))))
  have e : Builtin.Slice.sliceAdjust none none (-1) (n : Int) = ((n : Int) - 1, -1) := by
    unfold Builtin.Slice.sliceAdjust
    rfl
  have e2 : Builtin.Slice.slicePlaces ((n : Int) - 1) (-1) (-1) = n := by
    unfold Builtin.Slice.slicePlaces
    have h1 : ¬ ((-1 : Int) > 0) := by decide
    rw [if_neg h1]
    by_cases h : (n : Int) - 1 > -1
    · rw [if_pos h, show (- -1 : Int) = 1 by decide, Int.ediv_one]
      omega
    · rw [if_neg h]
      omega
  show wpAny _ _ (match Builtin.Slice.sliceAdjust none none (-1) (n : Int) with | (lo, hi) => pure (lo, (-1 : Int), Builtin.Slice.slicePlaces lo hi (-1))) _ _ s
  rw [e]
  show wpAny _ _ (pure ((n : Int) - 1, (-1 : Int), Builtin.Slice.slicePlaces ((n : Int) - 1) (-1) (-1))) _ _ s
  rw [e2]
  exact wpAny_pure h
theorem fm_map {α β : Type} {f : α → Option β} {g : α → β} : ∀ {l : List α}, (∀ k ∈ l, f k = some (g k)) → l.filterMap f = l.map g
  | [], _ => rfl
  | x :: l, h => by
    rw [List.filterMap_cons_some (h x List.mem_cons_self), List.map_cons, fm_map fun k hk => h k (List.mem_cons_of_mem _ hk)]
theorem pick_back (xs : Array Value) : ((List.range xs.size).filterMap fun (k : Nat) => xs[((xs.size : Int) - 1 + (k : Int) * (-1)).toNat]?).toArray = xs.toList.reverse.toArray := by
  have e : (List.range xs.size).filterMap (fun (k : Nat) => xs[((xs.size : Int) - 1 + (k : Int) * (-1)).toNat]?) = xs.toList.reverse := by
    apply List.ext_getElem?
    intro i
    have key : (List.range xs.size).filterMap (fun (k : Nat) => xs[((xs.size : Int) - 1 + (k : Int) * (-1)).toNat]?) = (List.range xs.size).map (fun k => xs.toList.reverse.getD k .none) := by
      apply fm_map
      intro k hk
      have hk := List.mem_range.mp hk
      have ei : ((xs.size : Int) - 1 + (k : Int) * (-1)).toNat = xs.size - 1 - k := by omega
      rw [ei]
      have h2 : xs.size - 1 - k < xs.size := by omega
      rw [Array.getElem?_eq_getElem h2]
      show _ = some (xs.toList.reverse.getD k .none)
      congr 1
      have h3 : k < xs.toList.reverse.length := by rw [List.length_reverse, Array.length_toList]; exact hk
      rw [List.getD_eq_getElem?_getD, List.getElem?_eq_getElem h3, Option.getD_some, List.getElem_reverse]
      simp [Array.length_toList]
    rw [key, List.getElem?_map]
    by_cases hi : i < xs.size
    · rw [List.getElem?_range hi]
      have h3 : i < xs.toList.reverse.length := by rw [List.length_reverse, Array.length_toList]; exact hi
      show some (xs.toList.reverse.getD i .none) = _
      rw [List.getD_eq_getElem?_getD, List.getElem?_eq_getElem h3]
      rfl
    · rw [List.getElem?_eq_none (by rw [List.length_range]; omega), List.getElem?_eq_none (by rw [List.length_reverse, Array.length_toList]; omega)]
      rfl
  rw [e]
theorem getItem_tuple_back {t sl : Addr} {items : Array Value} {vk : Value} {Q : Value → Shared → Prop} (ht : IsTup s.heap t items) (hs : s.heap.IsSliceOf sl .none .none vk) (pk : IsPart vk (some (-1)))
    (h : Q (.ref s.heap.objs.size) { s with heap := s.heap.push { cls := .type "tuple", data := .seq items.toList.reverse.toArray } })
    (hsz : items.size ≤ sizeLine) : wpAny (model prog w) A (getItem (.ref t) (.ref sl)) Q E s := by
  have room : sizeOk (.seq items.toList.reverse.toArray) := by
    show items.toList.reverse.toArray.size ≤ sizeLine
    rw [List.size_toArray, List.length_reverse, Array.length_toList]
    exact hsz
  obtain ⟨os, hos, hcs, hds⟩ := id hs
  have tyS : s.TypeIs (.ref sl) "slice" := ⟨os, hos, hcs⟩
  unfold getItem
  try with_reducible refine wpAny_holding ?_
  first | refine wpAny_bind (wpAny_pure ?_) | skip
  refine wpAny_bind (wpAny_sequenceKey ht.typeIs (by decide) (wpAny_bind (wpAny_callSpecial?_slot (name := Str.ofString "__getitem__") ht.typeIs PyProof.Rows.slot_tuple_getitem
    (wpAny_call_entry PyProof.Rows.slot_tuple_getitem ht.typeIs entry_tuple_getitem ?_ (args_tuple_getitem _ _)))))
  show wpAny _ _ (Builtin.Tuple.tupleItemsOf (.ref t) >>= _) _ _ s
  refine wpAny_bind (tupleItemsOf_ ht (wpAny_bind (wpAny_typeOf tyS ?_)))
  rw [if_pos (by decide)]
  refine wpAny_bind (applied_back hs pk ?_)
  have no : ¬ (((((items.size : Nat) : Int) - 1 == 0) && ((-1 : Int) == 1) && (items.size == items.size)) = true) := by
    intro q
    rw [Bool.and_eq_true, Bool.and_eq_true] at q
    exact absurd q.1.2 (by decide)
  show wpAny _ _ (if ((((items.size : Nat) : Int) - 1 == 0) && ((-1 : Int) == 1) && (items.size == items.size)) = true then _ else _) _ _ s
  rw [if_neg no, pick_back]
  first
    | exact wpAny_bind (m := Builtin.Tuple.tupleExact _) (wpAny_newObj_type (wpAny_pure ⟨_, rfl, wpAny_pure h⟩) room)
    | exact wpAny_bind (m := Builtin.Tuple.tupleExact _) (wpAny_newObj_type (wpAny_bind (wpAny_pure (wpAny_pure ⟨_, rfl, wpAny_pure h⟩))) room)
    | exact wpAny_bind (wpAny_bind (m := Builtin.Tuple.tupleExact _) (wpAny_newObj_type (wpAny_pure (wpAny_pure ⟨_, rfl, wpAny_pure h⟩)) room))
    | exact wpAny_bind (wpAny_bind (m := Builtin.Tuple.tupleExact _) (wpAny_newObj_type (wpAny_pure ⟨_, rfl, wpAny_pure h⟩) room))
end
end HT
namespace L2
open PySem PySem.Spec PyProof.Rows
def tRevT (K : PySem.W.Frag) (te : TE) : TE := fun σ H Q => te σ H fun x H1 => ∃ a xs, x = .ref a ∧ SqT K H1 a xs ∧ ∀ p, H1 p = none → Q (.ref p) (upd H1 p (.tup xs.reverse))
theorem pe_revT {X : Cx} {e : Expr} {te : TE} {k : Nat} {p1 p2 p3 pos : Pos} (he : PE X e te) : PE X (.Subscript e (.Slice none none (some (.UnaryOp .USub (.Constant (.int 1) k p1) p2)) p3) pos) (tRevT X.K te) := by
  refine ⟨fun pins s σ H Q I h => ?_⟩
  refine Subscript_ (thn (he.run pins s σ H _ I h) fun v s1 ⟨x, H1, I1, r1, a, xs, ex, hx, q⟩ => ?_)
  subst ex
  cases r1
  have stp : PO X (some (.UnaryOp .USub (.Constant (.int 1) k p1) p2)) (tPart (tUn (rU fun i => .int (-i)) (tC (.int 1)))) := po_some (pe_un un_neg pe_int)
  refine wpAny_Slice (thn (po_none.run pins s1 σ H1 (fun o H2 => o = none ∧ H2 = H1) I1 ⟨rfl, rfl⟩) fun vl s2 ⟨l, H2, I2, pl, el, e2⟩ => ?_)
  subst el e2
  refine thn (po_none.run pins s2 σ H2 (fun o H3 => o = none ∧ H3 = H2) I2 ⟨rfl, rfl⟩) fun vu s3 ⟨u, H3, I3, pu, eu, e3⟩ => ?_
  subst eu e3
  refine thn (stp.run pins s3 σ H3 (fun o H4 => o = some (-1) ∧ H4 = H3) I3 ⟨1, rfl, -1, rfl, rfl, rfl⟩) fun vs s4 ⟨o, H4, I4, ps, eo, e4⟩ => ?_
  subst eo e4
  have I5 : Inv X pins σ H4 { s4 with heap := s4.heap.push { cls := .type "slice", data := .fields #[vl, vu, vs] } } := I4.kept (t' := s4.toks) fun b ob z => Heap.get?_push_of_some _ z
  obtain ⟨its, r, ht, hz⟩ := I5.tuple hx
  have hlen := r.length
  cases pl
  cases pu
  show wpAny (model X.prog X.w) X.A (subscriptTail e (.Slice none none (some (.UnaryOp .USub (.Constant (.int 1) k p1) p2)) p3) (.ref a) (.ref s4.heap.objs.size)) (EP X pins σ Q) X.xe _
  refine tail_any (ops := [.ref a, .ref s4.heap.objs.size]) ht.typeIs PyProof.Rows.slot_tuple_getitem.lookup ?_ (by with_unfolding_all rfl)
  refine HT.getItem_tuple_back ht (Heap.IsSliceOf.new _ _ _ vs) ps ?_ (by rw [List.size_toArray]; omega)
  refine ⟨.ref _, _, I5.laid (t' := s4.toks) (o := .tup xs.reverse) (fun b ob z => Heap.get?_push_of_some _ z) (Nat.le_refl _) ?_, rfl, q _ (I5.hok.fresh (Nat.le_refl _))⟩
  exact ⟨by rw [List.length_reverse]; exact hz, _, r.reverse, ⟨_, Heap.get?_push_size _ rfl, rfl, 0, rfl⟩⟩
/-- a sign's text, so often -/
def rMulS : R2 := fun x y H Q => ∃ (c : Nat) (n : Int), x = .str ⟨#[c]⟩ ∧ y = .int n ∧ n ≤ 1000 ∧ -1000 ≤ n ∧ Q (.str ⟨(List.replicate n.toNat c).toArray⟩) H
theorem rep_fold (c : Nat) : ∀ (n : Nat) (a : Array Nat), (List.replicate n #[c]).foldl (· ++ ·) a = a ++ (List.replicate n c).toArray
  | 0, a => by simp
  | n + 1, a => by
    rw [List.replicate_succ, List.foldl_cons, rep_fold c n, List.replicate_succ]
    apply Array.toList_inj.mp
    simp
theorem op_mulS {X : Cx} : OpR X (binaryOp .Mult) rMulS := by
  intro pins s σ H x y v u Q I rx ry h
  obtain ⟨c, n, rfl, rfl, h1, h2, q⟩ := h
  obtain ⟨t, rfl⟩ := rx
  obtain ⟨t2, rfl⟩ := ry
  refine PySem.P.mul_str ?_ (fun _ _ => ?_) (fun _ _ => ?_) ?_
  · rw [decide_eq_false (by omega), decide_eq_false (by omega)]
    rfl
  · have e1 : ((⟨#[c]⟩ : Str).length : Int) = 1 := rfl
    rw [e1]
    intro z
    have h0 : 1 ≤ n := by omega
    have : n ≤ (2 ^ 63 - 1) / n * n + n := by
      have := Int.mul_ediv_add_emod (2 ^ 63 - 1) n
      have m0 := Int.emod_nonneg (2 ^ 63 - 1) (show n ≠ 0 by omega)
      have m1 := Int.emod_lt_of_pos (2 ^ 63 - 1) (show 0 < n by omega)
      have e3 : n * ((2 ^ 63 - 1) / n) = (2 ^ 63 - 1) / n * n := Int.mul_comm _ _
      omega
    have d0 : (2 ^ 63 - 1) / n ≤ 0 := by omega
    have e4 := Int.mul_ediv_add_emod (2 ^ 63 - 1) n
    have m1 := Int.emod_lt_of_pos (2 ^ 63 - 1) (show 0 < n by omega)
    have : n * ((2 ^ 63 - 1) / n) ≤ 0 := Int.mul_nonpos_of_nonneg_of_nonpos (by omega) d0
    omega
  · have : (⟨#[c]⟩ : Str).length * n.toNat ≤ 1000 := by
      show 1 * n.toNat ≤ 1000
      omega
    unfold Builtin.Str.tooLong
    exact decide_eq_false (by
      have : (1000 : Nat) ≤ sizeLine := by decide
      omega)
  · by_cases a : n < 1
    · rw [if_pos a]
      refine ⟨by decide, .str _, H, I.tok _, ⟨_, rfl⟩, ?_⟩
      have e : n.toNat = 0 := by omega
      rw [e] at q
      exact q
    · rw [if_neg a]
      by_cases b : (n == 1 || (⟨#[c]⟩ : Str).length == 0) = true
      · rw [if_pos b]
        have e : n = 1 := by
          rcases Bool.or_eq_true_iff.mp b with z | z
          · exact eq_of_beq z
          · cases z
        subst e
        exact ⟨.str _, H, I, ⟨_, rfl⟩, q⟩
      · rw [if_neg b]
        have ef : ((List.replicate n.toNat (⟨#[c]⟩ : Str).cps).foldl (· ++ ·) #[]) = (List.replicate n.toNat c).toArray := by
          show (List.replicate n.toNat #[c]).foldl (· ++ ·) #[] = _
          rw [rep_fold]
          simp
        rw [ef]
        refine ⟨?_, .str _, H, I.tok _, ⟨_, rfl⟩, q⟩
        show (List.replicate n.toNat c).toArray.size ≤ sizeLine
        rw [List.size_toArray, List.length_replicate]
        have : (1000 : Nat) ≤ sizeLine := by decide
        omega
end L2
set_option Elab.async false
set_option linter.all false
set_option maxRecDepth 100000
set_option maxHeartbeats 1000000
namespace Toy
open PySem L2
/-! ### drawn data: its texts and numbers, its weight, its depth -/
mutual
def gdB (j : Nat) : PyData → Bool
  | .str x => PyData.strOk x && decide (x.length ≤ 100 + j)
  | .int i => decide (i.natAbs ≤ 10 ^ 30 + j)
  | .list ds => gdA j ds
  | .tuple ds => gdA j ds
  | .dict kvs => kvs.isEmpty
  | .none => true
  | .bool _ => true
def gdA (j : Nat) : List PyData → Bool
  | [] => true
  | d :: ds => gdB j d && gdA j ds
end
theorem gdA_iff {j : Nat} : ∀ {ds : List PyData}, gdA j ds = true ↔ ∀ d ∈ ds, gdB j d = true
  | [] => ⟨fun _ _ h => (nomatch h), fun _ => rfl⟩
  | d :: ds => by
    show (gdB j d && gdA j ds) = true ↔ _
    rw [Bool.and_eq_true, gdA_iff (ds := ds)]
    constructor
    · rintro ⟨a, b⟩ x h
      rcases List.mem_cons.mp h with rfl | h
      · exact a
      · exact b x h
    · intro h
      exact ⟨h d List.mem_cons_self, fun x m => h x (List.mem_cons_of_mem _ m)⟩
mutual
theorem gdB_up {j k : Nat} (h : j ≤ k) : ∀ d : PyData, gdB j d = true → gdB k d = true
  | .str x, g => by
    have g' : (PyData.strOk x && decide (x.length ≤ 100 + j)) = true := g
    show (PyData.strOk x && decide (x.length ≤ 100 + k)) = true
    rw [Bool.and_eq_true, decide_eq_true_eq] at g' ⊢
    exact ⟨g'.1, by omega⟩
  | .int i, g => by
    have g' : decide (i.natAbs ≤ 10 ^ 30 + j) = true := g
    show decide (i.natAbs ≤ 10 ^ 30 + k) = true
    rw [decide_eq_true_eq] at g' ⊢
    omega
  | .list ds, g => gdA_up h ds g
  | .tuple ds, g => gdA_up h ds g
  | .dict kvs, g => g
  | .none, _ => rfl
  | .bool _, _ => rfl
theorem gdA_up {j k : Nat} (h : j ≤ k) : ∀ ds : List PyData, gdA j ds = true → gdA k ds = true
  | [], _ => rfl
  | d :: ds, g => by
    have g' : (gdB j d && gdA j ds) = true := g
    rw [Bool.and_eq_true] at g'
    show (gdB k d && gdA k ds) = true
    rw [Bool.and_eq_true]
    exact ⟨gdB_up h d g'.1, gdA_up h ds g'.2⟩
end
mutual
theorem gdB_txt {j : Nat} (h : j ≤ 1000) : ∀ d : PyData, gdB j d = true → txtB d = true
  | .str x, g => by
    have g' : (PyData.strOk x && decide (x.length ≤ 100 + j)) = true := g
    show (PyData.strOk x && decide (x.length ≤ 2000)) = true
    rw [Bool.and_eq_true, decide_eq_true_eq] at g' ⊢
    exact ⟨g'.1, by omega⟩
  | .int i, g => rfl
  | .list ds, g => gdA_txt h ds g
  | .tuple ds, g => gdA_txt h ds g
  | .dict kvs, g => rfl
  | .none, _ => rfl
  | .bool _, _ => rfl
theorem gdA_txt {j : Nat} (h : j ≤ 1000) : ∀ ds : List PyData, gdA j ds = true → txtAll ds = true
  | [], _ => rfl
  | d :: ds, g => by
    have g' : (gdB j d && gdA j ds) = true := g
    rw [Bool.and_eq_true] at g'
    show (txtB d && txtAll ds) = true
    rw [Bool.and_eq_true]
    exact ⟨gdB_txt h d g'.1, gdA_txt h ds g'.2⟩
end
theorem int_log {i : Int} {j : Nat} (h : i.natAbs ≤ 10 ^ 30 + j) (hj : j ≤ 1000) : i.natAbs.log2 < 1920 := by
  by_cases h0 : i.natAbs = 0
  · rw [h0]; decide
  · have : i.natAbs < 2 ^ 101 := Nat.lt_of_le_of_lt (Nat.le_trans h (Nat.add_le_add_left hj _)) (by decide)
    have := (Nat.log2_lt h0).mpr this
    omega
mutual
theorem gdB_show {j : Nat} (h : j ≤ 1000) : ∀ d : PyData, gdB j d = true → d.showable = true
  | .str x, g => by simp only [PyData.showable]
  | .int i, g => by
    have g' : decide (i.natAbs ≤ 10 ^ 30 + j) = true := g
    rw [decide_eq_true_eq] at g'
    simp only [PyData.showable]
    exact decide_eq_true (int_log g' h)
  | .list ds, g => by simp only [PyData.showable]; exact gdA_show h ds g
  | .tuple ds, g => by simp only [PyData.showable]; exact gdA_show h ds g
  | .dict [], g => by simp only [PyData.showable, PyData.showableKv]
  | .dict (_ :: _), g => by cases g
  | .none, _ => by simp only [PyData.showable]
  | .bool _, _ => by simp only [PyData.showable]
theorem gdA_show {j : Nat} (h : j ≤ 1000) : ∀ ds : List PyData, gdA j ds = true → PyData.showableAll ds = true
  | [], _ => by simp only [PyData.showableAll]
  | d :: ds, g => by
    have g' : (gdB j d && gdA j ds) = true := g
    rw [Bool.and_eq_true] at g'
    simp only [PyData.showableAll, Bool.and_eq_true]
    exact ⟨gdB_show h d g'.1, gdA_show h ds g'.2⟩
end
theorem int_short {i : Int} {j : Nat} (h : i.natAbs ≤ 10 ^ 30 + j) (hj : j ≤ 1000) : (PyData.shown (.int i)).length ≤ 33 := by
  simp only [PyData.shown]
  have := int_text_length_le10 (a := i) (k := 31) (by decide) (Nat.lt_of_le_of_lt (Nat.le_trans h (Nat.add_le_add_left hj _)) (by decide))
  show (Str.ofString (toString i)).length ≤ 33
  rw [ofString_length]
  omega
mutual
theorem gdB_short {j : Nat} (h : j ≤ 1000) : ∀ d : PyData, gdB j d = true → d.leavesShort 33 = true
  | .str x, g => by
    have g' : (PyData.strOk x && decide (x.length ≤ 100 + j)) = true := g
    rw [Bool.and_eq_true] at g'
    simp only [PyData.leavesShort]
    exact List.all_eq_true.mpr fun c m => decide_eq_true (Nat.lt_trans (ok_code g'.1 m) (by decide))
  | .int i, g => by
    have g' : decide (i.natAbs ≤ 10 ^ 30 + j) = true := g
    rw [decide_eq_true_eq] at g'
    simp only [PyData.leavesShort]
    exact decide_eq_true (int_short g' h)
  | .list ds, g => by simp only [PyData.leavesShort]; exact gdA_short h ds g
  | .tuple ds, g => by simp only [PyData.leavesShort]; exact gdA_short h ds g
  | .dict [], g => by simp only [PyData.leavesShort, PyData.leavesShortKv]
  | .dict (_ :: _), g => by cases g
  | .none, _ => by simp only [PyData.leavesShort]
  | .bool _, _ => by simp only [PyData.leavesShort]
theorem gdA_short {j : Nat} (h : j ≤ 1000) : ∀ ds : List PyData, gdA j ds = true → PyData.leavesShortAll 33 ds = true
  | [], _ => by simp only [PyData.leavesShortAll]
  | d :: ds, g => by
    have g' : (gdB j d && gdA j ds) = true := g
    rw [Bool.and_eq_true] at g'
    simp only [PyData.leavesShortAll, Bool.and_eq_true]
    exact ⟨gdB_short h d g'.1, gdA_short h ds g'.2⟩
end
theorem gd_shown {j : Nat} {d : PyData} (h : j ≤ 1000) (g : gdB j d = true) : d.shown.length ≤ 35 * d.weight + 33 := PyData.shown_le 33 (by decide) d (gdB_short h d g)
/-- drawn data -/
structure Gd (d : PyData) (j w k : Nat) : Prop where
  g : gdB j d = true
  w : d.weight ≤ w
  k : d.depth ≤ k
theorem Gd.up {d : PyData} {j w k j' w' k' : Nat} (h : Gd d j w k) (a : j ≤ j') (b : w ≤ w') (c : k ≤ k') : Gd d j' w' k' := ⟨gdB_up a d h.g, Nat.le_trans h.w b, Nat.le_trans h.k c⟩
/-! weights of rows -/
theorem wA_append (a b : List PyData) : PyData.weightAll (a ++ b) = PyData.weightAll a + PyData.weightAll b := by
  induction a with
  | nil => simp only [List.nil_append, PyData.weightAll]; omega
  | cons x r ih => simp only [List.cons_append, PyData.weightAll, ih]; omega
theorem wA_reverse (a : List PyData) : PyData.weightAll a.reverse = PyData.weightAll a := by
  induction a with
  | nil => rfl
  | cons x r ih =>
    rw [List.reverse_cons, wA_append, ih]
    simp only [PyData.weightAll]
    omega
theorem wA_mem {d : PyData} : ∀ {l : List PyData}, d ∈ l → d.weight + 1 ≤ PyData.weightAll l
  | x :: r, h => by
    simp only [PyData.weightAll]
    rcases List.mem_cons.mp h with rfl | h
    · omega
    · have := wA_mem h; omega
theorem dA_append (a b : List PyData) : PyData.depthAll (a ++ b) = max (PyData.depthAll a) (PyData.depthAll b) := by
  induction a with
  | nil => simp only [List.nil_append, PyData.depthAll]; omega
  | cons x r ih => simp only [List.cons_append, PyData.depthAll, ih]; omega
theorem dA_le {k : Nat} : ∀ {l : List PyData}, (∀ d ∈ l, d.depth ≤ k) → PyData.depthAll l ≤ k
  | [], _ => by simp only [PyData.depthAll]; exact Nat.zero_le _
  | x :: r, h => by
    have a := h x List.mem_cons_self
    have b := dA_le (l := r) fun y hy => h y (List.mem_cons_of_mem _ hy)
    simp only [PyData.depthAll]
    omega
theorem dA_mem {d : PyData} : ∀ {l : List PyData}, d ∈ l → d.depth ≤ PyData.depthAll l
  | x :: r, h => by
    simp only [PyData.depthAll]
    rcases List.mem_cons.mp h with rfl | h
    · omega
    · have := dA_mem h; omega
/-- how many parts a thing of any form has -/
theorem ms_weight : ∀ (n : Nat) (d : PyData), (ms n d).2.1 ≤ d.weight + 1
  | 0, _ => Nat.le_add_left 1 _
  | n + 1, d => by
    show (match kids d with | some (a, b) => two (ms n a) (ms n b) | none => (1, 1, nameOf d)).2.1 ≤ _
    cases hk : kids d with
    | none => exact Nat.le_add_left 1 _
    | some p =>
      obtain ⟨a, b⟩ := p
      have ha := ms_weight n a
      have hb := ms_weight n b
      show (ms n a).2.1 + (ms n b).2.1 + 1 ≤ d.weight + 1
      unfold kids at hk
      split at hk
      · cases hk
        simp only [PyData.weight, PyData.weightAll]
        omega
      · cases hk
/-! ### where drawn data lies: G, a part of the heap that is never written -/
structure Stt (wl : Addr) (G H : Hp) : Prop where
  sub : Same G H
  nw : G wl = none
  well : WellAt H wl
structure Gr (wl : Addr) (G H G' H' : Hp) : Prop where
  gg : Same G G'
  gh : Same G' H'
  gn : ∀ b, G b = none → H b ≠ none → G' b = none
  well : WellAt H' wl
  but : But wl H H'
theorem well_ne {H : Hp} {wl : Addr} (w : WellAt H wl) : H wl ≠ none := by
  obtain ⟨_, _, _, z⟩ := w
  rw [z]
  exact fun z => nomatch z
theorem Gr.stt {wl : Addr} {G H G' H' : Hp} (g : Gr wl G H G' H') (s : Stt wl G H) : Stt wl G' H' := ⟨g.gh, g.gn wl s.nw (well_ne s.well), g.well⟩
theorem Gr.trans {wl : Addr} {G H G1 H1 G2 H2 : Hp} (a : Gr wl G H G1 H1) (b : Gr wl G1 H1 G2 H2) : Gr wl G H G2 H2 :=
  ⟨a.gg.trans b.gg, b.gh, fun c h1 h2 => b.gn c (a.gn c h1 h2) (fun z => h2 (a.but.free a.well z)), b.well, a.but.trans b.but⟩
theorem Gr.stay {wl : Addr} {G H H' : Hp} (s : Stt wl G H) (w : WellAt H' wl) (e : But wl H H') : Gr wl G H G H' :=
  ⟨Same.refl G, fun b o h => e b o (fun z => by rw [z, s.nw] at h; cases h) (s.sub b o h), fun _ h _ => h, w, e⟩
theorem Gr.refl {wl : Addr} {G H : Hp} (s : Stt wl G H) : Gr wl G H G H := .stay s s.well (But.refl H)
theorem Gr.same {wl : Addr} {G H H' : Hp} (s : Stt wl G H) (e : Same H H') : Gr wl G H G H' := .stay s (by
  obtain ⟨a, b, c, h⟩ := s.well
  exact ⟨a, b, c, e _ _ h⟩) (.of e)
/-- a new object of data -/
theorem Gr.new {wl p : Addr} {G H : Hp} (s : Stt wl G H) (hp : H p = none) (o : HO) : Gr wl G H (upd G p o) (upd H p o) := by
  have gp : G p = none := s.sub.free hp
  refine ⟨same_new gp o, fun b u h => ?_, fun b h1 h2 => ?_, ?_, But.new hp o⟩
  · by_cases e : b = p
    · subst e
      rw [upd_same] at h ⊢
      exact h
    · rw [upd_ne e] at h ⊢
      exact s.sub b u h
  · rw [upd_ne (fun e => h2 (by rw [e]; exact hp))]
    exact h1
  · obtain ⟨a, b, c, h⟩ := s.well
    exact ⟨a, b, c, same_new hp o _ _ h⟩
/-- what is new joins G -/
def join (G N : Hp) : Hp := fun b => match G b with | some o => some o | none => N b
theorem join_of {G N : Hp} {b : Addr} (h : G b = none) : join G N b = N b := by unfold join; rw [h]
theorem Gr.join {wl : Addr} {G H H' : Hp} (s : Stt wl G H) (w : WellAt H' wl) (e : But wl H H') : Gr wl G H (join G (newer H H')) H' := by
  have g0 := Gr.stay s w e
  refine ⟨fun b o h => by unfold Toy.join; rw [h], fun b o h => ?_, fun b h1 h2 => ?_, w, e⟩
  · cases q : G b with
    | some u =>
      unfold Toy.join at h
      rw [q] at h
      cases h
      exact g0.gh b o q
    | none =>
      rw [join_of q] at h
      exact newer_all b o h
  · rw [join_of h1]
    unfold newer
    cases q : H b with
    | none => exact absurd q h2
    | some u => rfl
theorem join_new {G H H' : Hp} (s : Same G H) : Same (newer H H') (Toy.join G (newer H H')) := fun b o h => by
  have q : G b = none := by
    cases z : G b with
    | none => rfl
    | some u =>
      unfold newer at h
      rw [s b u z] at h
      cases h
  rw [join_of q]
  exact h
/-- data that stays -/
theorem Gr.dq {K : PySem.W.Frag} {wl : Addr} {G H G' H' : Hp} {v : V} {d : PyData} (g : Gr wl G H G' H') (h : Dq K G v d) : Dq K G' v d := Dq.mono g.gg _ _ h
theorem Gr.lst {wl l : Addr} {G H G' H' : Hp} {o : HO} (g : Gr wl G H G' H') (n : l ≠ wl) (h : H l = some o) : H' l = some o := g.but l o n h
theorem Gr.off {wl l : Addr} {G H G' H' : Hp} (g : Gr wl G H G' H') (h : G l = none) (h2 : H l ≠ none) : G' l = none := g.gn l h h2
/-- a list of one's own changes: the data stays -/
theorem Gr.own {wl l : Addr} {G H : Hp} {o : HO} (s : Stt wl G H) (n : l ≠ wl) (h : G l = none) (o : HO) : Stt wl G (upd H l o) := ⟨fun b u e => by rw [upd_ne (fun z => by rw [z, h] at e; cases e)]; exact s.sub b u e, s.nw, by
  obtain ⟨a, b, c, e⟩ := s.well
  exact ⟨a, b, c, by rw [upd_ne (Ne.symm n)]; exact e⟩⟩
end Toy
set_option Elab.async false
set_option linter.all false
set_option maxRecDepth 100000
set_option maxHeartbeats 2000000
namespace Toy
open PySem L2
abbrev sWrit : Stmt := top 26
abbrev sLong : Stmt := top 27
/-- pick a sign of a text -/
def spPickS : Sp := fun vs H Q _ => ∃ (wl : Addr) (x : Str), vs = [.ref wl, .str x] ∧ WellAt H wl ∧ 1 ≤ x.length ∧ x.length ≤ 1000 ∧
  ∀ (c : Nat) (H' : Hp), c ∈ x.cps.toList → WellAt H' wl → But wl H H' → Q (.str ⟨#[c]⟩) H'
/-- pick of a list -/
def spPickL (K : PySem.W.Frag) : Sp := fun vs H Q _ => ∃ (wl t : Addr) (xs : List V), vs = [.ref wl, .ref t] ∧ WellAt H wl ∧ SqL K H t xs ∧ t ≠ wl ∧ 1 ≤ xs.length ∧ xs.length < 1073741824 ∧
  ∀ (v : V) (H' : Hp), v ∈ xs → WellAt H' wl → But wl H H' → Q v H'
def txtOk (x : Str) (n : Nat) : Prop := PyData.strOk x = true ∧ x.length ≤ n
/-- a text drawn from the well -/
def spTxt (n : Nat) : Sp := fun vs H Q _ => ∃ (wl : Addr), vs = [.ref wl] ∧ WellAt H wl ∧ ∀ (x : Str) (H' : Hp), txtOk x n → WellAt H' wl → But wl H H' → Q (.str x) H'
structure Nr (mg : Str → Option Value) : Prop where
  range : mg "range" = none
theorem strOk_app {a b : Str} (ha : PyData.strOk a = true) (hb : PyData.strOk b = true) : PyData.strOk (a ++ b) = true := by
  unfold PyData.strOk at ha hb ⊢
  rw [← Array.all_toList] at ha hb ⊢
  rw [app_cps, List.all_append, ha, hb]
  rfl
theorem txt_app {a b : Str} {m n : Nat} (ha : txtOk a m) (hb : txtOk b n) : txtOk (a ++ b) (m + n) := ⟨strOk_app ha.1 hb.1, by rw [strLen_append]; have := ha.2; have := hb.2; omega⟩
theorem txt_up {a : Str} {m n : Nat} (ha : txtOk a m) (h : m ≤ n) : txtOk a n := ⟨ha.1, Nat.le_trans ha.2 h⟩
theorem txt_one {x : Str} {c : Nat} (hx : PyData.strOk x = true) (h : c ∈ x.cps.toList) : txtOk ⟨#[c]⟩ 1 := ⟨one_ok (ok_code hx h), Nat.le_refl 1⟩
section
variable {P : Program} {w : World} {K : PySem.W.Frag} {mg : Str → Option Value} {base : Heap}
theorem ok_pickS {f g : Addr} {fd gd : FuncData} (F : Fun K "_law_pick" "_law_pick" sPick f fd) (T : Nm mg) (D : Gv P w K mg base 1 "_law_draw" g gd ["well", "many"] spDraw) : FnOk P w K mg base CX0 2 f fd ["well", "some"] spPickS := by
  refine F.ok scP (fun vs H Q E h => ?_) (fun cdv A outer s H vs Q E hr h => ?_)
  · obtain ⟨wl, x, rfl, _⟩ := h
    rfl
  obtain ⟨wl, x, rfl, hw, h1, h2, q⟩ := h
  refine ⟨_, pss_one (ps_ret (pe_ix ix_str (pv 1) (pe_call D.ok hr rfl D.m D.k D.b .nil pass0 (pa_cons (pv 0) (pa_cons (pe_callB call_len_str rfl T.len PySem.boot_len (pa_cons (pv 1) pa_nil)) pa_nil))) (fun _ _ => rfl))), ?_⟩
  have sz : x.length ≤ sizeLine := Nat.le_trans h2 (by decide)
  refine ⟨_, rfl, _, rfl, _, rfl, _, rfl, sz, wl, _, rfl, by omega, by omega, hw, fun i H' hi0 hi1 hw' hb => ?_⟩
  have eL : x.cps.toList.length = x.length := Array.length_toList
  have lt : i.toNat < x.cps.toList.length := by omega
  have e : i = ((i.toNat : Nat) : Int) := by omega
  have z := atI_nat (xs := x.cps.toList) (j := i.toNat) (v := x.cps.toList[i.toNat]) (List.getElem?_eq_getElem lt)
  rw [← e] at z
  exact ⟨x, i, _, rfl, rfl, sz, z, q _ H' (List.getElem_mem lt) hw' hb⟩
theorem ok_pickL {f g : Addr} {fd gd : FuncData} (F : Fun K "_law_pick" "_law_pick" sPick f fd) (T : Nm mg) (D : Gv P w K mg base 1 "_law_draw" g gd ["well", "many"] spDraw) : FnOk P w K mg base CX0 2 f fd ["well", "some"] (spPickL K) := by
  refine F.ok scP (fun vs H Q E h => ?_) (fun cdv A outer s H vs Q E hr h => ?_)
  · obtain ⟨wl, t, xs, rfl, _⟩ := h
    rfl
  obtain ⟨wl, t, xs, rfl, hw, ht, nw, h1, h2, q⟩ := h
  refine ⟨_, pss_one (ps_ret (pe_ix ix_list (pv 1) (pe_call D.ok hr rfl D.m D.k D.b .nil pass0 (pa_cons (pv 0) (pa_cons (pe_callB call_len_seq rfl T.len PySem.boot_len (pa_cons (pv 1) pa_nil)) pa_nil))) (fun _ _ => rfl))), ?_⟩
  refine ⟨_, rfl, _, rfl, _, rfl, t, _, rfl, .inl ht, wl, _, rfl, by omega, by omega, hw, fun i H' hi0 hi1 hw' hb => ?_⟩
  have ht' : SqL K H' t xs := by
    rcases ht with (z | ⟨o, z⟩) | z
    · exact .inl (.inl (hb t _ nw z))
    · exact .inl (.inr ⟨o, hb t _ nw z⟩)
    · exact .inr z
  have lt : i.toNat < xs.length := by omega
  have e : i = ((i.toNat : Nat) : Int) := by omega
  have z := atI_nat (xs := xs) (j := i.toNat) (v := xs[i.toNat]) (List.getElem?_eq_getElem lt)
  rw [← e] at z
  exact ⟨t, xs, i, xs[i.toNat], rfl, rfl, ht', z, q _ H' (List.getElem_mem lt) hw' hb⟩
theorem scWr : FnScope ["well", "made", "turn"] ["well"] (defScope sWrit) := ⟨rfl, rfl, rfl, by decide +kernel, rfl, by decide +kernel, by decide +kernel⟩
theorem well_new {H : Hp} {wl p : Addr} (w : WellAt H wl) (hp : H p = none) (o : HO) : WellAt (upd H p o) wl := by
  obtain ⟨a, b, c, h⟩ := w
  exact ⟨a, b, c, same_new hp o _ _ h⟩
theorem well_same {H H' : Hp} {wl : Addr} (w : WellAt H wl) (e : Same H H') : WellAt H' wl := by
  obtain ⟨a, b, c, h⟩ := w
  exact ⟨a, b, c, e _ _ h⟩
def lWr : List Str := ["Row", "Tree", "R", "Rowa", "Ro", "X1", "Y", "Rows"]
theorem lWr_ok : ∀ x ∈ lWr, txtOk x 8 := by
  have h : lWr.all (fun x => PyData.strOk x && decide (x.length ≤ 8)) = true := by decide +kernel
  intro x m
  have := List.all_eq_true.mp h x m
  rw [Bool.and_eq_true, decide_eq_true_eq] at this
  exact this
theorem strs_of {l : List Str} {v : V} (h : v ∈ l.map V.str) : ∃ x, x ∈ l ∧ v = .str x := by
  obtain ⟨x, m, e⟩ := List.mem_map.mp h
  exact ⟨x, m, e.symm⟩
theorem ints_of {l : List Int} {v : V} (h : v ∈ l.map V.int) : ∃ x, x ∈ l ∧ v = .int x := by
  obtain ⟨x, m, e⟩ := List.mem_map.mp h
  exact ⟨x, m, e.symm⟩
theorem ok_writ {f gD gP : Addr} {fd dD dP : FuncData} (F : Fun K "_law_written" "_law_written" sWrit f fd) (R : Nr mg) (D : Gv P w K mg base 1 "_law_draw" gD dD ["well", "many"] spDraw) (PT' : Gv P w K mg base 2 "_law_pick" gP dP ["well", "some"] (spPick K)) (PS' : FnOk P w K mg base CX0 2 gP dP ["well", "some"] spPickS) : FnOk P w K mg base CX0 3 f fd ["well"] (spTxt 8) := by
  refine F.ok scWr (fun vs H Q E h => ?_) (fun cdv A outer s H vs Q E hr h => ?_)
  · obtain ⟨wl, rfl, _⟩ := h
    rfl
  obtain ⟨wl, rfl, hw, q⟩ := h
  have hr1 : Room 1 (A.deeper _) := hr.mono (by omega)
  refine ⟨_, pss_cons (ps_if (pt_cmpR op_eq (pe_call D.ok hr1 rfl D.m D.k D.b .nil pass0 (pa_cons (pv 0) (pa_cons pe_int pa_nil))) pe_int (nomark _))
      (pss_one (ps_ret (pe_call PT'.ok hr rfl PT'.m PT'.k PT'.b .nil pass0 (pa_cons (pv 0) (pa_cons (pe_tup (pa_cons pe_str (pa_cons pe_str (pa_cons pe_str (pa_cons pe_str (pa_cons pe_str (pa_cons pe_str (pa_cons pe_str (pa_cons pe_str pa_nil))))))))) pa_nil))))) pss_nil)
    (pss_cons (ps_set (i := 1) scWr.nd rfl (.inl rfl) (pe_call PS' hr rfl PT'.m PT'.k PT'.b .nil pass0 (pa_cons (pv 0) (pa_cons pe_str pa_nil))))
    (pss_cons (ps_for PassesOwn.never rfl (pi_range1 (by rfl) R.range (pa_cons (pe_call PT'.ok hr rfl PT'.m PT'.k PT'.b .nil pass0 (pa_cons (pv 0) (pa_cons (pe_tup (pa_cons pe_int (pa_cons pe_int (pa_cons pe_int (pa_cons pe_int (pa_cons pe_int (pa_cons pe_int (pa_cons pe_int pa_nil)))))))) pa_nil))) pa_nil)) (pg_name (i := 2) scWr.nd rfl (.inl rfl))
      (pss_one (ps_set (i := 1) scWr.nd rfl (.inl rfl) (pe_op op_add_str (pv 1) (pe_call PS' hr rfl PT'.m PT'.k PT'.b .nil pass0 (pa_cons (pv 0) (pa_cons pe_str pa_nil)))))))
    (pss_one (ps_ret (pv 1))))), ?_⟩
  have z3 : ∀ {k : Nat}, k ≤ 20 → k ≤ sizeLine := fun h => Nat.le_trans h (by decide)
  refine ⟨_, rfl, wl, 2, rfl, by decide, by decide, hw, fun d0 H1 _ _ w1 e1 => ⟨rfl, _, rfl, ?_⟩⟩
  refine ite2 (fun _ => ?_) (fun _ => ?_)
  · refine ⟨_, rfl, z3 (by show 8 ≤ 20; decide), fun t ht => ?_⟩
    refine ⟨wl, t, lWr.map V.str, rfl, well_new w1 ht _, SqT.of upd_same, by decide, by decide, fun v H2 hv w2 e2 => ?_⟩
    obtain ⟨x, hx, rfl⟩ := strs_of hv
    exact q x H2 (lWr_ok x hx) w2 ((e1.trans (.new ht _)).trans e2)
  · refine ⟨_, rfl, wl, CAPS, rfl, w1, by decide, by decide, fun c H2 hc w2 e2 => ?_⟩
    have t2 : txtOk ⟨#[c]⟩ 1 := txt_one (by decide +kernel) hc
    refine ⟨_, rfl, z3 (by show 7 ≤ 20; decide), fun t ht => ?_⟩
    refine ⟨wl, t, ([0, 0, 1, 2, 3, 6, 7] : List Int).map V.int, rfl, well_new w2 ht _, SqT.of upd_same, by decide, by decide, fun v H3 hv w3 e3 => ?_⟩
    obtain ⟨n, hn, rfl⟩ := ints_of hv
    have hn' : 0 ≤ n ∧ n ≤ 7 := by
      simp only [List.mem_cons, List.not_mem_nil, or_false] at hn
      omega
    refine ⟨n, rfl, by omega, by omega, ?_⟩
    have e13 : But wl H H3 := ((e1.trans e2).trans (.new ht _)).trans e3
    refine for_range (lo := 0) (n := n.toNat) (fun i σ H' => ∃ (x : Str) (c0 : Option V), σ = [some (.ref wl), some (.str x), c0] ∧ txtOk x (1 + i) ∧ WellAt H' wl ∧ But wl H3 H') ⟨_, none, rfl, t2, w3, But.refl H3⟩ ?_ ?_
    · rintro i σ H4 hi ⟨x, c0, rfl, tx, w4, e4⟩
      refine ⟨_, rfl, _, rfl, wl, SMALLS, rfl, w4, by decide, by decide, fun c5 H5 hc5 w5 e5 => ?_⟩
      have t5 : txtOk ⟨#[c5]⟩ 1 := txt_one (by decide +kernel) hc5
      refine ⟨x, _, rfl, rfl, ?_, _, _, rfl, ?_, w5, e4.trans e5⟩
      · have := tx.2
        have := t5.2
        exact z3 (by omega)
      · exact txt_up (txt_app tx t5) (by omega)
    · rintro σ H4 ⟨x, c0, rfl, tx, w4, e4⟩
      exact ⟨_, rfl, q x H4 (txt_up tx (by omega)) w4 (e13.trans e4)⟩
end
end Toy
set_option Elab.async false
set_option linter.all false
set_option maxRecDepth 100000
set_option maxHeartbeats 2000000
namespace Toy
open PySem L2
abbrev sNear : Stmt := top 37
theorem cut_list (x : Str) (lo hi : Option Int) : (cutS x lo hi).cps.toList = (x.cps.toList.drop (HT.sIx x.length 0 lo)).take (HT.sIx x.length x.length hi - HT.sIx x.length 0 lo) := by
  unfold cutS
  rfl
theorem len_list (x : Str) : x.length = x.cps.toList.length := Array.length_toList.symm
theorem cut_ok {x : Str} (h : PyData.strOk x = true) (lo hi : Option Int) : PyData.strOk (cutS x lo hi) = true := by
  unfold PyData.strOk
  rw [← Array.all_toList]
  refine List.all_eq_true.mpr fun c m => decide_eq_true (ok_code h ?_)
  rw [cut_list] at m
  exact List.mem_of_mem_drop (List.mem_of_mem_take m)
theorem cut_to (x : Str) (i : Nat) : (cutS x none (some (i : Int))).length ≤ i ∧ (cutS x none (some (i : Int))).length ≤ x.length := by
  rw [len_list, cut_list, HT.sIx_none, HT.sIx_nat, List.length_take, List.length_drop, ← len_list]
  omega
theorem cut_from (x : Str) (i : Nat) : (cutS x (some (i : Int)) none).length ≤ x.length - i := by
  rw [len_list, cut_list, HT.sIx_none, HT.sIx_nat, List.length_take, List.length_drop, ← len_list]
  omega
theorem ticks_ok {n : Nat} {m : Nat} (h : n ≤ m) : txtOk ⟨(List.replicate n 39).toArray⟩ m := by
  refine ⟨?_, ?_⟩
  · unfold PyData.strOk
    rw [← Array.all_toList]
    refine List.all_eq_true.mpr fun c hc => decide_eq_true ?_
    have : c ∈ List.replicate n 39 := by simpa using hc
    rw [List.eq_of_mem_replicate this]
    decide
  · show (List.replicate n 39).toArray.size ≤ m
    rw [List.size_toArray, List.length_replicate]
    exact h
def spNear : Sp := fun vs H Q _ => ∃ (wl : Addr) (x : Str) (m : Nat), vs = [.ref wl, .str x] ∧ WellAt H wl ∧ txtOk x m ∧ 52 ≤ m ∧ m ≤ 80 ∧ ∀ (y : Str) (H' : Hp), txtOk y (m + 9) → WellAt H' wl → But wl H H' → Q (.str y) H'
structure Nmx (mg : Str → Option Value) : Prop where
  max : mg "max" = none
theorem quo_one : (V.str "'") = .str ⟨#[39]⟩ := by
  have : ("'" : Str) = ⟨#[39]⟩ := by decide +kernel
  rw [← this]
section
variable {P : Program} {w : World} {K : PySem.W.Frag} {mg : Str → Option Value} {base : Heap}
theorem scLg : FnScope ["well", "made", "turn"] ["well"] (defScope sLong) := ⟨rfl, rfl, rfl, by decide +kernel, rfl, by decide +kernel, by decide +kernel⟩
theorem ok_long {f gD gP gW : Addr} {fd dD dP dW : FuncData} (F : Fun K "_law_long_name" "_law_long_name" sLong f fd) (T : Nm mg) (R : Nr mg) (D : Gv P w K mg base 1 "_law_draw" gD dD ["well", "many"] spDraw) (PT' : Gv P w K mg base 2 "_law_pick" gP dP ["well", "some"] (spPick K)) (W : Gv P w K mg base 3 "_law_written" gW dW ["well"] (spTxt 8)) : FnOk P w K mg base CX0 4 f fd ["well"] (spTxt 60) := by
  refine F.ok scLg (fun vs H Q E h => ?_) (fun cdv A outer s H vs Q E hr h => ?_)
  · obtain ⟨wl, rfl, _⟩ := h
    rfl
  obtain ⟨wl, rfl, hw, q⟩ := h
  have hr1 : Room 1 (A.deeper _) := hr.mono (by omega)
  have hr2 : Room 2 (A.deeper _) := hr.mono (by omega)
  refine ⟨_, pss_cons (ps_set (i := 1) scLg.nd rfl (.inl rfl) (pe_call W.ok hr rfl W.m W.k W.b .nil pass0 (pa_cons (pv 0) pa_nil)))
    (pss_cons (ps_for PassesOwn.never rfl (pi_range1 (by rfl) R.range (pa_cons (pe_call PT'.ok hr2 rfl PT'.m PT'.k PT'.b .nil pass0 (pa_cons (pv 0) (pa_cons (pe_tup (pa_cons pe_int (pa_cons pe_int (pa_cons pe_int (pa_cons pe_int (pa_cons pe_int (pa_cons pe_int pa_nil))))))) pa_nil))) pa_nil)) (pg_name (i := 2) scLg.nd rfl (.inl rfl))
      (pss_one (ps_set (i := 1) scLg.nd rfl (.inl rfl) (pe_op op_add_str (pe_op op_add_str (pv 1) pe_str) (pe_ifExp (pt_cmpR op_eq (pe_call D.ok hr1 rfl D.m D.k D.b .nil pass0 (pa_cons (pv 0) (pa_cons pe_int pa_nil))) pe_int (nomark _)) (pe_call W.ok hr rfl W.m W.k W.b .nil pass0 (pa_cons (pv 0) pa_nil)) pe_str)))))
    (pss_one (ps_ret (pe_ifExp (PW.pt (pw_and (pt_cmpR op_eq (pe_call D.ok hr1 rfl D.m D.k D.b .nil pass0 (pa_cons (pv 0) (pa_cons pe_int pa_nil))) pe_int (nomark _)) (pw_and1 (pt_cmpR op_lt (pe_callB call_len_str rfl T.len PySem.boot_len (pa_cons (pv 1) pa_nil)) pe_int (nomark _)))))
      (pe_op op_add_str (pv 1) (pe_op op_mulS pe_str (pe_op op_sub pe_int (pe_callB call_len_str rfl T.len PySem.boot_len (pa_cons (pv 1) pa_nil))))) (pv 1))))), ?_⟩
  have z3 : ∀ {k : Nat}, k ≤ 200 → k ≤ sizeLine := fun h => Nat.le_trans h (by decide)
  refine ⟨_, rfl, wl, rfl, hw, fun x0 H1 t0 w1 e1 => ?_⟩
  refine ⟨_, rfl, z3 (by show 6 ≤ 200; decide), fun t ht => ?_⟩
  refine ⟨wl, t, ([0, 0, 1, 1, 2, 4] : List Int).map V.int, rfl, well_new w1 ht _, SqT.of upd_same, by decide, by decide, fun v H3 hv w3 e3 => ?_⟩
  obtain ⟨n, hn, rfl⟩ := ints_of hv
  have hn' : 0 ≤ n ∧ n ≤ 4 := by
    simp only [List.mem_cons, List.not_mem_nil, or_false] at hn
    omega
  refine ⟨n, rfl, by omega, by omega, ?_⟩
  have e13 : But wl H H3 := (e1.trans (.new ht _)).trans e3
  refine for_range (lo := 0) (n := n.toNat) (fun i σ H' => ∃ (x : Str) (c0 : Option V), σ = [some (.ref wl), some (.str x), c0] ∧ txtOk x (8 + 9 * i) ∧ WellAt H' wl ∧ But wl H3 H') ⟨_, none, rfl, t0, w3, But.refl H3⟩ ?_ ?_
  · rintro i σ H4 hi ⟨x, c0, rfl, tx, w4, e4⟩
    have hi' : i < 4 := by omega
    have tq : txtOk "'" 1 := ⟨by decide +kernel, by decide +kernel⟩
    have l1 := tx.2
    have lq := tq.2
    refine ⟨_, rfl, x, _, rfl, rfl, z3 (by omega), ?_⟩
    have tx1 := txt_app tx tq
    have l2 := tx1.2
    refine ⟨_, rfl, wl, 2, rfl, by decide, by decide, w4, fun d5 H5 _ _ w5 e5 => ⟨rfl, _, rfl, ?_⟩⟩
    refine ite2 (fun _ => ?_) (fun _ => ?_)
    · refine ⟨_, rfl, wl, rfl, w5, fun y H6 ty w6 e6 => ⟨_, _, rfl, rfl, z3 (by have := ty.2; omega), _, _, rfl, txt_up (txt_app tx1 ty) (by omega), w6, (e4.trans e5).trans e6⟩⟩
    · have te : txtOk "" 0 := ⟨by decide +kernel, by decide +kernel⟩
      exact ⟨_, _, rfl, rfl, z3 (by have := te.2; omega), _, _, rfl, txt_up (txt_app tx1 te) (by omega), w5, e4.trans e5⟩
  · rintro σ H4 ⟨x, c0, rfl, tx, w4, e4⟩
    have l1 := tx.2
    have e14 := e13.trans e4
    refine ⟨_, rfl, wl, 9, rfl, by decide, by decide, w4, fun d5 H5 _ _ w5 e5 => ⟨rfl, _, rfl, ?_⟩⟩
    have fin : Q (.str x) H5 := q x H5 (txt_up tx (by omega)) w5 (e14.trans e5)
    refine ite2 (fun _ => ?_) (fun _ => ?_)
    · refine ⟨_, rfl, _, rfl, z3 (by omega), _, _, rfl, rfl, _, rfl, ?_⟩
      refine ite2 (fun g => ?_) (fun _ => ⟨_, rfl, fin⟩)
      refine ⟨_, rfl, _, rfl, _, rfl, z3 (by omega), _, _, rfl, rfl, 39, _, quo_one, rfl, by omega, by omega, ?_⟩
      have tk : txtOk ⟨(List.replicate ((60 : Int) - (x.length : Nat)).toNat 39).toArray⟩ (60 - x.length) := ticks_ok (by omega)
      have l3 := tk.2
      exact ⟨x, _, rfl, rfl, z3 (by omega), q _ H5 ⟨(txt_app tx tk).1, by rw [strLen_append]; omega⟩ w5 (e14.trans e5)⟩
    · exact iteF ⟨_, rfl, fin⟩
end
end Toy
set_option Elab.async false
set_option linter.all false
set_option maxRecDepth 100000
set_option maxHeartbeats 2000000
namespace Toy
open PySem L2
theorem cut_toI (x : Str) {i : Int} (h : 0 ≤ i) : (cutS x none (some i)).length ≤ i.toNat ∧ (cutS x none (some i)).length ≤ x.length := by
  obtain ⟨n, rfl⟩ : ∃ n : Nat, i = n := ⟨i.toNat, by omega⟩
  exact cut_to x n
theorem cut_fromI (x : Str) {i : Int} (h : 0 ≤ i) : (cutS x (some i) none).length ≤ x.length - i.toNat := by
  obtain ⟨n, rfl⟩ : ∃ n : Nat, i = n := ⟨i.toNat, by omega⟩
  exact cut_from x n
section
variable {P : Program} {w : World} {K : PySem.W.Frag} {mg : Str → Option Value} {base : Heap}
theorem scNe : FnScope ["well", "name", "at", "way", "sign"] ["well", "name"] (defScope sNear) := ⟨rfl, rfl, rfl, by decide +kernel, rfl, by decide +kernel, by decide +kernel⟩
theorem ok_near {f gD gP : Addr} {fd dD dP : FuncData} (F : Fun K "_law_near_name" "_law_near_name" sNear f fd) (T : Nm mg) (M : Nmx mg) (D : Gv P w K mg base 1 "_law_draw" gD dD ["well", "many"] spDraw) (PS' : Gv P w K mg base 2 "_law_pick" gP dP ["well", "some"] spPickS) : FnOk P w K mg base CX0 3 f fd ["well", "name"] spNear := by
  refine F.ok scNe (fun vs H Q E h => ?_) (fun cdv A outer s H vs Q E hr h => ?_)
  · obtain ⟨wl, x, m, rfl, _⟩ := h
    rfl
  obtain ⟨wl, x, m, rfl, hw, tx, m1, m2, q⟩ := h
  have hr1 : Room 1 (A.deeper _) := hr.mono (by omega)
  refine ⟨_, pss_cons (ps_par (i := 2) (j := 3) rfl scNe.nd rfl rfl (by decide) rfl rfl (pa_cons (pe_call D.ok hr1 rfl D.m D.k D.b .nil pass0 (pa_cons (pv 0) (pa_cons (pe_op op_add (pe_callB call_len_str rfl T.len PySem.boot_len (pa_cons (pv 1) pa_nil)) pe_int) pa_nil))) (pa_cons (pe_call D.ok hr1 rfl D.m D.k D.b .nil pass0 (pa_cons (pv 0) (pa_cons pe_int pa_nil))) pa_nil)) rfl)
    (pss_cons (ps_set (i := 4) scNe.nd rfl (.inl rfl) (pe_call PS'.ok hr rfl PS'.m PS'.k PS'.b .nil pass0 (pa_cons (pv 0) (pa_cons pe_str pa_nil))))
    (pss_cons (ps_if (pt_cmpR op_eq (pv 3) pe_int (nomark _)) (pss_one (ps_ret (pe_op op_add_str (pe_slice sl_str (pv 1) po_none (po_some (pv 2))) (pe_slice sl_str (pv 1) (po_some (pe_op op_add (pv 2) pe_int)) po_none)))) pss_nil)
    (pss_cons (ps_if (pt_cmpR op_lt (pv 3) pe_int (nomark _)) (pss_one (ps_ret (pe_op op_add_str (pe_op op_add_str (pe_slice sl_str (pv 1) po_none (po_some (pv 2))) (pv 4)) (pe_slice sl_str (pv 1) (po_some (pv 2)) po_none)))) pss_nil)
    (pss_cons (ps_if (pt_cmpR op_lt (pv 3) pe_int (nomark _)) (pss_one (ps_ret (pe_op op_add_str (pe_op op_add_str (pe_slice sl_str (pv 1) po_none (po_some (pv 2))) (pv 4)) (pe_slice sl_str (pv 1) (po_some (pe_op op_add (pv 2) pe_int)) po_none)))) pss_nil)
    (pss_cons (ps_if (pt_cmpR op_eq (pv 3) pe_int (nomark _)) (pss_one (ps_ret (pe_op op_add_str (pv 1) (pe_op op_mulS pe_str (pe_callB (call_max2 rfl) rfl M.max (by decide +kernel) (pa_cons pe_int (pa_cons (pe_op op_sub pe_int (pe_callB call_len_str rfl T.len PySem.boot_len (pa_cons (pv 1) pa_nil))) pa_nil))))))) pss_nil)
    (pss_one (ps_ret (pe_op op_add_str (pv 1) (pe_slice sl_str pe_str po_none (po_some (pe_call D.ok hr1 rfl D.m D.k D.b .nil pass0 (pa_cons (pv 0) (pa_cons pe_int pa_nil))))))))))))), ?_⟩
  have z3 : ∀ {k : Nat}, k ≤ 400 → k ≤ sizeLine := fun h => Nat.le_trans h (by decide)
  have lx := tx.2
  refine ⟨_, rfl, _, rfl, _, rfl, z3 (by omega), _, _, rfl, rfl, wl, _, rfl, by omega, by omega, hw, fun a H1 a0 a1 w1 e1 => ?_⟩
  refine ⟨_, rfl, wl, 8, rfl, by decide, by decide, w1, fun way H2 y0 y1 w2 e2 => ⟨_, _, rfl, ?_⟩⟩
  refine ⟨_, rfl, wl, "AZaz09'_ -.bR", rfl, w2, by decide +kernel, by decide +kernel, fun c H3 hc w3 e3 => ?_⟩
  have e13 := (e1.trans e2).trans e3
  have ts : txtOk ⟨#[c]⟩ 1 := txt_one (by decide +kernel) hc
  have ls := ts.2
  have c1 := cut_toI x a0
  have c2 := cut_fromI x a0
  have c3 := cut_fromI x (i := a + 1) (by omega)
  have k1 : ∀ lo hi, PyData.strOk (cutS x lo hi) = true := fun lo hi => cut_ok tx.1 lo hi
  refine ⟨_, rfl, rfl, _, rfl, ?_⟩
  refine ite2 (fun _ => ?_) (fun _ => ?_)
  · refine ⟨_, rfl, _, rfl, a, rfl, x, rfl, z3 (by omega), _, rfl, _, rfl, _, _, rfl, rfl, a + 1, rfl, x, rfl, z3 (by omega), _, _, rfl, rfl, z3 (by omega), ?_⟩
    exact q _ H3 ⟨strOk_app (k1 _ _) (k1 _ _), by rw [strLen_append]; omega⟩ w3 e13
  refine ⟨_, rfl, _, _, rfl, rfl, _, rfl, ?_⟩
  refine ite2 (fun _ => ?_) (fun _ => ?_)
  · refine ⟨_, rfl, _, rfl, a, rfl, x, rfl, z3 (by omega), _, rfl, _, _, rfl, rfl, z3 (by omega), ?_⟩
    refine ⟨_, rfl, _, rfl, a, rfl, x, rfl, z3 (by omega), _, _, rfl, rfl, z3 (by rw [strLen_append]; omega), ?_⟩
    exact q _ H3 ⟨strOk_app (strOk_app (k1 _ _) ts.1) (k1 _ _), by rw [strLen_append, strLen_append]; omega⟩ w3 e13
  refine ⟨_, rfl, _, _, rfl, rfl, _, rfl, ?_⟩
  refine ite2 (fun _ => ?_) (fun _ => ?_)
  · refine ⟨_, rfl, _, rfl, a, rfl, x, rfl, z3 (by omega), _, rfl, _, _, rfl, rfl, z3 (by omega), ?_⟩
    refine ⟨_, rfl, _, rfl, _, _, rfl, rfl, a + 1, rfl, x, rfl, z3 (by omega), _, _, rfl, rfl, z3 (by rw [strLen_append]; omega), ?_⟩
    exact q _ H3 ⟨strOk_app (strOk_app (k1 _ _) ts.1) (k1 _ _), by rw [strLen_append, strLen_append]; omega⟩ w3 e13
  refine ⟨_, rfl, rfl, _, rfl, ?_⟩
  refine ite2 (fun _ => ?_) (fun _ => ?_)
  · refine ⟨_, rfl, _, rfl, _, rfl, z3 (by omega), _, _, rfl, rfl, _, _, rfl, ?_⟩
    have hn : ∃ n : Nat, n ≤ 61 ∧ n ≤ 61 - min x.length 60 ∧ (if (61 : Int) - (x.length : Nat) > 1 then (61 : Int) - (x.length : Nat) else 1) = n := by
      by_cases g : (61 : Int) - (x.length : Nat) > 1
      · rw [if_pos g]; exact ⟨61 - x.length, by omega, by omega, by omega⟩
      · rw [if_neg g]; exact ⟨1, by omega, by omega, rfl⟩
    obtain ⟨n, n1, n2, en⟩ := hn
    rw [en]
    have tk : txtOk ⟨(List.replicate ((n : Int)).toNat 39).toArray⟩ n := ticks_ok (by omega)
    have lk := tk.2
    refine ⟨39, n, quo_one, rfl, by omega, by omega, x, _, rfl, rfl, z3 (by omega), ?_⟩
    exact q _ H3 ⟨strOk_app tx.1 tk.1, by rw [strLen_append]; omega⟩ w3 e13
  · have tb : txtOk "abcdefgh" 8 := ⟨by decide +kernel, by decide +kernel⟩
    have lb := tb.2
    refine ⟨_, rfl, _, rfl, wl, 9, rfl, by decide, by decide, w3, fun b H4 b0 b1 w4 e4 => ?_⟩
    have c4 := cut_toI "abcdefgh" b0
    refine ⟨b, rfl, "abcdefgh", rfl, z3 (by omega), x, _, rfl, rfl, z3 (by omega), ?_⟩
    exact q _ H4 ⟨strOk_app tx.1 (cut_ok tb.1 _ _), by rw [strLen_append]; omega⟩ w4 (e13.trans e4)
end
end Toy
set_option Elab.async false
set_option linter.all false
set_option maxRecDepth 100000
set_option maxHeartbeats 2000000
namespace Toy
open PySem L2
abbrev sKind : Stmt := top 28
def oddB (d : PyData) : Bool := gdB 0 d && (decide (d.weight ≤ 100) && decide (d.depth ≤ 5))
theorem odds_ok : dOdd.all oddB = true := by decide +kernel
theorem odd_gd {d : PyData} (h : d ∈ dOdd) : Gd d 0 100 5 := by
  have z := List.all_eq_true.mp odds_ok d h
  unfold oddB at z
  simp only [Bool.and_eq_true, decide_eq_true_eq] at z
  exact ⟨z.1, z.2.1, z.2.2⟩
/-- what a drawing tells: data within a greater G -/
def Drawn (K : PySem.W.Frag) (wl : Addr) (G H : Hp) (j w k : Nat) (Q : VK) : Prop := ∀ (v : V) (H' G' : Hp) (d : PyData), Gr wl G H G' H' → Dq K G' v d → Gd d j w k → Q v H'
def spOddG (K : PySem.W.Frag) : Sp := fun vs H Q _ => ∃ (wl : Addr) (G : Hp), vs = [.ref wl] ∧ Stt wl G H ∧ Drawn K wl G H 0 100 5 Q
theorem oddG {K : PySem.W.Frag} {vs : List V} {H : Hp} {Q : VK} {E : XK} (h : spOddG K vs H Q E) : spOdd K vs H Q E := by
  obtain ⟨wl, G, rfl, s, q⟩ := h
  refine ⟨wl, rfl, s.well, fun v H' d hd D w e => ?_⟩
  exact q v H' _ d (Gr.join s w e) (Dq.mono (join_new s.sub) _ _ D) (odd_gd hd)
theorem Gr.tup {K : PySem.W.Frag} {wl p : Addr} {G H : Hp} {vs : List V} {ds : List PyData} (s : Stt wl G H) (hp : H p = none) (A : DqAll K G vs ds) : Gr wl G H (upd G p (.tup vs)) (upd H p (.tup vs)) ∧ Dq K (upd G p (.tup vs)) (.ref p) (.tuple ds) :=
  ⟨Gr.new s hp _, .tup (SqT.of upd_same) (DqAll.mono (same_new (s.sub.free hp) _) _ _ A)⟩
theorem Gr.lis {K : PySem.W.Frag} {wl p : Addr} {G H : Hp} {vs : List V} {ds : List PyData} (s : Stt wl G H) (hp : H p = none) (A : DqAll K G vs ds) : Gr wl G H (upd G p (.lst vs)) (upd H p (.lst vs)) ∧ Dq K (upd G p (.lst vs)) (.ref p) (.list ds) :=
  ⟨Gr.new s hp _, .lst (SqL.of upd_same) (DqAll.mono (same_new (s.sub.free hp) _) _ _ A)⟩
theorem gd_str {x : Str} {n j : Nat} (h : txtOk x n) (hn : n ≤ 100 + j) : Gd (.str x) j n 0 := by
  refine ⟨?_, ?_, ?_⟩
  · show (PyData.strOk x && decide (x.length ≤ 100 + j)) = true
    rw [Bool.and_eq_true, decide_eq_true_eq]
    exact ⟨h.1, Nat.le_trans h.2 hn⟩
  · simp only [PyData.weight]; exact h.2
  · simp only [PyData.depth]; exact Nat.le_refl 0
def wk : Nat → Nat
  | 0 => 66
  | 1 => 66
  | n + 2 => 2 * wk (n + 1) + 9
theorem wk_low : ∀ n : Nat, 66 ≤ wk n
  | 0 => Nat.le_refl _
  | 1 => Nat.le_refl _
  | n + 2 => by
    have := wk_low (n + 1)
    show 66 ≤ 2 * wk (n + 1) + 9
    omega
def spKi (K : PySem.W.Frag) (n : Nat) : Sp := fun vs H Q _ => ∃ (wl l : Addr) (G : Hp) (xs : List Str), vs = [.ref wl, .ref l, .int (n : Nat)] ∧ Stt wl G H ∧ H l = some (.lst (xs.map V.str)) ∧ l ≠ wl ∧ 1 ≤ xs.length ∧ xs.length ≤ 1000 ∧ (∀ x ∈ xs, txtOk x 60) ∧ 1 ≤ n ∧ Drawn K wl G H 0 (wk n) n Q
theorem word_ok {l : List Str} (h : l.all (fun x => PyData.strOk x && decide (x.length ≤ 8)) = true) {x : Str} (m : x ∈ l) : txtOk x 8 := by
  have := List.all_eq_true.mp h x m
  rw [Bool.and_eq_true, decide_eq_true_eq] at this
  exact this
section
variable {P : Program} {w : World} {K : PySem.W.Frag} {mg : Str → Option Value} {base : Heap}
theorem scKi : FnScope ["well", "names", "deep", "branch", "one"] ["well", "names", "deep"] (defScope sKind) := ⟨rfl, rfl, rfl, by decide +kernel, rfl, by decide +kernel, by decide +kernel⟩
theorem ok_kind {f gD gP : Addr} {fd dD dP : FuncData} {n k : Nat} {sp' : Sp} (hk : 2 ≤ k) (F : Fun K "_law_kind" "_law_kind" sKind f fd) (T : Nm mg) (D : Gv P w K mg base 1 "_law_draw" gD dD ["well", "many"] spDraw) (PT' : Gv P w K mg base 2 "_law_pick" gP dP ["well", "some"] (spPick K)) (PL : FnOk P w K mg base CX0 2 gP dP ["well", "some"] (spPickL K))
    (R : Gv P w K mg base k "_law_kind" f fd ["well", "names", "deep"] sp') (hR : 2 ≤ n → sp' = spKi K (n - 1)) : FnOk P w K mg base CX0 (k + 1) f fd ["well", "names", "deep"] (spKi K n) := by
  refine F.ok scKi (fun vs H Q E h => ?_) (fun cdv A outer s H vs Q E hr h => ?_)
  · obtain ⟨wl, l, G, xs, rfl, _⟩ := h
    rfl
  obtain ⟨wl, l, G, xs, rfl, st, hl, nl, h1x, hz, hx, hn, q⟩ := h
  have hr1 : Room 1 (A.deeper _) := hr.mono (by omega)
  have hr2 : Room 2 (A.deeper _) := hr.mono hk
  refine ⟨_, pss_cons (ps_set (i := 3) scKi.nd rfl (.inl rfl) (pe_ifExp (pt_cmpR op_gt (pv 2) pe_int (nomark _)) (pe_call D.ok hr1 rfl D.m D.k D.b .nil pass0 (pa_cons (pv 0) (pa_cons pe_int pa_nil))) (pe_call D.ok hr1 rfl D.m D.k D.b .nil pass0 (pa_cons (pv 0) (pa_cons pe_int pa_nil)))))
    (pss_cons (ps_if (PW.pt (pw_and (pt_cmpR op_lt (pv 3) pe_int (nomark _)) (pw_and1 (pt_cmpR op_gt (pe_callB call_len_seq rfl T.len PySem.boot_len (pa_cons (pv 1) pa_nil)) pe_int (nomark _)))))
      (pss_one (ps_ret (pe_tup (pa_cons pe_str (pa_cons (pe_call PL hr2 rfl PT'.m PT'.k PT'.b .nil pass0 (pa_cons (pv 0) (pa_cons (pv 1) pa_nil))) pa_nil))))) pss_nil)
    (pss_cons (ps_if (pt_cmpR op_lt (pv 3) pe_int (nomark _)) (pss_one (ps_ret (pe_tup (pa_cons (pe_ifExp (pt_cmpR op_eq (pv 3) pe_int (nomark _)) (pe_call PT'.ok hr2 rfl PT'.m PT'.k PT'.b .nil pass0 (pa_cons (pv 0) (pa_cons (pe_tup (pa_cons pe_str (pa_cons pe_str (pa_cons pe_str (pa_cons pe_str pa_nil))))) pa_nil))) pe_str) pa_nil)))) pss_nil)
    (pss_cons (ps_set (i := 4) scKi.nd rfl (.inl rfl) (pe_call R.ok hr rfl R.m R.k R.b .nil pass0 (pa_cons (pv 0) (pa_cons (pv 1) (pa_cons (pe_op op_sub (pv 2) pe_int) pa_nil)))))
    (pss_one (ps_ret (pe_tup (pa_cons (pe_ifExp (pt_cmpR op_lt (pv 3) pe_int (nomark _)) pe_str pe_str) (pa_cons (pv 4) (pa_cons (pe_call R.ok hr rfl R.m R.k R.b .nil pass0 (pa_cons (pv 0) (pa_cons (pv 1) (pa_cons (pe_op op_sub (pv 2) pe_int) pa_nil)))) pa_nil))))))))), ?_⟩
  have z3 : ∀ {k : Nat}, k ≤ 20 → k ≤ sizeLine := fun h => Nat.le_trans h (by decide)
  refine ⟨_, rfl, _, _, rfl, rfl, _, rfl, ?_⟩
  refine ite2 (fun g => ⟨_, rfl, wl, 11, rfl, by decide, by decide, st.well, fun br H1 b0 b1 w1 e1 => ?a⟩) (fun g => ⟨_, rfl, wl, 5, rfl, by decide, by decide, st.well, fun br H1 b0 b1 w1 e1 => ?b⟩)
  case' a => have hb : br < 5 ∨ 2 ≤ n := .inr (by have : (n : Int) > 1 := of_decide_eq_true g; omega)
  case' b => have hb : br < 5 ∨ 2 ≤ n := .inl b1
  all_goals clear g b1
  all_goals
    have g1 := Gr.stay st w1 e1
    have st1 := g1.stt st
    have hl1 : H1 l = some (.lst (xs.map V.str)) := e1 l _ nl hl
    have tl : ∀ (x : Str) {m : Nat}, txtOk x m → m ≤ 60 → Gd (.tuple [.str "name", .str x]) 0 (wk n) n := fun x m hx hm => by
      have l4 : ("name" : Str).cps.size = 4 := by decide +kernel
      have lx : x.cps.size ≤ m := hx.2
      refine ⟨?_, ?_, ?_⟩
      · show (gdB 0 (.str "name") && (gdB 0 (.str x) && true)) = true
        rw [show gdB 0 (.str "name") = true by decide +kernel, (gd_str hx (j := 0) (by omega)).g]
        rfl
      · have := wk_low n
        simp only [PyData.weight, PyData.weightAll]
        omega
      · simp only [PyData.depth, PyData.depthAll]
        omega
    have tw : ∀ {x : Str}, txtOk x 8 → Gd (.tuple [.str x]) 0 (wk n) n := fun {x} hx => by
      have lx : x.cps.size ≤ 8 := hx.2
      refine ⟨?_, ?_, ?_⟩
      · show (gdB 0 (.str x) && true) = true
        rw [(gd_str hx (j := 0) (by omega)).g]
        rfl
      · have := wk_low n
        simp only [PyData.weight, PyData.weightAll]
        omega
      · simp only [PyData.depth, PyData.depthAll]
        omega
    refine ⟨_, rfl, _, _, rfl, rfl, _, rfl, ?_⟩
    refine ite2 (fun g => ?_) (fun g => iteF ?_)
    · refine ⟨_, rfl, l, _, rfl, .inl (SqL.of hl1), _, _, rfl, rfl, _, rfl, ?_⟩
      refine ite2 (fun _ => ?_) (fun g2 => absurd (decide_eq_true (show ((xs.map V.str).length : Int) > 0 by rw [List.length_map]; omega)) g2)
      refine ⟨_, rfl, _, rfl, wl, l, xs.map V.str, rfl, w1, SqL.of hl1, nl, by rw [List.length_map]; omega, by rw [List.length_map]; omega, fun v H2 hv w2 e2 => ⟨z3 (by show 2 ≤ 20; decide), fun p hp => ?_⟩⟩
      obtain ⟨x, mx, rfl⟩ := strs_of hv
      have gg := Gr.stay st1 w2 e2
      obtain ⟨g3, D3⟩ := Gr.tup (K := K) (vs := [.str "name", .str x]) (ds := [.str "name", .str x]) (gg.stt st1) hp (.cons (.str _) (.cons (.str _) .nil))
      exact q _ _ _ _ ((g1.trans gg).trans g3) D3 (tl x (hx x mx) (Nat.le_refl _))
    clear g
    refine ⟨_, rfl, _, _, rfl, rfl, _, rfl, ?_⟩
    refine ite2 (fun g => ?_) (fun g => ?_)
    · refine ⟨_, rfl, rfl, _, rfl, ?_⟩
      refine ite2 (fun _ => ?_) (fun _ => ?_)
      · refine ⟨_, rfl, z3 (by show 4 ≤ 20; decide), fun t ht => ⟨wl, t, (["unit", "unit", "unit", "none"] : List Str).map V.str, rfl, well_new w1 ht _, SqT.of upd_same, by decide, by decide, fun v H2 hv w2 e2 => ⟨z3 (by show 1 ≤ 20; decide), fun p hp => ?_⟩⟩⟩
        obtain ⟨x, mx, rfl⟩ := strs_of hv
        have gg := Gr.stay st1 w2 ((But.new ht _).trans e2)
        obtain ⟨g3, D3⟩ := Gr.tup (K := K) (vs := [.str x]) (ds := [.str x]) (gg.stt st1) hp (.cons (.str _) .nil)
        exact q _ _ _ _ ((g1.trans gg).trans g3) D3 (tw (word_ok (by decide +kernel) mx))
      · refine ⟨z3 (by show 1 ≤ 20; decide), fun p hp => ?_⟩
        obtain ⟨g3, D3⟩ := Gr.tup (K := K) (vs := [.str "thing"]) (ds := [.str "thing"]) st1 hp (.cons (.str _) .nil)
        exact q _ _ _ _ (g1.trans g3) D3 (tw ⟨by decide +kernel, by decide +kernel⟩)
    · have g' : ¬ br < 5 := of_decide_eq_false (Bool.eq_false_iff.mpr g)
      have n2 : 2 ≤ n := by omega
      obtain rfl := hR n2
      have en : (V.int ((n : Nat) - 1 : Int)) = .int ((n - 1 : Nat) : Int) := by
        congr 1
        omega
      refine ⟨_, rfl, _, rfl, _, rfl, _, _, rfl, rfl, wl, l, G, xs, (by show [V.ref wl, V.ref l, V.int ((n : Nat) - 1 : Int)] = _; rw [en]), st1, hl1, nl, h1x, hz, hx, by omega, fun v2 H2 G2 d2 g2 D2 k2 => ?_⟩
      have st2 := g2.stt st1
      have hl2 := g2.lst nl hl1
      refine ⟨_, rfl, _, _, rfl, rfl, _, rfl, ?_⟩
      have fin : ∀ (word : Str), txtOk word 8 → word.cps.size ≤ 6 → ∀ (v3 : V) (H3 G3 : Hp) (d3 : PyData), Gr wl G2 H2 G3 H3 → Dq K G3 v3 d3 → Gd d3 0 (wk (n - 1)) (n - 1) → ∀ p, H3 p = none → Q (.ref p) (upd H3 p (.tup [.str word, v2, v3])) := fun word tw' lw v3 H3 G3 d3 g3 D3 k3 p hp => by
        obtain ⟨g4, D4⟩ := Gr.tup (K := K) (vs := [.str word, v2, v3]) (ds := [.str word, d2, d3]) (g3.stt st2) hp (.cons (.str _) (.cons (g3.dq D2) (.cons D3 .nil)))
        refine q _ _ _ _ (((g1.trans g2).trans g3).trans g4) D4 ⟨?_, ?_, ?_⟩
        · show (gdB 0 (.str word) && (gdB 0 d2 && (gdB 0 d3 && true))) = true
          rw [(gd_str tw' (j := 0) (by omega)).g, k2.g, k3.g]
          rfl
        · have e : wk n = 2 * wk (n - 1) + 9 := by
            obtain ⟨m, rfl⟩ : ∃ m, n = m + 2 := ⟨n - 2, by omega⟩
            rfl
          have a := k2.w
          have b := k3.w
          simp only [PyData.weight, PyData.weightAll]
          omega
        · have a := k2.k
          have b := k3.k
          simp only [PyData.depth, PyData.depthAll]
          omega
      refine ite2 (fun _ => ?_) (fun _ => ?_)
      · exact ⟨_, rfl, _, rfl, _, rfl, _, rfl, _, _, rfl, rfl, wl, l, G2, xs, (by show [V.ref wl, V.ref l, V.int ((n : Nat) - 1 : Int)] = _; rw [en]), st2, hl2, nl, h1x, hz, hx, by omega, fun v3 H3 G3 d3 g3 D3 k3 => ⟨z3 (by show 3 ≤ 20; decide), fun p hp => fin "pair" ⟨by decide +kernel, by decide +kernel⟩ (by decide +kernel) v3 H3 G3 d3 g3 D3 k3 p hp⟩⟩
      · exact ⟨_, rfl, _, rfl, _, rfl, _, rfl, _, _, rfl, rfl, wl, l, G2, xs, (by show [V.ref wl, V.ref l, V.int ((n : Nat) - 1 : Int)] = _; rw [en]), st2, hl2, nl, h1x, hz, hx, by omega, fun v3 H3 G3 d3 g3 D3 k3 => ⟨z3 (by show 3 ≤ 20; decide), fun p hp => fin "either" ⟨by decide +kernel, by decide +kernel⟩ (by decide +kernel) v3 H3 G3 d3 g3 D3 k3 p hp⟩⟩
theorem none_leftK {f : Addr} {fd : FuncData} {k : Nat} : FnOk P w K mg base CX0 k f fd ["well", "names", "deep"] (fun _ _ _ _ => False) := ⟨fun _ _ _ _ h => h.elim, fun _ _ _ _ _ _ _ _ _ _ _ _ _ h => h.elim⟩
theorem kindsG {f gD gP : Addr} {fd dD dP : FuncData} (F : Fun K "_law_kind" "_law_kind" sKind f fd) (bF : Binds K fd ["well", "names", "deep"] []) (mF : mg "_law_kind" = some (.ref f)) (T : Nm mg) (D : Gv P w K mg base 1 "_law_draw" gD dD ["well", "many"] spDraw) (PT' : Gv P w K mg base 2 "_law_pick" gP dP ["well", "some"] (spPick K)) (PL : FnOk P w K mg base CX0 2 gP dP ["well", "some"] (spPickL K)) :
    ∀ n : Nat, Gv P w K mg base (3 + n) "_law_kind" f fd ["well", "names", "deep"] (spKi K n)
  | 0 => ⟨ok_kind (n := 0) (Nat.le_refl 2) F T D PT' PL ⟨none_leftK, bF, F.kp, mF⟩ (fun h => absurd h (by decide)), bF, F.kp, mF⟩
  | n + 1 => ⟨ok_kind (n := n + 1) (k := 3 + n) (by omega) F T D PT' PL (kindsG F bF mF T D PT' PL n) (fun _ => rfl), bF, F.kp, mF⟩
end
end Toy
set_option Elab.async false
set_option linter.all false
set_option maxRecDepth 100000
set_option maxHeartbeats 2000000
namespace Toy
open PySem L2
abbrev sTower : Stmt := top 38
def spTow (K : PySem.W.Frag) : Sp := fun vs H Q _ => ∃ (wl : Addr) (G : Hp), vs = [.ref wl] ∧ Stt wl G H ∧ Drawn K wl G H 0 80000 91 Q
theorem gd_row {K : PySem.W.Frag} {word : Str} {a b : PyData} {j w1 w2 k : Nat} (tw : txtOk word 8) (ga : Gd a j w1 k) (gb : Gd b j w2 k) : Gd (.tuple [.str word, a, b]) j (w1 + w2 + 11) (k + 1) := by
  have lw : word.cps.size ≤ 8 := tw.2
  refine ⟨?_, ?_, ?_⟩
  · show (gdB j (.str word) && (gdB j a && (gdB j b && true))) = true
    rw [(gd_str tw (j := j) (by omega)).g, ga.g, gb.g]
    rfl
  · have x := ga.w
    have y := gb.w
    simp only [PyData.weight, PyData.weightAll]
    omega
  · have x := ga.k
    have y := gb.k
    simp only [PyData.depth, PyData.depthAll]
    omega
section
variable {P : Program} {w : World} {K : PySem.W.Frag} {mg : Str → Option Value} {base : Heap}
theorem scTw : FnScope ["well", "kind", "part", "word", "turn"] ["well"] (defScope sTower) := ⟨rfl, rfl, rfl, by decide +kernel, rfl, by decide +kernel, by decide +kernel⟩
theorem txt_lit {x : Str} {n : Nat} (h : (PyData.strOk x && decide (x.length ≤ n)) = true) : txtOk x n := by
  rw [Bool.and_eq_true, decide_eq_true_eq] at h
  exact h
theorem ok_tower {f gL gK gP : Addr} {fd dL dK dP : FuncData} (F : Fun K "_law_tower" "_law_tower" sTower f fd) (T : Nm mg) (R : Nr mg) (LN : Gv P w K mg base 4 "_law_long_name" gL dL ["well"] (spTxt 60)) (K1 : Gv P w K mg base 4 "_law_kind" gK dK ["well", "names", "deep"] (spKi K 1)) (K2 : Gv P w K mg base 5 "_law_kind" gK dK ["well", "names", "deep"] (spKi K 2)) (PT' : Gv P w K mg base 2 "_law_pick" gP dP ["well", "some"] (spPick K)) : FnOk P w K mg base CX0 6 f fd ["well"] (spTow K) := by
  refine F.ok scTw (fun vs H Q E h => ?_) (fun cdv A outer s H vs Q E hr h => ?_)
  · obtain ⟨wl, G, rfl, _⟩ := h
    rfl
  obtain ⟨wl, G, rfl, st, q⟩ := h
  have hr2 : Room 2 (A.deeper _) := hr.mono (by omega)
  have hr4 : Room 4 (A.deeper _) := hr.mono (by omega)
  refine ⟨_, pss_cons (ps_par (i := 1) (j := 2) rfl scTw.nd rfl rfl (by decide) rfl rfl (pa_cons (pe_call K1.ok hr4 rfl K1.m K1.k K1.b .nil pass0 (pa_cons (pv 0) (pa_cons (pe_lst (pa_cons (pe_call LN.ok hr4 rfl LN.m LN.k LN.b .nil pass0 (pa_cons (pv 0) pa_nil)) pa_nil)) (pa_cons pe_int pa_nil)))) (pa_cons (pe_call K2.ok hr rfl K2.m K2.k K2.b .nil pass0 (pa_cons (pv 0) (pa_cons (pe_lst (pa_cons pe_str (pa_cons pe_str pa_nil))) (pa_cons pe_int pa_nil)))) pa_nil)) rfl)
    (pss_cons (ps_set (i := 3) scTw.nd rfl (.inl rfl) (pe_call PT'.ok hr2 rfl PT'.m PT'.k PT'.b .nil pass0 (pa_cons (pv 0) (pa_cons (pe_tup (pa_cons pe_str (pa_cons pe_str pa_nil))) pa_nil))))
    (pss_cons (ps_for PassesOwn.never rfl (pi_range1 (by rfl) R.range (pa_cons (pe_call PT'.ok hr2 rfl PT'.m PT'.k PT'.b .nil pass0 (pa_cons (pv 0) (pa_cons (pe_tup (pa_cons pe_int (pa_cons pe_int (pa_cons pe_int (pa_cons pe_int (pa_cons pe_int pa_nil)))))) pa_nil))) pa_nil)) (pg_name (i := 4) scTw.nd rfl (.inl rfl))
      (pss_one (ps_set (i := 1) scTw.nd rfl (.inl rfl) (pe_ifExp (pt_cmpR op_gt (pe_op op_mod (pe_intc T.int (pv 4)) pe_int) pe_int (nomark _)) (pe_tup (pa_cons (pv 3) (pa_cons (pv 1) (pa_cons (pv 2) pa_nil)))) (pe_tup (pa_cons (pv 3) (pa_cons (pv 2) (pa_cons (pv 1) pa_nil))))))))
    (pss_one (ps_ret (pv 1))))), ?_⟩
  have z3 : ∀ {k : Nat}, k ≤ 200 → k ≤ sizeLine := fun h => Nat.le_trans h (by decide)
  refine ⟨_, rfl, _, rfl, wl, rfl, st.well, fun x H1 tx w1 e1 => ⟨z3 (by show 1 ≤ 200; decide), fun l hl => ?_⟩⟩
  have g1 := Gr.stay st w1 e1
  have st1 := g1.stt st
  have ga := Gr.same st1 (same_new hl (.lst [.str x]))
  have sta := ga.stt st1
  have nl : l ≠ wl := fun z => well_ne w1 (by rw [← z]; exact hl)
  refine ⟨wl, l, G, [x], rfl, sta, upd_same, nl, Nat.le_refl 1, by show 1 ≤ 1000; decide, fun y hy => by rw [List.mem_singleton.mp hy]; exact tx, Nat.le_refl 1, fun v2 H2 G2 d2 g2 D2 k2 => ?_⟩
  have st2 := g2.stt sta
  refine ⟨_, rfl, z3 (by show 2 ≤ 200; decide), fun l2 hl2 => ?_⟩
  have gb := Gr.same st2 (same_new hl2 (.lst [.str "Row", .str "A'"]))
  have stb := gb.stt st2
  have nl2 : l2 ≠ wl := fun z => well_ne st2.well (by rw [← z]; exact hl2)
  refine ⟨wl, l2, G2, ["Row", "A'"], rfl, stb, upd_same, nl2, by decide, by decide, fun y hy => ?_, by decide, fun v3 H3 G3 d3 g3 D3 k3 => ⟨_, _, rfl, ?_⟩⟩
  · rcases List.mem_cons.mp hy with rfl | hy
    · exact txt_lit (by decide +kernel)
    · rw [List.mem_singleton.mp hy]; exact txt_lit (by decide +kernel)
  have st3 := g3.stt stb
  have D2' := (gb.trans g3).dq D2
  have g13 := (((g1.trans ga).trans g2).trans gb).trans g3
  refine ⟨_, rfl, z3 (by show 2 ≤ 200; decide), fun t ht => ⟨wl, t, (["pair", "either"] : List Str).map V.str, rfl, well_new st3.well ht _, SqT.of upd_same, by decide, by decide, fun u H4 hu w4 e4 => ?_⟩⟩
  obtain ⟨word, mw, rfl⟩ := strs_of hu
  have tw : txtOk word 8 := word_ok (by decide +kernel) mw
  have g4 := Gr.stay st3 w4 ((But.new ht _).trans e4)
  have st4 := g4.stt st3
  refine ⟨_, rfl, z3 (by show 5 ≤ 200; decide), fun t2 ht2 => ⟨wl, t2, ([27, 28, 29, 30, 89] : List Int).map V.int, rfl, well_new w4 ht2 _, SqT.of upd_same, by decide, by decide, fun u5 H5 hu5 w5 e5 => ?_⟩⟩
  obtain ⟨n, hn, rfl⟩ := ints_of hu5
  have hn' : 0 ≤ n ∧ n ≤ 89 := by
    simp only [List.mem_cons, List.not_mem_nil, or_false] at hn
    omega
  have g5 := Gr.stay st4 w5 ((But.new ht2 _).trans e5)
  have st5 := g5.stt st4
  have g15 := (g13.trans g4).trans g5
  refine ⟨n, rfl, by omega, by omega, ?_⟩
  have k2' : Gd d2 0 66 2 := k2.up (Nat.le_refl 0) (Nat.le_refl _) (by decide)
  have k3' : Gd d3 0 141 2 := k3
  refine for_range (lo := 0) (n := n.toNat) (fun i σ H' => ∃ (v : V) (d : PyData) (G' : Hp) (c : Option V), σ = [some (.ref wl), some v, some v3, some (.str word), c] ∧ Gr wl G3 H5 G' H' ∧ Dq K G' v d ∧ Gd d 0 (66 + 152 * i) (2 + i)) ⟨v2, d2, G3, none, rfl, Gr.refl st5, D2', k2'⟩ ?_ ?_
  · rintro i σ H6 hi ⟨v, d, G', c, rfl, g6, D6, k6⟩
    have st6 := g6.stt st5
    have D3' := g6.dq D3
    refine ⟨_, rfl, .inl ⟨_, rfl, _, _, rfl, rfl, (by show (0 : Int) < 3; decide), _, _, rfl, rfl, _, rfl, ?_⟩⟩
    refine ite2 (fun _ => ?_) (fun _ => ?_)
    · refine ⟨_, rfl, _, rfl, _, rfl, z3 (by show 3 ≤ 200; decide), fun p hp => ?_⟩
      obtain ⟨g7, D7⟩ := Gr.tup (K := K) (vs := [.str word, v, v3]) (ds := [.str word, d, d3]) st6 hp (.cons (.str _) (.cons D6 (.cons D3' .nil)))
      exact ⟨_, _, _, _, rfl, g6.trans g7, D7, (gd_row (K := K) tw k6 (k3'.up (Nat.le_refl 0) (Nat.le_refl _) (by omega))).up (Nat.le_refl 0) (by omega) (by omega)⟩
    · refine ⟨_, rfl, _, rfl, _, rfl, z3 (by show 3 ≤ 200; decide), fun p hp => ?_⟩
      obtain ⟨g7, D7⟩ := Gr.tup (K := K) (vs := [.str word, v3, v]) (ds := [.str word, d3, d]) st6 hp (.cons (.str _) (.cons D3' (.cons D6 .nil)))
      exact ⟨_, _, _, _, rfl, g6.trans g7, D7, (gd_row (K := K) tw (k3'.up (Nat.le_refl 0) (Nat.le_refl _) (by omega : 2 ≤ 2 + i)) k6).up (Nat.le_refl 0) (by omega) (by omega)⟩
  · rintro σ H6 ⟨v, d, G', c, rfl, g6, D6, k6⟩
    exact ⟨_, rfl, q v H6 G' d (g15.trans g6) D6 (k6.up (Nat.le_refl 0) (by omega) (by omega))⟩
end
end Toy
set_option Elab.async false
set_option linter.all false
set_option maxRecDepth 100000
set_option maxHeartbeats 2000000
namespace Toy
open PySem L2
abbrev sSpread : Stmt := top 39
abbrev sWide : Stmt := top 40
theorem cutV_head (xs : List V) : cutV xs none (some 1) = xs.take 1 := by
  unfold cutV
  rw [HT.sIx_none, show HT.sIx xs.length xs.length (some 1) = min 1 xs.length from HT.sIx_nat xs.length xs.length 1]
  rw [List.drop_zero, Nat.sub_zero]
  by_cases h : 1 ≤ xs.length
  · rw [Nat.min_eq_left h]
  · rw [List.length_eq_zero_iff.mp (by omega : xs.length = 0)]
    simp
/-- the kinds in turn -/
def Kis (K : PySem.W.Frag) (G : Hp) (xs : List V) : Prop := ∀ x ∈ xs, ∃ d, Dq K G x d ∧ Gd d 0 66 1
def spSp (K : PySem.W.Frag) (m : Nat) : Sp := fun vs H Q _ => ∃ (wl l : Addr) (G : Hp) (xs : List V) (many : Nat), vs = [.ref l, .int (many : Nat)] ∧ Stt wl G H ∧ H l = some (.lst xs) ∧ l ≠ wl ∧ 1 ≤ xs.length ∧ xs.length ≤ 100 ∧ Kis K G xs ∧ 1 ≤ many ∧ many ≤ 2 ^ m ∧ Drawn K wl G H 0 (77 * many - 11) (m + 1) Q
section
variable {P : Program} {w : World} {K : PySem.W.Frag} {mg : Str → Option Value} {base : Heap}
theorem scSp : FnScope ["kinds", "many", "one"] ["kinds", "many"] (defScope sSpread) := ⟨rfl, rfl, rfl, by decide +kernel, rfl, by decide +kernel, by decide +kernel⟩
theorem ok_spread {f : Addr} {fd : FuncData} {m k : Nat} {sp' : Sp} (F : Fun K "_law_spread" "_law_spread" sSpread f fd) (T : Nm mg) (R : Gv P w K mg base k "_law_spread" f fd ["kinds", "many"] sp') (hR : 1 ≤ m → sp' = spSp K (m - 1)) : FnOk P w K mg base CX0 (k + 1) f fd ["kinds", "many"] (spSp K m) := by
  refine F.ok scSp (fun vs H Q E h => ?_) (fun cdv A outer s H vs Q E hr h => ?_)
  · obtain ⟨wl, l, G, xs, many, rfl, _⟩ := h
    rfl
  obtain ⟨wl, l, G, xs, many, rfl, st, hl, nl, x1, x2, hk, m1, m2, q⟩ := h
  refine ⟨_, pss_cons (ps_if (pt_cmpR op_eq (pv 1) pe_int (nomark _)) (pss_one (ps_ret (pe_ix ix_list (pv 0) pe_int (fun _ _ => rfl)))) pss_nil)
    (pss_cons (ps_set (i := 2) scSp.nd rfl (.inl rfl) (pe_call R.ok hr rfl R.m R.k R.b .nil pass0 (pa_cons (pe_op op_cat (pe_slice sl_list (pv 0) (po_some pe_int) po_none) (pe_slice sl_list (pv 0) po_none (po_some pe_int))) (pa_cons (pe_op op_fdiv (pv 1) pe_int) pa_nil))))
    (pss_one (ps_ret (pe_tup (pa_cons (pe_ifExp (pt_cmpR op_gt (pe_op op_mod (pe_intc T.int (pv 1)) pe_int) pe_int (nomark _)) pe_str pe_str) (pa_cons (pv 2) (pa_cons (pe_call R.ok hr rfl R.m R.k R.b .nil pass0 (pa_cons (pv 0) (pa_cons (pe_op op_sub (pv 1) (pe_op op_fdiv (pv 1) pe_int)) pa_nil))) pa_nil))))))), ?_⟩
  have z3 : ∀ {k : Nat}, k ≤ 200 → k ≤ sizeLine := fun h => Nat.le_trans h (by decide)
  refine ⟨_, rfl, rfl, _, rfl, ?_⟩
  refine ite2 (fun _ => ?_) (fun g => ?_)
  · obtain ⟨x, r, rfl⟩ : ∃ x r, xs = x :: r := by
      cases xs with
      | nil => exact absurd x1 (by decide)
      | cons x r => exact ⟨x, r, rfl⟩
    obtain ⟨d, hd, gd⟩ := hk x List.mem_cons_self
    exact ⟨_, rfl, l, _, 0, x, rfl, rfl, SqL.of hl, atI_nat (j := 0) rfl, q x H G d (Gr.refl st) hd (gd.up (Nat.le_refl 0) (by omega) (by omega))⟩
  · have gm : (many : Int) ≠ 1 := num_ne (n := many) g
    have mm : 2 ≤ many := by omega
    have hm : 1 ≤ m := by
      cases m with
      | zero => have : many ≤ 1 := m2; omega
      | succ m => omega
    obtain rfl := hR hm
    have e2 : 2 ^ m = 2 * 2 ^ (m - 1) := by
      obtain ⟨j, rfl⟩ : ∃ j, m = j + 1 := ⟨m - 1, by omega⟩
      rw [Nat.pow_succ, Nat.mul_comm]
      rfl
    refine ⟨_, rfl, _, rfl, l, xs, rfl, SqL.of hl, fun p1 hp1 => ?_⟩
    have s1 := same_new hp1 (.lst (cutV xs (some 1) none))
    refine ⟨_, rfl, _, rfl, l, xs, rfl, SqL.of (s1 _ _ hl), fun p2 hp2 => ?_⟩
    have s2 := same_new hp2 (.lst (cutV xs none (some 1)))
    have ec : (cutV xs (some 1) none ++ cutV xs none (some 1)).length = xs.length := by
      rw [cutV_tail, cutV_head, List.length_append, List.length_drop, List.length_take]
      omega
    refine ⟨p1, p2, _, _, rfl, rfl, s2 _ _ upd_same, upd_same, by rw [← List.length_append, ec]; exact z3 (by omega), fun p hp => ?_⟩
    have s3 := same_new hp (.lst (cutV xs (some 1) none ++ cutV xs none (some 1)))
    have ga := Gr.same st (s1.trans (s2.trans s3))
    have sta := ga.stt st
    have np : p ≠ wl := fun z => well_ne ((Gr.same st (s1.trans s2)).stt st).well (by rw [← z]; exact hp)
    refine ⟨_, rfl, _, _, rfl, rfl, ⟨by decide, by decide⟩, ?_⟩
    refine ⟨wl, p, G, _, many / 2, rfl, sta, upd_same, np, by rw [ec]; exact x1, by rw [ec]; exact x2, fun x hx => ?_, by omega, by omega, fun v4 H4 G4 d4 g4 D4 k4 => ?_⟩
    · rcases List.mem_append.mp hx with hx | hx
      · rw [cutV_tail] at hx; exact hk x (List.mem_of_mem_drop hx)
      · rw [cutV_head] at hx; exact hk x (List.mem_of_mem_take hx)
    have st4 := g4.stt sta
    have hl4 : H4 l = some (.lst xs) := g4.lst nl (s3 _ _ (s2 _ _ (s1 _ _ hl)))
    have fin : ∀ (word : Str), txtOk word 8 → word.cps.size ≤ 8 → ∀ (v5 : V) (H5 G5 : Hp) (d5 : PyData), Gr wl G4 H4 G5 H5 → Dq K G5 v5 d5 → Gd d5 0 (77 * (many - many / 2) - 11) (m - 1 + 1) → ∀ p, H5 p = none → Q (.ref p) (upd H5 p (.tup [.str word, v4, v5])) := fun word tw lw v5 H5 G5 d5 g5 D5 k5 p hp => by
      obtain ⟨g6, D6⟩ := Gr.tup (K := K) (vs := [.str word, v4, v5]) (ds := [.str word, d4, d5]) (g5.stt st4) hp (.cons (.str _) (.cons (g5.dq D4) (.cons D5 .nil)))
      refine q _ _ _ _ (((ga.trans g4).trans g5).trans g6) D6 ?_
      refine (gd_row (K := K) tw (k4.up (Nat.le_refl 0) (Nat.le_refl _) (Nat.le_refl _)) k5).up (Nat.le_refl 0) ?_ (by omega)
      have : many / 2 + (many - many / 2) = many := by omega
      omega
    refine ⟨_, rfl, .inl ⟨_, rfl, _, _, rfl, rfl, (by show (0 : Int) < 3; decide), _, _, rfl, rfl, _, rfl, ?_⟩⟩
    have e5 : V.int ((many : Nat) - (many : Nat) / 2 : Int) = .int ((many - many / 2 : Nat) : Int) := by
      congr 1
      omega
    refine ite2 (fun _ => ?_) (fun _ => ?_)
    · refine ⟨_, rfl, _, rfl, _, rfl, _, rfl, _, _, rfl, rfl, ⟨by decide, by decide⟩, _, _, rfl, rfl, ?_⟩
      exact ⟨wl, l, G4, xs, many - many / 2, (by show [V.ref l, V.int ((many : Nat) - (many : Nat) / 2 : Int)] = _; rw [e5]), st4, hl4, nl, x1, x2, fun x hx => by obtain ⟨d, a, b⟩ := hk x hx; exact ⟨d, Dq.mono (ga.gg.trans g4.gg) _ _ a, b⟩, by omega, by omega, fun v5 H5 G5 d5 g5 D5 k5 => ⟨z3 (by show 3 ≤ 200; decide), fun p hp => fin "pair" (txt_lit (by decide +kernel)) (by decide +kernel) v5 H5 G5 d5 g5 D5 k5 p hp⟩⟩
    · refine ⟨_, rfl, _, rfl, _, rfl, _, rfl, _, _, rfl, rfl, ⟨by decide, by decide⟩, _, _, rfl, rfl, ?_⟩
      exact ⟨wl, l, G4, xs, many - many / 2, (by show [V.ref l, V.int ((many : Nat) - (many : Nat) / 2 : Int)] = _; rw [e5]), st4, hl4, nl, x1, x2, fun x hx => by obtain ⟨d, a, b⟩ := hk x hx; exact ⟨d, Dq.mono (ga.gg.trans g4.gg) _ _ a, b⟩, by omega, by omega, fun v5 H5 G5 d5 g5 D5 k5 => ⟨z3 (by show 3 ≤ 200; decide), fun p hp => fin "either" (txt_lit (by decide +kernel)) (by decide +kernel) v5 H5 G5 d5 g5 D5 k5 p hp⟩⟩
end
end Toy
set_option Elab.async false
set_option linter.all false
set_option maxRecDepth 100000
set_option maxHeartbeats 2000000
namespace Toy
open PySem L2
section
variable {P : Program} {w : World} {K : PySem.W.Frag} {mg : Str → Option Value} {base : Heap}
theorem none_leftS {f : Addr} {fd : FuncData} {k : Nat} : FnOk P w K mg base CX0 k f fd ["kinds", "many"] (fun _ _ _ _ => False) := ⟨fun _ _ _ _ h => h.elim, fun _ _ _ _ _ _ _ _ _ _ _ _ _ h => h.elim⟩
theorem spreads {f : Addr} {fd : FuncData} (F : Fun K "_law_spread" "_law_spread" sSpread f fd) (bF : Binds K fd ["kinds", "many"] []) (mF : mg "_law_spread" = some (.ref f)) (T : Nm mg) : ∀ m : Nat, Gv P w K mg base (1 + m) "_law_spread" f fd ["kinds", "many"] (spSp K m)
  | 0 => ⟨ok_spread (m := 0) (k := 0) F T ⟨none_leftS, bF, F.kp, mF⟩ (fun h => absurd h (by decide)), bF, F.kp, mF⟩
  | m + 1 => ⟨ok_spread (m := m + 1) (k := 1 + m) F T (spreads F bF mF T m) (fun _ => rfl), bF, F.kp, mF⟩
theorem scWi : FnScope ["well", "kinds"] ["well"] (defScope sWide) := ⟨rfl, rfl, rfl, by decide +kernel, rfl, by decide +kernel, by decide +kernel⟩
theorem gd_name {x : Str} {m j : Nat} (h : txtOk x m) (hm : m ≤ 100 + j) : Gd (.tuple [.str "name", .str x]) j (m + 6) 1 := by
  have l4 : ("name" : Str).cps.size = 4 := by decide +kernel
  have lx : x.cps.size ≤ m := h.2
  refine ⟨?_, ?_, ?_⟩
  · show (gdB j (.str "name") && (gdB j (.str x) && true)) = true
    rw [(gd_str (x := "name") (n := 8) (j := j) (txt_lit (by decide +kernel)) (by omega)).g, (gd_str h (j := j) hm).g]
    rfl
  · simp only [PyData.weight, PyData.weightAll]
    omega
  · simp only [PyData.depth, PyData.depthAll]
    omega
theorem gd_word {x : Str} {j : Nat} (h : txtOk x 8) : Gd (.tuple [.str x]) j 10 1 := by
  have lx : x.cps.size ≤ 8 := h.2
  refine ⟨?_, ?_, ?_⟩
  · show (gdB j (.str x) && true) = true
    rw [(gd_str h (j := j) (by omega)).g]
    rfl
  · simp only [PyData.weight, PyData.weightAll]
    omega
  · simp only [PyData.depth, PyData.depthAll]
    omega
theorem ok_wide {f gL gK gP gS : Addr} {fd dL dK dP dS : FuncData} (F : Fun K "_law_wide" "_law_wide" sWide f fd) (LN : Gv P w K mg base 4 "_law_long_name" gL dL ["well"] (spTxt 60)) (K1 : Gv P w K mg base 4 "_law_kind" gK dK ["well", "names", "deep"] (spKi K 1)) (PT' : Gv P w K mg base 2 "_law_pick" gP dP ["well", "some"] (spPick K)) (SP : Gv P w K mg base 11 "_law_spread" gS dS ["kinds", "many"] (spSp K 10)) : FnOk P w K mg base CX0 12 f fd ["well"] (spTow K) := by
  refine F.ok scWi (fun vs H Q E h => ?_) (fun cdv A outer s H vs Q E hr h => ?_)
  · obtain ⟨wl, G, rfl, _⟩ := h
    rfl
  obtain ⟨wl, G, rfl, st, q⟩ := h
  have hr2 : Room 2 (A.deeper _) := hr.mono (by omega)
  have hr4 : Room 4 (A.deeper _) := hr.mono (by omega)
  refine ⟨_, pss_cons (ps_set (i := 1) scWi.nd rfl (.inl rfl) (pe_lst (pa_cons (pe_tup (pa_cons pe_str (pa_cons (pe_call LN.ok hr4 rfl LN.m LN.k LN.b .nil pass0 (pa_cons (pv 0) pa_nil)) pa_nil)))
      (pa_cons (pe_call K1.ok hr4 rfl K1.m K1.k K1.b .nil pass0 (pa_cons (pv 0) (pa_cons (pe_lst (pa_cons pe_str pa_nil)) (pa_cons pe_int pa_nil)))) (pa_cons (pe_tup (pa_cons pe_str pa_nil)) pa_nil)))))
    (pss_one (ps_ret (pe_call SP.ok hr rfl SP.m SP.k SP.b .nil pass0 (pa_cons (pv 1) (pa_cons (pe_call PT'.ok hr2 rfl PT'.m PT'.k PT'.b .nil pass0 (pa_cons (pv 0) (pa_cons (pe_tup (pa_cons pe_int (pa_cons pe_int (pa_cons pe_int (pa_cons pe_int (pa_cons pe_int pa_nil)))))) pa_nil))) pa_nil))))), ?_⟩
  have z3 : ∀ {k : Nat}, k ≤ 200 → k ≤ sizeLine := fun h => Nat.le_trans h (by decide)
  refine ⟨_, rfl, wl, rfl, st.well, fun x H1 tx w1 e1 => ⟨z3 (by show 2 ≤ 200; decide), fun p hp => ?_⟩⟩
  have g1 := Gr.stay st w1 e1
  have st1 := g1.stt st
  obtain ⟨g2, D2⟩ := Gr.tup (K := K) (vs := [.str "name", .str x]) (ds := [.str "name", .str x]) st1 hp (.cons (.str _) (.cons (.str _) .nil))
  have st2 := g2.stt st1
  refine ⟨_, rfl, z3 (by show 1 ≤ 200; decide), fun l hl => ?_⟩
  have ga := Gr.same st2 (same_new hl (.lst [.str "X"]))
  have sta := ga.stt st2
  have nl : l ≠ wl := fun z => well_ne st2.well (by rw [← z]; exact hl)
  refine ⟨wl, l, _, ["X"], rfl, sta, upd_same, nl, by decide, by decide, fun y hy => by rw [List.mem_singleton.mp hy]; exact txt_lit (by decide +kernel), Nat.le_refl 1, fun v3 H3 G3 d3 g3 D3 k3 => ?_⟩
  have st3 := g3.stt sta
  refine ⟨z3 (by show 1 ≤ 200; decide), fun p4 hp4 => ?_⟩
  obtain ⟨g4, D4⟩ := Gr.tup (K := K) (vs := [.str "unit"]) (ds := [.str "unit"]) st3 hp4 (.cons (.str _) .nil)
  have st4 := g4.stt st3
  have D3' := g4.dq D3
  have D2' := ((ga.trans g3).trans g4).dq D2
  refine ⟨z3 (by show 3 ≤ 200; decide), fun p5 hp5 => ?_⟩
  have g5 := Gr.same st4 (same_new hp5 (.lst [.ref p, v3, .ref p4]))
  have st5 := g5.stt st4
  have n5 : p5 ≠ wl := fun z => well_ne st4.well (by rw [← z]; exact hp5)
  have g15 := ((((g1.trans g2).trans ga).trans g3).trans g4).trans g5
  generalize hH : upd _ p5 (.lst [.ref p, v3, .ref p4]) = H5 at g5 st5 g15 ⊢
  have h5 : H5 p5 = some (.lst [.ref p, v3, .ref p4]) := by rw [← hH]; exact upd_same
  refine ⟨_, rfl, _, rfl, z3 (by show 5 ≤ 200; decide), fun t ht => ⟨wl, t, ([500, 999, 1000, 1001, 1002] : List Int).map V.int, rfl, well_new st5.well ht _, SqT.of upd_same, by decide, by decide, fun u H6 hu w6 e6 => ?_⟩⟩
  obtain ⟨n, hn, rfl⟩ := ints_of hu
  have hn' : 500 ≤ n ∧ n ≤ 1002 := by
    simp only [List.mem_cons, List.not_mem_nil, or_false] at hn
    omega
  have g6 := Gr.stay st5 w6 ((But.new ht _).trans e6)
  have st6 := g6.stt st5
  have h6 := g6.lst n5 h5
  have en : V.int n = .int ((n.toNat : Nat) : Int) := by
    congr 1
    omega
  rw [en]
  refine ⟨wl, p5, _, _, n.toNat, rfl, st6, h6, n5, (by show 1 ≤ 3; decide), (by show 3 ≤ 100; decide), fun y hy => ?_, by omega, by omega, fun v7 H7 G7 d7 g7 D7 k7 => ?_⟩
  · simp only [List.mem_cons, List.not_mem_nil, or_false] at hy
    rcases hy with rfl | rfl | rfl
    · exact ⟨_, D2', (gd_name tx (by omega)).up (Nat.le_refl 0) (by omega) (Nat.le_refl 1)⟩
    · exact ⟨_, D3', k3⟩
    · exact ⟨_, D4, (gd_word (x := "unit") (txt_lit (by decide +kernel))).up (Nat.le_refl 0) (by omega) (Nat.le_refl 1)⟩
  · exact q v7 H7 G7 d7 ((g15.trans g6).trans g7) D7 (k7.up (Nat.le_refl 0) (by omega) (by omega))
end
end Toy
set_option Elab.async false
set_option linter.all false
set_option maxRecDepth 100000
set_option maxHeartbeats 2000000
namespace Toy
open PySem L2
theorem joinR {R G : Prop} (h : R) (k : R → G) : G := k h
/-! ### pieces of tuples -/
theorem cutV_to {xs : List V} {n : Nat} (h : n ≤ xs.length) : cutV xs none (some (n : Int)) = xs.take n := by
  unfold cutV
  rw [HT.sIx_none, HT.sIx_nat, List.drop_zero, Nat.sub_zero, Nat.min_eq_left h]
theorem cutV_fr {xs : List V} {n : Nat} (h : n ≤ xs.length) : cutV xs (some (n : Int)) none = xs.drop n := by
  unfold cutV
  rw [HT.sIx_none, HT.sIx_nat, Nat.min_eq_left h, List.take_of_length_le (by rw [List.length_drop]; exact Nat.le_refl _)]
theorem DqAll.take {K : PySem.W.Frag} {H : Hp} : ∀ {xs : List V} {ds : List PyData} (n : Nat), DqAll K H xs ds → DqAll K H (xs.take n) (ds.take n)
  | [], [], n, .nil => by rw [List.take_nil, List.take_nil]; exact .nil
  | _ :: _, _ :: _, 0, .cons _ _ => .nil
  | _ :: _, _ :: _, n + 1, .cons r t => .cons r (DqAll.take n t)
theorem DqAll.drop {K : PySem.W.Frag} {H : Hp} : ∀ {xs : List V} {ds : List PyData} (n : Nat), DqAll K H xs ds → DqAll K H (xs.drop n) (ds.drop n)
  | [], [], n, .nil => by rw [List.drop_nil, List.drop_nil]; exact .nil
  | _ :: _, _ :: _, 0, .cons r t => .cons r t
  | _ :: _, _ :: _, n + 1, .cons _ t => DqAll.drop n t
theorem DqAll.rev {K : PySem.W.Frag} {H : Hp} : ∀ {xs : List V} {ds : List PyData}, DqAll K H xs ds → DqAll K H xs.reverse ds.reverse
  | [], [], .nil => .nil
  | x :: xs, d :: ds, .cons r t => by
    rw [List.reverse_cons, List.reverse_cons]
    exact DqAll.append (DqAll.rev t) (.cons r .nil)
/-- a tuple that lies in G, or is new since H0 -/
def Tp (K : PySem.W.Frag) (G H0 H : Hp) (b : Addr) (zs : List V) : Prop := SqT K G b zs ∨ (H0 b = none ∧ H b = some (.tup zs))
theorem Tp.seqT {K : PySem.W.Frag} {G H0 H : Hp} {b : Addr} {zs : List V} (s : Same G H) (h : Tp K G H0 H b zs) : SqT K H b zs := h.elim (fun z => s.seqT z) (fun z => SqT.of z.2)
theorem Tp.on {K : PySem.W.Frag} {G H0 H H' : Hp} {b : Addr} {zs : List V} (e : Same H H') (h : Tp K G H0 H b zs) : Tp K G H0 H' b zs := h.imp id fun z => ⟨z.1, e _ _ z.2⟩
theorem Tp.slice {K : PySem.W.Frag} {G H0 H : Hp} {a : Addr} {xs : List V} {lo hi : Option Int} {Q : VK} (s : Same G H) (s0 : Same H0 H) (h : Tp K G H0 H a xs)
    (q : ∀ b H', Same H H' → Tp K G H0 H' b (cutV xs lo hi) → Q (.ref b) H') : rSlA K (.ref a) lo hi H Q := by
  refine ⟨a, xs, rfl, h.seqT s, fun hw => ?_, fun _ p hp => ?_⟩
  · refine q a H (Same.refl H) ?_
    have e : cutV xs lo hi = xs := by
      unfold cutV
      rw [hw.1, hw.2, List.drop_zero, Nat.sub_zero, List.take_length]
    rw [e]
    exact h
  · exact q p _ (same_new hp _) (.inr ⟨s0.free hp, upd_same⟩)
theorem Tp.cat {K : PySem.W.Frag} {G H0 H : Hp} {a b : Addr} {xs ys : List V} {Q : VK} (s : Same G H) (s0 : Same H0 H) (h : Tp K G H0 H a xs) (h2 : Tp K G H0 H b ys) (hz : xs.length + ys.length ≤ sizeLine)
    (q : ∀ c H', Same H H' → Tp K G H0 H' c (xs ++ ys) → Q (.ref c) H') : rCatA K (.ref a) (.ref b) H Q := by
  refine ⟨a, b, xs, ys, rfl, rfl, h.seqT s, h2.seqT s, hz, fun e => ?_, fun _ e => ?_, fun _ _ p hp => ?_⟩
  · subst e
    exact q b H (Same.refl H) h2
  · subst e
    exact q a H (Same.refl H) (by rw [List.append_nil]; exact h)
  · exact q p _ (same_new hp _) (.inr ⟨s0.free hp, upd_same⟩)
theorem Tp.drawn {K : PySem.W.Frag} {wl : Addr} {G H0 H : Hp} {b : Addr} {zs : List V} {ds : List PyData} {j w k : Nat} {Q : VK} (g : Gr wl G H0 G H) (h : Tp K G H0 H b zs) (A : DqAll K G zs ds) (gd : Gd (.tuple ds) j w k) (q : Drawn K wl G H0 j w k Q) : Q (.ref b) H := by
  rcases h with h | ⟨h0, h1⟩
  · exact q _ H G _ g (.tup h A) gd
  · cases hb : G b with
    | some o =>
      have e := g.gh b o hb
      rw [h1] at e
      cases e
      exact q _ H G _ g (.tup (SqT.of hb) A) gd
    | none =>
      refine q _ H (upd G b (.tup zs)) _ ⟨same_new hb _, fun c o e => ?_, fun c e1 e2 => ?_, g.well, g.but⟩ (.tup (SqT.of upd_same) (DqAll.mono (same_new hb _) _ _ A)) gd
      · by_cases ec : c = b
        · subst ec
          rw [upd_same] at e
          cases e
          exact h1
        · rw [upd_ne ec] at e
          exact g.gh c o e
      · rw [upd_ne (fun ec => e2 (by rw [ec]; exact h0))]
        exact e1
theorem len_wA (l : List PyData) : l.length ≤ PyData.weightAll l := by
  induction l with
  | nil => exact Nat.zero_le _
  | cons x r ih => simp only [PyData.weightAll, List.length_cons]; omega
theorem gd_tuple {ds : List PyData} {j w k : Nat} (h : ∀ d ∈ ds, gdB j d = true ∧ d.depth + 1 ≤ k) (hw : PyData.weightAll ds ≤ w) (hk : 1 ≤ k) : Gd (.tuple ds) j w k := by
  refine ⟨?_, ?_, ?_⟩
  · show gdA j ds = true
    exact gdA_iff.mpr fun d m => (h d m).1
  · simp only [PyData.weight]; exact hw
  · have := dA_le (k := k - 1) (l := ds) fun d m => by have := (h d m).2; omega
    simp only [PyData.depth]
    omega
theorem gd_list {ds : List PyData} {j w k : Nat} (h : ∀ d ∈ ds, gdB j d = true ∧ d.depth + 1 ≤ k) (hw : PyData.weightAll ds ≤ w) (hk : 1 ≤ k) : Gd (.list ds) j w k := by
  refine ⟨?_, ?_, ?_⟩
  · show gdA j ds = true
    exact gdA_iff.mpr fun d m => (h d m).1
  · simp only [PyData.weight]; exact hw
  · have := dA_le (k := k - 1) (l := ds) fun d m => by have := (h d m).2; omega
    simp only [PyData.depth]
    omega
theorem Gd.mem {ds : List PyData} {j w k : Nat} (h : Gd (.tuple ds) j w k) {d : PyData} (m : d ∈ ds) : gdB j d = true ∧ d.depth + 1 ≤ k := by
  have g : gdA j ds = true := h.g
  have hk := h.k
  simp only [PyData.depth] at hk
  have := dA_mem m
  exact ⟨gdA_iff.mp g d m, by omega⟩
theorem Gd.wA {ds : List PyData} {j w k : Nat} (h : Gd (.tuple ds) j w k) : PyData.weightAll ds ≤ w := by
  have := h.w
  simp only [PyData.weight] at this
  exact this
theorem Gd.one {ds : List PyData} {j w k : Nat} (h : Gd (.tuple ds) j w k) : 1 ≤ k := by
  have := h.k
  simp only [PyData.depth] at this
  omega
theorem wA_split (ds : List PyData) (n : Nat) : PyData.weightAll (ds.take n) + PyData.weightAll (ds.drop n) = PyData.weightAll ds := by
  rw [← wA_append, List.take_append_drop]
theorem wA_drop (ds : List PyData) (n : Nat) : PyData.weightAll (ds.drop n) ≤ PyData.weightAll ds := by
  have := wA_split ds n
  omega
theorem wA_take (ds : List PyData) (n : Nat) : PyData.weightAll (ds.take n) ≤ PyData.weightAll ds := by
  have := wA_split ds n
  omega
theorem int_weight {i : Int} {j : Nat} (h : i.natAbs ≤ 10 ^ 30 + j) (hj : j ≤ 1000) : (PyData.int i).weight ≤ 101 := by
  simp only [PyData.weight]
  split
  · exact Nat.zero_le _
  · rename_i h0
    have h1 : i.natAbs ≠ 0 := fun z => h0 (by
      have : i = 0 := by omega
      subst this
      rfl)
    have : i.natAbs < 2 ^ 100 := Nat.lt_of_le_of_lt (Nat.le_trans h (Nat.add_le_add_left hj _)) (by decide)
    have := (Nat.log2_lt h1).mpr this
    omega
end Toy
set_option Elab.async false
set_option linter.all false
set_option maxRecDepth 100000
set_option maxHeartbeats 2000000
namespace Toy
open PySem L2
abbrev sBent : Stmt := top 35
theorem Drawn.after {K : PySem.W.Frag} {wl : Addr} {G H G1 H1 : Hp} {j w k : Nat} {Q : VK} (g : Gr wl G H G1 H1) (q : Drawn K wl G H j w k Q) : Drawn K wl G1 H1 j w k Q := fun v H' G' d g' D gd => q v H' G' d (g.trans g') D gd
theorem Drawn.less {K : PySem.W.Frag} {wl : Addr} {G H : Hp} {j w k j' w' k' : Nat} {Q : VK} (q : Drawn K wl G H j w k Q) (a : j' ≤ j) (b : w' ≤ w) (c : k' ≤ k) : Drawn K wl G H j' w' k' Q := fun v H' G' d g D gd => q v H' G' d g D (gd.up a b c)
def isIntB (d : PyData) : Bool := decide (tyD d = "int") || decide (tyD d = "bool")
def spBe (K : PySem.W.Frag) : Sp := fun vs H Q _ => ∃ (wl : Addr) (G : Hp) (v : V) (d : PyData) (j w k : Nat), vs = [.ref wl, v] ∧ Stt wl G H ∧ Dq K G v d ∧ Gd d j w k ∧ j ≤ 100 ∧ w ≤ 1000000 ∧ Drawn K wl G H (j + 1) (2 * w + 200) (k + 7) Q
structure Nb2 (mg : Str → Option Value) : Prop where
  int : mg "int" = none
  bool : mg "bool" = none
  list : mg "list" = none
def l8 : List Str := ["pair", "either", "thing", "none", "name", "left", "right", "Row"]
section
variable {P : Program} {w : World} {K : PySem.W.Frag} {mg : Str → Option Value} {base : Heap}
theorem kit_int : ∀ d : PyData, PySem.W.kitOne K (.type (tyD d)) (.type "int") = some (isIntB d)
  | .none => L2.kit_ty (show L2.kitB "NoneType" "int" = some false by decide +kernel)
  | .bool _ => L2.kit_ty (show L2.kitB "bool" "int" = some true by decide +kernel)
  | .int _ => L2.kit_ty (show L2.kitB "int" "int" = some true by decide +kernel)
  | .str _ => L2.kit_ty (show L2.kitB "str" "int" = some false by decide +kernel)
  | .list _ => L2.kit_ty (show L2.kitB "list" "int" = some false by decide +kernel)
  | .tuple _ => L2.kit_ty (show L2.kitB "tuple" "int" = some false by decide +kernel)
  | .dict _ => L2.kit_ty (show L2.kitB "dict" "int" = some false by decide +kernel)
theorem kit_bool : ∀ d : PyData, PySem.W.kitOne K (.type (tyD d)) (.type "bool") = some (decide (tyD d = "bool"))
  | .none => L2.kit_ty (show L2.kitB "NoneType" "bool" = some (decide (("NoneType" : String) = "bool")) by decide +kernel)
  | .bool _ => L2.kit_ty (show L2.kitB "bool" "bool" = some (decide (("bool" : String) = "bool")) by decide +kernel)
  | .int _ => L2.kit_ty (show L2.kitB "int" "bool" = some (decide (("int" : String) = "bool")) by decide +kernel)
  | .str _ => L2.kit_ty (show L2.kitB "str" "bool" = some (decide (("str" : String) = "bool")) by decide +kernel)
  | .list _ => L2.kit_ty (show L2.kitB "list" "bool" = some (decide (("list" : String) = "bool")) by decide +kernel)
  | .tuple _ => L2.kit_ty (show L2.kitB "tuple" "bool" = some (decide (("tuple" : String) = "bool")) by decide +kernel)
  | .dict _ => L2.kit_ty (show L2.kitB "dict" "bool" = some (decide (("dict" : String) = "bool")) by decide +kernel)
theorem int_of {d : PyData} (h : isIntB d = true) (h2 : tyD d ≠ "bool") : ∃ i, d = .int i := by
  unfold isIntB at h
  rw [Bool.or_eq_true, decide_eq_true_eq, decide_eq_true_eq] at h
  have e := h.resolve_right h2
  cases d with
  | int i => exact ⟨i, rfl⟩
  | none => exact absurd (show ("NoneType" : String) = "int" from e) (by decide)
  | bool _ => exact absurd (show ("bool" : String) = "int" from e) (by decide)
  | str _ => exact absurd (show ("str" : String) = "int" from e) (by decide)
  | tuple ds => exact absurd (show ("tuple" : String) = "int" from e) (by decide)
  | list _ => exact absurd (show ("list" : String) = "int" from e) (by decide)
  | dict _ => exact absurd (show ("dict" : String) = "int" from e) (by decide)
theorem dq_int {H : Hp} {v : V} {i : Int} (h : Dq K H v (.int i)) : v = .int i := by
  cases h
  rfl
theorem scBe : FnScope ["well", "thing", "way", "at"] ["well", "thing"] (defScope sBent) := ⟨rfl, rfl, rfl, by decide +kernel, rfl, by decide +kernel, by decide +kernel⟩
set_option maxHeartbeats 8000000 in
theorem ok_bent {f gD gP gO : Addr} {fd dD dP dO : FuncData} (F : Fun K "_law_bent" "_law_bent" sBent f fd) (T : Nm mg) (U : Nt mg) (N : Nu mg) (B : Nb2 mg) (D : Gv P w K mg base 1 "_law_draw" gD dD ["well", "many"] spDraw) (PT' : Gv P w K mg base 2 "_law_pick" gP dP ["well", "some"] (spPick K)) (O : Gv P w K mg base 3 "_law_odd" gO dO ["well"] (spOdd K)) : FnOk P w K mg base CX0 4 f fd ["well", "thing"] (spBe K) := by
  refine F.ok scBe (fun vs H Q E h => ?_) (fun cdv A outer s H vs Q E hr h => ?_)
  · obtain ⟨wl, G, v, d, j, w, k, rfl, _⟩ := h
    rfl
  obtain ⟨wl, G, v, d, j, w, k, rfl, st, hd, gd, hj, hw, q⟩ := h
  have hr1 : Room 1 (A.deeper _) := hr.mono (by omega)
  have hr2 : Room 2 (A.deeper _) := hr.mono (by omega)
  refine ⟨_, pss_cons (ps_set (i := 2) scBe.nd rfl (.inl rfl) (pe_call D.ok hr1 rfl D.m D.k D.b .nil pass0 (pa_cons (pv 0) (pa_cons pe_int pa_nil))))
    (pss_cons (ps_if (PW.pt (pw_and (pt_cmpR op_lt (pv 2) pe_int (nomark _)) (pw_and (pt_val (pe_callB (call_isD (T := "int")) rfl U.isi (by decide +kernel) (pa_cons (pv 1) (pa_cons (pe_bltn (v := .ty "int") rfl B.int (by decide +kernel) rfl (by decide) (by decide)) pa_nil)))) (pw_and1 (pt_not (pt_val (pe_callB (call_isD (T := "bool")) rfl U.isi (by decide +kernel) (pa_cons (pv 1) (pa_cons (pe_bltn (v := .ty "bool") rfl B.bool (by decide +kernel) rfl (by decide) (by decide)) pa_nil)))))))))
      (pss_one (ps_ret (pe_op op_sub (pe_op op_add (pv 1) (pe_op op_mul pe_int (pv 2))) pe_int))) pss_nil)
    (pss_cons (ps_if (PW.pt (pw_and (pt_cmpR op_lt (pv 2) pe_int (nomark _)) (pw_and1 (pt_val (pe_callB (call_isD (T := "str")) rfl U.isi (by decide +kernel) (pa_cons (pv 1) (pa_cons (pe_bltn (v := .ty "str") rfl U.str (by decide +kernel) rfl (by decide) (by decide)) pa_nil)))))))
      (pss_one (ps_ret (pe_call PT'.ok hr2 rfl PT'.m PT'.k PT'.b .nil pass0 (pa_cons (pv 0) (pa_cons (pe_tup (pa_cons pe_str (pa_cons pe_str (pa_cons pe_str (pa_cons pe_str (pa_cons pe_str (pa_cons pe_str (pa_cons pe_str (pa_cons pe_str (pa_cons (pe_op op_add_str (pv 1) pe_str) pa_nil)))))))))) pa_nil))))) pss_nil)
    (pss_cons (ps_if (PW.pt (pw_or (pt_cmpR op_lt (pv 2) pe_int (nomark _)) (pw_or (pt_not (pt_val (pe_callB (call_isD (T := "tuple")) rfl U.isi (by decide +kernel) (pa_cons (pv 1) (pa_cons (pe_bltn (v := .ty "tuple") rfl N.tuple (by decide +kernel) rfl (by decide) (by decide)) pa_nil))))) (pw_or1 (pt_cmpR op_eq (pe_callB call_len_seq rfl T.len PySem.boot_len (pa_cons (pv 1) pa_nil)) pe_int (nomark _))))))
      (pss_one (ps_ret (pe_call O.ok hr rfl O.m O.k O.b .nil pass0 (pa_cons (pv 0) pa_nil)))) pss_nil)
    (pss_cons (ps_set (i := 3) scBe.nd rfl (.inl rfl) (pe_call D.ok hr1 rfl D.m D.k D.b .nil pass0 (pa_cons (pv 0) (pa_cons (pe_callB call_len_seq rfl T.len PySem.boot_len (pa_cons (pv 1) pa_nil)) pa_nil))))
    (pss_cons (ps_if (pt_cmpR op_eq (pv 2) pe_int (nomark _)) (pss_one (ps_ret (pe_op op_catA (pe_slice sl_tupA (pv 1) po_none (po_some (pv 3))) (pe_slice sl_tupA (pv 1) (po_some (pe_op op_add (pv 3) pe_int)) po_none)))) pss_nil)
    (pss_cons (ps_if (pt_cmpR op_eq (pv 2) pe_int (nomark _)) (pss_one (ps_ret (pe_op op_catA (pe_op op_catA (pe_slice sl_tupA (pv 1) po_none (po_some (pv 3))) (pe_tup (pa_cons (pe_ix ix_tup (pv 1) (pv 3) (fun _ _ => rfl)) pa_nil))) (pe_slice sl_tupA (pv 1) (po_some (pv 3)) po_none)))) pss_nil)
    (pss_cons (ps_if (pt_cmpR op_eq (pv 2) pe_int (nomark _)) (pss_one (ps_ret (pe_op op_catA (pv 1) (pe_tup (pa_cons (pe_call O.ok hr rfl O.m O.k O.b .nil pass0 (pa_cons (pv 0) pa_nil)) pa_nil))))) pss_nil)
    (pss_one (ps_ret (pe_ifExp (pt_cmpR op_eq (pv 2) pe_int (nomark _)) (pe_revT (pv 1)) (pe_callTy call_list_of rfl B.list (by decide +kernel) (pa_cons (pv 1) pa_nil)))))))))))), ?_⟩
  have z3 : ∀ {k : Nat}, k ≤ 4000000 → k ≤ sizeLine := fun h => Nat.le_trans h (by decide)
  refine ⟨_, rfl, wl, 9, rfl, by decide, by decide, st.well, fun way H1 b0 b1 w1 e1 => ?_⟩
  have g1 := Gr.stay st w1 e1
  have st1 := g1.stt st
  have q1 := q.after g1
  have hd1 : Dq K H1 v d := Dq.mono st1.sub _ _ hd
  have od : spOdd K [.ref wl] H1 Q E := oddG (E := E) ⟨wl, G, rfl, st1, q1.less (Nat.zero_le _) (by omega) (by omega)⟩
  refine joinR ?r1 (fun r => by
    refine ⟨_, rfl, _, _, rfl, rfl, _, rfl, ?_⟩
    refine ite2 (fun g => ?_) (fun _ => iteF r)
    cases hI : isIntB d with
    | false => exact ⟨_, rfl, _, d, _, rfl, hd1, (kit_int d).trans (by rw [hI]), _, rfl, iteF r⟩
    | true =>
      refine ⟨_, rfl, _, d, _, rfl, hd1, (kit_int d).trans (by rw [hI]), _, rfl, iteT ⟨_, rfl, _, d, _, rfl, hd1, kit_bool d, _, rfl, ?_⟩⟩
      refine ite2 (fun hb => ?_) (fun _ => r)
      obtain ⟨i, rfl⟩ := int_of hI (notT hb)
      obtain rfl := dq_int hd
      have gw : way < 2 := of_decide_eq_true g
      have gi : decide (i.natAbs ≤ 10 ^ 30 + j) = true := gd.g
      have gi' := of_decide_eq_true gi
      refine ⟨_, rfl, _, rfl, _, _, rfl, rfl, .inl ⟨by decide, by decide⟩, _, _, rfl, rfl, _, _, rfl, rfl, ?_⟩
      have bd : (i + 2 * way - 1).natAbs ≤ 10 ^ 30 + (j + 1) := by omega
      exact q1 _ H1 G (.int (i + 2 * way - 1)) (Gr.refl st1) (.int _) ⟨decide_eq_true bd, Nat.le_trans (int_weight bd (by omega)) (by omega), by simp only [PyData.depth]; omega⟩)
  refine joinR ?r2 (fun r => by
    refine ⟨_, rfl, _, _, rfl, rfl, _, rfl, ?_⟩
    refine ite2 (fun g => ?_) (fun _ => iteF r)
    refine ⟨_, rfl, _, d, _, rfl, hd1, kit_str d, _, rfl, ?_⟩
    refine ite2 (fun hs => ?_) (fun _ => r)
    obtain ⟨x, rfl⟩ := str_of (of_decide_eq_true hs)
    obtain rfl := dq_str hd
    have gx : (PyData.strOk x && decide (x.length ≤ 100 + j)) = true := gd.g
    rw [Bool.and_eq_true, decide_eq_true_eq] at gx
    have gw := gd.w
    simp only [PyData.weight] at gw
    have gw' : x.length ≤ w := gw
    have tq : txtOk "'" 1 := txt_lit (by decide +kernel)
    have lq := tq.2
    refine ⟨_, rfl, _, rfl, x, _, rfl, rfl, z3 (by omega), z3 (by show 9 ≤ 4000000; decide), fun t ht => ?_⟩
    refine ⟨wl, t, (l8 ++ [x ++ "'"]).map V.str, rfl, well_new w1 ht _, SqT.of upd_same, (by show 1 ≤ 9; decide), (by show 9 < 1073741824; decide), fun u H2 hu w2 e2 => ?_⟩
    obtain ⟨y, my, rfl⟩ := strs_of hu
    have ty : PyData.strOk y = true ∧ y.length ≤ max 8 (x.length + 1) := by
      rcases List.mem_append.mp my with m | m
      · have z := word_ok (l := l8) (by decide +kernel) m
        exact ⟨z.1, by have := z.2; omega⟩
      · rw [List.mem_singleton.mp m]
        exact ⟨strOk_app gx.1 tq.1, by rw [strLen_append]; omega⟩
    have ty2 := ty.2
    refine q1 _ H2 G (.str y) (Gr.stay st1 w2 ((But.new ht _).trans e2)) (.str _) ((gd_str (n := max 8 (x.length + 1)) ty (by omega)).up (Nat.le_refl _) (by omega) (Nat.zero_le _)))
  refine ⟨_, rfl, _, _, rfl, rfl, _, rfl, ?_⟩
  refine ite2 (fun _ => ⟨_, rfl, od⟩) (fun g4 => ?_)
  refine ⟨_, rfl, _, d, _, rfl, hd1, kit_tup d, _, rfl, ?_⟩
  refine ite2 (fun _ => ⟨_, rfl, od⟩) (fun ht => ?_)
  obtain ⟨ds, rfl⟩ := tup_of (isT ht)
  obtain ⟨a, xs, rfl, hxG, hA⟩ := dq_tuple hd
  have hx1 := st1.sub.seqT hxG
  have hl := hA.len
  have wds := gd.wA
  have k1 := gd.one
  have hlw := len_wA ds
  refine ⟨_, rfl, a, _, rfl, .inr hx1, rfl, _, rfl, ?_⟩
  refine ite2 (fun _ => ⟨_, rfl, od⟩) (fun g0 => ?_)
  have g0' : (xs.length : Int) ≠ 0 := num_ne g0
  refine ⟨_, rfl, _, rfl, a, _, rfl, .inr hx1, wl, _, rfl, by omega, by omega, w1, fun at' H2 a0 a1 w2 e2 => ?_⟩
  obtain ⟨n, rfl⟩ : ∃ n : Nat, at' = n := ⟨at'.toNat, by omega⟩
  have hn : n < xs.length := by omega
  have g2 := Gr.stay st1 w2 e2
  have st2 := g2.stt st1
  have q2 := q1.after g2
  have hTp : Tp K G H2 H2 a xs := .inl hxG
  have mem := fun (dd : PyData) (m : dd ∈ ds) => let z := gd.mem m; (⟨gdB_up (Nat.le_succ j) dd z.1, Nat.le_trans z.2 (Nat.le_add_right k 7)⟩ : gdB (j + 1) dd = true ∧ dd.depth + 1 ≤ k + 7)
  have sp := wA_split ds n
  have hle : n ≤ xs.length := Nat.le_of_lt hn
  have hnd : n < ds.length := by omega
  refine ⟨_, rfl, rfl, _, rfl, ?_⟩
  refine ite2 (fun _ => ?_) (fun _ => ?_)
  · -- an element less
    refine ⟨_, rfl, _, rfl, _, rfl, Tp.slice st2.sub (Same.refl H2) hTp fun b1' H3 s3 t3 => ?_⟩
    rw [cutV_to hle] at t3
    have e1' : V.int ((n : Nat) + 1 : Int) = .int ((n + 1 : Nat) : Int) := by congr 1
    refine ⟨_, rfl, _, rfl, _, _, rfl, rfl, _, rfl, ?_⟩
    dsimp only [tNoPart]
    refine Tp.slice (st2.sub.trans s3) s3 (hTp.on s3) fun b2' H4 s4 t4 => ?_
    have e2' : cutV xs (some ((n : Nat) + 1 : Int)) none = xs.drop (n + 1) := cutV_fr (n := n + 1) hn
    rw [e2'] at t4
    refine Tp.cat (st2.sub.trans (s3.trans s4)) (s3.trans s4) (t3.on s4) t4 (by rw [List.length_take, List.length_drop]; exact z3 (by omega)) fun c H5 s5 t5 => ?_
    refine Tp.drawn (Gr.same st2 (s3.trans (s4.trans s5))) t5 (DqAll.append (DqAll.take n hA) (DqAll.drop (n + 1) hA)) (gd_tuple (fun dd m => ?_) ?_ (by omega)) q2
    · rcases List.mem_append.mp m with m | m
      · exact mem dd (List.mem_of_mem_take m)
      · exact mem dd (List.mem_of_mem_drop m)
    · rw [wA_append]
      have := wA_take ds n
      have := wA_drop ds (n + 1)
      omega
  refine ⟨_, rfl, rfl, _, rfl, ?_⟩
  refine ite2 (fun _ => ?_) (fun _ => ?_)
  · -- an element twice
    refine ⟨_, rfl, _, rfl, _, rfl, Tp.slice st2.sub (Same.refl H2) hTp fun b1' H3 s3 t3 => ?_⟩
    rw [cutV_to hle] at t3
    have hx3 := (st2.sub.trans s3).seqT hxG
    refine ⟨_, rfl, _, rfl, a, xs, n, xs[n], rfl, rfl, hx3, atI_nat (List.getElem?_eq_getElem hn), z3 (by show 1 ≤ 4000000; decide), fun p hp => ?_⟩
    have s4 := same_new hp (.tup [xs[n]])
    have t4 : Tp K G H2 (upd H3 p (.tup [xs[n]])) p [xs[n]] := .inr ⟨s3.free hp, upd_same⟩
    refine Tp.cat (st2.sub.trans (s3.trans s4)) (s3.trans s4) (t3.on s4) t4 (by rw [List.length_take]; exact z3 (by show min n xs.length + 1 ≤ 4000000; omega)) fun c H5 s5 t5 => ?_
    refine ⟨_, rfl, _, rfl, _, rfl, ?_⟩
    dsimp only [tNoPart]
    refine Tp.slice (st2.sub.trans (s3.trans (s4.trans s5))) (s3.trans (s4.trans s5)) (hTp.on (s3.trans (s4.trans s5))) fun b2' H6 s6 t6 => ?_
    rw [cutV_fr hle] at t6
    refine Tp.cat (st2.sub.trans (s3.trans (s4.trans (s5.trans s6)))) (s3.trans (s4.trans (s5.trans s6))) (t5.on s6) t6 (by rw [List.length_append, List.length_take, List.length_drop]; exact z3 (by show min n xs.length + 1 + (xs.length - n) ≤ 4000000; omega)) fun c2 H7 s7 t7 => ?_
    have hone : DqAll K G [xs[n]] [ds[n]] := by
      have z := DqAll.take 1 (DqAll.drop n hA)
      rw [List.drop_eq_getElem_cons hn, List.drop_eq_getElem_cons hnd] at z
      exact z
    have wone : (ds[n]).weight + 1 ≤ PyData.weightAll ds := wA_mem (List.getElem_mem hnd)
    refine Tp.drawn (Gr.same st2 (s3.trans (s4.trans (s5.trans (s6.trans s7))))) t7 (DqAll.append (DqAll.append (DqAll.take n hA) hone) (DqAll.drop n hA)) (gd_tuple (fun dd m => ?_) ?_ (by omega)) q2
    · rcases List.mem_append.mp m with m | m
      · rcases List.mem_append.mp m with m | m
        · exact mem dd (List.mem_of_mem_take m)
        · rw [List.mem_singleton.mp m]; exact mem _ (List.getElem_mem hnd)
      · exact mem dd (List.mem_of_mem_drop m)
    · rw [wA_append, wA_append]
      simp only [PyData.weightAll]
      omega
  refine ⟨_, rfl, rfl, _, rfl, ?_⟩
  refine ite2 (fun _ => ?_) (fun _ => ?_)
  · -- an odd one behind
    refine ⟨_, rfl, _, rfl, oddG (E := E) ⟨wl, G, rfl, st2, fun v3 H3 G3 d3 g3 D3 k3 => ⟨z3 (by show 1 ≤ 4000000; decide), fun p hp => ?_⟩⟩⟩
    have st3 := g3.stt st2
    have s4 := same_new hp (.tup [v3])
    refine Tp.cat (H0 := H3) (G := G3) (st3.sub.trans s4) s4 (.inl (g3.gg.seqT hxG)) (.inr ⟨hp, upd_same⟩) (z3 (by show xs.length + 1 ≤ 4000000; omega)) fun c H5 s5 t5 => ?_
    refine Tp.drawn (Gr.same st3 (s4.trans s5)) t5 (DqAll.append (DqAll.mono g3.gg _ _ hA) (.cons D3 .nil)) (gd_tuple (fun dd m => ?_) ?_ (by omega)) (q2.after g3)
    · rcases List.mem_append.mp m with m | m
      · exact mem dd m
      · rw [List.mem_singleton.mp m]
        exact ⟨gdB_up (Nat.zero_le _) _ k3.g, by have := k3.k; omega⟩
    · rw [wA_append]
      have := k3.w
      simp only [PyData.weightAll]
      omega
  refine ⟨_, rfl, rfl, _, rfl, ?_⟩
  have hx2 := st2.sub.seqT hxG
  refine ite2 (fun _ => ?_) (fun _ => ?_)
  · refine ⟨_, rfl, a, xs, rfl, hx2, fun p hp => ?_⟩
    refine Tp.drawn (K := K) (zs := xs.reverse) (Gr.same st2 (same_new hp _)) (.inr ⟨hp, upd_same⟩) (DqAll.rev hA) (gd_tuple (fun dd m => mem dd (List.mem_reverse.mp m)) ?_ (by omega)) q2
    rw [wA_reverse]
    omega
  · refine ⟨_, rfl, a, xs, rfl, .inr hx2, fun p hp => ?_⟩
    obtain ⟨g3, D3⟩ := Gr.lis (K := K) (vs := xs) (ds := ds) st2 hp hA
    exact q2 _ _ _ _ g3 D3 (gd_list mem (by omega) (by omega))
end
end Toy
set_option Elab.async false
set_option linter.all false
set_option maxRecDepth 100000
set_option maxHeartbeats 4000000
namespace Toy
open PySem L2
abbrev sSpoil : Stmt := top 36
theorem joinA {P N : L2.St → Hp → Prop} {G : Prop} (h : ∀ σ H, P σ H → N σ H) (k : (∀ σ H, P σ H → N σ H) → G) : G := k h
/-- the way down, the last step first -/
def Pth (K : PySem.W.Frag) (G H : Hp) (d0 : PyData) : List V → PyData → Prop
  | [], d => d = d0
  | y :: r, d => ∃ (t a : Addr) (n : Nat) (xs : List V) (ds : List PyData), y = .ref t ∧ H t = some (.tup [.ref a, .int (n : Nat)]) ∧ SqT K G a xs ∧ DqAll K G xs ds ∧ ds[n]? = some d ∧ Pth K G H d0 r (.tuple ds)
theorem Pth.mono {K : PySem.W.Frag} {G H G' H' : Hp} {d0 : PyData} (g : Same G G') (e : ∀ b xs, H b = some (.tup xs) → H' b = some (.tup xs)) : ∀ {r : List V} {d : PyData}, Pth K G H d0 r d → Pth K G' H' d0 r d
  | [], _, h => h
  | _ :: _, _, ⟨t, a, n, xs, ds, e1, e2, e3, e4, e5, e6⟩ => ⟨t, a, n, xs, ds, e1, e _ _ e2, g.seqT e3, DqAll.mono g _ _ e4, e5, Pth.mono g e e6⟩
theorem gd_item {ds : List PyData} {d : PyData} {j w k : Nat} (h : Gd (.tuple ds) j w k) (m : d ∈ ds) : Gd d j w k := by
  have a := h.mem m
  have b := wA_mem m
  have c := h.wA
  exact ⟨a.1, by omega, by omega⟩
theorem Pth.gd {K : PySem.W.Frag} {G H : Hp} {d0 : PyData} {j w k : Nat} (h0 : Gd d0 j w k) : ∀ {r : List V} {d : PyData}, Pth K G H d0 r d → Gd d j w k
  | [], _, h => by rw [show _ = d0 from h]; exact h0
  | _ :: _, _, ⟨t, a, n, xs, ds, e1, e2, e3, e4, e5, e6⟩ => gd_item (Pth.gd h0 e6) (List.mem_of_getElem? e5)
theorem tup_keep {wl : Addr} {H H' : Hp} (w : WellAt H wl) (b : But wl H H') : ∀ c xs, H c = some (.tup xs) → H' c = some (.tup xs) := fun c xs e => b c _ (fun z => by
  obtain ⟨_, _, _, h⟩ := w
  rw [z, h] at e
  cases e) e
theorem Gr.ownL {wl pl : Addr} {G H G' H' : Hp} (g : Gr wl G H G' H') (hp : H pl = none) (gp : G' pl = none) (np : pl ≠ wl) (o : HO) : Gr wl G H G' (upd H' pl o) :=
  ⟨g.gg, fun b u e => by rw [upd_ne (fun z => by rw [z, gp] at e; cases e)]; exact g.gh b u e, g.gn, by
    obtain ⟨a, b, c, e⟩ := g.well
    exact ⟨a, b, c, by rw [upd_ne (Ne.symm np)]; exact e⟩, fun b u n e => by rw [upd_ne (fun z => by rw [z, hp] at e; cases e)]; exact g.but b u n e⟩
def spSl (K : PySem.W.Frag) : Sp := fun vs H Q _ => ∃ (wl : Addr) (G : Hp) (v : V) (d : PyData) (j w k : Nat), vs = [.ref wl, v] ∧ Stt wl G H ∧ Dq K G v d ∧ Gd d j w k ∧ j ≤ 100 ∧ w ≤ 400000 ∧ Drawn K wl G H (j + 1) (2 * w + 200) (k + 7) Q
/-- what stands where d stood -/
structure Nrr (d d' : PyData) (j B : Nat) : Prop where
  g : gdB j d' = true
  w : d'.weight ≤ d.weight + B
  k : d'.depth ≤ d.depth + 7
theorem put_back {ds : List PyData} {n j B : Nat} {d d' : PyData} (h : ds[n]? = some d) (hg : ∀ x ∈ ds, gdB j x = true) (e : Nrr d d' j B) : Nrr (.tuple ds) (.tuple (ds.take n ++ [d'] ++ ds.drop (n + 1))) j B := by
  obtain ⟨hn, rfl⟩ := List.getElem?_eq_some_iff.mp h
  have sp := wA_split ds n
  rw [List.drop_eq_getElem_cons hn] at sp
  simp only [PyData.weightAll] at sp
  have e1 := e.w
  have e2 := e.k
  refine ⟨?_, ?_, ?_⟩
  · show gdA j _ = true
    refine gdA_iff.mpr fun x m => ?_
    rcases List.mem_append.mp m with m | m
    · rcases List.mem_append.mp m with m | m
      · exact hg x (List.mem_of_mem_take m)
      · rw [List.mem_singleton.mp m]; exact e.g
    · exact hg x (List.mem_of_mem_drop m)
  · simp only [PyData.weight]
    rw [wA_append, wA_append]
    simp only [PyData.weightAll]
    omega
  · simp only [PyData.depth]
    have : PyData.depthAll (ds.take n ++ [d'] ++ ds.drop (n + 1)) ≤ PyData.depthAll ds + 7 := dA_le fun x m => by
      rcases List.mem_append.mp m with m | m
      · rcases List.mem_append.mp m with m | m
        · have := dA_mem (List.mem_of_mem_take m); omega
        · rw [List.mem_singleton.mp m]
          have := dA_mem (List.getElem_mem hn)
          omega
      · have := dA_mem (List.mem_of_mem_drop m); omega
    omega
section
variable {P : Program} {w : World} {K : PySem.W.Frag} {mg : Str → Option Value} {base : Heap}
theorem scSl : FnScope ["well", "thing", "path", "here", "turn", "at", "whole"] ["well", "thing"] (defScope sSpoil) := ⟨rfl, rfl, rfl, by decide +kernel, rfl, by decide +kernel, by decide +kernel⟩
theorem ok_spoilt {f gD gB : Addr} {fd dD dB : FuncData} (F : Fun K "_law_spoilt" "_law_spoilt" sSpoil f fd) (T : Nm mg) (R : Nr mg) (U : Nt mg) (N : Nu mg) (D : Gv P w K mg base 1 "_law_draw" gD dD ["well", "many"] spDraw) (BE : Gv P w K mg base 4 "_law_bent" gB dB ["well", "thing"] (spBe K)) : FnOk P w K mg base CX0 5 f fd ["well", "thing"] (spSl K) := by
  refine F.ok scSl (fun vs H Q E h => ?_) (fun cdv A outer s H vs Q E hr h => ?_)
  · obtain ⟨wl, G, v, d, j, w, k, rfl, _⟩ := h
    rfl
  obtain ⟨wl, G, v, d, j, w, k, rfl, st, hd, gd, hj, hw, q⟩ := h
  have hr1 : Room 1 (A.deeper _) := hr.mono (by omega)
  refine ⟨_, pss_cons (ps_par (i := 2) (j := 3) rfl scSl.nd rfl rfl (by decide) rfl rfl (pa_cons (pe_lst pa_nil) (pa_cons (pv 1) pa_nil)) rfl)
    (pss_cons (ps_for PassesOwn.never rfl (pi_range1 (by rfl) R.range (pa_cons (pe_call D.ok hr1 rfl D.m D.k D.b .nil pass0 (pa_cons (pv 0) (pa_cons pe_int pa_nil))) pa_nil)) (pg_name (i := 4) scSl.nd rfl (.inl rfl))
      (pss_cons (ps_if (PW.pt (pw_or (pt_not (pt_val (pe_callB (call_isD (T := "tuple")) rfl U.isi (by decide +kernel) (pa_cons (pv 3) (pa_cons (pe_bltn (v := .ty "tuple") rfl N.tuple (by decide +kernel) rfl (by decide) (by decide)) pa_nil))))) (pw_or1 (pt_cmpR op_eq (pe_callB call_len_seq rfl T.len PySem.boot_len (pa_cons (pv 3) pa_nil)) pe_int (nomark _))))) (pss_one ps_break) pss_nil)
      (pss_cons (ps_set (i := 5) scSl.nd rfl (.inl rfl) (pe_call D.ok hr1 rfl D.m D.k D.b .nil pass0 (pa_cons (pv 0) (pa_cons (pe_callB call_len_seq rfl T.len PySem.boot_len (pa_cons (pv 3) pa_nil)) pa_nil))))
      (pss_cons (ps_expr (pe_bm PySem.F.plainAttrs_list PySem.F.slot_list_append PySem.F.type_list_append mt_append (pv 2) (pa_cons (pe_tup (pa_cons (pv 3) (pa_cons (pv 5) pa_nil))) pa_nil)))
      (pss_one (ps_set (i := 3) scSl.nd rfl (.inl rfl) (pe_ix ix_tup (pv 3) (pv 5) (fun _ _ => rfl))))))))
    (pss_cons (ps_set (i := 3) scSl.nd rfl (.inl rfl) (pe_call BE.ok hr rfl BE.m BE.k BE.b .nil pass0 (pa_cons (pv 0) (pa_cons (pv 3) pa_nil))))
    (pss_cons (ps_for PassesOwn.never rfl (pi_list (pe_revL (pv 2))) (pg_tup rfl (pgs_cons (pg_name (i := 6) scSl.nd rfl (.inl rfl)) (pgs_cons (pg_name (i := 5) scSl.nd rfl (.inl rfl)) pgs_nil)))
      (pss_one (ps_set (i := 3) scSl.nd rfl (.inl rfl) (pe_op op_catA (pe_op op_catA (pe_slice sl_tupA (pv 6) po_none (po_some (pv 5))) (pe_tup (pa_cons (pv 3) pa_nil))) (pe_slice sl_tupA (pv 6) (po_some (pe_op op_add (pv 5) pe_int)) po_none)))))
    (pss_one (ps_ret (pv 3)))))), ?_⟩
  have z3 : ∀ {k : Nat}, k ≤ 4000000 → k ≤ sizeLine := fun h => Nat.le_trans h (by decide)
  refine ⟨z3 (by show 0 ≤ 4000000; decide), fun pl hpl => ⟨_, rfl, _, _, rfl, ?_⟩⟩
  have nl : pl ≠ wl := fun z => well_ne st.well (by rw [← z]; exact hpl)
  have g0 := Gr.same st (same_new hpl (.lst []))
  have gpl : G pl = none := st.sub.free hpl
  have h0 : upd H pl (.lst []) pl = some (.lst []) := upd_same
  generalize upd H pl (.lst []) = H0 at g0 h0 ⊢
  refine ⟨_, rfl, wl, 7, rfl, by decide, by decide, (g0.stt st).well, fun m H1 m0 m1 w1 e1 => ⟨m, rfl, by omega, by omega, ?_⟩⟩
  have st0 := g0.stt st
  have g1 := g0.trans (Gr.stay st0 w1 e1)
  have h1 : H1 pl = some (.lst []) := e1 _ _ nl h0
  refine joinA (P := fun σ H' => ∃ (rows : List V) (G' : Hp) (vh : V) (dh : PyData) (c4 c5 : Option V), σ = [some (.ref wl), some v, some (.ref pl), some vh, c4, c5, none] ∧ Gr wl G H G' H' ∧ G' pl = none ∧ H' pl = some (.lst rows) ∧ rows.length ≤ 6 ∧ Pth K G' H' d rows.reverse dh ∧ Dq K G' vh dh) ?aft (fun aft =>
    for_range (lo := 0) (n := m.toNat) (fun i σ H' => i ≤ 6 ∧ ∃ (rows : List V) (G' : Hp) (vh : V) (dh : PyData) (c4 c5 : Option V), σ = [some (.ref wl), some v, some (.ref pl), some vh, c4, c5, none] ∧ Gr wl G H G' H' ∧ G' pl = none ∧ H' pl = some (.lst rows) ∧ rows.length ≤ i ∧ Pth K G' H' d rows.reverse dh ∧ Dq K G' vh dh)
      ⟨Nat.zero_le _, [], G, v, d, none, none, rfl, g1, gpl, h1, Nat.zero_le _, rfl, hd⟩ ?turn (fun σ H' p => by
        obtain ⟨hi, rows, G', vh, dh, c4, c5, e, g, gp, hp, hl, hP, hD⟩ := p
        exact aft σ H' ⟨rows, G', vh, dh, c4, c5, e, g, gp, hp, Nat.le_trans hl hi, hP, hD⟩))
  case turn =>
    rintro i σ H2 hi ⟨hi6, rows, G', vh, dh, c4, c5, rfl, g2, gp2, hp2, hl2, hP, hD⟩
    have st2 := g2.stt st
    have hD2 : Dq K H2 vh dh := Dq.mono st2.sub _ _ hD
    have brk := aft [some (.ref wl), some v, some (.ref pl), some vh, some (.int (0 + (i : Int))), c5, none] H2 ⟨rows, G', vh, dh, _, c5, rfl, g2, gp2, hp2, by omega, hP, hD⟩
    refine ⟨_, rfl, _, dh, _, rfl, hD2, kit_tup dh, _, rfl, ?_⟩
    refine ite2 (fun _ => brk) (fun ht => ?_)
    obtain ⟨ds, rfl⟩ := tup_of (isT ht)
    obtain ⟨a, xs, rfl, hxG, hA⟩ := dq_tuple hD
    have hx2 := st2.sub.seqT hxG
    have hl := hA.len
    refine ⟨_, rfl, a, _, rfl, .inr hx2, rfl, _, rfl, ?_⟩
    refine ite2 (fun _ => brk) (fun g0 => ?_)
    have g0' : (xs.length : Int) ≠ 0 := num_ne g0
    have gdh := Pth.gd gd hP
    have wds := gdh.wA
    have hlw := len_wA ds
    refine ⟨_, rfl, _, rfl, a, _, rfl, .inr hx2, wl, _, rfl, by omega, by omega, st2.well, fun at' H3 a0 a1 w3 e3 => ?_⟩
    obtain ⟨n, rfl⟩ : ∃ n : Nat, at' = n := ⟨at'.toNat, by omega⟩
    have hn : n < xs.length := by omega
    have hnd : n < ds.length := by omega
    have g3 := g2.trans (Gr.stay st2 w3 e3)
    have st3 := g3.stt st
    have hp3 : H3 pl = some (.lst rows) := e3 _ _ nl hp2
    refine ⟨_, rfl, .inl ⟨rfl, _, SqL.of hp3⟩, _, rfl, _, rfl, z3 (by show 2 ≤ 4000000; decide), fun t ht => ?_⟩
    have s4 := same_new ht (.tup [.ref a, .int (n : Nat)])
    have np : pl ≠ t := fun z => by rw [z, ht] at hp3; cases hp3
    refine ⟨pl, rows, .ref t, rfl, rfl, s4 _ _ hp3, Nat.lt_of_le_of_lt (by omega : rows.length ≤ 6) (by decide), ?_⟩
    have g5 := (g3.trans (Gr.same st3 s4)).ownL hpl gp2 nl (.lst (rows ++ [.ref t]))
    have h5 : upd (upd H3 t (.tup [.ref a, .int (n : Nat)])) pl (.lst (rows ++ [.ref t])) pl = some (.lst (rows ++ [.ref t])) := upd_same
    have k5 : ∀ b zs, H2 b = some (.tup zs) → upd (upd H3 t (.tup [.ref a, .int (n : Nat)])) pl (.lst (rows ++ [.ref t])) b = some (.tup zs) := fun b zs e => keep_upd (s4 _ _ hp3) _ _ (s4 _ _ (tup_keep st2.well e3 _ _ e))
    have ht5 : upd (upd H3 t (.tup [.ref a, .int (n : Nat)])) pl (.lst (rows ++ [.ref t])) t = some (.tup [.ref a, .int (n : Nat)]) := keep_upd (s4 _ _ hp3) _ _ upd_same
    generalize upd (upd H3 t (.tup [.ref a, .int (n : Nat)])) pl (.lst (rows ++ [.ref t])) = H5 at g5 h5 k5 ht5 ⊢
    have st5 := g5.stt st
    refine ⟨_, rfl, _, rfl, a, xs, n, xs[n], rfl, rfl, st5.sub.seqT hxG, atI_nat (List.getElem?_eq_getElem hn), ?_⟩
    obtain ⟨dn, en, Dn⟩ := dqAll_at _ _ n hA (List.getElem?_eq_getElem hn)
    refine ⟨by omega, rows ++ [.ref t], G', xs[n], dn, _, _, rfl, g5, gp2, h5, by rw [List.length_append, List.length_singleton]; omega, ?_, Dn⟩
    rw [List.reverse_append]
    exact ⟨t, a, n, xs, ds, rfl, ht5, hxG, hA, en, hP.mono (Same.refl _) k5⟩
  case aft =>
    rintro σ H2 ⟨rows, G', vh, dh, c4, c5, rfl, g2, gp2, hp2, hl2, hP, hD⟩
    have st2 := g2.stt st
    have gdh := Pth.gd gd hP
    refine ⟨_, rfl, _, rfl, wl, G', vh, dh, j, dh.weight, dh.depth, rfl, st2, hD, ⟨gdh.g, Nat.le_refl _, Nat.le_refl _⟩, hj, by have := gdh.w; omega, fun v3 H3 G3 d3 g3 D3 k3 => ?_⟩
    have g13 := g2.trans g3
    have st3 := g13.stt st
    have hp3 : H3 pl = some (.lst rows) := g3.but _ _ nl hp2
    have hP3 := hP.mono g3.gg (tup_keep st2.well g3.but)
    have N3 : Nrr dh d3 (j + 1) (w + 200) := ⟨k3.g, by have := k3.w; have := gdh.w; omega, k3.k⟩
    refine ⟨_, rfl, pl, rows, rfl, SqL.of hp3, fun p hp => ?_⟩
    have s4 := same_new hp (.lst rows.reverse)
    have g4 := g13.trans (Gr.same st3 s4)
    have h4 : upd H3 p (.lst rows.reverse) p = some (.lst rows.reverse) := upd_same
    have gp4 : G3 p = none := st3.sub.free hp
    have np : p ≠ wl := fun z => well_ne st3.well (by rw [← z]; exact hp)
    have hP4 := hP3.mono (Same.refl _) (keep_same s4)
    generalize upd H3 p (.lst rows.reverse) = H4 at g4 h4 hP4 ⊢
    generalize hst : rows.reverse = stk at h4 hP4 ⊢
    refine ⟨p, rfl, ⟨_, SqL.of h4⟩, for_list (K := K) (a := p) (xs := stk) (fun i σ H' => ∃ (G' : Hp) (vh : V) (dh dh' : PyData) (c4 c5 c6 : Option V), σ = [some (.ref wl), some v, some (.ref pl), some vh, c4, c5, c6] ∧ Gr wl G H G' H' ∧ G' p = none ∧ H' p = some (.lst stk) ∧ Pth K G' H' d (stk.drop i) dh ∧ Dq K G' vh dh' ∧ Nrr dh dh' (j + 1) (w + 200))
      ⟨G3, v3, dh, d3, _, _, none, rfl, g4, gp4, h4, hP4, D3, N3⟩ (fun i σ H' _ z => by obtain ⟨G', vh, dh, dh', c4, c5, c6, _, _, _, hp', _⟩ := z; exact SqL.of hp') ?_ ?_⟩
    · rintro i y σ H5 hi ⟨G5, vh5, dh5, dh6, c4, c5, c6, rfl, g5, gp5, h5, hP5, D5, N5⟩
      have st5 := g5.stt st
      obtain ⟨hil, ey⟩ := List.getElem?_eq_some_iff.mp hi
      rw [List.drop_eq_getElem_cons hil, ey] at hP5
      obtain ⟨t, a, n, xs, ds, rfl, et, hxG, hA, en, hPr⟩ := hP5
      have hl := hA.len
      obtain ⟨hnd, _⟩ := List.getElem?_eq_some_iff.mp en
      have hn : n < xs.length := by omega
      have hle : n ≤ xs.length := Nat.le_of_lt hn
      have gdw := Pth.gd gd hPr
      have wds := gdw.wA
      have hlw := len_wA ds
      refine ⟨t, _, rfl, SqT.of et, rfl, _, _, rfl, _, _, rfl, rfl, ?_⟩
      have hTp : Tp K G5 H5 H5 a xs := .inl hxG
      refine ⟨_, rfl, _, rfl, _, rfl, Tp.slice st5.sub (Same.refl H5) hTp fun b1' H6 s6 t6 => ?_⟩
      rw [cutV_to hle] at t6
      refine ⟨_, rfl, z3 (by show 1 ≤ 4000000; decide), fun p2 hp2 => ?_⟩
      have s7 := same_new hp2 (.tup [vh5])
      have t7 : Tp K G5 H5 (upd H6 p2 (.tup [vh5])) p2 [vh5] := .inr ⟨s6.free hp2, upd_same⟩
      refine Tp.cat (st5.sub.trans (s6.trans s7)) (s6.trans s7) (t6.on s7) t7 (by rw [List.length_take]; exact z3 (by show min n xs.length + 1 ≤ 4000000; omega)) fun c H8 s8 t8 => ?_
      refine ⟨_, rfl, _, rfl, _, _, rfl, rfl, _, rfl, ?_⟩
      dsimp only [tNoPart]
      refine Tp.slice (st5.sub.trans (s6.trans (s7.trans s8))) (s6.trans (s7.trans s8)) (hTp.on (s6.trans (s7.trans s8))) fun b2' H9 s9 t9 => ?_
      have e2' : cutV xs (some ((n : Nat) + 1 : Int)) none = xs.drop (n + 1) := cutV_fr (n := n + 1) hn
      rw [e2'] at t9
      refine Tp.cat (st5.sub.trans (s6.trans (s7.trans (s8.trans s9)))) (s6.trans (s7.trans (s8.trans s9))) (t8.on s9) t9 (by rw [List.length_append, List.length_take, List.length_drop]; exact z3 (by show min n xs.length + 1 + (xs.length - (n + 1)) ≤ 4000000; omega)) fun c2 H10 s10 t10 => ?_
      have SS := s6.trans (s7.trans (s8.trans (s9.trans s10)))
      have N10 := put_back en (fun x m => gdB_up (Nat.le_succ j) x (gdw.mem m).1) N5
      exact Tp.drawn (Q := fun v' H' => ∃ (G' : Hp) (vh : V) (dh dh' : PyData) (k4 k5 k6 : Option V), [some (.ref wl), some v, some (.ref pl), some v', c4, some (.int (n : Nat)), some (.ref a)] = [some (.ref wl), some v, some (.ref pl), some vh, k4, k5, k6] ∧ Gr wl G H G' H' ∧ G' p = none ∧ H' p = some (.lst stk) ∧ Pth K G' H' d (stk.drop (i + 1)) dh ∧ Dq K G' vh dh' ∧ Nrr dh dh' (j + 1) (w + 200)) (wl := wl) (j := j + 1) (w := (PyData.tuple (ds.take n ++ [dh6] ++ ds.drop (n + 1))).weight) (k := (PyData.tuple (ds.take n ++ [dh6] ++ ds.drop (n + 1))).depth) (Gr.same st5 SS) t10 (DqAll.append (DqAll.append (DqAll.take n hA) (.cons D5 .nil)) (DqAll.drop (n + 1) hA)) ⟨N10.g, Nat.le_refl _, Nat.le_refl _⟩
        (fun v' H' G' d'' g' D' gd' => ⟨G', v', .tuple ds, d'', _, _, _, rfl, g5.trans g', g'.off gp5 (by rw [h5]; exact fun z => nomatch z), g'.but _ _ np h5, hPr.mono g'.gg (tup_keep st5.well g'.but), D', ⟨gd'.g, Nat.le_trans gd'.w N10.w, Nat.le_trans gd'.k N10.k⟩⟩)
    · rintro σ H5 ⟨G5, vh5, dh5, dh6, c4, c5, c6, rfl, g5, gp5, h5, hP5, D5, N5⟩
      rw [List.drop_length] at hP5
      obtain rfl : dh5 = d := hP5
      have := N5.w
      have := gd.w
      have := N5.k
      have := gd.k
      exact ⟨_, rfl, q vh5 H5 G5 dh6 g5 D5 ⟨N5.g, by omega, by omega⟩⟩
end
end Toy
set_option Elab.async false
set_option linter.all false
set_option maxRecDepth 100000
set_option maxHeartbeats 4000000
namespace L2
open PySem PySem.Spec PyProof.Rows
def tCallZ (sp : Sp) (t : TA) : TE := fun σ H Q => t σ H fun vs H1 => sp vs H1 Q E0
theorem pe_callZD {X : Cx} {Z : Around → Prop} {f : Addr} {fd : FuncData} {ps : List Str} {sp : Sp} {x : Str} {p pos : Pos} {e : Expr} {es : List Expr} {t : TA} (F : FnZ Z X.prog X.w X.K X.mg X.base f fd ps sp) (hz : Z X.A) (hg : Gl X x) (hm : X.mg x = some (.ref f)) (hk : PySem.W.keepIn X.K (.ref f) = true) (hb : Binds X.K fd ps [])
    (ha : PA X (e :: es) t) (hdb : (x == ("__debug__" : Str)) = false := by decide) (he : starEach (e :: es) X.env = (false, eval e X.env) :: starEach es X.env := by rfl) (hpl : (backTo pos (starEach es X.env)).any (·.1) = false := by rfl) :
    PE X (.Call (.Name x p) (e :: es) [] pos) (tCallZ sp t) := pe_callZ F hz hg hm hk hb ha hdb he hpl
end L2
namespace Toy
open PySem L2
abbrev sJudged : Stmt := top 41
structure GvZ (Z : Around → Prop) (P : Program) (w : World) (K : PySem.W.Frag) (mg : Str → Option Value) (base : Heap) (x : Str) (f : Addr) (fd : FuncData) (ps : List Str) (sp : Sp) : Prop where
  ok : FnZ Z P w K mg base f fd ps sp
  b : Binds K fd ps []
  k : PySem.W.keepIn K (.ref f) = true
  m : mg x = some (.ref f)
/-- what may be judged -/
abbrev Jd (d : PyData) : Prop := Gd d 2 400000 110
def spJu (K : PySem.W.Frag) : Sp := fun vs H Q _ => ∃ (v : V) (d : PyData) (b : Bool), vs = [v, .bl b] ∧ Dq K H v d ∧ Jd d ∧ ∀ H', Same H H' → Q (.bl true) H'
theorem two_bl (a b : Bool) : (PyData.list [.bool a, .bool b]).showable = true ∧ (PyData.list [.bool a, .bool b]).shown.length ≤ sizeLine ∧ (PyData.list [.bool a, .bool b]).depth ≤ 60 := by
  have h : ∀ a b : Bool, ((PyData.list [.bool a, .bool b]).showable && (decide ((PyData.list [.bool a, .bool b]).shown.length ≤ 100) && decide ((PyData.list [.bool a, .bool b]).depth ≤ 60))) = true := by
    intro a b
    cases a <;> cases b <;> decide +kernel
  have z := h a b
  rw [Bool.and_eq_true, Bool.and_eq_true, decide_eq_true_eq, decide_eq_true_eq] at z
  exact ⟨z.1, Nat.le_trans z.2.1 (by decide), z.2.2⟩
theorem RoomG.under {k : Nat} {A : Around} {env : Env} (r : RoomG (k + 1) A) : RoomG k (A.deeper env) := r.deeper env
section
variable {P : Program} {w : World} {K : PySem.W.Frag} {mg : Str → Option Value} {base : Heap}
theorem scJu : FnScope ["thing", "by_name", "due", "shown", "found"] ["thing", "by_name"] (defScope sJudged) := ⟨rfl, rfl, rfl, by decide +kernel, rfl, by decide +kernel, by decide +kernel⟩
theorem ok_judged {f gLN gLK gN gK gS : Addr} {fd dLN dLK dN dK dS : FuncData} (F : Fun K "_law_is_judged" "_law_is_judged" sJudged f fd) (T : Nm mg) (LN : Gv P w K mg base 2 "_law_is_name" gLN dLN ["thing"] (spNm K)) (LK : Gv P w K mg base 124 "_law_is_kind" gLK dLK ["thing"] (spKd K 120)) (IN : Gv P w K mg base 2 "is_name" gN dN ["value"] (spNm K)) (kN : KBo K dN ["value"]) (IK : Gv P w K mg base 5 "is_kind" gK dK ["value"] (spIk K 120)) (kK : KBo K dK ["value"])
    (SM : GvZ (RoomG 1) P w K mg base "_law_same" gS dS ["told", "due"] (spSame K)) : FnZ (RoomG 125) P w K mg base f fd ["thing", "by_name"] (spJu K) := by
  refine F.okZ true scJu (fun A z => z.depth) (fun _ A z => z.room.hd) (fun vs H Q E h => ?_) (fun cdv A outer s H vs Q hz0 h => ?_)
  · obtain ⟨v, d, b, rfl, _⟩ := h
    rfl
  obtain ⟨v, d, b, rfl, hd, gd, q⟩ := h
  have hz : ∀ env, RoomG 124 (A.deeper env) := fun env => hz0.deeper env
  have hu : ∀ env, (A.deeper env).units + 400 < cLine := fun env => by
    have y := (hz env).room.un
    omega
  refine ⟨_, pss_cons (ps_par (i := 2) (j := 3) rfl scJu.nd rfl rfl (by decide) rfl rfl (pa_cons (pe_lst (pa_cons (pe_call LN.ok ((hz _).room.mono (by omega)) rfl LN.m LN.k LN.b .nil pass0 (pa_cons (pv 0) pa_nil)) (pa_cons (pe_call LK.ok (hz _).room rfl LK.m LK.k LK.b .nil pass0 (pa_cons (pv 0) pa_nil)) pa_nil))) (pa_cons (pe_callB (call_repA (hu _) (hz _).gs) rfl T.repr (by decide +kernel) (pa_cons (pv 0) pa_nil)) pa_nil)) rfl)
    (pss_cons (ps_set (i := 4) scJu.nd rfl (.inl rfl) (pe_ifExp (pt_val (pv 1)) (pe_lst (pa_cons (pe_callKo IN.ok ((hz _).room.mono (by omega)) rfl IN.m IN.k kN (pk_cons (pv 0) pk_nil)) (pa_cons (pe_callKo IK.ok ((hz _).room.mono (by omega)) rfl IK.m IK.k kK (pk_cons (pv 0) pk_nil)) pa_nil)))
      (pe_lst (pa_cons (pe_call IN.ok ((hz _).room.mono (by omega)) rfl IN.m IN.k IN.b .nil pass0 (pa_cons (pv 0) pa_nil)) (pa_cons (pe_call IK.ok ((hz _).room.mono (by omega)) rfl IK.m IK.k IK.b .nil pass0 (pa_cons (pv 0) pa_nil)) pa_nil)))))
    (pss_one (ps_ret (pe_and (pe_callZD SM.ok ((hz _).mono (by omega)) rfl SM.m SM.k SM.b (pa_cons (pv 4) (pa_cons (pv 2) pa_nil))) (pe_one (pe_cmpR op_eq (pe_callB (call_repA (hu _) (hz _).gs) rfl T.repr (by decide +kernel) (pa_cons (pv 0) pa_nil)) (pv 3) (nomark _))))))), ?_⟩
  have z3 : ∀ {k : Nat}, k ≤ 200 → k ≤ sizeLine := fun h => Nat.le_trans h (by decide)
  have ht := gdB_txt (by decide) d gd.g
  have hdp : d.depth ≤ 120 := Nat.le_trans gd.k (by decide)
  have hsh := gdB_show (by decide) d gd.g
  have hsz : d.shown.length ≤ sizeLine := Nat.le_trans (gd_shown (by decide) gd.g) (Nat.le_trans (Nat.add_le_add_right (Nat.mul_le_mul_left 35 gd.w) 33) (by decide))
  have hms : (ms 120 d).2.1 ≤ 1000000 := Nat.le_trans (ms_weight 120 d) (by have := gd.w; omega)
  refine ⟨_, rfl, v, d, rfl, hd, ht, fun H1 s1 => ⟨_, rfl, v, d, rfl, Dq.mono s1 _ _ hd, ht, hdp, hms, fun H2 s2 => ⟨z3 (by show 2 ≤ 200; decide), fun l hl => ?_⟩⟩⟩
  have s3 := (s1.trans s2).trans (same_new hl (.lst [.bl (nmB d), .bl (kdB 120 d)]))
  have hl3 : upd H2 l (.lst [.bl (nmB d), .bl (kdB 120 d)]) l = some (.lst [.bl (nmB d), .bl (kdB 120 d)]) := upd_same
  generalize upd H2 l (.lst [.bl (nmB d), .bl (kdB 120 d)]) = H3 at s3 hl3 ⊢
  refine ⟨_, rfl, v, d, rfl, Dq.mono s3 _ _ hd, hsh, hsz, by omega, _, _, rfl, ?_⟩
  refine joinR (R := ∀ (l2 : Addr) (H5 : Hp), Same H3 H5 → H5 l2 = some (.lst [.bl (nmB d), .bl (kdB 120 d)]) → (?N : Addr → Hp → Prop) l2 H5) ?fin (fun fin => by
    cases b with
    | true =>
      refine ⟨_, rfl, _, rfl, iteT ⟨_, rfl, v, d, rfl, Dq.mono s3 _ _ hd, ht, fun H4 s4 => ⟨_, rfl, v, d, rfl, Dq.mono (s3.trans s4) _ _ hd, ht, hdp, fun H5 s5 => ⟨z3 (by show 2 ≤ 200; decide), fun l2 hl2 => ?_⟩⟩⟩⟩
      exact fin l2 _ (s4.trans (s5.trans (same_new hl2 _))) upd_same
    | false =>
      refine ⟨_, rfl, _, rfl, iteF ⟨_, rfl, v, d, rfl, Dq.mono s3 _ _ hd, ht, fun H4 s4 => ⟨_, rfl, v, d, rfl, Dq.mono (s3.trans s4) _ _ hd, ht, hdp, fun H5 s5 => ⟨z3 (by show 2 ≤ 200; decide), fun l2 hl2 => ?_⟩⟩⟩⟩
      exact fin l2 _ (s4.trans (s5.trans (same_new hl2 _))) upd_same)
  intro l2 H5 s5 h5
  have S5 := s3.trans s5
  obtain ⟨c1, c2, c3⟩ := two_bl (nmB d) (kdB 120 d)
  refine ⟨_, rfl, _, rfl, l2, l, [.bool (nmB d), .bool (kdB 120 d)], rfl, .lst (SqL.of h5) (.cons (.bl _) (.cons (.bl _) .nil)), .lst (SqL.of (s5 _ _ hl3)) (.cons (.bl _) (.cons (.bl _) .nil)), c1, c2, c3, ?_⟩
  refine ⟨_, rfl, iteT ⟨_, rfl, v, d, rfl, Dq.mono S5 _ _ hd, hsh, hsz, by omega, _, rfl, rfl, ?_⟩⟩
  rw [decide_eq_true rfl]
  exact q H5 S5
end
end Toy
set_option Elab.async false
set_option linter.all false
set_option maxRecDepth 100000
set_option maxHeartbeats 4000000
namespace Toy
open PySem L2 StrO
abbrev sTold : Stmt := top 42
def spTo (K : PySem.W.Frag) : Sp := fun vs H Q _ => ∃ (v : V) (d : PyData), vs = [v] ∧ Dq K H v d ∧ Jd d ∧ kdB 120 d = true ∧ ∀ H', Same H H' → Q (.bl true) H'
theorem names_gd {j : Nat} : ∀ (n : Nat) (d : PyData), gdB j d = true → ∀ x ∈ (ms n d).2.2, PyData.strOk x = true ∧ x.length ≤ 100 + j
  | 0, _, _, _, h => nomatch h
  | n + 1, d, g, x, h => by
    have h' : x ∈ (match kids d with | some (a, b) => two (ms n a) (ms n b) | none => (1, 1, nameOf d)).2.2 := h
    cases hk : kids d with
    | none =>
      rw [hk] at h'
      have h2 : x ∈ nameOf d := h'
      unfold nameOf at h2
      split at h2
      · rename_i w y
        rw [List.mem_singleton.mp h2]
        have g' : (gdB j w && (gdB j (.str y) && true)) = true := g
        rw [Bool.and_eq_true, Bool.and_eq_true] at g'
        have g2 : (PyData.strOk y && decide (y.length ≤ 100 + j)) = true := g'.2.1
        rw [Bool.and_eq_true, decide_eq_true_eq] at g2
        exact g2
      · exact nomatch h2
    | some p =>
      obtain ⟨a, b⟩ := p
      rw [hk] at h'
      have h2 : x ∈ (ms n a).2.2 ++ (ms n b).2.2 := h'
      unfold kids at hk
      split at hk
      · rename_i w a' b'
        cases hk
        have g' : (gdB j w && (gdB j a && (gdB j b && true))) = true := g
        simp only [Bool.and_eq_true] at g'
        rcases List.mem_append.mp h2 with h2 | h2
        · exact names_gd n a g'.2.1 x h2
        · exact names_gd n b g'.2.2.1 x h2
      · cases hk
theorem dq_strs {K : PySem.W.Frag} {H : Hp} : ∀ l : List Str, DqAll K H (l.map V.str) (l.map PyData.str)
  | [] => .nil
  | x :: r => .cons (.str x) (dq_strs r)
theorem strs_weight {j : Nat} : ∀ l : List Str, (∀ x ∈ l, PyData.strOk x = true ∧ x.length ≤ 100 + j) → gdA j (l.map PyData.str) = true ∧ PyData.weightAll (l.map PyData.str) ≤ (101 + j) * l.length ∧ PyData.depthAll (l.map PyData.str) = 0
  | [], _ => ⟨rfl, by simp only [List.map_nil, PyData.weightAll]; exact Nat.zero_le _, by simp only [List.map_nil, PyData.depthAll]⟩
  | x :: r, h => by
    obtain ⟨a, b, c⟩ := strs_weight r fun y hy => h y (List.mem_cons_of_mem _ hy)
    have hx := h x List.mem_cons_self
    have lx : x.cps.size ≤ 100 + j := hx.2
    refine ⟨?_, ?_, ?_⟩
    · show ((PyData.strOk x && decide (x.length ≤ 100 + j)) && gdA j (r.map PyData.str)) = true
      rw [a, hx.1, decide_eq_true hx.2]
      rfl
    · simp only [List.map_cons, PyData.weightAll, PyData.weight, List.length_cons]
      have : (101 + j) * (r.length + 1) = (101 + j) * r.length + (101 + j) := Nat.mul_succ _ _
      omega
    · simp only [List.map_cons, PyData.depthAll, PyData.depth, c]
      omega
/-- depth, parts, names, as they are told -/
def tri (a b : Nat) (l : List Str) : List PyData := [.int (a : Nat), .int (b : Nat), .tuple (l.map PyData.str)]
theorem tri_ok {a b : Nat} {l : List Str} (ha : a ≤ 2000) (hb : b ≤ 2000) (hl : l.length ≤ 2000) (h : ∀ x ∈ l, PyData.strOk x = true ∧ x.length ≤ 102) : (PyData.list (tri a b l)).showable = true ∧ (PyData.list (tri a b l)).shown.length ≤ sizeLine ∧ (PyData.list (tri a b l)).depth ≤ 60 := by
  obtain ⟨x, y, z⟩ := strs_weight (j := 2) l h
  have ga : gdB 2 (.int (a : Nat)) = true := decide_eq_true (by show a ≤ _; omega)
  have gb : gdB 2 (.int (b : Nat)) = true := decide_eq_true (by show b ≤ _; omega)
  have g : gdB 2 (.list (tri a b l)) = true := by
    show (gdB 2 (.int (a : Nat)) && (gdB 2 (.int (b : Nat)) && (gdA 2 (l.map PyData.str) && true))) = true
    rw [ga, gb, x]
    rfl
  have wa := int_weight (i := (a : Nat)) (j := 2) (of_decide_eq_true ga) (by decide)
  have wb := int_weight (i := (b : Nat)) (j := 2) (of_decide_eq_true gb) (by decide)
  have wt : (PyData.list (tri a b l)).weight ≤ 300000 := by
    unfold tri
    simp only [PyData.weight, PyData.weightAll] at wa wb ⊢
    have : (101 + 2) * l.length ≤ 206000 := by omega
    omega
  refine ⟨gdB_show (by decide) _ g, Nat.le_trans (gd_shown (by decide) g) (Nat.le_trans (Nat.add_le_add_right (Nat.mul_le_mul_left 35 wt) 33) (by decide)), ?_⟩
  unfold tri
  simp only [PyData.depth, PyData.depthAll, z]
  omega
theorem flat_strs (l : List Str) : (l.map V.str).all flatV = true := strs_flat l
theorem inV_strs (x : Str) : ∀ l : List Str, inV (.str x) (l.map V.str) = decide (x ∈ l)
  | [] => rfl
  | y :: r => by
    show ((y == x) || inV (.str x) (r.map V.str)) = _
    rw [inV_strs x r]
    by_cases h : y = x
    · subst h; simp
    · have e : (y == x) = false := Bool.eq_false_iff.mpr fun z => h (eq_of_beq z)
      rw [e, Bool.false_or]
      exact decide_eq_decide.mpr ⟨fun m => List.mem_cons_of_mem _ m, fun m => (List.mem_cons.mp m).resolve_left fun z => h z.symm⟩
section
variable {P : Program} {w : World} {K : PySem.W.Frag} {mg : Str → Option Value} {base : Heap}
theorem scTo : FnScope ["kind", "deep", "many", "names", "ascending", "name", "due", "found"] ["kind"] (defScope sTold) := ⟨rfl, rfl, rfl, by decide +kernel, rfl, by decide +kernel, by decide +kernel⟩
theorem ok_told {f gM gD gP gN gS : Addr} {fd dM dD dP dN dS : FuncData} (F : Fun K "_law_is_told" "_law_is_told" sTold f fd) (G : Ng mg) (U : Nu mg) (LM : Gv P w K mg base 121 "_law_measures" gM dM ["kind"] (spMs K 120))
    (DK : Gv P w K mg base 6 "depth_of_kind" gD dD ["kind"] (spDk K 120)) (kD : KBo K dD ["kind"]) (PK : Gv P w K mg base 6 "parts_of_kind" gP dP ["kind"] (spMk K 120)) (kP : KBo K dP ["kind"]) (NK : Gv P w K mg base 6 "names_in" gN dN ["kind"] (spNi K 120)) (kN : KBo K dN ["kind"])
    (SM : GvZ (RoomG 1) P w K mg base "_law_same" gS dS ["told", "due"] (spSame K)) : FnZ (RoomG 125) P w K mg base f fd ["kind"] (spTo K) := by
  refine F.okZ true scTo (fun A z => z.depth) (fun _ A z => z.room.hd) (fun vs H Q E h => ?_) (fun cdv A outer s H vs Q hz0 h => ?_)
  · obtain ⟨v, d, rfl, _⟩ := h
    rfl
  obtain ⟨v, d, rfl, hd, gd, hk, q⟩ := h
  have hz : ∀ env, RoomG 124 (A.deeper env) := fun env => hz0.deeper env
  refine ⟨_, pss_cons (ps_asg (pe_call LM.ok ((hz _).room.mono (by omega)) rfl LM.m LM.k LM.b .nil pass0 (pa_cons (pv 0) pa_nil)) (pg_tup rfl (pgs_cons (pg_name (i := 1) scTo.nd rfl (.inl rfl)) (pgs_cons (pg_name (i := 2) scTo.nd rfl (.inl rfl)) (pgs_cons (pg_name (i := 3) scTo.nd rfl (.inl rfl)) pgs_nil)))))
    (pss_cons (ps_set (i := 4) scTo.nd rfl (.inl rfl) (pe_lst pa_nil))
    (pss_cons (ps_for PassesOwn.never rfl (pi_list (pe_callB cr_sortedX rfl G.sorted (by decide +kernel) (pa_cons (pv 3) pa_nil))) (pg_name (i := 5) scTo.nd rfl (.inl rfl))
      (pss_one (ps_if (pt_cmpR op_notIn_seq (pv 5) (pv 4) (by rfl)) (pss_one (ps_expr (pe_bm PySem.F.plainAttrs_list PySem.F.slot_list_append PySem.F.type_list_append mt_append (pv 4) (pa_cons (pv 5) pa_nil)))) pss_nil)))
    (pss_cons (ps_set (i := 6) scTo.nd rfl (.inl rfl) (pe_lst (pa_cons (pv 1) (pa_cons (pv 2) (pa_cons (pe_callTy call_tuple_of rfl U.tuple (by decide +kernel) (pa_cons (pv 4) pa_nil)) pa_nil)))))
    (pss_cons (ps_set (i := 7) scTo.nd rfl (.inl rfl) (pe_lst (pa_cons (pe_callKo DK.ok ((hz _).room.mono (by omega)) rfl DK.m DK.k kD (pk_cons (pv 0) pk_nil)) (pa_cons (pe_callKo PK.ok ((hz _).room.mono (by omega)) rfl PK.m PK.k kP (pk_cons (pv 0) pk_nil)) (pa_cons (pe_callKo NK.ok ((hz _).room.mono (by omega)) rfl NK.m NK.k kN (pk_cons (pv 0) pk_nil)) pa_nil)))))
    (pss_one (ps_ret (pe_and (pe_callZD SM.ok ((hz _).mono (by omega)) rfl SM.m SM.k SM.b (pa_cons (pe_lst (pa_cons (pe_call DK.ok ((hz _).room.mono (by omega)) rfl DK.m DK.k DK.b .nil pass0 (pa_cons (pv 0) pa_nil)) (pa_cons (pe_call PK.ok ((hz _).room.mono (by omega)) rfl PK.m PK.k PK.b .nil pass0 (pa_cons (pv 0) pa_nil)) (pa_cons (pe_call NK.ok ((hz _).room.mono (by omega)) rfl NK.m NK.k NK.b .nil pass0 (pa_cons (pv 0) pa_nil)) pa_nil)))) (pa_cons (pv 6) pa_nil)) (he := by rfl))
      (pe_one (pe_callZD SM.ok ((hz _).mono (by omega)) rfl SM.m SM.k SM.b (pa_cons (pv 7) (pa_cons (pv 6) pa_nil))))))))))), ?_⟩
  have z3 : ∀ {k : Nat}, k ≤ 4000 → k ≤ sizeLine := fun h => Nat.le_trans h (by decide)
  have ht := gdB_txt (by decide) d gd.g
  have hdp : d.depth ≤ 120 := Nat.le_trans gd.k (by decide)
  have hms : (ms 120 d).2.1 ≤ 1000000 := Nat.le_trans (ms_weight 120 d) (by have := gd.w; omega)
  have hff := kd_form hk
  have KD : KdOf K 120 H v d := ⟨hd, ht, hdp, hk⟩
  have KDm : ∀ {H'}, Same H H' → KdOf K 120 H' v d := fun {H'} e => ⟨Dq.mono e _ _ hd, ht, hdp, hk⟩
  have hk2 : (ms 120 d).1 ≤ 30 ∧ (ms 120 d).2.1 ≤ 2000 := by
    unfold kdB at hk
    simp only [Bool.and_eq_true, decide_eq_true_eq] at hk
    exact hk.2
  have nok := names_gd 120 d gd.g
  have nle := ms_names 120 d
  refine ⟨_, rfl, v, d, rfl, hd, hff, hms, fun p H1 s1 m1 => ?_⟩
  obtain ⟨l, hp1, hl1⟩ := m1
  refine ⟨p, _, rfl, SqT.of hp1, rfl, _, _, rfl, _, _, rfl, _, _, rfl, rfl, ?_⟩
  refine ⟨z3 (by show 0 ≤ 4000; decide), fun as ha => ?_⟩
  have s2 := s1.trans (same_new ha (.lst []))
  have has : upd H1 as (.lst []) as = some (.lst []) := upd_same
  have hl2 : upd H1 as (.lst []) l = some (.lst ((ms 120 d).2.2.map V.str)) := same_new ha _ _ _ hl1
  have hna : H as = none := s1.free ha
  generalize upd H1 as (.lst []) = H2 at s2 has hl2 ⊢
  refine ⟨_, rfl, l, _, rfl, SqL.of hl2, fun ys p2 hperm hup hp2 => ?_⟩
  have s3 := s2.trans (same_new hp2 (.lst (ys.map V.str)))
  have has3 := same_new hp2 (.lst (ys.map V.str)) _ _ has
  have hp3 : upd H2 p2 (.lst (ys.map V.str)) p2 = some (.lst (ys.map V.str)) := upd_same
  have nap : as ≠ p2 := fun z => by rw [z, hp2] at has; cases has
  generalize upd H2 p2 (.lst (ys.map V.str)) = H3 at s3 has3 hp3 ⊢
  have yl : ys.length ≤ 2000 := by rw [hperm.length_eq]; omega
  refine ⟨p2, rfl, ⟨_, SqL.of hp3⟩, for_list (K := K) (a := p2) (xs := ys.map V.str) (fun i σ H' => ∃ (zs : List Str) (c5 : Option V), σ = [some v, some (.int ((ms 120 d).1 : Nat)), some (.int ((ms 120 d).2.1 : Nat)), some (.ref l), some (.ref as), c5, none, none] ∧ Same H H' ∧ H' as = some (.lst (zs.map V.str)) ∧ H' p2 = some (.lst (ys.map V.str)) ∧ upS zs ∧ zs.Nodup ∧ (∀ z, z ∈ zs ↔ z ∈ ys.take i) ∧ zs.length ≤ i)
    ⟨[], none, rfl, s3, has3, hp3, List.Pairwise.nil, List.nodup_nil, fun z => by simp, Nat.zero_le _⟩ (fun i σ H' _ z => by obtain ⟨zs, c5, _, _, _, h, _⟩ := z; exact SqL.of h) ?_ ?_⟩
  · rintro i y σ H4 hi ⟨zs, c5, rfl, s4, ha4, hp4, up4, nd4, me4, le4⟩
    obtain ⟨x, ex, rfl⟩ : ∃ x, ys[i]? = some x ∧ V.str x = y := by
      rw [List.getElem?_map] at hi
      cases z : ys[i]? with
      | none => rw [z] at hi; cases hi
      | some u => rw [z] at hi; exact ⟨u, rfl, Option.some.inj hi⟩
    have hiy : i < ys.length := (List.getElem?_eq_some_iff.mp ex).1
    have tk : ys.take (i + 1) = ys.take i ++ [x] := by rw [List.take_add_one, ex]; rfl
    refine ⟨_, rfl, _, rfl, as, _, rfl, .inl (SqL.of ha4), rfl, flat_strs zs, _, rfl, ?_⟩
    refine ite2 (fun g => ?_) (fun g => ?_)
    · have g' : x ∉ zs := fun m => by
        have z : (!inV (.str x) (zs.map V.str)) = true := g
        rw [inV_strs, decide_eq_true m] at z
        cases z
      refine ⟨_, rfl, .inl ⟨rfl, _, SqL.of ha4⟩, _, rfl, as, _, .str x, rfl, rfl, ha4, Nat.lt_of_le_of_lt (by rw [List.length_map]; omega : (zs.map V.str).length ≤ 2000) (by decide), ?_⟩
      refine ⟨zs ++ [x], _, rfl, fun b o e => by rw [upd_ne (ne_of_none e hna)]; exact s4 _ _ e, by rw [upd_same, List.map_append]; rfl, by rw [upd_ne (Ne.symm nap)]; exact hp4, ?_, ?_, fun z => ?_, by rw [List.length_append, List.length_singleton]; omega⟩
      · refine List.pairwise_append.mpr ⟨up4, List.pairwise_singleton _ _, fun a ma b mb => ?_⟩
        rw [List.mem_singleton.mp mb]
        have ma' := (me4 a).1 ma
        have hu : upS (ys.take (i + 1)) := hup.sublist (List.take_sublist _ _)
        rw [tk] at hu
        exact (List.pairwise_append.mp hu).2.2 a ma' x (List.mem_singleton.mpr rfl)
      · exact List.nodup_append.mpr ⟨nd4, List.pairwise_singleton _ _, fun a ma b mb => by rw [List.mem_singleton.mp mb]; exact fun z => g' (z ▸ ma)⟩
      · rw [tk, List.mem_append, List.mem_append, me4 z]
    · have g' : x ∈ zs := by
        by_cases m : x ∈ zs
        · exact m
        · exact absurd (show (!inV (.str x) (zs.map V.str)) = true by rw [inV_strs, decide_eq_false m]; rfl) g
      refine ⟨zs, _, rfl, s4, ha4, hp4, up4, nd4, fun z => ?_, by omega⟩
      rw [tk, List.mem_append, me4 z, List.mem_singleton]
      exact ⟨.inl, fun h => h.elim id fun e => by rw [e]; exact (me4 x).1 g'⟩
  · rintro σ H4 ⟨zs, c5, rfl, s4, ha4, hp4, up4, nd4, me4, le4⟩
    rw [List.length_map] at me4 le4
    rw [List.take_length] at me4
    have mem : ∀ z, z ∈ zs ↔ z ∈ (ms 120 d).2.2 := fun z => (me4 z).trans hperm.mem_iff
    have zok : ∀ x ∈ zs, PyData.strOk x = true ∧ x.length ≤ 102 := fun x m => nok x ((mem x).1 m)
    obtain ⟨t1, t2, t3⟩ := tri_ok (a := (ms 120 d).1) (b := (ms 120 d).2.1) (l := zs) (by omega) hk2.2 (by omega) zok
    refine ⟨_, rfl, _, rfl, _, rfl, as, _, rfl, .inl ⟨SqL.of ha4, fun t ht => ⟨z3 (by show 3 ≤ 4000; decide), fun du hdu => ?_⟩⟩⟩
    have s5 := same_new ht (.tup (zs.map V.str))
    have s6 := s5.trans (same_new hdu (.lst [.int ((ms 120 d).1 : Nat), .int ((ms 120 d).2.1 : Nat), .ref t]))
    have ht6 := same_new hdu (.lst [.int ((ms 120 d).1 : Nat), .int ((ms 120 d).2.1 : Nat), .ref t]) _ _ (show upd H4 t (.tup (zs.map V.str)) t = some (.tup (zs.map V.str)) from upd_same)
    have hd6 : upd (upd H4 t (.tup (zs.map V.str))) du (.lst [.int ((ms 120 d).1 : Nat), .int ((ms 120 d).2.1 : Nat), .ref t]) du = some (.lst [.int ((ms 120 d).1 : Nat), .int ((ms 120 d).2.1 : Nat), .ref t]) := upd_same
    have S6 := s4.trans s6
    generalize upd (upd H4 t (.tup (zs.map V.str))) du (.lst [.int ((ms 120 d).1 : Nat), .int ((ms 120 d).2.1 : Nat), .ref t]) = H6 at S6 ht6 hd6 ⊢
    have D6 : ∀ {H'}, Same H6 H' → Dq K H' (.ref du) (.list (tri (ms 120 d).1 (ms 120 d).2.1 zs)) := fun {H'} e => .lst (SqL.of (e _ _ hd6)) (.cons (.int _) (.cons (.int _) (.cons (.tup (SqT.of (e _ _ ht6)) (dq_strs zs)) .nil)))
    refine ⟨_, rfl, v, d, rfl, KDm S6, fun H7 s7 => ⟨_, rfl, v, d, rfl, KDm (S6.trans s7), fun H8 s8 => ⟨_, rfl, v, d, rfl, KDm (S6.trans (s7.trans s8)), fun t9 zs9 H9 s9 e9 up9 nd9 me9 => ⟨z3 (by show 3 ≤ 4000; decide), fun fo hfo => ?_⟩⟩⟩⟩
    obtain rfl : zs9 = zs := up_eq up9 nd9 up4 nd4 fun z => (me9 z).trans (mem z).symm
    have s10 := s7.trans (s8.trans (s9.trans (same_new hfo (.lst [.int ((ms 120 d).1 : Nat), .int ((ms 120 d).2.1 : Nat), .ref t9]))))
    have ht10 := same_new hfo (.lst [.int ((ms 120 d).1 : Nat), .int ((ms 120 d).2.1 : Nat), .ref t9]) _ _ e9
    have hf10 : upd H9 fo (.lst [.int ((ms 120 d).1 : Nat), .int ((ms 120 d).2.1 : Nat), .ref t9]) fo = some (.lst [.int ((ms 120 d).1 : Nat), .int ((ms 120 d).2.1 : Nat), .ref t9]) := upd_same
    generalize upd H9 fo (.lst [.int ((ms 120 d).1 : Nat), .int ((ms 120 d).2.1 : Nat), .ref t9]) = H10 at s10 ht10 hf10 ⊢
    have S10 := S6.trans s10
    refine ⟨_, rfl, v, d, rfl, KDm S10, fun H11 s11 => ⟨_, rfl, v, d, rfl, KDm (S10.trans s11), fun H12 s12 => ⟨_, rfl, v, d, rfl, KDm (S10.trans (s11.trans s12)), fun t13 zs13 H13 s13 e13 up13 nd13 me13 => ⟨z3 (by show 3 ≤ 4000; decide), fun fa hfa => ?_⟩⟩⟩⟩
    obtain rfl : zs13 = zs9 := up_eq up13 nd13 up4 nd4 fun z => (me13 z).trans (mem z).symm
    have s14 := s11.trans (s12.trans (s13.trans (same_new hfa (.lst [.int ((ms 120 d).1 : Nat), .int ((ms 120 d).2.1 : Nat), .ref t13]))))
    have ht14 := same_new hfa (.lst [.int ((ms 120 d).1 : Nat), .int ((ms 120 d).2.1 : Nat), .ref t13]) _ _ e13
    have hf14 : upd H13 fa (.lst [.int ((ms 120 d).1 : Nat), .int ((ms 120 d).2.1 : Nat), .ref t13]) fa = some (.lst [.int ((ms 120 d).1 : Nat), .int ((ms 120 d).2.1 : Nat), .ref t13]) := upd_same
    generalize upd H13 fa (.lst [.int ((ms 120 d).1 : Nat), .int ((ms 120 d).2.1 : Nat), .ref t13]) = H14 at s14 ht14 hf14 ⊢
    refine ⟨_, rfl, fa, du, tri (ms 120 d).1 (ms 120 d).2.1 zs13, rfl, .lst (SqL.of hf14) (.cons (.int _) (.cons (.int _) (.cons (.tup (SqT.of ht14) (dq_strs zs13)) .nil))), D6 (s10.trans s14), t1, t2, t3, ?_⟩
    refine ⟨_, rfl, iteT ⟨_, rfl, _, rfl, fo, du, tri (ms 120 d).1 (ms 120 d).2.1 zs13, rfl, .lst (SqL.of (s14 _ _ hf10)) (.cons (.int _) (.cons (.int _) (.cons (.tup (SqT.of (s14 _ _ ht10)) (dq_strs zs13)) .nil))), D6 (s10.trans s14), t1, t2, t3, ?_⟩⟩
    exact q H14 (S10.trans s14)
end
end Toy
set_option Elab.async false
set_option linter.all false
set_option maxRecDepth 100000
set_option maxHeartbeats 4000000
namespace Toy
open PySem L2 StrO
abbrev sNamR : Stmt := top 43
def spNR (K : PySem.W.Frag) : Sp := fun vs H Q _ => ∃ (wl : Addr) (G : Hp), vs = [.ref wl] ∧ Stt wl G H ∧ ∀ H' G', Gr wl G H G' H' → Q (.bl true) H'
/-- things to be judged -/
def Jds (K : PySem.W.Frag) (G : Hp) (xs : List V) : Prop := ∀ x ∈ xs, ∃ d, Dq K G x d ∧ Jd d
theorem Jds.mono {K : PySem.W.Frag} {G G' : Hp} {xs : List V} (e : Same G G') (h : Jds K G xs) : Jds K G' xs := fun x m => let ⟨d, a, b⟩ := h x m; ⟨d, Dq.mono e _ _ a, b⟩
theorem jds_cons {K : PySem.W.Frag} {G : Hp} {x : V} {d : PyData} {xs : List V} (a : Dq K G x d) (b : Jd d) (h : Jds K G xs) : Jds K G (x :: xs) := fun y m => by
  rcases List.mem_cons.mp m with rfl | m
  · exact ⟨d, a, b⟩
  · exact h y m
theorem jds_nil {K : PySem.W.Frag} {G : Hp} : Jds K G [] := fun _ m => nomatch m
section
variable {P : Program} {w : World} {K : PySem.W.Frag} {mg : Str → Option Value} {base : Heap}
theorem scNR : FnScope ["well", "name", "near", "thing"] ["well"] (defScope sNamR) := ⟨rfl, rfl, rfl, by decide +kernel, rfl, by decide +kernel, by decide +kernel⟩
theorem ok_namr {f gD gL gN gJ : Addr} {fd dD dL dN dJ : FuncData} (F : Fun K "_law_names_right" "_law_names_right" sNamR f fd) (D : Gv P w K mg base 1 "_law_draw" gD dD ["well", "many"] spDraw) (LN : Gv P w K mg base 4 "_law_long_name" gL dL ["well"] (spTxt 60)) (NN : Gv P w K mg base 3 "_law_near_name" gN dN ["well", "name"] spNear)
    (JU : GvZ (RoomG 125) P w K mg base "_law_is_judged" gJ dJ ["thing", "by_name"] (spJu K)) : FnZ (RoomG 126) P w K mg base f fd ["well"] (spNR K) := by
  refine F.okZ true scNR (fun A z => z.depth) (fun _ A z => z.room.hd) (fun vs H Q E h => ?_) (fun cdv A outer s H vs Q hz0 h => ?_)
  · obtain ⟨wl, G, rfl, _⟩ := h
    rfl
  obtain ⟨wl, G, rfl, st, q⟩ := h
  have hz : ∀ env, RoomG 125 (A.deeper env) := fun env => hz0.deeper env
  refine ⟨_, pss_cons (ps_set (i := 1) scNR.nd rfl (.inl rfl) (pe_call LN.ok ((hz _).room.mono (by omega)) rfl LN.m LN.k LN.b .nil pass0 (pa_cons (pv 0) pa_nil)))
    (pss_cons (ps_set (i := 2) scNR.nd rfl (.inl rfl) (pe_call NN.ok ((hz _).room.mono (by omega)) rfl NN.m NN.k NN.b .nil pass0 (pa_cons (pv 0) (pa_cons (pv 1) pa_nil))))
    (pss_cons (ps_for PassesOwn.never rfl (pi_list (pe_lst (pa_cons (pv 1) (pa_cons (pv 2) (pa_cons (pe_call NN.ok ((hz _).room.mono (by omega)) rfl NN.m NN.k NN.b .nil pass0 (pa_cons (pv 0) (pa_cons (pv 2) pa_nil))) (pa_cons (pe_tup (pa_cons pe_str (pa_cons (pv 1) pa_nil))) (pa_cons (pe_tup (pa_cons pe_str (pa_cons (pv 2) pa_nil))) pa_nil))))))) (pg_name (i := 3) scNR.nd rfl (.inl rfl))
      (pss_one (ps_if (pt_not (pt_val (pe_callZD JU.ok (hz _) rfl JU.m JU.k JU.b (pa_cons (pv 3) (pa_cons (pe_cmpR op_eq (pe_call D.ok ((hz _).room.mono (by omega)) rfl D.m D.k D.b .nil pass0 (pa_cons (pv 0) (pa_cons pe_int pa_nil))) pe_int (nomark _)) pa_nil))))) (pss_one (ps_ret pe_bl)) pss_nil)))
    (pss_one (ps_ret pe_bl)))), ?_⟩
  have z3 : ∀ {k : Nat}, k ≤ 200 → k ≤ sizeLine := fun h => Nat.le_trans h (by decide)
  refine ⟨_, rfl, wl, rfl, st.well, fun x H1 tx w1 e1 => ?_⟩
  have g1 := Gr.stay st w1 e1
  have st1 := g1.stt st
  refine ⟨_, rfl, _, rfl, wl, x, 60, rfl, w1, tx, by decide, by decide, fun y H2 ty w2 e2 => ?_⟩
  have g2 := g1.trans (Gr.stay st1 w2 e2)
  have st2 := g2.stt st
  refine ⟨_, rfl, _, rfl, _, rfl, _, rfl, wl, y, 69, rfl, w2, ty, by decide, by decide, fun u H3 tu w3 e3 => ⟨_, rfl, z3 (by show 2 ≤ 200; decide), fun p4 hp4 => ⟨_, rfl, z3 (by show 2 ≤ 200; decide), fun p5 hp5 => ⟨z3 (by show 5 ≤ 200; decide), fun l hl => ?_⟩⟩⟩⟩
  have g3 := g2.trans (Gr.stay st2 w3 e3)
  have st3 := g3.stt st
  obtain ⟨g4, D4⟩ := Gr.tup (K := K) (vs := [.str "name", .str x]) (ds := [.str "name", .str x]) st3 hp4 (.cons (.str _) (.cons (.str _) .nil))
  have st4 := g4.stt st3
  obtain ⟨g5, D5⟩ := Gr.tup (K := K) (vs := [.str "name", .str y]) (ds := [.str "name", .str y]) st4 hp5 (.cons (.str _) (.cons (.str _) .nil))
  have st5 := g5.stt st4
  have g6 := Gr.same st5 (same_new hl (.lst [.str x, .str y, .str u, .ref p4, .ref p5]))
  have st6 := g6.stt st5
  have nl : l ≠ wl := fun z => well_ne st5.well (by rw [← z]; exact hl)
  have g16 := ((g3.trans g4).trans g5).trans g6
  have J : Jds K _ [.str x, .str y, .str u, .ref p4, .ref p5] := jds_cons (.str x) ((gd_str tx (j := 2) (by omega)).up (Nat.le_refl _) (by omega) (by omega)) (jds_cons (.str y) ((gd_str ty (j := 2) (by omega)).up (Nat.le_refl _) (by omega) (by omega))
    (jds_cons (.str u) ((gd_str tu (j := 2) (by omega)).up (Nat.le_refl _) (by omega) (by omega)) (jds_cons (g5.dq D4) ((gd_name tx (j := 2) (by omega)).up (Nat.le_refl _) (by omega) (by omega)) (jds_cons D5 ((gd_name ty (j := 2) (by omega)).up (Nat.le_refl _) (by omega) (by omega)) jds_nil))))
  have hl6 : upd (upd (upd H3 p4 (.tup [.str "name", .str x])) p5 (.tup [.str "name", .str y])) l (.lst [.str x, .str y, .str u, .ref p4, .ref p5]) l = some (.lst [.str x, .str y, .str u, .ref p4, .ref p5]) := upd_same
  generalize upd (upd (upd H3 p4 (.tup [.str "name", .str x])) p5 (.tup [.str "name", .str y])) l (.lst [.str x, .str y, .str u, .ref p4, .ref p5]) = H6 at g6 st6 g16 hl6 ⊢
  generalize upd (upd G p4 (.tup [.str "name", .str x])) p5 (.tup [.str "name", .str y]) = G6 at g6 st6 g16 J ⊢
  generalize [V.str x, V.str y, V.str u, V.ref p4, V.ref p5] = xs at J hl6 ⊢
  refine ⟨l, rfl, ⟨_, SqL.of hl6⟩, for_list (K := K) (a := l) (xs := xs) (fun i σ H' => ∃ (c3 : Option V), σ = [some (.ref wl), some (.str x), some (.str y), c3] ∧ Gr wl G6 H6 G6 H' ∧ H' l = some (.lst xs)) ⟨none, rfl, Gr.refl st6, hl6⟩ (fun i σ H' _ z => by obtain ⟨c3, _, _, h⟩ := z; exact SqL.of h) ?_ ?_⟩
  · rintro i v σ H7 hi ⟨c3, rfl, g7, h7⟩
    have st7 := g7.stt st6
    obtain ⟨d, Dv, jd⟩ := J v (List.mem_of_getElem? hi)
    refine ⟨_, rfl, _, rfl, wl, 2, rfl, by decide, by decide, st7.well, fun b H8 _ _ w8 e8 => ⟨rfl, ?_⟩⟩
    have g8 := g7.trans (Gr.stay st7 w8 e8)
    have st8 := g8.stt st6
    refine ⟨v, d, _, rfl, Dq.mono st8.sub _ _ Dv, jd, fun H9 s9 => ⟨_, rfl, iteF ?_⟩⟩
    exact ⟨_, rfl, g8.trans (Gr.same st8 s9), s9 _ _ (e8 _ _ nl h7)⟩
  · rintro σ H7 ⟨c3, rfl, g7, h7⟩
    exact q H7 G6 (g16.trans g7)
end
end Toy
set_option Elab.async false
set_option linter.all false
set_option maxRecDepth 100000
set_option maxHeartbeats 4000000
namespace Toy
open PySem L2 StrO
abbrev sRight : Stmt := top 44
theorem fnOk_ex {P : Program} {w : World} {K : PySem.W.Frag} {mg : Str → Option Value} {base : Heap} {CX : CXT} {k m : Nat} {f : Addr} {fd : FuncData} {ps : List Str} {sp : Nat → Sp} (F : ∀ n, n ≤ m → FnOk P w K mg base CX k f fd ps (sp n)) : FnOk P w K mg base CX k f fd ps (fun vs H Q E => ∃ n, n ≤ m ∧ sp n vs H Q E) :=
  ⟨fun vs H Q E ⟨n, h, z⟩ => (F n h).len vs H Q E z, fun A outer s H args us vs Q E hr he hb hv ⟨n, h, z⟩ => (F n h).run A outer s H args us vs Q E hr he hb hv z⟩
def spRi : Sp := fun vs H Q _ => ∃ (wl : Addr), vs = [.ref wl] ∧ WellAt H wl ∧ ∀ H', But wl H H' → Q (.bl true) H'
/-- kinds and what is near to them -/
def Kds (K : PySem.W.Frag) (G : Hp) (xs : List V) : Prop := ∀ x ∈ xs, ∃ d, Dq K G x d ∧ Gd d 0 80000 91
theorem Kds.mono {K : PySem.W.Frag} {G G' : Hp} {xs : List V} (e : Same G G') (h : Kds K G xs) : Kds K G' xs := fun x m => let ⟨d, a, b⟩ := h x m; ⟨d, Dq.mono e _ _ a, b⟩
theorem kds_cons {K : PySem.W.Frag} {G : Hp} {x : V} {d : PyData} {xs : List V} (a : Dq K G x d) (b : Gd d 0 80000 91) (h : Kds K G xs) : Kds K G (x :: xs) := fun y m => by
  rcases List.mem_cons.mp m with rfl | m
  · exact ⟨d, a, b⟩
  · exact h y m
theorem kds_nil {K : PySem.W.Frag} {G : Hp} : Kds K G [] := fun _ m => nomatch m
theorem kds_app {K : PySem.W.Frag} {G : Hp} {xs ys : List V} (a : Kds K G xs) (b : Kds K G ys) : Kds K G (xs ++ ys) := fun y m => (List.mem_append.mp m).elim (a y) (b y)
theorem cutV_mem {xs : List V} {lo hi : Option Int} {y : V} (h : y ∈ cutV xs lo hi) : y ∈ xs := List.mem_of_mem_drop (List.mem_of_mem_take h)
theorem wk_top {n : Nat} (h : n ≤ 6) : wk n ≤ 80000 := by
  rcases n with _ | _ | _ | _ | _ | _ | _ | n
  · decide
  · decide
  · decide
  · decide
  · decide
  · decide
  · decide
  · omega
theorem joinN {S : Addr → List V → Hp → Hp → Prop} {a : V} {C : VK} {G : Prop} (h : ∀ p ws H3 G3, S p ws H3 G3 → rCat a (.ref p) H3 C) (k : (∀ p ws H3 G3, S p ws H3 G3 → rCat a (.ref p) H3 C) → G) : G := k h
theorem joinH {S N : Hp → Prop} {G : Prop} (h : ∀ H, S H → N H) (k : (∀ H, S H → N H) → G) : G := k h
section
variable {P : Program} {w : World} {K : PySem.W.Frag} {mg : Str → Option Value} {base : Heap}
theorem scRi : FnScope ["well", "kinds", "turn", "names", "kind", "once", "thing"] ["well"] (defScope sRight) := ⟨rfl, rfl, rfl, by decide +kernel, rfl, by decide +kernel, by decide +kernel⟩
theorem ok_right {f gD gP gL gW gK gT gWi gN gJ gLK gTo gS gO : Addr} {fd dD dP dL dW dK dT dWi dN dJ dLK dTo dS dO : FuncData} (F : Fun K "_law_right" "_law_right" sRight f fd) (R : Nr mg) (D : Gv P w K mg base 1 "_law_draw" gD dD ["well", "many"] spDraw) (PT' : Gv P w K mg base 2 "_law_pick" gP dP ["well", "some"] (spPick K))
    (LN : Gv P w K mg base 4 "_law_long_name" gL dL ["well"] (spTxt 60)) (WR : Gv P w K mg base 3 "_law_written" gW dW ["well"] (spTxt 8)) (KI : Gv P w K mg base 9 "_law_kind" gK dK ["well", "names", "deep"] (fun vs H Q E => ∃ n, n ≤ 6 ∧ spKi K n vs H Q E)) (TW : Gv P w K mg base 6 "_law_tower" gT dT ["well"] (spTow K)) (WI : Gv P w K mg base 12 "_law_wide" gWi dWi ["well"] (spTow K))
    (NR : GvZ (RoomG 126) P w K mg base "_law_names_right" gN dN ["well"] (spNR K)) (JU : GvZ (RoomG 125) P w K mg base "_law_is_judged" gJ dJ ["thing", "by_name"] (spJu K)) (LK : Gv P w K mg base 124 "_law_is_kind" gLK dLK ["thing"] (spKd K 120)) (TO : GvZ (RoomG 125) P w K mg base "_law_is_told" gTo dTo ["kind"] (spTo K))
    (SL : Gv P w K mg base 5 "_law_spoilt" gS dS ["well", "thing"] (spSl K)) (O : Gv P w K mg base 3 "_law_odd" gO dO ["well"] (spOdd K)) : FnZ (RoomG 127) P w K mg base f fd ["well"] spRi := by
  refine F.okZ true scRi (fun A z => z.depth) (fun _ A z => z.room.hd) (fun vs H Q E h => ?_) (fun cdv A outer s H vs Q hz0 h => ?_)
  · obtain ⟨wl, rfl, _⟩ := h
    rfl
  obtain ⟨wl, rfl, hw, q⟩ := h
  have hz : ∀ env, RoomG 126 (A.deeper env) := fun env => hz0.deeper env
  refine ⟨_, pss_cons (ps_set (i := 1) scRi.nd rfl (.inl rfl) (pe_op op_cat (pe_lst (pa_cons (pe_call TW.ok ((hz _).room.mono (by omega)) rfl TW.m TW.k TW.b .nil pass0 (pa_cons (pv 0) pa_nil)) pa_nil)) (pe_ifExp (pt_cmpR op_eq (pe_call D.ok ((hz _).room.mono (by omega)) rfl D.m D.k D.b .nil pass0 (pa_cons (pv 0) (pa_cons pe_int pa_nil))) pe_int (nomark _)) (pe_lst (pa_cons (pe_call WI.ok ((hz _).room.mono (by omega)) rfl WI.m WI.k WI.b .nil pass0 (pa_cons (pv 0) pa_nil)) pa_nil)) (pe_lst pa_nil))))
    (pss_cons (ps_for PassesOwn.never rfl (pi_range1 (by rfl) R.range (pa_cons pe_int pa_nil)) (pg_name (i := 2) scRi.nd rfl (.inl rfl))
      (pss_cons (ps_set (i := 3) scRi.nd rfl (.inl rfl) (pe_lst (pa_cons (pe_call LN.ok ((hz _).room.mono (by omega)) rfl LN.m LN.k LN.b .nil pass0 (pa_cons (pv 0) pa_nil)) (pa_cons (pe_call WR.ok ((hz _).room.mono (by omega)) rfl WR.m WR.k WR.b .nil pass0 (pa_cons (pv 0) pa_nil)) pa_nil))))
      (pss_cons (ps_expr (pe_bm PySem.F.plainAttrs_list PySem.F.slot_list_append PySem.F.type_list_append mt_append (pv 1) (pa_cons (pe_call KI.ok ((hz _).room.mono (by omega)) rfl KI.m KI.k KI.b .nil pass0 (pa_cons (pv 0) (pa_cons (pv 3) (pa_cons (pe_call PT'.ok ((hz _).room.mono (by omega)) rfl PT'.m PT'.k PT'.b .nil pass0 (pa_cons (pv 0) (pa_cons (pe_tup (pa_cons pe_int (pa_cons pe_int (pa_cons pe_int (pa_cons pe_int pa_nil))))) pa_nil))) pa_nil)))) pa_nil)))
      (pss_one (ps_if (pt_not (pt_val (pe_callZD NR.ok (hz _) rfl NR.m NR.k NR.b (pa_cons (pv 0) pa_nil)))) (pss_one (ps_ret pe_bl)) pss_nil)))))
    (pss_cons (ps_for PassesOwn.never rfl (pi_list (pe_op op_cat (pv 1) (pe_slice sl_list (pv 1) (po_some (pe_un un_neg pe_int)) po_none))) (pg_name (i := 4) scRi.nd rfl (.inl rfl))
      (pss_cons (ps_if (pt_not (pt_val (pe_callZD JU.ok ((hz _).mono (by omega)) rfl JU.m JU.k JU.b (pa_cons (pv 4) (pa_cons (pe_cmpR op_eq (pe_call D.ok ((hz _).room.mono (by omega)) rfl D.m D.k D.b .nil pass0 (pa_cons (pv 0) (pa_cons pe_int pa_nil))) pe_int (nomark _)) pa_nil))))) (pss_one (ps_ret pe_bl)) pss_nil)
      (pss_cons (ps_if (PW.pt (pw_and (pt_val (pe_call LK.ok ((hz _).room.mono (by omega)) rfl LK.m LK.k LK.b .nil pass0 (pa_cons (pv 4) pa_nil))) (pw_and1 (pt_not (pt_val (pe_callZD TO.ok ((hz _).mono (by omega)) rfl TO.m TO.k TO.b (pa_cons (pv 4) pa_nil))))))) (pss_one (ps_ret pe_bl)) pss_nil)
      (pss_cons (ps_set (i := 5) scRi.nd rfl (.inl rfl) (pe_call SL.ok ((hz _).room.mono (by omega)) rfl SL.m SL.k SL.b .nil pass0 (pa_cons (pv 0) (pa_cons (pv 4) pa_nil))))
      (pss_one (ps_for PassesOwn.never rfl (pi_list (pe_lst (pa_cons (pv 5) (pa_cons (pe_call SL.ok ((hz _).room.mono (by omega)) rfl SL.m SL.k SL.b .nil pass0 (pa_cons (pv 0) (pa_cons (pv 5) pa_nil))) (pa_cons (pe_call O.ok ((hz _).room.mono (by omega)) rfl O.m O.k O.b .nil pass0 (pa_cons (pv 0) pa_nil)) pa_nil))))) (pg_name (i := 6) scRi.nd rfl (.inl rfl))
        (pss_one (ps_if (pt_not (pt_val (pe_callZD JU.ok ((hz _).mono (by omega)) rfl JU.m JU.k JU.b (pa_cons (pv 6) (pa_cons (pe_cmpR op_eq (pe_call D.ok ((hz _).room.mono (by omega)) rfl D.m D.k D.b .nil pass0 (pa_cons (pv 0) (pa_cons pe_int pa_nil))) pe_int (nomark _)) pa_nil))))) (pss_one (ps_ret pe_bl)) pss_nil))))))))
    (pss_one (ps_ret pe_bl)))), ?_⟩
  have z3 : ∀ {k : Nat}, k ≤ 200 → k ≤ sizeLine := fun h => Nat.le_trans h (by decide)
  have st : Stt wl (fun _ => none) H := ⟨(fun _ _ h => nomatch h), rfl, hw⟩
  generalize (fun _ => none : Hp) = G at st
  refine ⟨_, rfl, wl, G, rfl, st, fun v1 H1 G1 d1 g1 D1 k1 => ⟨z3 (by show 1 ≤ 200; decide), fun p1 hp1 => ?_⟩⟩
  have st1 := g1.stt st
  have ga := Gr.same st1 (same_new hp1 (.lst [v1]))
  have sta := ga.stt st1
  have na : p1 ≠ wl := fun z => well_ne st1.well (by rw [← z]; exact hp1)
  have hla : upd H1 p1 (.lst [v1]) p1 = some (.lst [v1]) := upd_same
  have g1a := g1.trans ga
  generalize upd H1 p1 (.lst [v1]) = Ha at ga sta hla g1a ⊢
  refine ⟨_, rfl, wl, 6, rfl, by decide, by decide, sta.well, fun b0 H2 _ _ w2 e2 => ⟨rfl, _, rfl, ?_⟩⟩
  have g2 := g1a.trans (Gr.stay sta w2 e2)
  have st2 := g2.stt st
  have hl2 := e2 _ _ na hla
  refine joinN (S := fun p2 ws H3 G3 => Gr wl G1 H2 G3 H3 ∧ H3 p2 = some (.lst ws) ∧ ws.length ≤ 1 ∧ Kds K G3 ws) ?cat (fun cat => by
    refine ite2 (fun _ => ?_) (fun _ => ?_)
    · refine ⟨_, rfl, wl, G1, rfl, st2, fun v3 H3 G3 d3 g3 D3 k3 => ⟨z3 (by show 1 ≤ 200; decide), fun p2 hp2 => ?_⟩⟩
      exact cat p2 [v3] _ _ ⟨g3.trans (Gr.same (g3.stt st2) (same_new hp2 _)), upd_same, Nat.le_refl 1, kds_cons D3 k3 kds_nil⟩
    · refine ⟨z3 (by show 0 ≤ 200; decide), fun p2 hp2 => ?_⟩
      exact cat p2 [] _ _ ⟨Gr.same st2 (same_new hp2 _), upd_same, Nat.zero_le 1, kds_nil⟩)
  rintro p2 ws H3 G3 ⟨g3, hl3, lw, kw⟩
  have st3 := g3.stt st2
  have hl13 := g3.but _ _ na hl2
  refine ⟨p1, p2, _, _, rfl, rfl, hl13, hl3, z3 (by show 1 + ws.length ≤ 200; omega), fun kl hkl => ?_⟩
  have g4 := (g2.trans g3).trans (Gr.same st3 (same_new hkl (.lst ([v1] ++ ws))))
  have nk : kl ≠ wl := fun z => well_ne st3.well (by rw [← z]; exact hkl)
  have gk : G3 kl = none := st3.sub.free hkl
  have h4 : upd H3 kl (.lst ([v1] ++ ws)) kl = some (.lst ([v1] ++ ws)) := upd_same
  have K4 : Kds K G3 ([v1] ++ ws) := kds_app (kds_cons (g3.dq D1) k1 kds_nil) kw
  have hk0 : H kl = none := ((g2.trans g3).but.free st3.well hkl)
  generalize upd H3 kl (.lst ([v1] ++ ws)) = H4 at g4 h4 ⊢
  refine ⟨3, rfl, by decide, by decide, for_range (lo := 0) (n := 3) (fun i σ H' => ∃ (ks : List V) (G' : Hp) (c2 c3 : Option V), σ = [some (.ref wl), some (.ref kl), c2, c3, none, none, none] ∧ Gr wl G H G' H' ∧ G' kl = none ∧ H' kl = some (.lst ks) ∧ ks.length ≤ 2 + i ∧ Kds K G' ks)
    ⟨[v1] ++ ws, G3, none, none, rfl, g4, gk, h4, by rw [List.length_append, List.length_singleton]; omega, K4⟩ ?_ ?_⟩
  · rintro i σ H5 hi ⟨ks, G5, c2, c3, rfl, g5, gk5, h5, l5, K5⟩
    have st5 := g5.stt st
    refine ⟨_, rfl, wl, rfl, st5.well, fun x H6 tx w6 e6 => ⟨_, rfl, wl, rfl, w6, fun y H7 ty w7 e7 => ⟨z3 (by show 2 ≤ 200; decide), fun nl hnl => ?_⟩⟩⟩
    have g7 := g5.trans (Gr.stay st5 w7 (e6.trans e7))
    have st7 := g7.stt st
    have h7 : H7 kl = some (.lst ks) := (e6.trans e7) _ _ nk h5
    have g8 := g7.trans (Gr.same st7 (same_new hnl (.lst [.str x, .str y])))
    have st8 := g8.stt st
    have nn : nl ≠ wl := fun z => well_ne st7.well (by rw [← z]; exact hnl)
    have h8 := same_new hnl (.lst [.str x, .str y]) _ _ h7
    have hn8 : upd H7 nl (.lst [.str x, .str y]) nl = some (.lst [.str x, .str y]) := upd_same
    generalize upd H7 nl (.lst [.str x, .str y]) = H8 at g8 st8 h8 hn8 ⊢
    refine ⟨_, rfl, .inl ⟨rfl, _, SqL.of h8⟩, _, rfl, _, rfl, _, rfl, z3 (by show 4 ≤ 200; decide), fun t ht => ⟨wl, t, ([1, 2, 4, 6] : List Int).map V.int, rfl, well_new st8.well ht _, SqT.of upd_same, by decide, by decide, fun u H9 hu w9 e9 => ?_⟩⟩
    obtain ⟨n, hn, rfl⟩ := ints_of hu
    have hn' : 1 ≤ n ∧ n ≤ 6 := by
      simp only [List.mem_cons, List.not_mem_nil, or_false] at hn
      omega
    have e89 := (But.new ht _).trans e9
    have g9 := g8.trans (Gr.stay st8 w9 e89)
    have st9 := g9.stt st
    have h9 := e89 _ _ nk h8
    have hn9 := e89 _ _ nn hn8
    have en : V.int n = .int ((n.toNat : Nat) : Int) := by
      congr 1
      omega
    rw [en]
    refine ⟨n.toNat, by omega, wl, nl, G5, [x, y], rfl, st9, hn9, nn, (by show 1 ≤ 2; decide), (by show 2 ≤ 1000; decide), fun z hz => ?_, by omega, fun v10 H10 G10 d10 g10 D10 k10 => ?_⟩
    · rcases List.mem_cons.mp hz with rfl | hz
      · exact tx
      · rw [List.mem_singleton.mp hz]; exact txt_up ty (by decide)
    have g910 := g9.trans g10
    have h10 := g10.but _ _ nk h9
    have gk10 := g10.off gk5 (by rw [h9]; exact fun z => nomatch z)
    refine ⟨kl, ks, v10, rfl, rfl, h10, Nat.lt_of_le_of_lt (by omega : ks.length ≤ 5) (by decide), ?_⟩
    have g11 := g910.ownL hk0 gk10 nk (.lst (ks ++ [v10]))
    have st11 := g11.stt st
    have h11 : upd H10 kl (.lst (ks ++ [v10])) kl = some (.lst (ks ++ [v10])) := upd_same
    generalize upd H10 kl (.lst (ks ++ [v10])) = H11 at g11 st11 h11 ⊢
    refine ⟨_, rfl, wl, G10, rfl, st11, fun H12 G12 g12 => ⟨_, rfl, iteF ?_⟩⟩
    refine ⟨ks ++ [v10], G12, _, _, rfl, g11.trans g12, g12.off gk10 (by rw [h11]; exact fun z => nomatch z), g12.but _ _ nk h11, by rw [List.length_append, List.length_singleton]; omega, ?_⟩
    exact kds_app (K5.mono (g10.gg.trans g12.gg)) (kds_cons (g12.dq D10) (k10.up (Nat.le_refl 0) (wk_top (by omega)) (by omega)) kds_nil)
  · rintro σ H5 ⟨ks, G5, c2, c3, rfl, g5, gk5, h5, l5, K5⟩
    have st5 := g5.stt st
    refine ⟨_, rfl, _, rfl, _, rfl, _, rfl, kl, ks, rfl, SqL.of h5, fun p6 hp6 => ?_⟩
    have s6 := same_new hp6 (.lst (cutV ks (some (-1)) none))
    have lc : (cutV ks (some (-1)) none).length ≤ ks.length := by
      unfold cutV
      rw [List.length_take, List.length_drop]
      omega
    refine ⟨kl, p6, ks, _, rfl, rfl, s6 _ _ h5, upd_same, z3 (by omega), fun ol hol => ?_⟩
    have g7 := g5.trans (Gr.same st5 (s6.trans (same_new hol (.lst (ks ++ cutV ks (some (-1)) none)))))
    have st7 := g7.stt st
    have no : ol ≠ wl := fun z => well_ne ((Gr.same st5 s6).stt st5).well (by rw [← z]; exact hol)
    have h7 : upd (upd H5 p6 (.lst (cutV ks (some (-1)) none))) ol (.lst (ks ++ cutV ks (some (-1)) none)) ol = some (.lst (ks ++ cutV ks (some (-1)) none)) := upd_same
    have K7 : Kds K G5 (ks ++ cutV ks (some (-1)) none) := kds_app K5 fun y m => K5 y (cutV_mem m)
    generalize upd (upd H5 p6 (.lst (cutV ks (some (-1)) none))) ol (.lst (ks ++ cutV ks (some (-1)) none)) = H7 at g7 st7 h7 ⊢
    generalize ks ++ cutV ks (some (-1)) none = os at h7 K7 ⊢
    refine ⟨ol, rfl, ⟨_, SqL.of h7⟩, for_list (K := K) (a := ol) (xs := os) (fun i σ H' => ∃ (G' : Hp) (c4 c5 c6 : Option V), σ = [some (.ref wl), some (.ref kl), c2, c3, c4, c5, c6] ∧ Gr wl G5 H7 G' H' ∧ H' ol = some (.lst os)) ⟨G5, none, none, none, rfl, Gr.refl st7, h7⟩ (fun i σ H' _ z => by obtain ⟨G', c4, c5, c6, _, _, h⟩ := z; exact SqL.of h) ?_ ?_⟩
    · rintro i v σ H8 hi ⟨G8, c4, c5, c6, rfl, g8, h8⟩
      have st8 := g8.stt st7
      obtain ⟨d, D0, kd⟩ := K7 v (List.mem_of_getElem? hi)
      have D8 := g8.dq D0
      have jd : Jd d := kd.up (by decide) (by decide) (by decide)
      refine ⟨_, rfl, _, rfl, wl, 2, rfl, by decide, by decide, st8.well, fun b1 H9 _ _ w9 e9 => ⟨rfl, ?_⟩⟩
      have g9 := g8.trans (Gr.stay st8 w9 e9)
      have st9 := g9.stt st7
      have h9 := e9 _ _ no h8
      refine ⟨v, d, _, rfl, Dq.mono st9.sub _ _ D8, jd, fun H10 s10 => ⟨_, rfl, iteF ?_⟩⟩
      have g10 := g9.trans (Gr.same st9 s10)
      have st10 := g10.stt st7
      have h10 := s10 _ _ h9
      have ht := gdB_txt (by decide) d jd.g
      have hdp : d.depth ≤ 120 := Nat.le_trans jd.k (by decide)
      have hms : (ms 120 d).2.1 ≤ 1000000 := Nat.le_trans (ms_weight 120 d) (by have := jd.w; omega)
      refine joinH (S := fun H' => Same H10 H') ?spoil (fun spoil => by
        refine ⟨_, rfl, v, d, rfl, Dq.mono st10.sub _ _ D8, ht, hdp, hms, fun H11 s11 => ⟨_, rfl, ?_⟩⟩
        cases hk : kdB 120 d with
        | false => exact iteF (iteF (spoil H11 s11))
        | true =>
          refine iteT ⟨_, rfl, v, d, rfl, Dq.mono (st10.sub.trans s11) _ _ D8, jd, hk, fun H12 s12 => ⟨_, rfl, iteF (spoil H12 (s11.trans s12))⟩⟩)
      intro H12 s12
      have g12 := g10.trans (Gr.same st10 s12)
      have st12 := g12.stt st7
      have h12 := s12 _ _ h10
      refine ⟨_, rfl, _, rfl, wl, G8, v, d, 0, 80000, 91, rfl, st12, D8, kd, by decide, by decide, fun v13 H13 G13 d13 g13 D13 k13 => ?_⟩
      have g13' := g12.trans g13
      have st13 := g13'.stt st7
      have h13 := g13.but _ _ no h12
      refine ⟨_, rfl, _, rfl, _, rfl, wl, G13, v13, d13, 1, 160200, 98, rfl, st13, D13, k13, by decide, by decide, fun v14 H14 G14 d14 g14 D14 k14 => ?_⟩
      have st14 := g14.stt st13
      refine ⟨_, rfl, oddG (E := E0) ⟨wl, G14, rfl, st14, fun v15 H15 G15 d15 g15 D15 k15 => ⟨z3 (by show 3 ≤ 200; decide), fun il hil => ?_⟩⟩⟩
      have st15 := g15.stt st14
      have g16 := (g14.trans g15).trans (Gr.same st15 (same_new hil (.lst [v13, v14, v15])))
      have st16 := g16.stt st13
      have ni : il ≠ wl := fun z => well_ne st15.well (by rw [← z]; exact hil)
      have h16 := g16.but _ _ no h13
      have hi16 : upd H15 il (.lst [v13, v14, v15]) il = some (.lst [v13, v14, v15]) := upd_same
      have J16 : Jds K G15 [v13, v14, v15] := jds_cons ((g14.trans g15).dq D13) (k13.up (by decide) (by decide) (by decide)) (jds_cons (g15.dq D14) (k14.up (by decide) (by decide) (by decide)) (jds_cons D15 (k15.up (by decide) (by decide) (by decide)) jds_nil))
      have g16' := g13'.trans g16
      generalize upd H15 il (.lst [v13, v14, v15]) = H16 at g16 st16 h16 hi16 g16' ⊢
      generalize [v13, v14, v15] = is at hi16 J16 ⊢
      refine ⟨il, rfl, ⟨_, SqL.of hi16⟩, for_list (K := K) (a := il) (xs := is) (fun i σ H' => ∃ (c6 : Option V), σ = [some (.ref wl), some (.ref kl), c2, c3, some v, some v13, c6] ∧ Gr wl G15 H16 G15 H' ∧ H' il = some (.lst is) ∧ H' ol = some (.lst os)) ⟨c6, rfl, Gr.refl st16, hi16, h16⟩ (fun i σ H' _ z => by obtain ⟨c6, _, _, h, _⟩ := z; exact SqL.of h) ?_ ?_⟩
      · rintro i2 v2 σ H17 hi2 ⟨c6', rfl, g17, h17, h17'⟩
        have st17 := g17.stt st16
        obtain ⟨d2, D2, jd2⟩ := J16 v2 (List.mem_of_getElem? hi2)
        refine ⟨_, rfl, _, rfl, wl, 2, rfl, by decide, by decide, st17.well, fun b3 H18 _ _ w18 e18 => ⟨rfl, ?_⟩⟩
        have g18 := g17.trans (Gr.stay st17 w18 e18)
        have st18 := g18.stt st16
        refine ⟨v2, d2, _, rfl, Dq.mono st18.sub _ _ D2, jd2, fun H19 s19 => ⟨_, rfl, iteF ?_⟩⟩
        exact ⟨_, rfl, g18.trans (Gr.same st18 s19), s19 _ _ (e18 _ _ ni h17), s19 _ _ (e18 _ _ no h17')⟩
      · rintro σ H17 ⟨c6', rfl, g17, h17, h17'⟩
        exact ⟨G15, _, _, _, rfl, g16'.trans g17, h17'⟩
    · rintro σ H8 ⟨G8, c4, c5, c6, rfl, g8, h8⟩
      exact q H8 (g7.trans g8).but
end
end Toy
set_option Elab.async false
set_option linter.all false
set_option maxRecDepth 100000
set_option maxHeartbeats 4000000
namespace Toy
open PySem L2
abbrev sLaw : Stmt := top 45
def spLaw (K : PySem.W.Frag) : Sp := fun vs H Q _ => ∃ (a : Addr) (ns : List Int), vs = [.ref a] ∧ SqL K H a (ns.map V.int) ∧ ns.length ≤ 63 ∧ ∀ H', Q (.bl true) H'
structure Nl (mg : Str → Option Value) : Prop where
  all : mg "all" = none
  max : mg "max" = none
  min : mg "min" = none
theorem all_true : ∀ n : Nat, (List.replicate n true).all id = true
  | 0 => rfl
  | n + 1 => by rw [List.replicate_succ, List.all_cons, all_true n]; rfl
section
variable {P : Program} {w : World} {K : PySem.W.Frag} {mg : Str → Option Value} {base : Heap}
theorem scL : FnScope ["script", "turn"] ["script"] (defScope sLaw) := ⟨rfl, rfl, rfl, by decide +kernel, rfl, by decide +kernel, by decide +kernel⟩
theorem ok_law {f fW fR : Addr} {fd dW dR : FuncData} (F : Fun K "law" "law" sLaw f fd) (N : Nm mg) (B : Nr mg) (L : Nl mg) (WL : Gv P w K mg base 1 "_law_well" fW dW ["script", "turn"] (spWell K)) (RG : GvZ (RoomG 127) P w K mg base "_law_right" fR dR ["well"] spRi) :
    FnZ (RoomG 128) P w K mg base f fd ["script"] (spLaw K) := by
  refine F.okZ true scL (fun A z => z.depth) (fun _ A z => z.room.hd) (fun vs H Q E h => ?_) (fun cdv A outer s H vs Q hz0 h => ?_)
  · obtain ⟨a, ns, rfl, _⟩ := h
    rfl
  obtain ⟨a, ns, rfl, hS, h63, q⟩ := h
  have hz : ∀ env, RoomG 127 (A.deeper env) := fun env => hz0.deeper env
  refine ⟨_, pss_one (ps_ret (pe_callB (cr_all rfl) rfl L.all (by decide +kernel) (pa_cons
    (pe_lc (own := [("turn", 1)]) (g := gName 1) (tt := tYes) rfl scL.nd (pi_range1 (by rfl) B.range (pa_cons (pe_callB (call_max2 rfl) rfl L.max (by decide +kernel) (pa_cons pe_int (pa_cons (pe_callB (call_min2 rfl) rfl L.min (by decide +kernel) (pa_cons (pe_callB call_len_seq rfl N.len PySem.boot_len (pa_cons (pv 0) pa_nil)) (pa_cons pe_int pa_nil))) pa_nil))) pa_nil))
      (blkOk_by (own := [("turn", 1)]) (N := ["script", "turn"]) (sc := defScope sLaw) (by decide +kernel))
      (fun _ _ _ _ _ => pg_name (i := 1) scL.nd rfl (.inl rfl)) (fun _ _ _ _ _ => pts_nil)
      (fun _ _ _ _ _ => pe_callZD RG.ok (hz _) rfl RG.m RG.k RG.b (pa_cons (pe_call WL.ok ((hz _).room.mono (by omega)) rfl WL.m WL.k WL.b .nil pass0 (pa_cons (pv 0) (pa_cons (pv 1) pa_nil))) pa_nil))) pa_nil))), ?_⟩
  refine ⟨_, rfl, a, _, rfl, .inl hS, _, _, rfl, _, _, rfl, ?_⟩
  have hm : ∃ m : Nat, m ≤ 2 ∧ (if (if (2 : Int) < ((ns.map V.int).length : Nat) then (2 : Int) else ((ns.map V.int).length : Nat)) > 1 then (if (2 : Int) < ((ns.map V.int).length : Nat) then (2 : Int) else ((ns.map V.int).length : Nat)) else 1) = (m : Int) := by
    generalize ((ns.map V.int).length : Nat) = l
    refine ⟨(if (if (2 : Int) < (l : Nat) then (2 : Int) else (l : Nat)) > 1 then (if (2 : Int) < (l : Nat) then (2 : Int) else (l : Nat)) else 1).toNat, ?_, ?_⟩
    · split <;> (try split) <;> omega
    · split <;> (try split) <;> omega
  obtain ⟨m, h2, em⟩ := hm
  refine ⟨m, by rw [em], by omega, by omega, fun D nD => ?_⟩
  rw [Int.toNat_natCast]
  refine lc_range (lo := 0) (n := m) (fun i H2 => Same H H2 ∧ H2 D = some (.lst ((List.replicate i true).map V.bl))) ⟨same_new nD _, upd_same⟩ ?_ ?_
  · rintro i H2 hi ⟨s2, hD⟩
    refine ⟨rfl, ?_⟩
    simp only [tYes, ↓reduceIte]
    refine ⟨_, rfl, _, rfl, a, ns, 0 + (i : Int), rfl, s2.seq hS, h63, by omega, by omega, fun p H3 s3 hp hw => ⟨p, rfl, hw, fun H4 e4 => ?_⟩⟩
    have hD4 : H4 D = some (.lst ((List.replicate i true).map V.bl)) := e4 D _ (fun z => by rw [← z, hD] at hp; cases hp) (s3 _ _ hD)
    have s4 : Same H H4 := fun b o e => e4 b o (fun z => by rw [← z, s2 _ _ e] at hp; cases hp) (s3 _ _ (s2 _ _ e))
    refine ⟨_, hD4, by rw [List.length_map, List.length_replicate]; exact Nat.lt_of_lt_of_le hi (Nat.le_trans h2 (by decide)), fun b o e => by rw [upd_ne (ne_of_none e nD)]; exact s4 b o e, ?_⟩
    rw [upd_same, List.replicate_succ', List.map_append]
    rfl
  · rintro H2 ⟨s2, hD⟩
    refine ⟨D, _, rfl, SqL.of hD, ?_⟩
    rw [all_true]
    exact q H2
end
end Toy
set_option Elab.async false
set_option linter.all false
set_option maxRecDepth 100000
set_option maxHeartbeats 4000000
namespace Toy
open PySem PySem.W L2
structure DefK (K : PySem.W.Frag) (x : Str) (st : Stmt) (f : Addr) (fd : FuncData) : Prop where
  a : nsIn K mainGlobals x = some (some (.ref f))
  F : Fun K x x st f fd
theorem def_mk {K : PySem.W.Frag} {x : Str} {st : Stmt} {f : Addr} {od an : Option Addr} {sl : Array (Option Value)} {oc kV dc pm cd ct : Value} (a : nsIn K mainGlobals x = some (some (.ref f)))
    (l : K.lookup f = some ⟨oc, od, .func (fnOf x x (defArgs st) (defBody st) (defScope st) .none kV dc pm an cd ct), sl⟩) (c : codeIn K cd x = true) (k : keepIn K (.ref f) = true) : DefK K x st f (fnOf x x (defArgs st) (defBody st) (defScope st) .none kV dc pm an cd ct) := ⟨a, fun_mk l c k⟩
def names0 : List Str := ["int", "len", "abs", "divmod", "repr", "all", "type", "str", "isinstance", "tuple", "max", "sorted", "set", "range", "bool", "list", "min"]
def noneB (K : PySem.W.Frag) : Bool := names0.all fun x => decide (nsIn K mainGlobals x = some none)
section
variable {P : Program} {w : World} {K : PySem.W.Frag} {h : Heap} {mg : Str → Option Value} {fa : Addr}
theorem all_mk {fL : Addr} {aInm aIwr aIki aDep aMan aNin aNam aKno aFou aAmo aWell aDraw aPick aSame aOdd aWrit aLong aKin aLwr aLnm aHead aForm aMeas aLki aBent aSpoi aNear aTowe aSpre aWide aJudg aTold aNamR aRigh : Addr} {dInm dIwr dIki dDep dMan dNin dNam dKno dFou dAmo dWell dDraw dPick dSame dOdd dWrit dLong dKin dLwr dLnm dHead dForm dMeas dLki dBent dSpoi dNear dTowe dSpre dWide dJudg dTold dNamR dRigh : FuncData} {od an : Option Addr} {sl : Array (Option Value)} {oc kV dc pm cd ct : Value} {t1 t2 t3 t4 t5 t6 : Tok} (X : K.In h) (G : h.Ns mainGlobals mg) (hfa : mg "law" = some (.ref fa))
    (DInm : DefK K "is_name" sIsName aInm dInm)
    (DIwr : DefK K "is_written" sIsWr aIwr dIwr)
    (DIki : DefK K "is_kind" sIsKind aIki dIki)
    (DDep : DefK K "depth_of_kind" sDeep aDep dDep)
    (DMan : DefK K "parts_of_kind" sMany aMan dMan)
    (DNin : DefK K "names_in" sNames aNin dNin)
    (DNam : DefK K "names_among" sNmAm aNam dNam)
    (DKno : DefK K "parts_known" sKnown aKno dKno)
    (DFou : DefK K "parts_found" sFound aFou dFou)
    (DAmo : DefK K "kinds_among" sAmong aAmo dAmo)
    (DWell : DefK K "_law_well" sWell aWell dWell)
    (DDraw : DefK K "_law_draw" sDraw aDraw dDraw)
    (DPick : DefK K "_law_pick" sPick aPick dPick)
    (DSame : DefK K "_law_same" sSame aSame dSame)
    (DOdd : DefK K "_law_odd" sOdd aOdd dOdd)
    (DWrit : DefK K "_law_written" sWrit aWrit dWrit)
    (DLong : DefK K "_law_long_name" sLong aLong dLong)
    (DKin : DefK K "_law_kind" sKind aKin dKin)
    (DLwr : DefK K "_law_is_written" sLWr aLwr dLwr)
    (DLnm : DefK K "_law_is_name" sLName aLnm dLnm)
    (DHead : DefK K "_law_is_headed" sHead aHead dHead)
    (DForm : DefK K "_law_is_formed" sForm aForm dForm)
    (DMeas : DefK K "_law_measures" sMeas aMeas dMeas)
    (DLki : DefK K "_law_is_kind" sLKind aLki dLki)
    (DBent : DefK K "_law_bent" sBent aBent dBent)
    (DSpoi : DefK K "_law_spoilt" sSpoil aSpoi dSpoi)
    (DNear : DefK K "_law_near_name" sNear aNear dNear)
    (DTowe : DefK K "_law_tower" sTower aTowe dTowe)
    (DSpre : DefK K "_law_spread" sSpread aSpre dSpre)
    (DWide : DefK K "_law_wide" sWide aWide dWide)
    (DJudg : DefK K "_law_is_judged" sJudged aJudg dJudg)
    (DTold : DefK K "_law_is_told" sTold aTold dTold)
    (DNamR : DefK K "_law_names_right" sNamR aNamR dNamR)
    (DRigh : DefK K "_law_right" sRight aRigh dRigh)
    (C1 : nsIn K mainGlobals "CAPITALS" = some (some (.str "ABCDEFGHIJKLMNOPQRSTUVWXYZ" t1))) (C2 : nsIn K mainGlobals "SMALL" = some (some (.str "abcdefghijklmnopqrstuvwxyz0123456789" t2))) (C3 : nsIn K mainGlobals "LONGEST_WRITTEN" = some (some (.int 8 t3))) (C4 : nsIn K mainGlobals "LONGEST_NAME" = some (some (.int 60 t4)))
    (C5 : nsIn K mainGlobals "DEEPEST" = some (some (.int 30 t5))) (C6 : nsIn K mainGlobals "MOST_PARTS" = some (some (.int 2000 t6)))
    (aL : nsIn K mainGlobals "law" = some (some (.ref fL))) (lL : K.lookup fL = some ⟨oc, od, .func (fnOf "law" "law" (defArgs sLaw) (defBody sLaw) (defScope sLaw) .none kV dc pm an cd ct), sl⟩) (cL : codeIn K cd "law" = true) (kL : keepIn K (.ref fL) = true) (b0 : noneB K = true) :
    ∃ fd : FuncData, (∀ (s : Shared) (u : Value), BindsTo s fd ⟨[u], []⟩ [("script", u)]) ∧ ∀ base : Heap, K.In base → base.Ns mainGlobals mg → FnZ (RoomG 128) P w K mg base fa fd ["script"] (spLaw K) := by
  have e := hfa.symm.trans (mg_of X G aL)
  cases e
  have no : ∀ x, x ∈ names0 → mg x = none := fun x hx => mg_none_of X G (of_decide_eq_true (List.all_eq_true.mp b0 x hx))
  have N : Nm mg := ⟨no _ (by simp [names0]), no _ (by simp [names0]), no _ (by simp [names0]), no _ (by simp [names0]), no _ (by simp [names0])⟩
  have T : Nk mg := ⟨⟨t1, mg_of X G C1⟩, ⟨t2, mg_of X G C2⟩, ⟨t3, mg_of X G C3⟩, ⟨t4, mg_of X G C4⟩, no _ (by simp [names0]), no _ (by simp [names0])⟩
  have U : Nt mg := ⟨no _ (by simp [names0]), no _ (by simp [names0]), no _ (by simp [names0])⟩
  have Tu : Nu mg := ⟨no _ (by simp [names0])⟩
  have Pp : Np mg := ⟨⟨t5, mg_of X G C5⟩, ⟨t6, mg_of X G C6⟩⟩
  have Mx : Nx mg := ⟨no _ (by simp [names0])⟩
  have Mm : Nmx mg := ⟨no _ (by simp [names0])⟩
  have Gg : Ng mg := ⟨no _ (by simp [names0]), no _ (by simp [names0]), no _ (by simp [names0])⟩
  have R : Nr mg := ⟨no _ (by simp [names0])⟩
  have B : Nb2 mg := ⟨no _ (by simp [names0]), no _ (by simp [names0]), no _ (by simp [names0])⟩
  have L : Nl mg := ⟨no _ (by simp [names0]), no _ (by simp [names0]), no _ (by simp [names0])⟩
  have bInm : Binds K dInm ["value"] [] := DInm.F.binds (ps := ["value"]) fun _ _ _ _ _ _ us hl => match us, hl with | [_], _ => rfl
  have bIwr : Binds K dIwr ["text"] [] := DIwr.F.binds (ps := ["text"]) fun _ _ _ _ _ _ us hl => match us, hl with | [_], _ => rfl
  have bIki : Binds K dIki ["value"] [] := DIki.F.binds (ps := ["value"]) fun _ _ _ _ _ _ us hl => match us, hl with | [_], _ => rfl
  have bDep : Binds K dDep ["kind"] [] := DDep.F.binds (ps := ["kind"]) fun _ _ _ _ _ _ us hl => match us, hl with | [_], _ => rfl
  have bMan : Binds K dMan ["kind"] [] := DMan.F.binds (ps := ["kind"]) fun _ _ _ _ _ _ us hl => match us, hl with | [_], _ => rfl
  have bNin : Binds K dNin ["kind"] [] := DNin.F.binds (ps := ["kind"]) fun _ _ _ _ _ _ us hl => match us, hl with | [_], _ => rfl
  have bNam : Binds K dNam ["parts"] [] := DNam.F.binds (ps := ["parts"]) fun _ _ _ _ _ _ us hl => match us, hl with | [_], _ => rfl
  have bKno : Binds K dKno ["kind"] [] := DKno.F.binds (ps := ["kind"]) fun _ _ _ _ _ _ us hl => match us, hl with | [_], _ => rfl
  have bFou : Binds K dFou ["value"] [] := DFou.F.binds (ps := ["value"]) fun _ _ _ _ _ _ us hl => match us, hl with | [_], _ => rfl
  have bAmo : Binds K dAmo ["part"] [] := DAmo.F.binds (ps := ["part"]) fun _ _ _ _ _ _ us hl => match us, hl with | [_], _ => rfl
  have bWell : Binds K dWell ["script", "turn"] [] := DWell.F.binds (ps := ["script", "turn"]) fun _ _ _ _ _ _ us hl => match us, hl with | [_, _], _ => rfl
  have bDraw : Binds K dDraw ["well", "many"] [] := DDraw.F.binds (ps := ["well", "many"]) fun _ _ _ _ _ _ us hl => match us, hl with | [_, _], _ => rfl
  have bPick : Binds K dPick ["well", "some"] [] := DPick.F.binds (ps := ["well", "some"]) fun _ _ _ _ _ _ us hl => match us, hl with | [_, _], _ => rfl
  have bSame : Binds K dSame ["told", "due"] [] := DSame.F.binds (ps := ["told", "due"]) fun _ _ _ _ _ _ us hl => match us, hl with | [_, _], _ => rfl
  have bOdd : Binds K dOdd ["well"] [] := DOdd.F.binds (ps := ["well"]) fun _ _ _ _ _ _ us hl => match us, hl with | [_], _ => rfl
  have bWrit : Binds K dWrit ["well"] [] := DWrit.F.binds (ps := ["well"]) fun _ _ _ _ _ _ us hl => match us, hl with | [_], _ => rfl
  have bLong : Binds K dLong ["well"] [] := DLong.F.binds (ps := ["well"]) fun _ _ _ _ _ _ us hl => match us, hl with | [_], _ => rfl
  have bKin : Binds K dKin ["well", "names", "deep"] [] := DKin.F.binds (ps := ["well", "names", "deep"]) fun _ _ _ _ _ _ us hl => match us, hl with | [_, _, _], _ => rfl
  have bLwr : Binds K dLwr ["text"] [] := DLwr.F.binds (ps := ["text"]) fun _ _ _ _ _ _ us hl => match us, hl with | [_], _ => rfl
  have bLnm : Binds K dLnm ["thing"] [] := DLnm.F.binds (ps := ["thing"]) fun _ _ _ _ _ _ us hl => match us, hl with | [_], _ => rfl
  have bHead : Binds K dHead ["thing", "many", "words"] [] := DHead.F.binds (ps := ["thing", "many", "words"]) fun _ _ _ _ _ _ us hl => match us, hl with | [_, _, _], _ => rfl
  have bForm : Binds K dForm ["thing"] [] := DForm.F.binds (ps := ["thing"]) fun _ _ _ _ _ _ us hl => match us, hl with | [_], _ => rfl
  have bMeas : Binds K dMeas ["kind"] [] := DMeas.F.binds (ps := ["kind"]) fun _ _ _ _ _ _ us hl => match us, hl with | [_], _ => rfl
  have bLki : Binds K dLki ["thing"] [] := DLki.F.binds (ps := ["thing"]) fun _ _ _ _ _ _ us hl => match us, hl with | [_], _ => rfl
  have bBent : Binds K dBent ["well", "thing"] [] := DBent.F.binds (ps := ["well", "thing"]) fun _ _ _ _ _ _ us hl => match us, hl with | [_, _], _ => rfl
  have bSpoi : Binds K dSpoi ["well", "thing"] [] := DSpoi.F.binds (ps := ["well", "thing"]) fun _ _ _ _ _ _ us hl => match us, hl with | [_, _], _ => rfl
  have bNear : Binds K dNear ["well", "name"] [] := DNear.F.binds (ps := ["well", "name"]) fun _ _ _ _ _ _ us hl => match us, hl with | [_, _], _ => rfl
  have bTowe : Binds K dTowe ["well"] [] := DTowe.F.binds (ps := ["well"]) fun _ _ _ _ _ _ us hl => match us, hl with | [_], _ => rfl
  have bSpre : Binds K dSpre ["kinds", "many"] [] := DSpre.F.binds (ps := ["kinds", "many"]) fun _ _ _ _ _ _ us hl => match us, hl with | [_, _], _ => rfl
  have bWide : Binds K dWide ["well"] [] := DWide.F.binds (ps := ["well"]) fun _ _ _ _ _ _ us hl => match us, hl with | [_], _ => rfl
  have bJudg : Binds K dJudg ["thing", "by_name"] [] := DJudg.F.binds (ps := ["thing", "by_name"]) fun _ _ _ _ _ _ us hl => match us, hl with | [_, _], _ => rfl
  have bTold : Binds K dTold ["kind"] [] := DTold.F.binds (ps := ["kind"]) fun _ _ _ _ _ _ us hl => match us, hl with | [_], _ => rfl
  have bNamR : Binds K dNamR ["well"] [] := DNamR.F.binds (ps := ["well"]) fun _ _ _ _ _ _ us hl => match us, hl with | [_], _ => rfl
  have bRigh : Binds K dRigh ["well"] [] := DRigh.F.binds (ps := ["well"]) fun _ _ _ _ _ _ us hl => match us, hl with | [_], _ => rfl
  have kInm : KBo K dInm ["value"] := Fun.bindsK DInm.F (ps := ["value"]) fun _ _ _ _ _ _ ws hl => match ws, hl with | [_], _ => rfl
  have kIki : KBo K dIki ["value"] := Fun.bindsK DIki.F (ps := ["value"]) fun _ _ _ _ _ _ ws hl => match ws, hl with | [_], _ => rfl
  have kDep : KBo K dDep ["kind"] := Fun.bindsK DDep.F (ps := ["kind"]) fun _ _ _ _ _ _ ws hl => match ws, hl with | [_], _ => rfl
  have kMan : KBo K dMan ["kind"] := Fun.bindsK DMan.F (ps := ["kind"]) fun _ _ _ _ _ _ ws hl => match ws, hl with | [_], _ => rfl
  have kNin : KBo K dNin ["kind"] := Fun.bindsK DNin.F (ps := ["kind"]) fun _ _ _ _ _ _ ws hl => match ws, hl with | [_], _ => rfl
  have FL := fun_mk (st := sLaw) lL cL kL
  refine ⟨fnOf "law" "law" (defArgs sLaw) (defBody sLaw) (defScope sLaw) .none kV dc pm an cd ct, fun s u => .of_eq rfl, fun base hb1 hb2 => ?_⟩
  have gIwr : Gv P w K mg base 1 "is_written" aIwr dIwr ["text"] (spWr) := ⟨ok_iswr DIwr.F T, bIwr, DIwr.F.kp, mg_of X G DIwr.a⟩
  have gInm : Gv P w K mg base 2 "is_name" aInm dInm ["value"] (spNm K) := ⟨ok_isname DInm.F T U gIwr, bInm, DInm.F.kp, mg_of X G DInm.a⟩
  have gAmo : Gv P w K mg base 3 "kinds_among" aAmo dAmo ["part"] (spKa K) := ⟨ok_among DAmo.F T U Tu gInm, bAmo, DAmo.F.kp, mg_of X G DAmo.a⟩
  have gFou : Gv P w K mg base 4 "parts_found" aFou dFou ["value"] (spPf K) := ⟨ok_found DFou.F T Pp gAmo, bFou, DFou.F.kp, mg_of X G DFou.a⟩
  have gKno : Gv P w K mg base 5 "parts_known" aKno dKno ["kind"] (spPk K 120) := ⟨ok_known DKno.F gFou, bKno, DKno.F.kp, mg_of X G DKno.a⟩
  have gIki : Gv P w K mg base 5 "is_kind" aIki dIki ["value"] (spIk K 120) := ⟨ok_iskind DIki.F gFou, bIki, DIki.F.kp, mg_of X G DIki.a⟩
  have gDep : Gv P w K mg base 6 "depth_of_kind" aDep dDep ["kind"] (spDk K 120) := ⟨ok_deep DDep.F Gg gKno, bDep, DDep.F.kp, mg_of X G DDep.a⟩
  have gMan : Gv P w K mg base 6 "parts_of_kind" aMan dMan ["kind"] (spMk K 120) := ⟨ok_many DMan.F T gKno, bMan, DMan.F.kp, mg_of X G DMan.a⟩
  have gNam : Gv P w K mg base 1 "names_among" aNam dNam ["parts"] (spNa K) := ⟨ok_nmam DNam.F, bNam, DNam.F.kp, mg_of X G DNam.a⟩
  have gNin : Gv P w K mg base 6 "names_in" aNin dNin ["kind"] (spNi K 120) := ⟨ok_names DNin.F Gg Tu gKno gNam, bNin, DNin.F.kp, mg_of X G DNin.a⟩
  have gDraw : Gv P w K mg base 1 "_law_draw" aDraw dDraw ["well", "many"] (spDraw) := ⟨ok_draw DDraw.F N, bDraw, DDraw.F.kp, mg_of X G DDraw.a⟩
  have gPick : Gv P w K mg base 2 "_law_pick" aPick dPick ["well", "some"] (spPick K) := ⟨ok_pick DPick.F N gDraw.ok gDraw.b gDraw.k gDraw.m, bPick, DPick.F.kp, mg_of X G DPick.a⟩
  have gPickS : Gv P w K mg base 2 "_law_pick" aPick dPick ["well", "some"] (spPickS) := ⟨ok_pickS DPick.F N gDraw, bPick, DPick.F.kp, mg_of X G DPick.a⟩
  have gPickL : Gv P w K mg base 2 "_law_pick" aPick dPick ["well", "some"] (spPickL K) := ⟨ok_pickL DPick.F N gDraw, bPick, DPick.F.kp, mg_of X G DPick.a⟩
  have gWell : Gv P w K mg base 1 "_law_well" aWell dWell ["script", "turn"] (spWell K) := ⟨ok_well DWell.F N, bWell, DWell.F.kp, mg_of X G DWell.a⟩
  have gSame : GvZ (RoomG 1) P w K mg base "_law_same" aSame dSame ["told", "due"] (spSame K) := ⟨ok_same DSame.F N, bSame, DSame.F.kp, mg_of X G DSame.a⟩
  have gOdd : Gv P w K mg base 3 "_law_odd" aOdd dOdd ["well"] (spOdd K) := ⟨ok_odd DOdd.F gPick.ok gPick.b gPick.k gPick.m, bOdd, DOdd.F.kp, mg_of X G DOdd.a⟩
  have gWrit : Gv P w K mg base 3 "_law_written" aWrit dWrit ["well"] (spTxt 8) := ⟨ok_writ DWrit.F R gDraw gPick gPickS.ok, bWrit, DWrit.F.kp, mg_of X G DWrit.a⟩
  have gLong : Gv P w K mg base 4 "_law_long_name" aLong dLong ["well"] (spTxt 60) := ⟨ok_long DLong.F N R gDraw gPick gWrit, bLong, DLong.F.kp, mg_of X G DLong.a⟩
  have gNear : Gv P w K mg base 3 "_law_near_name" aNear dNear ["well", "name"] (spNear) := ⟨ok_near DNear.F N Mm gDraw gPickS, bNear, DNear.F.kp, mg_of X G DNear.a⟩
  have gKi := kindsG DKin.F bKin (mg_of X G DKin.a) N gDraw gPick gPickL.ok
  have gKI : Gv P w K mg base 9 "_law_kind" aKin dKin ["well", "names", "deep"] (fun vs H Q E => ∃ n, n ≤ 6 ∧ spKi K n vs H Q E) := ⟨fnOk_ex (fun n hn => (gKi n).ok.mono (by omega)), bKin, DKin.F.kp, mg_of X G DKin.a⟩
  have gTowe : Gv P w K mg base 6 "_law_tower" aTowe dTowe ["well"] (spTow K) := ⟨ok_tower DTowe.F N R gLong (gKi 1) (gKi 2) gPick, bTowe, DTowe.F.kp, mg_of X G DTowe.a⟩
  have gSp := spreads (P := P) (w := w) (base := base) DSpre.F bSpre (mg_of X G DSpre.a) N 10
  have gWide : Gv P w K mg base 12 "_law_wide" aWide dWide ["well"] (spTow K) := ⟨ok_wide DWide.F gLong (gKi 1) gPick gSp, bWide, DWide.F.kp, mg_of X G DWide.a⟩
  have gLwr : Gv P w K mg base 1 "_law_is_written" aLwr dLwr ["text"] (spWr) := ⟨ok_lwr DLwr.F T, bLwr, DLwr.F.kp, mg_of X G DLwr.a⟩
  have gLnm : Gv P w K mg base 2 "_law_is_name" aLnm dLnm ["thing"] (spNm K) := ⟨ok_lname DLnm.F T U gLwr, bLnm, DLnm.F.kp, mg_of X G DLnm.a⟩
  have gHead : Gv P w K mg base 1 "_law_is_headed" aHead dHead ["thing", "many", "words"] (spHd K) := ⟨ok_head DHead.F T U Tu, bHead, DHead.F.kp, mg_of X G DHead.a⟩
  have gFm := forms (P := P) (w := w) (base := base) DForm.F bForm (mg_of X G DForm.a) gHead gLnm 120
  have gMs := measures (P := P) (w := w) (base := base) DMeas.F bMeas (mg_of X G DMeas.a) Mx 120
  have gLki : Gv P w K mg base 124 "_law_is_kind" aLki dLki ["thing"] (spKd K 120) := ⟨ok_lkind DLki.F gFm gMs, bLki, DLki.F.kp, mg_of X G DLki.a⟩
  have gBent : Gv P w K mg base 4 "_law_bent" aBent dBent ["well", "thing"] (spBe K) := ⟨ok_bent DBent.F N U Tu B gDraw gPick gOdd, bBent, DBent.F.kp, mg_of X G DBent.a⟩
  have gSpoi : Gv P w K mg base 5 "_law_spoilt" aSpoi dSpoi ["well", "thing"] (spSl K) := ⟨ok_spoilt DSpoi.F N R U Tu gDraw gBent, bSpoi, DSpoi.F.kp, mg_of X G DSpoi.a⟩
  have gJudg : GvZ (RoomG 125) P w K mg base "_law_is_judged" aJudg dJudg ["thing", "by_name"] (spJu K) := ⟨ok_judged DJudg.F N gLnm gLki gInm kInm gIki kIki gSame, bJudg, DJudg.F.kp, mg_of X G DJudg.a⟩
  have gTold : GvZ (RoomG 125) P w K mg base "_law_is_told" aTold dTold ["kind"] (spTo K) := ⟨ok_told DTold.F Gg Tu gMs gDep kDep gMan kMan gNin kNin gSame, bTold, DTold.F.kp, mg_of X G DTold.a⟩
  have gNamR : GvZ (RoomG 126) P w K mg base "_law_names_right" aNamR dNamR ["well"] (spNR K) := ⟨ok_namr DNamR.F gDraw gLong gNear gJudg, bNamR, DNamR.F.kp, mg_of X G DNamR.a⟩
  have gRigh : GvZ (RoomG 127) P w K mg base "_law_right" aRigh dRigh ["well"] (spRi) := ⟨ok_right DRigh.F R gDraw gPick gLong gWrit gKI gTowe gWide gNamR gJudg gLki gTold gSpoi gOdd, bRigh, DRigh.F.kp, mg_of X G DRigh.a⟩
  exact ok_law FL N R L gWell gRigh
end
theorem walk {l : OpenLaw} {q : Program} {loose : List Str} {XP : (Str → Option Value) → Heap → Prop} {YP : World → Heap → Prop} {d : DefRec} {K : Params → Frag} (hn : l.most = some 63) (hdf : d.params.defaults = [])
    (hY : ∀ (w : World) (h : Heap), YP w h → (K w.params).In h)
    (F : ∀ (w : World) (mg : Str → Option Value) (fa : Addr) (h : Heap), (K w.params).In h → h.Ns mainGlobals mg → mg d.name = some (.ref fa) →
      ∃ fd : FuncData, (∀ (s : Shared) (u : Value), BindsTo s fd ⟨[u], []⟩ [("script", u)]) ∧ ∀ base : Heap, (K w.params).In base → base.Ns mainGlobals mg → FnZ (RoomG 128) l.prog w (K w.params) mg base fa fd ["script"] (spLaw (K w.params))) :
    WalkO q loose XP YP l.row.toRowW d [] (fun f vs => PySem.call f vs) :=
  L2.walk_ofZ (Z := RoomG 128) (n := 63) (x := "script") (sp := fun w => spLaw (K w.params)) hn (by decide) hdf ⟨⟨rfl, by decide, by decide⟩, rfl⟩ hY F (fun w H a ns hl hO hS => ⟨a, ns, rfl, hS, hl, fun _ => rfl⟩)
end Toy
set_option Elab.async false
set_option linter.all false
set_option maxRecDepth 100000
open PySem PySem.W PyProof.Rows
set_option maxRecDepth 100000 in
set_option maxHeartbeats 0 in
theorem PySem.Challenge.cw_holekinds_k02_names_and_kinds_of_anythin_holds : PySem.Challenge.rw_holekinds_k02_names_and_kinds_of_anythin.Holds := by
  w_on; o_law; k_head; (case hw => w_witness2)
  k_fill
  refine Toy.walk (l := PySem.Challenge.rw_holekinds_k02_names_and_kinds_of_anythin) rfl rfl (fun w h Y => PySem.W.kIn_of Y) ?F
  case F =>
    intro w mg fa h KX G hmg
    refine' Toy.all_mk KX G hmg ?DInm ?DIwr ?DIki ?DDep ?DMan ?DNin ?DNam ?DKno ?DFou ?DAmo ?DWell ?DDraw ?DPick ?DSame ?DOdd ?DWrit ?DLong ?DKin ?DLwr ?DLnm ?DHead ?DForm ?DMeas ?DLki ?DBent ?DSpoi ?DNear ?DTowe ?DSpre ?DWide ?DJudg ?DTold ?DNamR ?DRigh ?C1 ?C2 ?C3 ?C4 ?C5 ?C6 ?aL ?lL ?cL ?kL ?b0
    case DInm => refine' Toy.def_mk ?a ?l ?c ?k; (case a => k_is); (case l => k_is); (case c => k_is); (case k => k_is)
    case DIwr => refine' Toy.def_mk ?a ?l ?c ?k; (case a => k_is); (case l => k_is); (case c => k_is); (case k => k_is)
    case DIki => refine' Toy.def_mk ?a ?l ?c ?k; (case a => k_is); (case l => k_is); (case c => k_is); (case k => k_is)
    case DDep => refine' Toy.def_mk ?a ?l ?c ?k; (case a => k_is); (case l => k_is); (case c => k_is); (case k => k_is)
    case DMan => refine' Toy.def_mk ?a ?l ?c ?k; (case a => k_is); (case l => k_is); (case c => k_is); (case k => k_is)
    case DNin => refine' Toy.def_mk ?a ?l ?c ?k; (case a => k_is); (case l => k_is); (case c => k_is); (case k => k_is)
    case DNam => refine' Toy.def_mk ?a ?l ?c ?k; (case a => k_is); (case l => k_is); (case c => k_is); (case k => k_is)
    case DKno => refine' Toy.def_mk ?a ?l ?c ?k; (case a => k_is); (case l => k_is); (case c => k_is); (case k => k_is)
    case DFou => refine' Toy.def_mk ?a ?l ?c ?k; (case a => k_is); (case l => k_is); (case c => k_is); (case k => k_is)
    case DAmo => refine' Toy.def_mk ?a ?l ?c ?k; (case a => k_is); (case l => k_is); (case c => k_is); (case k => k_is)
    case DWell => refine' Toy.def_mk ?a ?l ?c ?k; (case a => k_is); (case l => k_is); (case c => k_is); (case k => k_is)
    case DDraw => refine' Toy.def_mk ?a ?l ?c ?k; (case a => k_is); (case l => k_is); (case c => k_is); (case k => k_is)
    case DPick => refine' Toy.def_mk ?a ?l ?c ?k; (case a => k_is); (case l => k_is); (case c => k_is); (case k => k_is)
    case DSame => refine' Toy.def_mk ?a ?l ?c ?k; (case a => k_is); (case l => k_is); (case c => k_is); (case k => k_is)
    case DOdd => refine' Toy.def_mk ?a ?l ?c ?k; (case a => k_is); (case l => k_is); (case c => k_is); (case k => k_is)
    case DWrit => refine' Toy.def_mk ?a ?l ?c ?k; (case a => k_is); (case l => k_is); (case c => k_is); (case k => k_is)
    case DLong => refine' Toy.def_mk ?a ?l ?c ?k; (case a => k_is); (case l => k_is); (case c => k_is); (case k => k_is)
    case DKin => refine' Toy.def_mk ?a ?l ?c ?k; (case a => k_is); (case l => k_is); (case c => k_is); (case k => k_is)
    case DLwr => refine' Toy.def_mk ?a ?l ?c ?k; (case a => k_is); (case l => k_is); (case c => k_is); (case k => k_is)
    case DLnm => refine' Toy.def_mk ?a ?l ?c ?k; (case a => k_is); (case l => k_is); (case c => k_is); (case k => k_is)
    case DHead => refine' Toy.def_mk ?a ?l ?c ?k; (case a => k_is); (case l => k_is); (case c => k_is); (case k => k_is)
    case DForm => refine' Toy.def_mk ?a ?l ?c ?k; (case a => k_is); (case l => k_is); (case c => k_is); (case k => k_is)
    case DMeas => refine' Toy.def_mk ?a ?l ?c ?k; (case a => k_is); (case l => k_is); (case c => k_is); (case k => k_is)
    case DLki => refine' Toy.def_mk ?a ?l ?c ?k; (case a => k_is); (case l => k_is); (case c => k_is); (case k => k_is)
    case DBent => refine' Toy.def_mk ?a ?l ?c ?k; (case a => k_is); (case l => k_is); (case c => k_is); (case k => k_is)
    case DSpoi => refine' Toy.def_mk ?a ?l ?c ?k; (case a => k_is); (case l => k_is); (case c => k_is); (case k => k_is)
    case DNear => refine' Toy.def_mk ?a ?l ?c ?k; (case a => k_is); (case l => k_is); (case c => k_is); (case k => k_is)
    case DTowe => refine' Toy.def_mk ?a ?l ?c ?k; (case a => k_is); (case l => k_is); (case c => k_is); (case k => k_is)
    case DSpre => refine' Toy.def_mk ?a ?l ?c ?k; (case a => k_is); (case l => k_is); (case c => k_is); (case k => k_is)
    case DWide => refine' Toy.def_mk ?a ?l ?c ?k; (case a => k_is); (case l => k_is); (case c => k_is); (case k => k_is)
    case DJudg => refine' Toy.def_mk ?a ?l ?c ?k; (case a => k_is); (case l => k_is); (case c => k_is); (case k => k_is)
    case DTold => refine' Toy.def_mk ?a ?l ?c ?k; (case a => k_is); (case l => k_is); (case c => k_is); (case k => k_is)
    case DNamR => refine' Toy.def_mk ?a ?l ?c ?k; (case a => k_is); (case l => k_is); (case c => k_is); (case k => k_is)
    case DRigh => refine' Toy.def_mk ?a ?l ?c ?k; (case a => k_is); (case l => k_is); (case c => k_is); (case k => k_is)
    (case C1 => k_is); (case C2 => k_is); (case C3 => k_is); (case C4 => k_is); (case C5 => k_is); (case C6 => k_is)
    (case aL => k_is); (case lL => k_is); (case cL => k_is); (case kL => k_is)
    (case b0 => kernel_rfl)
