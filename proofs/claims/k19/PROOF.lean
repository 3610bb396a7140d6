import PyProof.Rows.All
import Wide.All
import OpenK.AllK
import Wide.FinOn
import KE.KStateDown
import Lean
import HandS.Head0
import HandS.Head1
import HandS.Head2
import HandS.HeadEnd
import HandS.HeadHook1
import HandS.HeadHook2
import HandS.ForMost
import HandS.ExcInit
import PyProof.ReprRoads
import HandS.Wide
import HandS.Style
import HandS.IsInst
import KE.KOpsOwn
import KE.KFmtOwn
import KE.KCallOwn
import PyProof.FactsAll.object_2
import HandS.ClsMeth
import HandS.CallLocal
import HandS.ExcField
import HandS.ExcIs
import HandS.MakeKw
import HandS.MakeKwOnly
import KE.KExcIs
import PyProof.InstStoreFacts
import PyProof.StrBlock2
import PyProof.Rows.StrMul
import HandS.Deep
import HandS.Walk
import KE.GoesMore
import HandS.Star
import PyProof.ReprLen
import PyProof.StrLawsRepr
import HandS.TupAny
import HandS.WordsExc
import HandS.TryOnly
import HandS.DictComp
import OpenK.KOps
import HandS.StrMore
import HandS.Property
import PySem.Challenge.RW_towgrove_k19_values_that_are_webs
set_option Elab.async false
set_option linter.all false
set_option maxRecDepth 100000
set_option maxHeartbeats 4000000
/-! the head by one run, its facts any tests of the written part; defs by any path -/
namespace Hh
open PySem PySem.Spec PyProof.Rows L2
/-- a def of no defaults: where it stands, its name, its qualified name, its text -/
structure Df where
  ad : PySem.W.Frag → Addr
  name : Str
  qual : Str
  st : Stmt
def fnX (K : PySem.W.Frag) (a : Addr) : He.FnW := match K.lookup a with
  | some ⟨_, _, .func fd, _⟩ => some (fd.name, fd.qualname, fd.params, fd.body, fd.scope, fd.globals, fd.closure, fd.builtins)
  | _ => none
def Df.val (d : Df) : He.FnW := some (d.name, d.qual, defArgs d.st, .stmts (defBody d.st), defScope d.st, mainGlobals, [], builtinsNs)
def noneV : Value → Bool
  | .none => true
  | _ => false
def Df.ok (K : PySem.W.Frag) (d : Df) : Bool := PySem.W.keepIn K (.ref (d.ad K)) && (match K.lookup (d.ad K) with
  | some ⟨_, _, .func fd, _⟩ => PySem.W.codeIn K fd.code d.qual && noneV fd.defaults
  | _ => false)
theorem Df.fun_ {K : PySem.W.Frag} {d : Df} (e : fnX K (d.ad K) = d.val) (c : d.ok K = true) : ∃ fd, Fun K d.name d.qual d.st (d.ad K) fd := by
  obtain ⟨kp, c2⟩ := Bool.and_eq_true_iff.mp c
  unfold fnX at e
  cases q : K.lookup (d.ad K) with
  | none =>
    rw [q] at c2
    cases c2
  | some o =>
    obtain ⟨oc, od, dt, osl⟩ := o
    rw [q] at c2 e
    cases dt with
    | func fd =>
      obtain ⟨n1, n2, n3, n4, n5, n6, n7, n8, n9, n10, n11, n12, n13, n14, n15⟩ := fd
      have e2 : (some (n1, n2, n3, n4, n5, n6, n7, n15) : He.FnW) = some (d.name, d.qual, defArgs d.st, .stmts (defBody d.st), defScope d.st, mainGlobals, [], builtinsNs) := e
      simp only [Option.some.injEq, Prod.mk.injEq] at e2
      obtain ⟨h1, h2, h3, h4, h5, h6, h7, h8⟩ := e2
      subst h1 h2 h3 h4 h5 h6 h7 h8
      have c3 : (PySem.W.codeIn K n13 d.qual && noneV n8) = true := c2
      obtain ⟨k1, k2⟩ := Bool.and_eq_true_iff.mp c3
      cases n8 with
      | none => exact ⟨_, ⟨oc, od, n9, n10, n11, n12, n13, n14, osl, rfl, q, k1⟩, kp⟩
      | _ => cases k2
    | _ => cases c2
/-! ### paths -/
def rec1 (K : PySem.W.Frag) (p : Addr) (t : String) : Addr := match PySem.W.recIn K p t with
  | some (.ref g :: _) => g
  | _ => 0
def recRest (K : PySem.W.Frag) (p : Addr) (t : String) : List Value := match PySem.W.recIn K p t with
  | some (_ :: r) => r
  | _ => []
def tokAt (K : PySem.W.Frag) (x : Str) : Option Tok := match PySem.W.nsIn K mainGlobals x with
  | some (some (.int _ t)) => some t
  | _ => none
def intAt (K : PySem.W.Frag) (x : Str) (i : Int) : Bool := match PySem.W.nsIn K mainGlobals x with
  | some (some (.int j _)) => decide (j = i)
  | _ => false
theorem intAt_ok {K : PySem.W.Frag} {x : Str} {i : Int} (h : intAt K x i = true) : ∃ t, PySem.W.nsIn K mainGlobals x = some (some (.int i t)) := by
  unfold intAt at h
  cases e : PySem.W.nsIn K mainGlobals x with
  | none => rw [e] at h; cases h
  | some o =>
    rw [e] at h
    cases o with
    | none => cases h
    | some v =>
      cases v with
      | int j t =>
        have ej : j = i := of_decide_eq_true h
        exact ⟨t, by rw [ej]⟩
      | _ => cases h
def getB (K : PySem.W.Frag) (C : Addr) (m : Str) (g : String) (p : Addr) : Bool := match PySem.W.findCls K (.ref C) (.type "type") m with
  | some (.get (.builtin s) (.ref q) .none (.ref c)) => decide (s = g) && (decide (q = p) && decide (c = C))
  | _ => false
theorem getB_ok {K : PySem.W.Frag} {C : Addr} {m : Str} {g : String} {p : Addr} (h : getB K C m g p = true) : PySem.W.findCls K (.ref C) (.type "type") m = some (.get (.builtin g) (.ref p) .none (.ref C)) := by
  unfold getB at h
  split at h
  · rename_i s q c e
    obtain ⟨h1, h2⟩ := Bool.and_eq_true_iff.mp h
    obtain ⟨h3, h4⟩ := Bool.and_eq_true_iff.mp h2
    rw [e, of_decide_eq_true h1, of_decide_eq_true h3, of_decide_eq_true h4]
  · cases h
def recB (K : PySem.W.Frag) (p : Addr) (t : String) : Bool := match PySem.W.recIn K p t with
  | some (.ref _ :: _) => true
  | _ => false
theorem recB_ok {K : PySem.W.Frag} {p : Addr} {t : String} (h : recB K p t = true) : PySem.W.recIn K p t = some (.ref (rec1 K p t) :: recRest K p t) := by
  unfold recB at h
  unfold rec1 recRest
  split at h
  · rename_i g r e
    rw [e]
  · cases h
/-- an own exception class over ValueError -/
def excB (K : PySem.W.Frag) (C : Addr) : Bool := match K.lookup C with
  | some ⟨.type "type", _, .cls cd, sl⟩ => (match cd.mro, sl.toList with
    | .ref c :: bm, [_, _, _, _, some (.builtin n), _] => decide (c = C) && (decide (n = "ValueError.__new__") && (!cd.hasDel && (cd.hasDict && PySem.HandSPX.refsVE bm)))
    | _, _ => false)
  | _ => false
theorem excB_ok {K : PySem.W.Frag} {C : Addr} (h : excB K C = true) : ∃ nm q N bs bm sn sub ab col dd k0 k1 k2 k3 k5, K.lookup C = some (excClassObj nm q C N bs bm true sn sub ab col dd k0 k1 k2 k3 k5 "ValueError.__new__") ∧ PySem.HandSPX.refsVE bm = true := by
  unfold excB at h
  split at h
  · rename_i dd cd sl ho
    split at h
    · rename_i c bm k0 k1 k2 k3 n k5 hm hs
      obtain ⟨h1, h⟩ := Bool.and_eq_true_iff.mp h
      obtain ⟨h2, h⟩ := Bool.and_eq_true_iff.mp h
      obtain ⟨h3, h⟩ := Bool.and_eq_true_iff.mp h
      obtain ⟨h4, h5⟩ := Bool.and_eq_true_iff.mp h
      have e1 : c = C := of_decide_eq_true h1
      have e2 : n = "ValueError.__new__" := of_decide_eq_true h2
      have e3 : cd.hasDel = false := by simpa using h3
      obtain ⟨nm, bs, mro, ns, qn, hd, sn, sub, ab, col, del⟩ := cd
      dsimp only at hm e3 h4
      subst hm e3 e1 e2 h4
      have hsl : sl = #[k0, k1, k2, k3, some (.builtin "ValueError.__new__"), k5] := by
        obtain ⟨l⟩ := sl
        simp only at hs
        rw [hs]
      subst hsl
      exact ⟨nm, qn, ns, bs, bm, sn, sub, ab, col, dd, k0, k1, k2, k3, k5, ho, h5⟩
    · cases h
  · cases h
/-! ### the Hook -/
abbrev Al : Type := Bool × List He.FnW
def obsK (ex : PySem.W.Frag → Bool) (fn : List Df) (K : PySem.W.Frag) : Al := (ex K && fn.all fun d => d.ok K, fn.map fun d => fnX K (d.ad K))
def valK (fn : List Df) : Al := (true, fn.map Df.val)
def Says (ex : PySem.W.Frag → Bool) (fn : List Df) (K : PySem.W.Frag) : Prop := obsK ex fn K = valK fn
def hook (as : List Addr) (ex : PySem.W.Frag → Bool) (fn : List Df) : PySem.W.Hook where
  α := Al
  obs := fun s => obsK ex fn (He.frG s.heap.get? as)
  val := fun _ => valK fn
  says := fun _ h => ∃ K : PySem.W.Frag, K.In h ∧ Says ex fn K
  of := fun _ _ e => ⟨_, He.frG_in, e⟩
  keeps := fun _ _ _ ⟨K, hK, c⟩ k => ⟨K, PySem.W.Frag.In.keeps hK k, c⟩
def ob (as : List Addr) (ex : PySem.W.Frag → Bool) (fn : List Df) (s : PySem.W.SharedT) : Al := obsK ex fn (He.frG (HandSHeadRun.getT s) as)
theorem ob_eq {as : List Addr} {ex : PySem.W.Frag → Bool} {fn : List Df} (s : PySem.W.SharedT) : ob as ex fn s = (hook as ex fn).obs s.abs := by
  have e : HandSHeadRun.getT s = s.abs.heap.get? := funext fun a => HandSHeadRun.getT_eq s a
  unfold ob
  rw [e]
  rfl
section
variable {ex : PySem.W.Frag → Bool} {fn : List Df} {K : PySem.W.Frag}
theorem Says.ex_ (c : Says ex fn K) : ex K = true := (Bool.and_eq_true_iff.mp (show (ex K && fn.all fun d => d.ok K) = true from congrArg (fun z : Al => z.1) c)).1
theorem Says.fun_ (c : Says ex fn K) (i : Nat) {d : Df} (h : fn[i]? = some d := by rfl) : ∃ fd, Fun K d.name d.qual d.st (d.ad K) fd := by
  have c2 := (Bool.and_eq_true_iff.mp (show (ex K && fn.all fun d => d.ok K) = true from congrArg (fun z : Al => z.1) c)).2
  have e : fn.map (fun d => fnX K (d.ad K)) = fn.map Df.val := congrArg (fun z : Al => z.2) c
  have e2 : (fn.map fun d => fnX K (d.ad K))[i]? = (fn.map Df.val)[i]? := by rw [e]
  rw [List.getElem?_map, List.getElem?_map, h] at e2
  exact Df.fun_ (Option.some.inj e2) (List.all_eq_true.mp c2 d (List.mem_of_getElem? h))
end
/-- the i-th of the tests -/
theorem nth {l : List Bool} (h : l.all id = true) (i : Nat) {b : Bool} (e : l[i]? = some b) : b = true := List.all_eq_true.mp h b (List.mem_of_getElem? e)
end Hh

/-! promises of defs where no repr is under way, and repr of lists and tuples -/
namespace Ow
open PySem PySem.Spec PyProof.Rows L2
/-- a promise that may use that nothing around is showing itself -/
structure FnOkG (P : Program) (w : World) (K : PySem.W.Frag) (mg : Str → Option Value) (base : Heap) (CX : CXT) (k : Nat) (f : Addr) (fd : FuncData) (ps : List Str) (sp : Sp) : Prop where
  len : ∀ us H Q E, sp us H Q E → us.length = ps.length
  go : ∀ (A : Around) (out : List Env) (s : Shared) (H : Hp) (ar : Args) (us : List Value) (vs : List V) (Q : VK) (E : XK), A.guards = some [] → Room k A → Env0 P w K mg base A out s H → BindsTo s fd ar (ps.zip us) → Vals vs us →
    sp vs H Q E → codeAny (model P w) A (.call (.ref f) ar) (CR CX out P w H s Q E) s
section
variable {P : Program} {w : World} {K : PySem.W.Frag} {mg : Str → Option Value} {base : Heap}
theorem FnOkG.of {CX : CXT} {k : Nat} {f : Addr} {fd : FuncData} {ps : List Str} {sp : Sp} (F : FnOk P w K mg base CX k f fd ps sp) : FnOkG P w K mg base CX k f fd ps sp :=
  ⟨F.len, fun A out s H ar us vs Q E _ hr e0 hb r h => F.run A out s H ar us vs Q E hr e0 hb r h⟩
theorem okG {x qual : Str} {st : Stmt} {f : Addr} {fd : FuncData} {N ps : List Str} {k : Nat} {sp : Sp} (F : Fun K x qual st f fd) (S : FnScope N ps (defScope st)) (len : ∀ vs H Q E, sp vs H Q E → vs.length = ps.length)
    (hbody : ∀ (cdv : Value) (A : Around) (outer : List Env) (s : Shared) (H : Hp) (vs : List V) (Q : VK) (E : XK), A.guards = some [] → Room k (A.deeper (envOfC qual (defScope st) s.heap.objs.size f cdv)) → sp vs H Q E →
      ∃ t, PSs (cxOf CX0 P w K mg base N qual (defScope st) f cdv A outer s H E).nox (defBody st) t ∧ t { nx := fun _ H' => Q .non H', rt := Q } (start N vs) H) : FnOkG P w K mg base CX0 (k + 1) f fd ps sp := by
  refine ⟨len, fun A out s H ar us vs Q E hg hr e0 hb r hsp => ?_⟩
  obtain ⟨oc, od, kV, doc, pm, an, cdv, ct, osl, rfl, lk, hcd⟩ := F.ex
  have hl := len _ _ _ _ hsp
  have KX : K.In s.heap := e0.mod.kin.keeps fun b o e => (e0.bs b o e).1
  have lim : s.heap.NoLimit := e0.mod.nolimit.keeps fun b o e => (e0.bs b o e).1
  refine codeAny_call_function hr.depth (KX _ _ lk) rfl S.co S.gen rfl (PySem.W.codeRec_of KX hcd) (hb _ _ _ _ ?_)
  refine wpAny_newFunctionEnv_cells S.kind (fun y hy => ?_) fun env he s1 x => ?_
  · rcases S.par y.1 (List.of_mem_zip hy).1 with q | q
    · exact .inl q
    · exact .inr ⟨q, PySem.W.cellsFrom_some _ _ _ (.inl q)⟩
  subst he
  refine ⟨lim.keeps x.toInCall.keep, codeAny_func ?_⟩
  obtain ⟨t, ht, hq⟩ := hbody cdv A out s H vs Q E hg (hr.deeper _) hsp
  have I := inv_start (CX := CX0) (P := P) (w := w) (K := K) (mg := mg) (base := base) (E := E) S hr.hd e0 hl r x
  refine wpAny_mono (ht.nox.run [] s1 (start N vs) H _ I hq) (fun fl s' hs => ?_) fun e s' hs => hs
  cases fl with
  | ret u =>
    obtain ⟨v, σ', H', J, rv, q⟩ := hs
    exact ⟨v, H', J.os, J.bare, J.base, J.hok, rv, q⟩
  | next =>
    obtain ⟨σ', H', J, q⟩ := hs
    exact ⟨.non, H', J.os, J.bare, J.base, J.hok, rfl, q⟩
  | brk => exact hs.choose_spec.choose_spec.2.elim
  | cont => exact hs.choose_spec.choose_spec.2.elim
section
variable {X : Cx} {CX : CXT} {k : Nat} {f : Addr} {fd : FuncData} {ps : List Str} {sp : Sp} {dvs : List V} {ds : List Value} {E : XK} {x : Str} {p pos : Pos} {e : Expr} {es : List Expr} {t : TA}
theorem run_G {pins : List (Addr × Obj)} {σ : L2.St} {H : Hp} {s : Shared} {Q : VK} {us : List Value} {vs : List V} (hg : X.A.guards = some []) (F : FnOkG X.prog X.w X.K X.mg X.base CX k f fd ps sp) (hr : Room k X.A) (hb : Binds X.K fd ps ds) (hd : Vals dvs ds)
    (hx : Passes CX X E) (I : Inv X pins σ H s) (r : Vals vs us) (h : sp (vs ++ dvs) H Q E) : wpAny (model X.prog X.w) X.A (call (.ref f) us) (EP X pins σ Q) X.xe s := by
  have r2 : Vals (vs ++ dvs) (us ++ ds) := r.append hd
  have hl := (F.len _ _ _ _ h).symm.trans r2.length
  refine wpAny_call (codeAny_mono (F.go X.A X.stack s H ⟨us, []⟩ _ _ Q E hg hr I.env0 (hb s us I.kIn hl.symm) r2 h) fun res s' hq => ?_)
  cases res with
  | error er => exact hx pins σ H s er s' I hq
  | ok fl => cases fl <;> first | exact I.after hq | exact False.elim hq
theorem pe_callG (hg : X.A.guards = some []) (F : FnOkG X.prog X.w X.K X.mg X.base CX k f fd ps sp) (hr : Room k X.A) (gl : Gl X x) (hm : X.mg x = some (.ref f)) (hk : PySem.W.keepIn X.K (.ref f) = true) (hb : Binds X.K fd ps ds) (hd : Vals dvs ds)
    (hx : Passes CX X E) (ha : PA X (e :: es) t) (hdb : (x == ("__debug__" : Str)) = false := by decide) (he : starEach (e :: es) X.env = (false, eval e X.env) :: starEach es X.env := by rfl)
    (hpl : (backTo pos (starEach es X.env)).any (·.1) = false := by rfl) : PE X (.Call (.Name x p) (e :: es) [] pos) (tCall sp dvs E t) := by
  refine ⟨fun pins s σ H Q I h => wpAny_Call_Name_kw (ld_glob I gl hm ?_ hdb)⟩
  refine PySem.W.callWith_K (h₀ := X.base) I.ok.mod.kin hk (thn (ha.run pos pins s σ H _ I h) fun us s1 z => ?_) he hpl
  obtain ⟨vs, H1, I1, r, q⟩ := z
  exact ⟨I1.kIn, run_G hg F hr hb hd hx I1 r q⟩
/-- repr of a list or tuple of plain data -/
def rReprD (K : PySem.W.Frag) : List V → Hp → VK → Prop := fun xs H Q => ∃ a d, xs = [.ref a] ∧ Dp K H (.ref a) d ∧ d.showable = true ∧ d.hasDict = false ∧ d.depth ≤ 64 ∧ d.shown.length ≤ sizeLine ∧ Q (.str d.shown) H
theorem call_reprD (hg : X.A.guards = some []) (hr : Room k X.A) : CallR X (.builtin "repr") (rReprD X.K) := by
  intro pins s σ H xs us Q I r h
  obtain ⟨a, d, rfl, D, sh, nd, dp, sz, q⟩ := h
  cases r with
  | cons r1 rn =>
    cases rn
    cases (show _ = Value.ref a from r1)
    obtain ⟨as, R⟩ := D.reads I d _ _ rfl
    have hu := hr.un
    refine repr_of_reads' R sh (fun z => by rw [nd] at z; cases z) hg (by omega) (fun _ _ z => z) (fun h' u tk hk => ?_) sz
    exact ⟨.str d.shown, H, I.kept hk, ⟨u, rfl⟩, q⟩
end
end
end Ow

namespace Tg
open PySem L2 Ow
/-! ### the box of draws -/
def kvsB (L : Addr) (now seed turn : Int) : List (Key × V) := [(.inr "great", .ref L), (.inr "now", .int now), (.inr "seed", .int seed), (.inr "turn", .int turn)]
theorem n_great_now : ¬ ((.inr "great" : Key) = .inr "now") := by decide +kernel
theorem n_great_seed : ¬ ((.inr "great" : Key) = .inr "seed") := by decide +kernel
theorem n_great_turn : ¬ ((.inr "great" : Key) = .inr "turn") := by decide +kernel
theorem n_now_great : ¬ ((.inr "now" : Key) = .inr "great") := by decide +kernel
theorem n_now_seed : ¬ ((.inr "now" : Key) = .inr "seed") := by decide +kernel
theorem n_now_turn : ¬ ((.inr "now" : Key) = .inr "turn") := by decide +kernel
theorem n_seed_great : ¬ ((.inr "seed" : Key) = .inr "great") := by decide +kernel
theorem n_seed_now : ¬ ((.inr "seed" : Key) = .inr "now") := by decide +kernel
theorem n_seed_turn : ¬ ((.inr "seed" : Key) = .inr "turn") := by decide +kernel
theorem n_turn_great : ¬ ((.inr "turn" : Key) = .inr "great") := by decide +kernel
theorem n_turn_now : ¬ ((.inr "turn" : Key) = .inr "now") := by decide +kernel
theorem n_turn_seed : ¬ ((.inr "turn" : Key) = .inr "seed") := by decide +kernel
theorem vB_great (L : Addr) (now seed turn : Int) : valV (kvsB L now seed turn) (.inr "great" : Key) = some (.ref L) := by
  unfold kvsB
  rw [valV_pos rfl]
theorem vB_now (L : Addr) (now seed turn : Int) : valV (kvsB L now seed turn) (.inr "now" : Key) = some (.int now) := by
  unfold kvsB
  rw [valV_neg n_great_now, valV_pos rfl]
theorem vB_seed (L : Addr) (now seed turn : Int) : valV (kvsB L now seed turn) (.inr "seed" : Key) = some (.int seed) := by
  unfold kvsB
  rw [valV_neg n_great_seed, valV_neg n_now_seed, valV_pos rfl]
theorem vB_turn (L : Addr) (now seed turn : Int) : valV (kvsB L now seed turn) (.inr "turn" : Key) = some (.int turn) := by
  unfold kvsB
  rw [valV_neg n_great_turn, valV_neg n_now_turn, valV_neg n_seed_turn, valV_pos rfl]
theorem pB_now (L : Addr) (now seed turn z : Int) : putK (kvsB L now seed turn) (.inr "now" : Key) (.int z) = kvsB L z seed turn := by
  have e1 : ¬ ((.inr "great" : Key) = .inr "now") := by decide +kernel
  have e2 : ¬ ((.inr "seed" : Key) = .inr "now") := by decide +kernel
  have e3 : ¬ ((.inr "turn" : Key) = .inr "now") := by decide +kernel
  unfold kvsB putK
  simp [e1, e2, e3]
theorem pB_seed (L : Addr) (now seed turn z : Int) : putK (kvsB L now seed turn) (.inr "seed" : Key) (.int z) = kvsB L now z turn := by
  have e1 : ¬ ((.inr "great" : Key) = .inr "seed") := by decide +kernel
  have e2 : ¬ ((.inr "now" : Key) = .inr "seed") := by decide +kernel
  have e3 : ¬ ((.inr "turn" : Key) = .inr "seed") := by decide +kernel
  unfold kvsB putK
  simp [e1, e2, e3]
theorem pB_turn (L : Addr) (now seed turn z : Int) : putK (kvsB L now seed turn) (.inr "turn" : Key) (.int z) = kvsB L now seed z := by
  have e1 : ¬ ((.inr "great" : Key) = .inr "turn") := by decide +kernel
  have e2 : ¬ ((.inr "now" : Key) = .inr "turn") := by decide +kernel
  have e3 : ¬ ((.inr "seed" : Key) = .inr "turn") := by decide +kernel
  unfold kvsB putK
  simp [e1, e2, e3]
theorem z_great_now : ¬ (("great" : Str) = "now") := by decide +kernel
theorem z_great_seed : ¬ (("great" : Str) = "seed") := by decide +kernel
theorem z_great_turn : ¬ (("great" : Str) = "turn") := by decide +kernel
theorem z_now_great : ¬ (("now" : Str) = "great") := by decide +kernel
theorem z_now_seed : ¬ (("now" : Str) = "seed") := by decide +kernel
theorem z_now_turn : ¬ (("now" : Str) = "turn") := by decide +kernel
theorem z_seed_great : ¬ (("seed" : Str) = "great") := by decide +kernel
theorem z_seed_now : ¬ (("seed" : Str) = "now") := by decide +kernel
theorem z_seed_turn : ¬ (("seed" : Str) = "turn") := by decide +kernel
theorem z_turn_great : ¬ (("turn" : Str) = "great") := by decide +kernel
theorem z_turn_now : ¬ (("turn" : Str) = "now") := by decide +kernel
theorem z_turn_seed : ¬ (("turn" : Str) = "seed") := by decide +kernel
theorem merge_kvsB (L : Addr) (now seed turn : Int) : mergeK [] (kvsB L now seed turn) = kvsB L now seed turn := by
  unfold kvsB mergeK
  simp [putK, z_great_now, z_great_seed, z_great_turn, z_now_seed, z_now_turn, z_seed_turn]
/-- the box at b, its great cells at L -/
structure BoxAt (H : Hp) (b L : Addr) (gs : List Int) (now seed turn : Int) : Prop where
  dc : H b = some (.dK (kvsB L now seed turn))
  ls : H L = some (.lst (gs.map V.int))
  now0 : 0 ≤ now
  seed0 : 0 ≤ seed
  seed1 : seed ≤ 2147483648
  pos : ∀ g ∈ gs, 0 ≤ g
def Box (b L : Addr) (H : Hp) : Prop := ∃ gs now seed turn, BoxAt H b L gs now seed turn
/-- all but the box stands as it stood -/
def Kp (b L : Addr) (H H' : Hp) : Prop := ∀ a o, a ≠ b → a ≠ L → H a = some o → H' a = some o
theorem Kp.refl (b L : Addr) (H : Hp) : Kp b L H H := fun _ _ _ _ h => h
theorem Kp.trans {b L : Addr} {H H1 H2 : Hp} (x : Kp b L H H1) (y : Kp b L H1 H2) : Kp b L H H2 := fun a o n1 n2 h => y a o n1 n2 (x a o n1 n2 h)
theorem BoxAt.ne {H : Hp} {b L : Addr} {gs : List Int} {now seed turn : Int} (B : BoxAt H b L gs now seed turn) : b ≠ L := ne_of B.dc B.ls (by intro z; cases z)
theorem BoxAt.put {H : Hp} {b L : Addr} {gs : List Int} {now seed turn now' seed' turn' : Int} (B : BoxAt H b L gs now seed turn) (h0 : 0 ≤ now') (h1 : 0 ≤ seed') (h2 : seed' ≤ 2147483648) :
    BoxAt (upd H b (.dK (kvsB L now' seed' turn'))) b L gs now' seed' turn' ∧ Kp b L H (upd H b (.dK (kvsB L now' seed' turn'))) :=
  ⟨⟨upd_same, by rw [upd_ne B.ne.symm]; exact B.ls, h0, h1, h2, B.pos⟩, fun a o n1 _ h => by rw [upd_ne n1]; exact h⟩
theorem BoxAt.pop {H : Hp} {b L : Addr} {gs : List Int} {now seed turn : Int} (B : BoxAt H b L gs now seed turn) :
    BoxAt (upd H L (.lst (gs.map V.int).dropLast)) b L gs.dropLast now seed turn ∧ Kp b L H (upd H L (.lst (gs.map V.int).dropLast)) :=
  ⟨⟨by rw [upd_ne B.ne]; exact B.dc, by rw [upd_same, List.map_dropLast], B.now0, B.seed0, B.seed1, fun g h => B.pos g (List.dropLast_subset _ h)⟩, fun a o _ n2 h => by rw [upd_ne n2]; exact h⟩

theorem dget_of {H : Hp} {a : Addr} {kvs : List (Key × V)} {k : Key} {v : V} (e : H a = some (.dK kvs)) (h : valV kvs k = some v) : DGet H a (kV k) (some v) := by
  rw [← h]
  exact DGet.k e
theorem dput_of {H : Hp} {a : Addr} {kvs kvs' : List (Key × V)} {k : Key} {v : V} (e : H a = some (.dK kvs)) (h : putK kvs k v = kvs') (hl : kvs.length < sizeLine) : DPut H a (kV k) v (upd H a (.dK kvs')) := by
  rw [← h]
  exact DPut.k e hl
section
variable {H : Hp} {b L : Addr} {gs : List Int} {now seed turn : Int}
theorem kvsB_len : (kvsB L now seed turn).length < sizeLine := by
  show 4 < sizeLine
  decide
theorem BoxAt.ggreat (B : BoxAt H b L gs now seed turn) : DGet H b (.str "great") (some (.ref L)) := dget_of (k := .inr "great") B.dc (vB_great _ _ _ _)
theorem BoxAt.gnow (B : BoxAt H b L gs now seed turn) : DGet H b (.str "now") (some (.int now)) := dget_of (k := .inr "now") B.dc (vB_now _ _ _ _)
theorem BoxAt.gseed (B : BoxAt H b L gs now seed turn) : DGet H b (.str "seed") (some (.int seed)) := dget_of (k := .inr "seed") B.dc (vB_seed _ _ _ _)
theorem BoxAt.gturn (B : BoxAt H b L gs now seed turn) : DGet H b (.str "turn") (some (.int turn)) := dget_of (k := .inr "turn") B.dc (vB_turn _ _ _ _)
theorem BoxAt.pnow (B : BoxAt H b L gs now seed turn) (z : Int) : DPut H b (.str "now") (.int z) (upd H b (.dK (kvsB L z seed turn))) := dput_of (k := .inr "now") B.dc (pB_now _ _ _ _ _) kvsB_len
theorem BoxAt.pseed (B : BoxAt H b L gs now seed turn) (z : Int) : DPut H b (.str "seed") (.int z) (upd H b (.dK (kvsB L now z turn))) := dput_of (k := .inr "seed") B.dc (pB_seed _ _ _ _ _) kvsB_len
theorem BoxAt.pturn (B : BoxAt H b L gs now seed turn) (z : Int) : DPut H b (.str "turn") (.int z) (upd H b (.dK (kvsB L now seed z))) := dput_of (k := .inr "turn") B.dc (pB_turn _ _ _ _ _) kvsB_len
end
/-- what follows is shown once, for all ways of what stands ahead -/
theorem seq_rest {t u : TS} {D : Ends} {σ : St} {H : Hp} (W : St → Hp → Prop) (h2 : ∀ σ' H', W σ' H' → u D σ' H') (h1 : (∀ σ' H', W σ' H' → u D σ' H') → t { D with nx := u D } σ H) : tSeq t u D σ H := h1 h2
theorem pos_lit {j : Int} (h : 0 < j) : 0 < j := h
/-! ### a draw -/
def spTake : Sp := fun vs H Q _ => ∃ (b L : Addr) (m : Int), vs = [.ref b, .int m] ∧ 0 < m ∧ m.natAbs.log2 < 9000 ∧ Box b L H ∧
  ∀ (d : Int) (H' : Hp), 0 ≤ d → d < m → Box b L H' → Kp b L H H' → Q (.int d) H'
/-! ### the promise of the box's maker -/
def spBox (K : PySem.W.Frag) : Sp := fun vs H Q _ => ∃ (a : Addr) (ns : List Int) (e : Int), vs = [.ref a, .int e] ∧ SqL K H a (ns.map V.int) ∧ ns.length ≤ 63 ∧ 0 ≤ e ∧ e ≤ 1000 ∧
  ∀ (b L : Addr) (H' : Hp), H b = none → H L = none → Same H H' → Box b L H' → Q (.ref b) H'
theorem cut_ints (ns : List Int) (lo hi : Option Int) : ∃ ms : List Int, cutV (ns.map V.int) lo hi = ms.map V.int ∧ ms.length ≤ ns.length := by
  refine ⟨(ns.drop (HT.sIx (ns.map V.int).length 0 lo)).take (HT.sIx (ns.map V.int).length (ns.map V.int).length hi - HT.sIx (ns.map V.int).length 0 lo), ?_, ?_⟩
  · unfold cutV
    rw [List.map_take, List.map_drop]
  · rw [List.length_take, List.length_drop]
    omega
theorem ints_at {ns : List Int} {i : Nat} {y : V} (h : (ns.map V.int)[i]? = some y) : ∃ z, ns[i]? = some z ∧ y = V.int z := by
  rw [List.getElem?_map] at h
  cases e : ns[i]? with
  | none => rw [e] at h; cases h
  | some z => rw [e] at h; exact ⟨z, rfl, (Option.some.inj h).symm⟩
theorem same_upd {H H' : Hp} {p : Addr} {o : HO} (s : Same H H') (n : H p = none) : Same H (upd H' p o) := fun b u e => by
  rw [upd_ne (ne_of_none e n)]
  exact s b u e

/-! ### a def that is called by its name -/
structure Cal (P : Program) (w : World) (K : PySem.W.Frag) (mg : Str → Option Value) (base : Heap) (k : Nat) (x : Str) (ps : List Str) (sp : Sp) : Prop where
  ex : ∃ f fd, FnOk P w K mg base CX0 k f fd ps sp ∧ mg x = some (.ref f) ∧ PySem.W.keepIn K (.ref f) = true ∧ Binds K fd ps []
structure CalG (P : Program) (w : World) (K : PySem.W.Frag) (mg : Str → Option Value) (base : Heap) (k : Nat) (x : Str) (ps : List Str) (sp : Sp) : Prop where
  ex : ∃ f fd, FnOkG P w K mg base CX0 k f fd ps sp ∧ mg x = some (.ref f) ∧ PySem.W.keepIn K (.ref f) = true ∧ Binds K fd ps []
section
variable {X : Cx} {k j : Nat} {x : Str} {ps : List Str} {sp : Sp} {p pos : Pos} {e : Expr} {es : List Expr} {t : TA}
theorem pe_cal (c : Cal X.prog X.w X.K X.mg X.base k x ps sp) (hr : Room k X.A) (hg : Gl X x) (ha : PA X (e :: es) t) (hdb : (x == ("__debug__" : Str)) = false := by decide)
    (he : starEach (e :: es) X.env = (false, eval e X.env) :: starEach es X.env := by rfl) (hpl : (backTo pos (starEach es X.env)).any (·.1) = false := by rfl) :
    PE X (.Call (.Name x p) (e :: es) [] pos) (tCall sp [] E0 t) := by
  obtain ⟨f, fd, F, hm, hk, hb⟩ := c.ex
  exact pe_call F hr hg hm hk hb .nil pass0 ha hdb he hpl
theorem pe_calG (c : CalG X.prog X.w X.K X.mg X.base k x ps sp) (gd : X.A.guards = some []) (hr : Room k X.A) (hg : Gl X x) (ha : PA X (e :: es) t) (hdb : (x == ("__debug__" : Str)) = false := by decide)
    (he : starEach (e :: es) X.env = (false, eval e X.env) :: starEach es X.env := by rfl) (hpl : (backTo pos (starEach es X.env)).any (·.1) = false := by rfl) :
    PE X (.Call (.Name x p) (e :: es) [] pos) (tCall sp [] E0 t) := by
  obtain ⟨f, fd, F, hm, hk, hb⟩ := c.ex
  exact pe_callG gd F hr hg hm hk hb .nil pass0 ha hdb he hpl
end
end Tg

/-! the end of a law whose own def may show lists: nothing around it is showing itself -/
namespace Ow
open PySem PySem.Spec PyProof.Rows L2
section
variable {P : Program} {w : World} {K : PySem.W.Frag} {mg mb : Str → Option Value}
/-- the call, from one abstract heap H that tracks nothing but the script at a -/
theorem call_from {k : Nat} {fa a : Addr} {fd : FuncData} {x : Str} {sp : Sp} {s1 : Shared} {H : Hp} {oa : Obj} {es : Array Value} {ep : Nat} (ea : s1.heap.get? a = some oa) (da : oa.data = .seq es ep)
    (kIn : K.In s1.heap) (ns : s1.heap.Ns mainGlobals mg) (nb : s1.heap.Ns builtinsNs mb) (bb : ∀ y : Str, y ≠ "__name__" → mb y = bootBuiltins y) (lim : s1.heap.NoLimit) (hg : s1.gens = #[]) (hr : Room k callerA)
    (F : ∀ base : Heap, K.In base → base.Ns mainGlobals mg → FnOkG P w K mg base CX0 k fa fd [x] sp) (hbind : ∀ (s : Shared) (u : Value), BindsTo s fd ⟨[u], []⟩ [(x, u)])
    (only : Only H) (hok : HOk P w H s1.heap) (alone : ∀ b, H b ≠ none → b = a) (noK : H a ≠ none → K.lookup a = none) (hsp : sp [.ref a] H (fun v _ => v = .bl true) fun _ _ _ => False) :
    codeAny (model P w) callerA (.call (.ref fa) ⟨[.ref a], []⟩) (fun r s' => r = .ok (.ret (.bool true)) ∧ OldK s1.heap s'.heap ∧ s'.os = s1.os ∧ AllBare s'.gens) s1 := by
  have free : ∀ b, b ≠ a → H b = none := fun b hb => by
    cases q : H b with
    | none => rfl
    | some u => exact absurd (alone b (by simp [q])) hb
  have unseq : ∀ {b : Addr} {m : Str → Option Value}, s1.heap.Ns b m → b ≠ a := fun {b m} ⟨o, is, ip, e, d, _⟩ z => by
    subst z
    cases ea.symm.trans e
    cases da.symm.trans d
  have same : ∀ {b : Addr} {m : Str → Option Value}, s1.heap.Ns b m → (hidT s1.heap H).Ns b m := fun {b m} z => by
    have hb := unseq z
    obtain ⟨o, is, ip, e, r⟩ := z
    exact ⟨o, is, ip, hidT_get e (free b hb), r⟩
  have kB : K.In (hidT s1.heap H) := fun b o e => by
    refine hidT_get (kIn b o e) ?_
    by_cases hb : b = a
    · cases q : H b with
      | none => rfl
      | some u => subst hb; rw [noK (by simp [q])] at e; cases e
    · exact free b hb
  have limB : (hidT s1.heap H).NoLimit := by
    obtain ⟨mc, h1, h2⟩ := lim
    exact ⟨mc, same h1, h2⟩
  have md : Mod K mg (hidT s1.heap H) := { kin := kB, glob := same ns, blt := ⟨mb, same nb, bb⟩, nolimit := limB }
  have e0 : Env0 P w K mg (hidT s1.heap H) callerA [] s1 H :=
    { frames := rfl, mod := md, bs := fun b o e => of_hidT e, bsz := Nat.le_of_eq (hidT_size _ _), funs := trivial, frf := fun b hb => (List.not_mem_nil hb).elim, hok := hok, bare := .of_eq hg }
  have run := (F _ kB (same ns)).go callerA [] s1 H ⟨[.ref a], []⟩ [.ref a] [.ref a] _ _ rfl hr e0 (hbind s1 (.ref a)) (.cons rfl .nil) hsp
  refine codeAny_mono run fun r s' h => ?_
  match r, h with
  | .error e, h => exact h.elim
  | .ok .next, h => exact h.elim
  | .ok .brk, h => exact h.elim
  | .ok .cont, h => exact h.elim
  | .ok (.ret u), ⟨v, H', os, bare, un, hok', rv, q⟩ =>
    cases (show v = .bl true from q)
    cases (show u = Value.bool true from rv)
    refine ⟨rfl, OldK.of_keep fun b o e => ?_, os, bare⟩
    rcases only b with z | ⟨ob, xs, z⟩
    · exact un.keep b o e z (fun y => (List.not_mem_nil y).elim) List.not_mem_nil
    · obtain ⟨e1, _⟩ := hok b _ z
      obtain ⟨e2, _⟩ := hok' b _ (un.frzs b ob _ z)
      cases e.symm.trans e1
      exact e2
theorem call_G {k : Nat} {fa a : Addr} {fd : FuncData} {x : Str} {sp : Sp} {s1 : Shared} {vs : List Value} {ns : List Int} (kIn : K.In s1.heap) (hn : s1.heap.Ns mainGlobals mg) (nb : s1.heap.Ns builtinsNs mb)
    (bb : ∀ y : Str, y ≠ "__name__" → mb y = bootBuiltins y) (lim : s1.heap.NoLimit) (hg : s1.gens = #[]) (ha : s1.heap.get? a = some { cls := .type "list", data := .seq vs.toArray }) (hi : IntsAre vs ns) (hl : ns.length ≤ sizeLine) (hr : Room k callerA)
    (F : ∀ base : Heap, K.In base → base.Ns mainGlobals mg → FnOkG P w K mg base CX0 k fa fd [x] sp) (hbind : ∀ (s : Shared) (u : Value), BindsTo s fd ⟨[u], []⟩ [(x, u)])
    (hsp : ∀ H : Hp, Only H → SqL K H a (ns.map V.int) → sp [.ref a] H (fun v _ => v = .bl true) fun _ _ _ => False) :
    codeAny (model P w) callerA (.call (.ref fa) ⟨[.ref a], []⟩) (fun r s' => r = .ok (.ret (.bool true)) ∧ OldK s1.heap s'.heap ∧ s'.os = s1.os ∧ AllBare s'.gens) s1 := by
  have rv := vals_ints hi
  cases hk : K.lookup a with
  | some o =>
    cases ha.symm.trans (kIn a o hk)
    have on : Only (fun _ => none) := fun _ => .inl rfl
    exact call_from ha rfl kIn hn nb bb lim hg hr F hbind on (fun b u z => nomatch z) (fun b z => absurd rfl z) (fun z => absurd rfl z) (hsp _ on (.inr ⟨_, vs.toArray, _, hk, rfl, rfl, rfl, by rw [List.size_toArray, hi.length]; exact hl, by simpa using rv⟩))
  | none =>
    let H : Hp := upd (fun _ => none) a (.frz { cls := .type "list", data := .seq vs.toArray } (.lst (ns.map V.int)))
    have at_ : H a = some (.frz { cls := .type "list", data := .seq vs.toArray } (.lst (ns.map V.int))) := upd_same
    have off : ∀ b, b ≠ a → H b = none := fun b hb => upd_ne hb
    have on : Only H := fun b => by
      by_cases hb : b = a
      · subst hb; exact .inr ⟨_, _, at_⟩
      · exact .inl (off b hb)
    refine call_from ha rfl kIn hn nb bb lim hg hr F hbind on (fun b u z => ?_) (fun b z => ?_) (fun _ => hk) (hsp _ on (.inl (.inr ⟨_, at_⟩)))
    · by_cases hb : b = a
      · subst hb
        cases at_.symm.trans z
        exact ⟨ha, by rw [List.length_map]; exact hl, vs, _, rv, ha⟩
      · cases (off b hb).symm.trans z
    · by_cases hb : b = a
      · exact hb
      · exact absurd (off b hb) z
end
theorem walk_G {l : PySem.W.OpenLaw} {n k : Nat} {q : Program} {loose : List Str} {XP : (Str → Option Value) → Heap → Prop} {YP : World → Heap → Prop} {d : DefRec} {K : Params → PySem.W.Frag} {sp : World → Sp} {x : Str}
    (hn : l.most = some n) (hn2 : n ≤ sizeLine) (hdf : d.params.defaults = []) (hr : Room k callerA) (hY : ∀ (w : World) (h : Heap), YP w h → (K w.params).In h)
    (F : ∀ (w : World) (mg : Str → Option Value) (fa : Addr) (h : Heap), (K w.params).In h → h.Ns mainGlobals mg → mg d.name = some (.ref fa) →
      ∃ fd : FuncData, (∀ (s : Shared) (u : Value), BindsTo s fd ⟨[u], []⟩ [(x, u)]) ∧ ∀ base : Heap, (K w.params).In base → base.Ns mainGlobals mg → FnOkG l.prog w (K w.params) mg base CX0 k fa fd [x] (sp w))
    (hsp : ∀ (w : World) (H : Hp) (a : Addr) (ns : List Int), ns.length ≤ n → SqL (K w.params) H a (ns.map V.int) → sp w [.ref a] H (fun v _ => v = .bl true) fun _ _ _ => False) :
    PySem.W.WalkO q loose XP YP l.row.toRowW d [] (fun f vs => PySem.call f vs) := by
  refine Att.attach_call hn hdf fun w s0 s1 mg mb fa o pm cd doc a vs ns G Y ho hd hcd hmg hobj hints hlen hg => ?_
  have kx := hY w _ Y
  obtain ⟨fd, hb, hF⟩ := F w mg fa _ kx G.T.g hmg
  exact call_G kx G.T.g G.T.b G.T.builtins G.T.nolimit hg hobj hints (Nat.le_trans hlen hn2) hr hF hb fun H _ hS => hsp w H a ns hlen hS
end Ow

/-! own operators of own classes, over the hand layer -/
namespace Ow
open PySem PySem.Spec PyProof.Rows L2 PySem.W
section
variable {X : Cx} {pins : List (Addr × Obj)} {σ : L2.St} {H : Hp} {s : Shared} {a C dx : Addr} {fs : List (Str × V)}
theorem ins_inst (I : Inv X pins σ H s) (e : H a = some (.ins C dx fs)) : ∃ ox od, InstAt s.heap a ox C (some od) := by
  obtain ⟨mA, J, _⟩ := ins_get I.hok e
  obtain ⟨od, J, _⟩ := J.look
  exact ⟨_, od, J⟩
/-- the type of a value, as the model finds it -/
theorem ty_looks {M : Model} {x : V} {u t : Value} (I : Inv X pins σ H s) (rx : RelV x u) (ty : TyX X.K H x t) : Looks M s.heap (typeOf u) t := by
  cases ty with
  | base b =>
    cases b with
    | non => cases (show u = Value.none from rx); exact Looks.of_pure rfl
    | bl y => cases (show u = Value.bool y from rx); exact Looks.of_pure rfl
    | int i => obtain ⟨t, q⟩ := (show ∃ t, u = Value.int i t from rx); cases q; exact Looks.of_pure rfl
    | str y => obtain ⟨t, q⟩ := (show ∃ t, u = Value.str y t from rx); cases q; exact Looks.of_pure rfl
    | flt y => obtain ⟨t, q⟩ := (show ∃ t, u = Value.float y t from rx); cases q; exact Looks.of_pure rfl
    | @lst a xs ea =>
      cases (show u = Value.ref a from rx)
      obtain ⟨_, _, n, _, h1⟩ := (show ObjOk X.prog X.w H s.heap a (.lst xs) from I.hok a _ ea)
      exact (Looks.ld (part := none) h1).andThen .now
    | @frz a ob xs ea =>
      cases (show u = Value.ref a from rx)
      obtain ⟨_, _, _, n, _, h1⟩ := (show ObjOk X.prog X.w H s.heap a (.frz ob (.lst xs)) from I.hok a _ ea)
      exact (Looks.ld (part := none) h1).andThen .now
    | @tup a xs ea =>
      cases (show u = Value.ref a from rx)
      obtain ⟨_, _, _, o, h1, h2, _⟩ := (show ObjOk X.prog X.w H s.heap a (.tup xs) from I.hok a _ ea)
      rw [← h2]
      exact (Looks.ld (part := none) h1).andThen .now
    | @dK a kvs ea =>
      cases (show u = Value.ref a from rx)
      obtain ⟨_, _, vs, _, o, es, ep, h1, h2, _⟩ := (show ObjOk X.prog X.w H s.heap a (.dK kvs) from I.hok a _ ea)
      rw [← h2.1]
      exact (Looks.ld (part := none) h1).andThen .now
    | @dT a kvs ea =>
      cases (show u = Value.ref a from rx)
      obtain ⟨_, _, xs, _, o, es, ep, h1, h2, _⟩ := (show ObjOk X.prog X.w H s.heap a (.dT kvs) from I.hok a _ ea)
      rw [← h2.1]
      exact (Looks.ld (part := none) h1).andThen .now
    | @ins a C dx fs ea cl ha hn htk hm =>
      cases (show u = Value.ref a from rx)
      obtain ⟨ox, od, J⟩ := ins_inst I ea
      exact J.type
  | byt y => obtain ⟨t, q⟩ := (show ∃ t, u = Value.bytes y t from rx); cases q; exact Looks.of_pure rfl
  | @set a S n ea =>
    cases (show u = Value.ref a from rx)
    obtain ⟨o, _, _, _, e, ex, _⟩ := I.hok a _ ea
    rw [← ex.1]
    exact (Looks.ld (part := none) e).andThen .now
  | @kList a o e c =>
    cases (show u = Value.ref a from rx)
    rw [← c]
    exact (Looks.ld (part := none) (I.kIn a o e)).andThen .now
  | @kTuple a o e c =>
    cases (show u = Value.ref a from rx)
    rw [← c]
    exact (Looks.ld (part := none) (I.kIn a o e)).andThen .now
  | @kDict a o e c =>
    cases (show u = Value.ref a from rx)
    rw [← c]
    exact (Looks.ld (part := none) (I.kIn a o e)).andThen .now
  | @fTuple a ob xs ea =>
    cases (show u = Value.ref a from rx)
    obtain ⟨_, _, _, _, o, h1, h2, _⟩ := (show ObjOk X.prog X.w H s.heap a (.frz ob (.tup xs)) from I.hok a _ ea)
    rw [← h2]
    exact (Looks.ld (part := none) h1).andThen .now
  | @fDict a ob kvs ea =>
    cases (show u = Value.ref a from rx)
    obtain ⟨_, _, _, vs, _, o, es, ep, h1, h2, _⟩ := (show ObjOk X.prog X.w H s.heap a (.frz ob (.dK kvs)) from I.hok a _ ea)
    rw [← h2.1]
    exact (Looks.ld (part := none) h1).andThen .now
end
section
variable {X : Cx} {CX : CXT} {k : Nat} {C f : Addr} {fd : FuncData} {ps : List Str} {sp : Sp} {E : XK}
/-- the callee runs, whatever stands between -/
theorem run_at {A : Around} {pins : List (Addr × Obj)} {σ : L2.St} {H : Hp} {s : Shared} {Q : VK} {us : List Value} {vs : List V} (fr : A.frames = X.A.frames) (F : FnOk X.prog X.w X.K X.mg X.base CX k f fd ps sp) (hr : Room k A) (hb : Binds X.K fd ps []) (hx : Passes CX X E)
    (I : Inv X pins σ H s) (r : Vals vs us) (h : sp vs H Q E) : wpAny (model X.prog X.w) A (call (.ref f) us) (EP X pins σ Q) X.xe s := by
  have hl : us.length = ps.length := by rw [← r.length]; exact F.len _ _ _ _ h
  have e0 : Env0 X.prog X.w X.K X.mg X.base A X.stack s H := by
    have e := I.env0
    exact ⟨by rw [fr]; exact e.frames, e.mod, e.bs, e.bsz, e.funs, e.frf, e.hok, e.bare⟩
  refine wpAny_call (codeAny_mono (F.run A X.stack s H ⟨us, []⟩ us vs Q E hr e0 (by
    have := hb s us I.kIn (by simpa using hl)
    simpa using this) r h) fun r s' hq => ?_)
  cases r with
  | error e => exact hx pins σ H s e s' I hq
  | ok fl =>
    cases fl with
    | ret u => exact I.after hq
    | next => exact False.elim hq
    | brk => exact False.elim hq
    | cont => exact False.elim hq
theorem cmp_back {pins : List (Addr × Obj)} {σ : L2.St} {Q : VK} {u : Value} {s' : Shared} (h : EP X pins σ Q u s') : PySem.W.CmpBack (EP X pins σ Q) u s' := by
  obtain ⟨v, H', I, r, q⟩ := h
  cases u <;> first | exact ⟨v, H', I, r, q⟩ | (cases v <;> simp [L2.RelV] at r)
/-- a < b and its like, and a == b, a an instance of the class at C with such a method of its own -/
def rOwn (K : PySem.W.Frag) (C : Addr) (sp : Sp) (E : XK) : R2 := fun x y H Q => ∃ a dx fs t, x = .ref a ∧ H a = some (.ins C dx fs) ∧ TyX K H y t ∧ notFirst K C t = true ∧ sp [x, y] H Q E
theorem op_cmpOwn {op : CmpOp} (hop : ∀ a b, compareOp op a b = richCompare op a b) (F : FnOk X.prog X.w X.K X.mg X.base CX k f fd ps sp) (hr : Room k X.A) (hb : Binds X.K fd ps []) (hx : Passes CX X E)
    (hs : findIn X.K (.ref C) (cmpInfo op).2.1 = some (some (.ref f))) (hf : isFn X.K (.ref f) = true) : OpR X (compareOp op) (rOwn X.K C sp E) := by
  intro pins s σ H x y v u Q I rx ry h
  obtain ⟨a, dx, fs, t, rfl, ea, ty, nf, q⟩ := h
  cases (show v = Value.ref a from rx)
  obtain ⟨ox, od, J⟩ := ins_inst I ea
  obtain ⟨m, hF⟩ := I.fr
  rw [hop]
  refine PySem.W.cmp_K (Nat.lt_of_le_of_lt (Nat.le_add_right _ 1) (hu_of hr)) hF I.ok.mod.kin J (ty_looks I ry ty) nf hs hf ?_
  have rr : Vals [V.ref a, y] [Value.ref a, u] := .cons rfl (.cons ry .nil)
  exact wpAny_mono (run_at rfl F hr hb hx I rr q) (fun _ _ z => cmp_back z) fun _ _ z => z
end
end Ow
namespace Ow
open PySem PySem.Spec PySem.Calls PyProof.Rows L2 PySem.W
open Builtin
section
variable {prog : Program} {w : World} {M : Model} {A : Around} {E : Value → Shared → Prop} {s : Shared} {K : Frag} {x C f : Addr} {ox : Obj} {od : Option Obj} {b tb : Value}
theorem ifBoundB {name : Str} {id : String} {args : List Value} {Q : Option Value → Shared → Prop} (X : K.In s.heap) (I : InstAt s.heap x ox C od) (hs : findIn K (.ref C) name = some (some (.builtin id)))
    (hb : ∀ self, bindSpecial (.builtin id) self = pure (.builtin id, [self])) (h : wpAny M A (call (.builtin id) (.ref x :: args)) (fun v => Q (some v)) E s) : wpAny M A (callSpecialIfBound? (.ref x) name args) Q E s := by
  simp only [callSpecialIfBound?, bindSpecialIfBound?]
  refine wpAny_holding (wpAny_bind (wpAny_bind (wpAny_bind (I.type.here ((looks_findIn X hs).here ?_)))))
  refine wpAny_bind (wpAny_askSetting (wpAny_ite ?_))
  have fin : wpAny M A (call (.builtin id) ([.ref x] ++ args) >>= fun v => pure (some v)) Q E s := wpAny_bind (wpAny_mono h (fun v s' h' => wpAny_pure h') fun _ _ h' => h')
  split
  · exact wpAny_bind ((Looks.of_pure (hb _)).here (wpAny_pure (by exact fin)))
  · exact wpAny_tryCatch (wpAny_bind ((Looks.of_pure (hb _)).here (wpAny_pure (by exact fin))))
theorem ne_K {Q : Value → Shared → Prop} (hu : A.units < cLine) (hu1 : A.in1.units < cLine) (X : K.In s.heap) (I : InstAt s.heap x ox C od) (hb : Looks (model prog w) s.heap (typeOf b) tb) (hn : notFirst K C tb = true) (hm : mroIn K C (.type "object") = some true)
    (hne : findIn K (.ref C) "__ne__" = some (some (.builtin "object.__ne__"))) (hs : findIn K (.ref C) "__eq__" = some (some (.ref f))) (hf : isFn K (.ref f) = true)
    (h : wpAny (model prog w) A.in1 (call (.ref f) [.ref x, b]) (fun v s' => ∃ c, v = .bool c ∧ Q (.bool (!c)) s') E s) : wpAny (model prog w) A (richCompare .NotEq (.ref x) b) Q E s := by
  have one : wpAny (model prog w) A (tryCompare (.ref x) (cmpInfo .NotEq).2.1 b) (fun r s' => ∃ v, r = some v ∧ Q v s') E s := by
    unfold tryCompare
    refine wpAny_bind (ifBoundB X I hne PySem.F.slot_object_ne.bind ?_)
    refine wpAny_call (codeAny_call_builtin PySem.F.slot_object_ne.plain PySem.F.cmpEntry_ne (check_slot (i := "object.__ne__") (owner := "object") (n := "__ne__") (by decide +kernel) (by decide +kernel) (I.type.andThen (looks_mroIn X hm)) (PySem.F.cmpArgs_ne _ _) ?_))
    unfold Builtin.«object.__ne__»
    refine wpAny_bind (m := slotArgs "__ne__" 1 _) (wpAny_pure ?_)
    refine wpAny_bind (m := cRoomFor _ _) (wpAny_cRoomFor hu1 ?_)
    refine wpAny_bind (m := callSpecialIfBound? (.ref x) (Str.ofString "__eq__") _) (ifBound_K X I hs hf (wpAny_mono h (fun r s' hq => ?_) fun _ _ y => y))
    obtain ⟨c, rfl, hq⟩ := hq
    refine wpAny_bind (m := truthy (.bool c)) (wpAny_truthy_bool ?_)
    exact wpAny_pure (wpAny_pure ⟨_, rfl, hq⟩)
  unfold richCompare
  simp only [oneThing_ref]
  refine wpAny_holding (wpAny_bind (wpAny_cRoomFor hu ?_))
  refine wpAny_bind (I.type.here (wpAny_bind (hb.here ?_)))
  split
  · rename_i q
    have e : subIn K tb (.ref C) = some false := by
      rcases Bool.or_eq_true_iff.mp hn with e | e
      · rw [beq_iff_eq.mp e] at q; simp at q
      · exact beq_iff_eq.mp e
    refine wpAny_bind ((looks_subIn X e).here ?_)
    simp only [Bool.false_eq_true, if_false]
    refine wpAny_bind (wpAny_mono one (fun r s' z => ?_) fun _ _ e => e)
    obtain ⟨v, rfl, hq⟩ := z
    exact wpAny_pure hq
  · refine wpAny_bind (wpAny_pure ?_)
    simp only [Bool.false_eq_true, if_false]
    refine wpAny_bind (wpAny_mono one (fun r s' z => ?_) fun _ _ e => e)
    obtain ⟨v, rfl, hq⟩ := z
    exact wpAny_pure hq
end
section
variable {X : Cx} {CX : CXT} {k : Nat} {C f g : Addr} {fd : FuncData} {ps : List Str} {sp : Sp} {E : XK}
/-- a != b, by the own == -/
def rOwnNe (K : PySem.W.Frag) (C : Addr) (sp : Sp) (E : XK) : R2 := fun x y H Q => ∃ a dx fs t, x = .ref a ∧ H a = some (.ins C dx fs) ∧ TyX K H y t ∧ notFirst K C t = true ∧ sp [x, y] H (fun v H' => ∃ c, v = .bl c ∧ Q (.bl (!c)) H') E
theorem op_neOwn (F : FnOk X.prog X.w X.K X.mg X.base CX k f fd ps sp) (hr : Room (k + 1) X.A) (hb : Binds X.K fd ps []) (hx : Passes CX X E) (hm : mroIn X.K C (.type "object") = some true)
    (hne : findIn X.K (.ref C) "__ne__" = some (some (.builtin "object.__ne__"))) (hs : findIn X.K (.ref C) "__eq__" = some (some (.ref f))) (hf : isFn X.K (.ref f) = true) : OpR X (compareOp .NotEq) (rOwnNe X.K C sp E) := by
  intro pins s σ H x y v u Q I rx ry h
  obtain ⟨a, dx, fs, t, rfl, ea, ty, nf, q⟩ := h
  cases (show v = Value.ref a from rx)
  obtain ⟨ox, od, J⟩ := ins_inst I ea
  have rr : Vals [V.ref a, y] [Value.ref a, u] := .cons rfl (.cons ry .nil)
  have hu := hu_of hr
  refine ne_K (Nat.lt_of_le_of_lt (Nat.le_add_right _ 1) hu) (by show X.A.units + 1 < _; exact hu) I.kIn J (ty_looks I ry ty) nf hm hne hs hf ?_
  refine wpAny_mono (run_at (A := X.A.in1) rfl F hr.in1 hb hx I rr q) (fun v' s' z => ?_) fun _ _ z => z
  obtain ⟨w1, H', I', r', c, rfl, q'⟩ := z
  cases (show v' = Value.bool c from r')
  exact ⟨c, rfl, .bl (!c), H', I', rfl, q'⟩
/-- a + b and its like, both of the class at C -/
theorem op_binOwn {op : Operator} (F : FnOk X.prog X.w X.K X.mg X.base CX k f fd ps sp) (hr : Room k X.A) (hb : Binds X.K fd ps []) (hx : Passes CX X E) (hc : selfFirst X.K C = true)
    (hs : findIn X.K (.ref C) (PySem.dunder op.info.2) = some (some (.ref f))) (hf : isFn X.K (.ref f) = true) :
    OpR X (binaryOp op) (fun x y H Q => ∃ a dx fs b dy gs, x = .ref a ∧ H a = some (.ins C dx fs) ∧ y = .ref b ∧ H b = some (.ins C dy gs) ∧ sp [x, y] H Q E) := by
  intro pins s σ H x y v u Q I rx ry h
  obtain ⟨a, dx, fs, b, dy, gs, rfl, ea, rfl, eb, q⟩ := h
  cases (show v = Value.ref a from rx)
  cases (show u = Value.ref b from ry)
  obtain ⟨ox, od, J⟩ := ins_inst I ea
  obtain ⟨oy, od', J'⟩ := ins_inst I eb
  obtain ⟨m, hF⟩ := I.fr
  have rr : Vals [V.ref a, V.ref b] [Value.ref a, Value.ref b] := .cons rfl (.cons rfl .nil)
  refine PySem.W.binop_K hF I.ok.mod.kin J J'.type hc hs hf ?_
  exact wpAny_mono (run_at rfl F hr hb hx I rr q) (fun _ _ z => cmp_back z) fun _ _ z => z
/-- a + n, n of a built-in type -/
theorem op_binOwnT {op : Operator} {T : String} {fo ro rc : Option Value} (F : FnOk X.prog X.w X.K X.mg X.base CX k f fd ps sp) (hr : Room k X.A) (hb : Binds X.K fd ps []) (hx : Passes CX X E) (hc : selfFirst X.K C = true)
    (hs : findIn X.K (.ref C) (PySem.dunder op.info.2) = some (some (.ref f))) (hf : isFn X.K (.ref f) = true) (h2 : findIn X.K (.ref C) (dunderR op.info.2) = some rc) (hp : rc = none ∨ ∃ g : Addr, rc = some (.ref g))
    (h3 : findIn X.K (.type T) (PySem.dunder op.info.2) = some fo) (h4 : findIn X.K (.type T) (dunderR op.info.2) = some ro) (hsub : subIn X.K (.type T) (.ref C) = some false) :
    OpR X (binaryOp op) (fun x y H Q => ∃ a dx fs, x = .ref a ∧ H a = some (.ins C dx fs) ∧ (∀ u, L2.RelV y u → typeOf u = pure (.type T)) ∧ sp [x, y] H Q E) := by
  intro pins s σ H x y v u Q I rx ry h
  obtain ⟨a, dx, fs, rfl, ea, ht, q⟩ := h
  cases (show v = Value.ref a from rx)
  obtain ⟨ox, od, J⟩ := ins_inst I ea
  obtain ⟨m, hF⟩ := I.fr
  have rr : Vals [V.ref a, y] [Value.ref a, u] := .cons rfl (.cons ry .nil)
  refine PySem.W.ksp_binT hF I.ok.mod.kin J (ht u ry) hc hs hf h2 hp h3 h4 hsub ?_
  exact wpAny_mono (run_at rfl F hr hb hx I rr q) (fun _ _ z => cmp_back z) fun _ _ z => z
theorem str_back {pins : List (Addr × Obj)} {σ : L2.St} {Q : VK} {u : Value} {s' : Shared} (h : EP X pins σ (fun v H => ∃ y, v = .str y ∧ Q (.str y) H) u s') : StrBack (EP X pins σ Q) u s' := by
  obtain ⟨v, H', I, r, y, rfl, q⟩ := h
  obtain ⟨t, rfl⟩ := (show ∃ t, u = Value.str y t from r)
  exact ⟨.str y, H', I, ⟨t, rfl⟩, q⟩
/-- repr(a) by the own __repr__ -/
def rOwnS (C : Addr) (sp : Sp) (E : XK) : List V → Hp → VK → Prop := fun xs H Q => ∃ a dx fs, xs = [.ref a] ∧ H a = some (.ins C dx fs) ∧ sp xs H (fun v H' => ∃ y, v = .str y ∧ Q (.str y) H') E
theorem call_reprOwn (F : FnOk X.prog X.w X.K X.mg X.base CX k f fd ps sp) (hr : Room (k + 1) X.A) (hb : Binds X.K fd ps []) (hx : Passes CX X E) (hs : findIn X.K (.ref C) "__repr__" = some (some (.ref f))) (hf : isFn X.K (.ref f) = true) :
    CallR X (.builtin "repr") (rOwnS C sp E) := by
  intro pins s σ H xs us Q I r h
  obtain ⟨a, dx, fs, rfl, ea, q⟩ := h
  obtain ⟨ox, od, J⟩ := ins_inst I ea
  obtain ⟨m, hF⟩ := I.fr
  have rr : Vals [V.ref a] us := r
  cases r with
  | cons r1 rn =>
    cases rn
    cases (show _ = Value.ref a from r1)
    refine PySem.W.repr_K (by have := hu_of hr; exact this) hF I.ok.mod.kin J hs hf ?_
    exact wpAny_mono (run_at (A := X.A.in1) rfl F hr.in1 hb hx I rr q) (fun _ _ z => str_back z) fun _ _ z => z
/-- n + b, n an int, b of the class at C with its own __radd__ -/
theorem op_addIOwn {rc : Option Value} (F : FnOk X.prog X.w X.K X.mg X.base CX k f fd ps sp) (hr : Room k X.A) (hb : Binds X.K fd ps []) (hx : Passes CX X E) (hc : selfFirst X.K C = true)
    (hs : findIn X.K (.ref C) (PySem.dunder "add") = some (some (.ref g))) (hs2 : findIn X.K (.ref C) (dunderR "add") = some (some (.ref f))) (hf : isFn X.K (.ref f) = true) (hsub : subIn X.K (.ref C) (.type "int") = some false) :
    OpR X (binaryOp .Add) (fun x y H Q => ∃ i b dy gs, x = .int i ∧ y = .ref b ∧ H b = some (.ins C dy gs) ∧ sp [y, x] H Q E) := by
  intro pins s σ H x y v u Q I rx ry h
  obtain ⟨i, b, dy, gs, rfl, rfl, eb, q⟩ := h
  obtain ⟨t, rfl⟩ := (show ∃ t, v = Value.int i t from rx)
  cases (show u = Value.ref b from ry)
  obtain ⟨mA, O, _⟩ := ins_get I.hok eb
  obtain ⟨od, J, _⟩ := O.look
  have rr : Vals [V.ref b, V.int i] [Value.ref b, Value.int i t] := .cons rfl (.cons ⟨t, rfl⟩ .nil)
  have X0 := I.kIn
  have one := ksp_try (Q := EP X pins σ Q) X0 J hs2 hf (wpAny_mono (run_at rfl F hr hb hx I rr q) (fun _ _ z => cmp_back z) fun _ _ z => z)
  obtain ⟨cd, rest, hcd, hm⟩ := ksp_first hc
  have Lb : Looks (model X.prog X.w) s.heap (typeOf (.ref b)) (.ref C) := J.type
  have La : Looks (model X.prog X.w) s.heap (typeOf (.int i t)) (.type "int") := Looks.of_pure rfl
  have Lf : Looks (model X.prog X.w) s.heap (fillsNumberSlot (.ref C) "add") true := fills_K X0 hcd hm hs
  have Lg : Looks (model X.prog X.w) s.heap (fillsNumberSlot (.type "int") "add") true := Looks.of_pure PySem.fills_int_add
  have Ls : Looks (model X.prog X.w) s.heap (isSubtype (.ref C) (.type "int")) false := looks_subIn X0 hsub
  have Ln : Looks (model X.prog X.w) s.heap (numberSlotInPython (.type "int") "add") false := Looks.of_pure rfl
  have hne : (Value.type "int" == Value.ref C) = false := Bool.eq_false_iff.mpr fun q => by cases beq_iff_eq.mp q
  have ob := O.obj
  have dec : ∀ {R : Option Value → Shared → Prop}, R none s → wpAny (model X.prog X.w) X.A (tryMethod (.int i t) (PySem.dunder "add") (.ref b)) R X.xe s := by
    intro R hR
    have ob' := ob
    obtain ⟨hh, gg, d, tt, os⟩ := s
    unfold tryMethod
    refine wpAny_bind (wpAny_callSpecial?_slot (T := "int") (typeIs_int _ _ _) PySem.F.slot_int_add ?_)
    refine wpAny_call (codeAny_call_builtin PySem.F.slot_int_add.plain PySem.F.entry_int_add (PySem.F.slot_int_add.check _ _ _ _ _ _ _ _ (typeIs_int _ _ _) (PySem.F.args_int_add_2 _ _) ?_))
    unfold Builtin.«int.__add__» Builtin.Int.intBinary
    refine wpAny_bind (m := slotArgs "__add__" 1 _) (wpAny_pure ?_)
    refine wpAny_bind (m := Builtin.Int.intOfSelf _) (wpAny_bind (wpAny_pure (wpAny_pure ?_)))
    refine wpAny_bind (m := asInt? (.ref b)) (wpAny_bind (wpAny_load ob ?_))
    refine wpAny_pure ?_
    refine wpAny_bind (wpAny_rule ?_)
    exact wpAny_pure (wpAny_pure hR)
  show wpAny (model X.prog X.w) X.A (binaryOp .Add (.int i t) (.ref b)) (EP X pins σ Q) X.xe s
  generalize hR : EP X pins σ Q = R at one
  obtain ⟨hh, gg, d, tt, os⟩ := s
  simp only [binaryOp, Operator.info]
  refine wpAny_holding (wpAny_bind ?_)
  unfold binaryOp1
  refine wpAny_bind (La.at (wpAny_bind (Lb.at (wpAny_bind (Lg.at ?_)))))
  simp only [hne, Bool.false_eq_true, if_false]
  repeat ((fail_if_success (with_reducible show wpAny _ _ (tryMethod _ _ _) _ _ _)); lk)
  refine dec ?_
  repeat ((fail_if_success (with_reducible show wpAny _ _ (tryMethod _ _ _) _ _ _)); lk)
  refine wpAny_mono one (fun r s' hr' => ?_) fun _ _ e => e
  obtain ⟨v, rfl, hq⟩ := hr'
  obtain ⟨hh', gg', d', tt', os'⟩ := s'
  repeat lk
  exact hq
end
end Ow

namespace Ow
open PySem PySem.Spec PyProof.Rows L2
section
variable {X : Cx} {CX : CXT} {k i : Nat} {C f p g : Addr} {mc : Value} {fd : FuncData} {ps : List Str} {sp : Sp} {dvs : List V} {ds : List Value} {E : XK} {x m : Str} {pc pos apos : Pos} {e o : Expr} {es : List Expr} {ta : TE} {t : TA} {pl : Sem Bool}
/-- str(a) by the own __str__ -/
theorem call_strOwn (F : FnOk X.prog X.w X.K X.mg X.base CX k f fd ps sp) (hr : Room (k + 2) X.A) (hb : Binds X.K fd ps []) (hx : Passes CX X E) (hs : PySem.W.findIn X.K (.ref C) "__str__" = some (some (.ref f))) (hf : PySem.W.isFn X.K (.ref f) = true) :
    CallR X (.type "str") (rOwnS C sp E) := by
  intro pins s σ H xs us Q I r h
  obtain ⟨a, dx, fs, rfl, ea, q⟩ := h
  obtain ⟨ox, od, J⟩ := ins_inst I ea
  have rr : Vals [V.ref a] us := r
  cases r with
  | cons r1 rn =>
    cases rn
    cases (show _ = Value.ref a from r1)
    refine PySem.W.kso_call (by have := hr.un; show X.A.units + 1 + 1 < _; omega) I.kIn J hs hf ?_
    exact wpAny_mono (run_at (A := X.A.in1.in1) rfl F hr.in1.in1 hb hx I rr q) (fun _ _ z => str_back z) fun _ _ z => z
/-- cls(e, ..), the class at C in the i-th slot -/
def tMakeL (i : Nat) (C : Addr) (sp : Sp) (dvs : List V) (E : XK) (t : TA) : TE := fun σ H Q => σ[i]? = some (some (.ref C)) ∧ tMake C sp dvs E t σ H Q
theorem pe_makeL (M : Mk X.K C f) (F : FnOk X.prog X.w X.K X.mg X.base CX k f fd ps sp) (hr : Room (k + 1) X.A) (hN : X.N[i]? = some x) (hv : Vis X.env.scope x) (hb : Binds X.K fd ps ds) (hd : Vals dvs ds) (hx : Passes CX X E) (ha : PA X (e :: es) t)
    (hdb : (x == ("__debug__" : Str)) = false := by decide) (hcd : (x == ("__classdict__" : Str)) = false := by decide) (he : starEach (e :: es) X.env = (false, eval e X.env) :: starEach es X.env := by rfl)
    (hpl : (backTo pos (starEach es X.env)).any (·.1) = false := by rfl) : PE X (.Call (.Name x pc) (e :: es) [] pos) (tMakeL i C sp dvs E t) := by
  refine ⟨fun pins s σ H Q I ⟨hs, ht⟩ => ?_⟩
  have nm := (pe_var (X := X) (pos := pc) hN hv hdb hcd).run pins s σ H (fun v H1 => v = .ref C ∧ H1 = H) I ⟨.ref C, hs, rfl, rfl⟩
  refine wpAny_Call_Name_kw (thn nm fun u s1 ⟨v, H1, I1, r1, q1⟩ => ?_)
  obtain ⟨rfl, rfl⟩ := q1
  cases r1
  refine PySem.W.callWith_K (h₀ := X.base) I.ok.mod.kin M.kp (thn (ha.run pos pins s1 σ _ _ I1 ht) fun us s2 ⟨vs, H2, I2, r, q⟩ => ⟨I2.kIn, ?_⟩) he hpl
  exact run_make M F hr hb hd hx I2 r q
/-- e.m(), e the class at C, m a classmethod of it -/
theorem pe_cmeth0 (he : PE X o ta) (r : ClX.CRead X.K C mc) (c : ClX.CMet X.K C mc m p g) (F : FnR X.prog X.w X.K X.mg X.base CX k g sp) (hr : Room k X.A) (hx : Passes CX X E)
    (ht : eval (.Call (.Attribute o m apos) [] [] pos) X.env = (do
      let ov ← eval o X.env
      standAt apos.atName
      let (fv, fst) ← holding [ov] (getMethod ov m pl)
      callWith pos fv fst (backTo pos (starEach [] X.env)) (backToKw pos (keywordEach [] X.env))) := by rfl) :
    PE X (.Call (.Attribute o m apos) [] [] pos) (ClX.tCMeth C sp E ta tNil) := by
  refine ⟨fun pins s σ H Q I h => ?_⟩
  refine PySem.W.methodCall_KW (pl := pl) (thn (he.run pins s σ H _ I h) fun u s1 ⟨x, H1, I1, rx, ex, q⟩ => ?_) ht
  subst ex
  obtain rfl : u = Value.ref C := rx
  refine ClX.getmethcm_ok I1 r c fun s2 I2 => ?_
  exact PySem.W.callWith_M0 (K := X.K) (first := []) ⟨ClX.pin_at I2, I2.kIn⟩ c.fi (ClX.run_cm (us := []) (vs := []) F hr hx I2 .nil q)
end
end Ow

/-! an exception class of the program over any base whose maker is known: made by a call, with or without keywords -/
namespace Ow
open PySem PySem.W PySem.Calls PyProof.Rows PySem.HandSPX Builtin
/-- what of the classes above is asked for -/
structure Tail (B : String) (bm : List Value) : Prop where
  base : bm.contains (.type B) = true
  nA : bm.contains (.type "AttributeError") = false
  nN : bm.contains (.type "NameError") = false
section
variable {M : Model} {prog : Program} {w : World} {A : Around} {E : Value → Shared → Prop} {R : Result → Shared → Prop} {hp : Heap} {gs : Array GenState} {dr : Drawn} {tk : Nat} {os : OsState} {nm q : Str} {C N : Addr} {bs bm bmB : List Value} {hd ab : Bool}
  {sn : List Str} {sub : List Value} {col : Option Bool} {dd : Option Addr} {k0 k1 k2 k3 k5 : Option Value} {B ni ii : String}
theorem ex_check (F : ExcBaseFacts B ni ii bmB) (T : Tail B bm) {us : List Value} {kw : List (Str × Value)} {Q : Unit → Shared → Prop} (ho : hp.get? C = some (excClassObj nm q C N bs bm hd sn sub ab col dd k0 k1 k2 k3 k5 ni))
    (fin : Q () ⟨hp, gs, dr, tk, os⟩) : wpAny M A (checkBuiltinCall ni ⟨.ref C :: us, kw⟩) Q E ⟨hp, gs, dr, tk, os⟩ := by
  have yes : (Value.ref C :: bm).contains (.type B) = true := by rw [List.contains_cons, T.base, Bool.or_true]
  have star := F.noStar
  simp only [checkBuiltinCall, F.newKind, F.newSplit, F.newRow]
  repeat (first | (refine wpAny_loadPart_at ho ?_) | (refine wpAny_isSubtype_exc ho ?_; rw [yes]) | (refine wpAny_staticBase_exc ho ?_) | (refine wpAny_madeBy_exc ho ?_) | (simp only [bne_self_eq_false, Bool.false_eq_true, if_false]) | wp_step)
  exact fin
theorem ex_new (F : ExcBaseFacts B ni ii bmB) (T : Tail B bm) {us : List Value} {kw : List (Str × Value)} (ho : hp.get? C = some (excClassObj nm q C N bs bm hd sn sub ab col dd k0 k1 k2 k3 k5 ni)) (hl : us.length ≤ sizeLine)
    (fin : R (.ok (.ret (.ref (hp.objs.size + 1)))) ⟨(hp.push (W.kdv_tup us)).push (excO C hp.objs.size), gs, dr, tk, os⟩) :
    codeAny (model prog w) A (.builtin ni ⟨.ref C :: us, kw⟩) R ⟨hp, gs, dr, tk, os⟩ := by
  have ends := F.ends
  have yes : (Value.ref C :: bm).contains (.type B) = true := by rw [List.contains_cons, T.base, Bool.or_true]
  have noA : (Value.ref C :: bm).contains (.type "AttributeError") = false := by rw [List.contains_cons, T.nA]; rfl
  have noN : (Value.ref C :: bm).contains (.type "NameError") = false := by rw [List.contains_cons, T.nN]; rfl
  refine codeAny_builtinAt F.entry ?_
  unfold Builtin.«BaseException.__new__»
  refine PySem.wpAt_bind ?_
  show PySem.wpAt _ _ _ (stack >>= _) _ _ _
  refine PySem.wpAt_bind (PySem.wpAt_stack fun pp below => PySem.wpAt_of_wpAny ?_)
  wp_walk
  refine PySem.wpAt_of_wpAny ?_
  rw [F.owner]
  repeat (first | (with_reducible refine wpAny_madeHere_exc F.canon ho ?_) | (with_reducible refine wpAny_loadPart_at ho ?_) | (with_reducible refine wpAny_isSubtype_exc ho ?_; first | rw [yes] | rw [noA] | rw [noN]) | wp_step)
  show R _ _
  rw [Heap.size_push]
  exact fin
theorem ex_tcall (F : ExcBaseFacts B ni ii bmB) (T : Tail B bm) {us : List Value} {kw : List (Str × Value)} {vI : Value} {Q : PySem.Fin → Shared → Prop} (ho : hp.get? C = some (excClassObj nm q C N bs bm hd sn sub ab col dd k0 k1 k2 k3 k5 ni))
    (look : W.Looks (model prog w) hp (typeLookup (.ref C) "__init__") (some vI)) (own : ∀ e, W.Looks (model prog w) hp (bindSpecial vI e) (vI, [e])) (hl : us.length ≤ sizeLine)
    (ini : codeAny (model prog w) A (.call vI ⟨.ref (hp.objs.size + 1) :: us, kw⟩)
      (fun r s' => match r with | .ok (.ret v) => v = .none ∧ Q (.done (.ret (.ref (hp.objs.size + 1)))) s' | .ok _ => False | .error e => E e s') ⟨(hp.push (W.kdv_tup us)).push (excO C hp.objs.size), gs, dr, tk, os⟩) :
    wpAny (model prog w) A (Builtin.«type.__call__» ⟨.ref C :: us, kw⟩) Q E ⟨hp, gs, dr, tk, os⟩ := by
  repeat (first | (with_reducible refine wpAny_loadPart_at ho ?_) | (with_reducible refine wpAny_madeBy_exc ho ?_) | wp_step)
  refine codeAny_call_builtin_code (Code.quiet_builtin _ F.quiet) (ex_check F T ho ?_)
  refine ex_new F T ho hl ?_
  show wpAny _ _ _ _ _ _
  have kp : ∀ b o, hp.get? b = some o → ((hp.push (W.kdv_tup us)).push (excO C hp.objs.size)).get? b = some o := fun b o z => Heap.get?_push_of_some _ (Heap.get?_push_of_some _ z)
  have ho1 := kp _ _ ho
  have he : ((hp.push (W.kdv_tup us)).push (excO C hp.objs.size)).get? (hp.objs.size + 1) = some (excO C hp.objs.size) := by heap_get
  have self : (Value.ref C :: bm).contains (.ref C) = true := by simp
  have l1 := look.keeps kp
  have o1 := (own (.ref (hp.objs.size + 1))).keeps kp
  unfold isInstance
  repeat (first | (with_reducible refine wpAny_loadPart_at he ?_) | (with_reducible refine wpAny_isSubtype_exc ho1 ?_; rw [self]) | wp_step)
  show wpAny _ _ (typeLookup (.ref C) _) _ _ _
  refine l1.at ?_
  refine wpAny_holding (wpAny_bind (o1.at ?_))
  refine wpAny_bind (wpAny_call (codeAny_mono ini fun r s' z => ?_))
  rcases r with e | (v | _ | _ | _) <;> first | exact z | exact z.elim | skip
  obtain ⟨rfl, z⟩ := z
  first | exact wpAny_pure (wpAny_pure z) | (wp_walk; exact z)
theorem ex_tcheck {us : List Value} {kw : List (Str × Value)} {Q : Unit → Shared → Prop} (ho : hp.get? C = some (excClassObj nm q C N bs bm hd sn sub ab col dd k0 k1 k2 k3 k5 ni)) (fin : Q () ⟨hp, gs, dr, tk, os⟩) :
    wpAny M A (checkBuiltinCall "type.__call__" ⟨.ref C :: us, kw⟩) Q E ⟨hp, gs, dr, tk, os⟩ := by
  have a3 := tc_sub
  have ty : (⟨hp, gs, dr, tk, os⟩ : Shared).TypeIs (.ref C) "type" := ⟨_, ho, rfl⟩
  simp only [checkBuiltinCall, tc_kind, tc_split]
  repeat (any_goals (first | assumption | (with_reducible refine wpAny_loadPart_at ho ?_) | (with_reducible refine wpAny_onRaise ?_) | (with_reducible refine wpAny_map ?_) | wp_step))
theorem ex_call (F : ExcBaseFacts B ni ii bmB) (T : Tail B bm) {us : List Value} {kw : List (Str × Value)} {vI : Value} (ho : hp.get? C = some (excClassObj nm q C N bs bm hd sn sub ab col dd k0 k1 k2 k3 k5 ni))
    (look : W.Looks (model prog w) hp (typeLookup (.ref C) "__init__") (some vI)) (own : ∀ e, W.Looks (model prog w) hp (bindSpecial vI e) (vI, [e])) (hl : us.length ≤ sizeLine)
    (ini : codeAny (model prog w) (A.under (.builtin "type.__call__" ⟨.ref C :: us, kw⟩)) (.call vI ⟨.ref (hp.objs.size + 1) :: us, kw⟩) (W.InitBack (hp.objs.size + 1) R) ⟨(hp.push (W.kdv_tup us)).push (excO C hp.objs.size), gs, dr, tk, os⟩) :
    codeAny (model prog w) A (.call (.ref C) ⟨us, kw⟩) R ⟨hp, gs, dr, tk, os⟩ := by
  have a1 := tc_lookup
  have a2 := tc_bind (.ref C)
  have ty : (⟨hp, gs, dr, tk, os⟩ : Shared).TypeIs (.ref C) "type" := ⟨_, ho, rfl⟩
  refine codeAny_of_tree ?_
  show wpAny _ _ (callAny (.ref C) _) _ _ _
  repeat (any_goals (first | assumption | (with_reducible refine wpAny_loadPart_at ho ?_) | wp_step))
  refine ⟨rfl, ?_⟩
  refine codeAny_call_builtin_at (Code.quiet_builtin _ (by decide +kernel)) entry_typeCall ?_
  refine ex_tcheck ho ?_
  refine ex_tcall F T ho look own hl ?_
  refine codeAny_mono ini fun r s' z => ?_
  rcases r with e | (v | _ | _ | _) <;> exact z
end
end Ow

/-! exceptions of own classes as values: made by a call, their fields stored and read, isinstance -/
namespace Ow
open PySem PySem.Spec PyProof.Rows L2
/-- an own exception class, whatever its base -/
structure OexB (K : PySem.W.Frag) (C : Addr) : Prop where
  cls : ∃ B ni ii bmB nm q N bs bm sn sub ab col dd k0 k1 k2 k3 k5, ExcBaseFacts B ni ii bmB ∧ K.lookup C = some (excClassObj nm q C N bs bm true sn sub ab col dd k0 k1 k2 k3 k5 ni) ∧ Tail B bm ∧
    (∀ v, PySem.refuseLoop v "__setattr__" (.ref C :: bm) = pure ()) ∧ (Value.ref C :: bm).contains (.type "object") = true
  sa : PySem.W.findIn K (.ref C) "__setattr__" = some (some (.builtin "object.__setattr__"))
  kC : PySem.W.keepIn K (.ref C) = true
/-- its own __init__ -/
structure OIni (K : PySem.W.Frag) (C fI : Addr) : Prop where
  iC : PySem.W.findIn K (.ref C) "__init__" = some (some (.ref fI))
  tI : PySem.W.typeIn K (.ref fI) = some (.type "function")
def tEx (C : Addr) (sp : Sp) (E : XK) (t : TA) : TE := fun σ H Q => t σ H fun vs H1 => vs.length ≤ 1000 ∧ ∀ a, H1 a = none → sp (.ref a :: vs) (upd H1 a (exo a C none)) (fun v H2 => v = .non ∧ Q (.ref a) H2) E
def tExK (C : Addr) (m : Nat) (sp : Sp) (gV : List V → List V → List V) (E : XK) (tk : TA) : TE := fun σ H Q => tk σ H fun zs H1 => zs.length = m ∧ ∀ a, H1 a = none → sp (gV [.ref a] zs) (upd H1 a (exo a C none)) (fun v H2 => v = .non ∧ Q (.ref a) H2) E
section
variable {X : Cx} {CX : CXT} {k n : Nat} {fI C : Addr} {fd : FuncData} {ps ks : List Str} {sp : Sp} {E : XK} {x : Str} {p pos : Pos} {e : Expr} {es : List Expr} {kws : List Keyword} {t tk : TA} {g : List Value → List Value → List Value} {gV : List V → List V → List V}
theorem ex_laid {pins : List (Addr × Obj)} {σ : L2.St} {H : Hp} {s : Shared} {us : List Value} (I : Inv X pins σ H s) :
    Inv X pins σ (upd H (s.heap.objs.size + 1) (exo (s.heap.objs.size + 1) C none)) { s with heap := (s.heap.push (PySem.W.kdv_tup us)).push (PySem.HandSPX.excO C s.heap.objs.size) } := by
  obtain ⟨hp, gs, dr, tk, os⟩ := s
  have he : ((hp.push (PySem.W.kdv_tup us)).push (PySem.HandSPX.excO C hp.objs.size)).get? (hp.objs.size + 1) = some (PySem.HandSPX.excO C hp.objs.size) := by heap_get
  exact I.laid (t' := tk) (a := hp.objs.size + 1) (o := exo (hp.objs.size + 1) C none) (fun b o e => Heap.get?_push_of_some _ (Heap.get?_push_of_some _ e)) (Nat.le_succ _) (exo_ok he)
theorem run_ex {pins : List (Addr × Obj)} {σ : L2.St} {H : Hp} {s : Shared} {Q : VK} {us : List Value} {vs : List V} (T : OexB X.K C) (O : OIni X.K C fI) (F : FnOk X.prog X.w X.K X.mg X.base CX k fI fd ps sp) (hr : Room (k + 1) X.A) (hb : Binds X.K fd ps [])
    (hx : Passes CX X E) (I : Inv X pins σ H s) (r : Vals vs us) (hl : vs.length ≤ 1000)
    (h : ∀ a, H a = none → sp (.ref a :: vs) (upd H a (exo a C none)) (fun v H2 => v = .non ∧ Q (.ref a) H2) E) :
    wpAny (model X.prog X.w) X.A (call (.ref C) us) (EP X pins σ Q) X.xe s := by
  obtain ⟨B, ni, ii, bmB, nm, q, N, bs, bm, sn, sub, ab, col, dd, k0, k1, k2, k3, k5, FB, hC, hT, _, _⟩ := T.cls
  have hq := h (s.heap.objs.size + 1) (I.hok.fresh (Nat.le_succ _))
  have I2 := ex_laid (C := C) (us := us) I
  have r1 : Vals (V.ref (s.heap.objs.size + 1) :: vs) (Value.ref (s.heap.objs.size + 1) :: us) := .cons rfl r
  have e1 : (Value.ref (s.heap.objs.size + 1) :: us).length = ps.length := by
    have z := r1.length
    rw [F.len _ _ _ _ hq] at z
    exact z.symm
  have e2 : us.length ≤ sizeLine := by
    rw [← r.length, sizeLine_eq]
    omega
  obtain ⟨hp, gs, dr, tk, os⟩ := s
  have r2 : Vals (V.ref (hp.objs.size + 1) :: vs) ((Value.ref (hp.objs.size + 1) :: us) ++ []) := by rw [List.append_nil]; exact r1
  have bt := hb _ (Value.ref (hp.objs.size + 1) :: us) I2.kIn (by rw [List.append_nil]; exact e1)
  refine wpAny_call (ex_call FB hT (I.kIn _ _ hC) (PySem.W.looks_findIn I.kIn O.iC) (fun self => PySem.W.bind_fn I.kIn self O.tI) e2
    (codeAny_mono (F.run _ X.stack _ _ ⟨Value.ref (hp.objs.size + 1) :: us, []⟩ ((Value.ref (hp.objs.size + 1) :: us) ++ []) _ _ E (hr.make C us []) (I2.env0.make C us []) bt r2 hq) fun r s' hq' => ?_))
  cases r with
  | error e => exact hx pins σ _ _ e s' I2 hq'
  | ok fl =>
    cases fl with
    | ret u =>
      obtain ⟨v, H', I3, rv, ev, q3⟩ := I2.after hq'
      subst ev
      exact ⟨rv, ⟨V.ref (hp.objs.size + 1), H', I3, rfl, q3⟩⟩
    | next => exact False.elim hq'
    | brk => exact False.elim hq'
    | cont => exact False.elim hq'
theorem run_exK {pins : List (Addr × Obj)} {σ : L2.St} {H : Hp} {s : Shared} {Q : VK} {ws : List Value} {zs : List V} (T : OexB X.K C) (O : OIni X.K C fI) (F : FnOk X.prog X.w X.K X.mg X.base CX k fI fd ps sp) (hr : Room (k + 1) X.A) (hb : KBn X.K fd ps 1 ks g gV)
    (hx : Passes CX X E) (I : Inv X pins σ H s) (r : Vals zs ws) (hl : zs.length = ks.length)
    (h : ∀ a, H a = none → sp (gV [.ref a] zs) (upd H a (exo a C none)) (fun v H2 => v = .non ∧ Q (.ref a) H2) E) :
    wpAny (model X.prog X.w) X.A (call (.ref C) [] (ks.zip ws)) (EP X pins σ Q) X.xe s := by
  obtain ⟨B, ni, ii, bmB, nm, q, N, bs, bm, sn, sub, ab, col, dd, k0, k1, k2, k3, k5, FB, hC, hT, _, _⟩ := T.cls
  have hq := h (s.heap.objs.size + 1) (I.hok.fresh (Nat.le_succ _))
  have I2 := ex_laid (C := C) (us := []) I
  have r1 : Vals [V.ref (s.heap.objs.size + 1)] [Value.ref (s.heap.objs.size + 1)] := .cons rfl .nil
  have r2 := hb.rel r1 r
  have e2 : ws.length = ks.length := r.length.symm.trans hl
  obtain ⟨hp, gs, dr, tk, os⟩ := s
  refine wpAny_call (ex_call FB hT (I.kIn _ _ hC) (PySem.W.looks_findIn I.kIn O.iC) (fun self => PySem.W.bind_fn I.kIn self O.tI) (Nat.zero_le _)
    (codeAny_mono (F.run _ X.stack _ _ ⟨[Value.ref (hp.objs.size + 1)], ks.zip ws⟩ (g [Value.ref (hp.objs.size + 1)] ws) _ _ E (hr.make C [] (ks.zip ws)) (I2.env0.make C [] (ks.zip ws)) (hb.to _ [Value.ref (hp.objs.size + 1)] ws I2.kIn rfl e2) r2 hq) fun r s' hq' => ?_))
  cases r with
  | error e => exact hx pins σ _ _ e s' I2 hq'
  | ok fl =>
    cases fl with
    | ret u =>
      obtain ⟨v, H', I3, rv, ev, q3⟩ := I2.after hq'
      subst ev
      exact ⟨rv, ⟨V.ref (hp.objs.size + 1), H', I3, rfl, q3⟩⟩
    | next => exact False.elim hq'
    | brk => exact False.elim hq'
    | cont => exact False.elim hq'
/-- C(e, ..) -/
theorem pe_ex (T : OexB X.K C) (O : OIni X.K C fI) (F : FnOk X.prog X.w X.K X.mg X.base CX k fI fd ps sp) (hr : Room (k + 1) X.A) (hg : Gl X x) (hm : X.mg x = some (.ref C)) (hb : Binds X.K fd ps []) (hx : Passes CX X E) (ha : PA X (e :: es) t)
    (hdb : (x == ("__debug__" : Str)) = false := by decide) (he : starEach (e :: es) X.env = (false, eval e X.env) :: starEach es X.env := by rfl) (hpl : (backTo pos (starEach es X.env)).any (·.1) = false := by rfl) :
    PE X (.Call (.Name x p) (e :: es) [] pos) (tEx C sp E t) := by
  refine ⟨fun pins s σ H Q I h => ?_⟩
  refine wpAny_Call_Name_kw (ld_glob I hg hm ?_ hdb)
  refine PySem.W.callWith_K (h₀ := X.base) I.ok.mod.kin T.kC (thn (ha.run pos pins s σ H _ I h) fun us s1 ⟨vs, H1, I1, r, hl, q⟩ => ⟨I1.kIn, ?_⟩) he hpl
  exact run_ex T O F hr hb hx I1 r hl q
/-- C(k = e, ..) -/
theorem pe_exK (T : OexB X.K C) (O : OIni X.K C fI) (F : FnOk X.prog X.w X.K X.mg X.base CX k fI fd ps sp) (hr : Room (k + 1) X.A) (hg : Gl X x) (hm : X.mg x = some (.ref C)) (hb : KBn X.K fd ps 1 ks g gV) (hx : Passes CX X E) (hkw : PK X kws tk)
    (hall : (backToKw pos (keywordEach kws X.env)).all (·.1.isSome) = true := by rfl) (hks : (backToKw pos (keywordEach kws X.env)).filterMap (·.1) = ks := by rfl) (hdb : (x == ("__debug__" : Str)) = false := by decide)
    (hpl : ((backTo pos (starEach [] X.env)).any (·.1) || (backToKw pos (keywordEach kws X.env)).any (·.1.isNone)) = false := by rfl) : PE X (.Call (.Name x p) [] kws pos) (tExK C ks.length sp gV E tk) := by
  refine ⟨fun pins s σ H Q I h => ?_⟩
  refine wpAny_Call_Name_kw (ld_glob I hg hm ?_ hdb)
  refine PySem.W.callWith_KW0 (h₀ := X.base) (first := []) I.ok.mod.kin T.kC hall ?_ hpl
  refine thn (hkw.run pos pins s σ H _ I h) fun ws s2 ⟨zs, H2, I2, rz, l2, q2⟩ => ⟨I2.kIn, ?_⟩
  rw [hks]
  exact run_exK T O F hr hb hx I2 rz l2 q2
end
end Ow

namespace Ow
open PySem PySem.W PySem.Calls PyProof.Rows PySem.HandSPX Builtin Builtin.ObjectAttr
section
variable {prog : Program} {w : World} {A : Around} {R : Result → Shared → Prop} {hp : Heap} {gs : Array GenState} {dr : Drawn} {tk : Nat} {os : OsState}
/-- the first field of an exception of any own class -/
theorem osa_first {K : W.Frag} {nm : Str} {tk0 : Tok} {y : Value} {a C : Addr} {fs : Array Value} {cd : ClassData} (X : K.In hp) (hx : hp.get? a = some { cls := .ref C, data := .fields fs }) (hcd : W.clsIn K C = some cd)
    (pass : ∀ v, PySem.refuseLoop v "__setattr__" cd.mro = pure ()) (hob : cd.mro.contains (.type "object") = true) (hh : cd.hasDict = true) (free : W.findIn K (.ref C) nm = some none)
    (fin : ∀ h' t' dx, (∀ b o, b ≠ a → hp.get? b = some o → h'.get? b = some o) → hp.objs.size ≤ dx → dx ≠ a → h'.get? a = some { cls := .ref C, dict := some dx, data := .fields fs } → h'.Ns1 dx (fun z => if z = nm then some y else none) → R (.ok (.ret .none)) ⟨h', gs, dr, t', os⟩) :
    codeAny (model prog w) A (.call (.builtin "object.__setattr__") ⟨[.ref a, .str nm tk0, y], []⟩) R ⟨hp, gs, dr, tk, os⟩ := by
  have J : W.InstAt hp a { cls := .ref C, data := .fields fs } C none := ⟨hx, rfl, rfl, trivial⟩
  have so := F.store_object
  have ne : cd.mro.isEmpty = false := by
    cases e : cd.mro with
    | nil => rw [e] at hob; cases hob
    | cons _ _ => rfl
  have apart : a ≠ hp.objs.size := Nat.ne_of_lt (Heap.lt_size hx)
  have isO : W.Looks (model prog w) hp (isInstance (.ref a) (.type "object")) true := J.type.andThen (W.looks_mroIn X (by unfold W.mroIn; rw [hcd, Option.bind_some, if_neg (by rw [ne]; decide), hob]))
  refine codeAny_call_builtin so.slot.plain so.entry (@W.check_slot (model prog w) _ _ ⟨hp, gs, dr, tk, os⟩ "object.__setattr__" "object" "__setattr__" (.ref a) [.str nm tk0, y] [] _ so.kind so.split isO (so.args (.ref a) (.str nm tk0) y) ?_)
  have m1 : W.Looks (model prog w) hp (mroOf (.ref C)) cd.mro := (W.looks_clsIn X hcd).andThen .now
  have m2 : W.Looks (model prog w) hp (storeTaker? none) none := .now
  have m3 : W.Looks (model prog w) hp (classData C) cd := W.looks_clsIn X hcd
  rw [W.osa_eq, refuse_eq]
  refine wpAny_bind (wpAny_bind (J.type.at (wpAny_bind (m1.at ?_))))
  rw [pass]
  refine wpAny_pure (wpAny_bind (J.type.at (wpAny_bind ((W.looks_findIn X free).at (wpAny_bind (m2.at ?_))))))
  show wpAny _ _ (storeInOwnDict (.ref a) (.ref C) (.str nm tk0) nm y false) _ _ _
  obtain ⟨cn, bs, mro, ns, qn, hd, sn, sb, ab, col, del⟩ := cd
  dsimp only at hh
  subst hh
  unfold storeInOwnDict ownDictForStores
  repeat (first | (with_reducible refine store_in_new ?_ ?_) | (with_reducible refine wpAny_loadPart_at hx ?_) | (with_reducible refine m3.at ?_) | wp_step)
  · exact ⟨_, #[], _, (Heap.get?_update_ne _ _ _ _ apart.symm).trans (Heap.get?_push_at rfl rfl), rfl, fun z hz => absurd hz (by simp), fun _ => rfl⟩
  · intro h' t' dn ds
    have ha1 : (hp.push { cls := .type "dict", data := .dict #[] }).get? a = some { cls := .ref C, data := .fields fs } := Heap.get?_push_of_some _ hx
    refine fin h' t' hp.objs.size (fun b o nb z => ?_) (Nat.le_refl _) apart.symm ?_ dn
    · exact (ds.2 b (Nat.ne_of_lt (Heap.lt_size z))).trans ((Heap.get?_update_ne _ _ _ _ nb).trans (Heap.get?_push_of_some _ z))
    · exact (ds.2 a apart).trans (Heap.get?_update_self _ ha1 rfl)
end
end Ow
namespace Ow
open PySem PySem.Spec PyProof.Rows L2
theorem OexC.b {K : PySem.W.Frag} {C : Addr} (T : OexC K C) : OexB K C := by
  obtain ⟨nm, q, N, bs, bm, sn, sub, ab, col, dd, k0, k1, k2, k3, k5, hC, hbm⟩ := T.cls
  have cont : ∀ Y : String, bm.contains (.type Y) = PySem.HandSPX.veTail.contains (.type Y) := fun Y => PySem.HandSPX.refsVE_contains Y bm hbm
  refine ⟨⟨_, _, _, _, nm, q, N, bs, bm, sn, sub, ab, col, dd, k0, k1, k2, k3, k5, F.excBase_ValueError, hC, ⟨(cont _).trans (by decide +kernel), (cont _).trans (by decide +kernel), (cont _).trans (by decide +kernel)⟩, fun v => ?_, ?_⟩, T.sa, T.kC⟩
  · exact PySem.HandSPX.refsVE_pass v _ (show PySem.HandSPX.refsVE (.ref C :: bm) = true from hbm)
  · rw [List.contains_cons, cont, show PySem.HandSPX.veTail.contains (.type "object") = true from by decide +kernel, Bool.or_true]
/-- over KeyError -/
abbrev keTail : List Value := [.type "KeyError", .type "LookupError", .type "Exception", .type "BaseException", .type "object"]
theorem ke_pass (v : Value) : PySem.refuseLoop v "__setattr__" keTail = pure () := by kernel_rfl
theorem OexB.key {K : PySem.W.Frag} {C : Addr} {nm q N bs sn sub ab col dd k0 k1 k2 k3 k5} (hC : K.lookup C = some (excClassObj nm q C N bs keTail true sn sub ab col dd k0 k1 k2 k3 k5 "LookupError.__new__"))
    (sa : PySem.W.findIn K (.ref C) "__setattr__" = some (some (.builtin "object.__setattr__"))) (kC : PySem.W.keepIn K (.ref C) = true) : OexB K C := by
  refine ⟨⟨_, _, _, _, nm, q, N, bs, keTail, sn, sub, ab, col, dd, k0, k1, k2, k3, k5, F.excBase_LookupError, hC, ⟨by decide +kernel, by decide +kernel, by decide +kernel⟩, fun v => ?_, ?_⟩, sa, kC⟩
  · rw [PySem.refuseLoop_ref]
    exact ke_pass v
  · rw [List.contains_cons, show keTail.contains (.type "object") = true from by decide +kernel, Bool.or_true]
section
variable {X : Cx} {CX : CXT} {pins : List (Addr × Obj)} {σ : L2.St} {H : Hp} {s : Shared} {a C : Addr} {f : Str} {y : V} {u : Value} {Q : Unit → Shared → Prop} {E : Value → Shared → Prop} {A : Around}
theorem exs_first (T : OexB X.K C) (I : Inv X pins σ H s) (e : H a = some (exo a C none)) (free : PySem.W.findIn X.K (.ref C) f = some none) (ry : RelV y u)
    (fin : ∀ dx s', H dx = none → dx ≠ a → Inv X pins σ (upd (upd H dx (exd dx [(f, y)])) a (exo a C (some dx))) s' → Q () s') : wpAny (model X.prog X.w) A (setAttr (.ref a) f u) Q E s := by
  obtain ⟨B, ni, ii, bmB, nm, q, N, bs, bm, sn, sub, ab, col, dd, k0, k1, k2, k3, k5, FB, hC, hT, pass, hob⟩ := T.cls
  have hcl : PySem.W.clsIn X.K C = some { name := nm, bases := bs, mro := .ref C :: bm, ns := N, qualname := q, hasDict := true, slotNames := sn, subclasses := sub, abstract := ab, collection := col, hasDel := false } := by unfold PySem.W.clsIn; rw [hC] <;> rfl
  obtain ⟨t1, ho⟩ := exo_at I.hok e
  obtain ⟨hp, gs, dr, tk, os⟩ := s
  refine PySem.W.set_plain I.kIn (ox := { cls := .ref C, dict := none, data := .fields #[.ref t1, .none, .none, .none, .bool false, .none] }) (od := none) ⟨ho, rfl, rfl, trivial⟩ T.sa ?_
  refine osa_first I.kIn ho hcl pass hob rfl free (fun h' t' dx kp le ne ha hns => ?_)
  have hnd : H dx = none := I.hok.fresh le
  have n1 : ∀ {b : Addr} {o : Obj}, hp.get? b = some o → b ≠ dx := fun {b o} z => Nat.ne_of_lt (Nat.lt_of_lt_of_le (Heap.lt_size z) le)
  have n2 : ∀ {b : Addr}, H b = none → b ≠ a := fun {b} z1 z2 => by
    rw [z2, e] at z1
    cases z1
  have U : Un X.fs [] H (upd (upd H dx (exd dx [(f, y)])) a (exo a C (some dx))) hp h' := {
    keep := fun b o z m _ _ => kp b o (n2 m) z
    slot := fun b o z m _ _ => ⟨o.slots, kp b o (n2 m) z⟩
    free := fun b o z m _ => by
      rw [upd_ne (n2 m), upd_ne (n1 z)]
      exact m
    there := fun b o z _ => by
      by_cases hb : b = a
      · exact ⟨_, by rw [hb]; exact ha⟩
      · exact ⟨o, kp b o hb z⟩
    tups := fun b xs z => by
      rw [upd_ne (at_ne e z exo_tup), upd_ne (ne_of_none z hnd)]
      exact z
    frzs := fun b o v z => by
      rw [upd_ne (at_ne e z exo_frz), upd_ne (ne_of_none z hnd)]
      exact z
    tbls := fun b ps z => ⟨#[], by rw [upd_ne (at_ne e z exo_tbl), upd_ne (ne_of_none z hnd), z]; simp⟩ }
  refine fin dx _ hnd ne (I.un (t' := t') U fun b o z => ?_)
  by_cases hb : b = a
  · subst hb
    rw [upd_same] at z
    cases z
    exact exo_ok ha
  · rw [upd_ne hb] at z
    by_cases hd : b = dx
    · subst hd
      rw [upd_same] at z
      cases z
      exact exd_ok hns (relO_put (fs := []) ry fun g => True.intro)
    · rw [upd_ne hd] at z
      exact (I.hok b o z).stay (fun c v hc l => kp c v (by
          rcases hc with hc | hc
          · rw [hc]
            exact hb
          · exact at_ne e hc exo_own) l)
        (fun c hc => by rw [upd_ne (at_ne e hc exo_own), upd_ne (ne_of_none hc hnd)]; exact hc) (fun c xs hc => by rw [upd_ne (at_ne e hc exo_tup), upd_ne (ne_of_none hc hnd)]; exact hc)
/-- self.f = e, the first field, any base -/
def tExn (K : PySem.W.Frag) (f : Str) (to te : TE) : TS := fun D σ H => te σ H fun y H1 => to σ H1 fun x H2 => ∃ a C : Addr, x = .ref a ∧ OexB K C ∧ PySem.W.findIn K (.ref C) f = some none ∧ H2 a = some (exo a C none) ∧
  ∀ dx, H2 dx = none → dx ≠ a → D.nx σ (upd (upd H2 dx (exd dx [(f, y)])) a (exo a C (some dx)))
theorem ps_exn {o e : Expr} {to te : TE} {p' pos : Pos} (ho : PE X o to) (he : PE X e te) (hs : swapsWith e (some (.Attribute o f p')) pos.line X.env = pure false := by rfl) : PS X (.Assign [.Attribute o f p'] e pos) (tExn X.K f to te) := by
  refine ⟨fun pins s σ H D I h => ?_⟩
  refine plainObj_wpAny_Assign_Attribute (thn (he.run pins s σ H _ I h) fun v s1 ⟨y, H1, I1, r1, q1⟩ => thn (ho.run pins s1 σ H1 _ I1 q1) fun u s2 ⟨x, H2, I2, r2, a, C, ex, T, hno, ea, q⟩ => ?_) hs
  subst ex
  obtain rfl : u = Value.ref a := r2
  exact exs_first T I2 ea hno r1 fun dx s' n ne J => ⟨σ, _, J, q dx n ne⟩
/-- e.f, e an exception -/
def tXv (K : PySem.W.Frag) (f : Str) (te : TE) : TE := fun σ H Q => te σ H fun x H1 => ∃ (a C d : Addr) (fs : List (Str × V)) (v : V), x = .ref a ∧ XfC K C ∧ PySem.W.findIn K (.ref C) f = some none ∧ H1 a = some (exo a C (some d)) ∧ H1 d = some (exd d fs) ∧ fs.lookup f = some v ∧ Q v H1
theorem pe_xv {e : Expr} {te : TE} {pos : Pos} (he : PE X e te) (hb : attributeBase e f X.env (eval e X.env) = eval e X.env := by rfl) : PE X (.Attribute e f pos) (tXv X.K f te) := by
  refine ⟨fun pins s σ H Q I h => ?_⟩
  refine attr_of hb (thn (he.run pins s σ H _ I h) fun u s1 hh => ?_)
  obtain ⟨x, H1, I1, rx, a, C, d, fs, v, ex, T, hno, ea, ed, l, q⟩ := hh
  subst ex
  obtain rfl : u = Value.ref a := rx
  obtain ⟨t1, ha⟩ := exo_at I1.hok ea
  obtain ⟨mA, hns, hr⟩ := exd_at I1.hok ed
  obtain ⟨od, hod, hl⟩ := lookIn_ns hns
  obtain ⟨u, hu, ru⟩ := RelO.some_of (v := v) (o := mA f) (by rw [← l]; exact hr f)
  have J : PySem.W.InstAt s1.heap a _ C (some od) := ⟨ha, rfl, rfl, hod⟩
  exact HandSPX.exc_get I1.kIn J T.ga T.gg T.exC (PySem.W.findObj_own T.hdC hno rfl (by rw [hl, hu])) (handed_of ru) ⟨v, H1, I1.tok _, ru, q⟩
/-- isinstance(e, c), e an exception -/
def rIsX (K : PySem.W.Frag) : List V → Hp → VK → Prop := fun xs H Q => ∃ (a C : Addr) (c : V) (cv : Value) (b : Bool), xs = [.ref a, c] ∧ ExcC K C ∧ (H a = some (exo a C none) ∨ ∃ d fs, H a = some (exo a C (some d)) ∧ H d = some (exd d fs)) ∧
  (∀ u, RelV c u → u = cv) ∧ PySem.W.kitOne K (.ref C) cv = some b ∧ Q (.bl b) H
theorem call_isX : CallR X (.builtin "isinstance") (rIsX X.K) := by
  intro pins s σ H xs us Q I r h
  obtain ⟨a, C, c, cv, b, rfl, T, hz, hcv, e, q⟩ := h
  cases r with
  | cons rx rr =>
    cases rr with
    | cons rt rr =>
      cases rr
      cases rx
      have ec := hcv _ rt
      subst ec
      have isC : (PySem.W.clsIn X.K C).isSome = true := by
        obtain ⟨cd, hc, _⟩ := PySem.W.any_some T.hd
        rw [hc]
        rfl
      have J : ∃ ox od, PySem.W.InstAt s.heap a ox C od := by
        rcases hz with ea | ⟨d, fs, ea, ed⟩
        · obtain ⟨t1, ha⟩ := exo_at I.hok ea
          exact ⟨_, none, ha, rfl, rfl, trivial⟩
        · obtain ⟨t1, ha⟩ := exo_at I.hok ea
          obtain ⟨mA, hns, _⟩ := exd_at I.hok ed
          obtain ⟨od, hod, _⟩ := lookIn_ns hns
          exact ⟨_, some od, ha, rfl, rfl, hod⟩
      obtain ⟨ox, od, J⟩ := J
      exact PySem.W.kia_one (PySem.W.kitx_exc isC T.hg T.hk T.hs T.ha T.hn T.ht T.hm) I.kIn J e (fun z => nomatch z) fun tk => ⟨.bl b, H, I.kept (t' := tk) fun _ _ z => z, rfl, q⟩
/-- C(), no __init__ of its own -/
def tEx0 (C : Addr) : TE := fun σ H Q => ∀ a, H a = none → Q (.ref a) (upd H a (exo a C none))
theorem pe_ex0 {x : Str} {p pos : Pos} (T : OexC X.K C) (iV : PySem.W.findIn X.K (.ref C) "__init__" = some (some (.builtin "ValueError.__init__"))) (hg : Gl X x) (hm : X.mg x = some (.ref C)) (hdb : (x == ("__debug__" : Str)) = false := by decide) :
    PE X (.Call (.Name x p) [] [] pos) (tEx0 C) := by
  refine ⟨fun pins s σ H Q I h => ?_⟩
  refine wpAny_Call_Name_kw (ld_glob I hg hm ?_ hdb)
  refine PySem.W.callWith_K0 (first := []) I.kIn T.kC ?_
  obtain ⟨nm, q, N, bs, bm, sn, sub, ab, col, dd, k0, k1, k2, k3, k5, hC, hbm⟩ := T.cls
  have cont : ∀ Y : String, bm.contains (.type Y) = PySem.HandSPX.veTail.contains (.type Y) := fun Y => PySem.HandSPX.refsVE_contains Y bm hbm
  have hT : Tail "ValueError" bm := ⟨(cont _).trans (by decide +kernel), (cont _).trans (by decide +kernel), (cont _).trans (by decide +kernel)⟩
  have I2 := ex_laid (C := C) (us := []) I
  have q1 := h (s.heap.objs.size + 1) (I.hok.fresh (Nat.le_succ _))
  obtain ⟨hp, gs, dr, tk, os⟩ := s
  have kp : ∀ b o, hp.get? b = some o → ((hp.push (PySem.W.kdv_tup [])).push (PySem.HandSPX.excO C hp.objs.size)).get? b = some o := fun b o z => Heap.get?_push_of_some _ (Heap.get?_push_of_some _ z)
  have he : ((hp.push (PySem.W.kdv_tup [])).push (PySem.HandSPX.excO C hp.objs.size)).get? (hp.objs.size + 1) = some (PySem.HandSPX.excO C hp.objs.size) := by heap_get
  have at_ : upd H (hp.objs.size + 1) (exo (hp.objs.size + 1) C none) (hp.objs.size + 1) = some (exo (hp.objs.size + 1) C none) := upd_same
  refine wpAny_call (ex_call F.excBase_ValueError hT (I.kIn _ _ hC) (PySem.W.looks_findIn I.kIn iV) (fun self => .of_pure (F.excBase_ValueError.init.bind self)) (Nat.zero_le _) ?_)
  refine PySem.HandSPX.init_base F.excBase_ValueError cont (kp _ _ (I.kIn _ _ hC)) he (Nat.zero_le _) fun h' t1 keep hx => ⟨rfl, ?_⟩
  have J := I2.write (t' := tk) (x := hp.objs.size + 1) (e := hp.objs.size + 1) (o := exo (hp.objs.size + 1) C none) (by rw [at_]; exact True.intro) (.inl rfl) keep ⟨_, hx⟩ (exo_ok hx)
  have same : upd (upd H (hp.objs.size + 1) (exo (hp.objs.size + 1) C none)) (hp.objs.size + 1) (exo (hp.objs.size + 1) C none) = upd H (hp.objs.size + 1) (exo (hp.objs.size + 1) C none) := by
    funext b
    by_cases hb : b = hp.objs.size + 1
    · rw [hb, upd_same, upd_same]
    · rw [upd_ne hb]
  rw [same] at J
  exact ⟨.ref (hp.objs.size + 1), _, J, rfl, q1⟩
end
end Ow

/-! the names that the laws draw: texts as lists of code points; str * int -/
namespace Tg
open PySem L2
section
variable {X : Cx}
/-- a text times an int -/
theorem op_mulStr : OpR X (binaryOp .Mult) (fun x y H Q => ∃ (z : Str) (k : Int), x = .str z ∧ y = .int k ∧ MulOk z k ∧ Q (.str (Txt.mul z k)) H) := by
  intro pins s σ H x y v u Q I rx ry h
  obtain ⟨z, k, rfl, rfl, hk, q⟩ := h
  obtain ⟨t, rfl⟩ := rx
  obtain ⟨t', rfl⟩ := ry
  exact SB.mul hk fun t2 n => ⟨.str (Txt.mul z k), H, I.kept (t' := n) fun _ _ z => z, ⟨_, rfl⟩, q⟩
end
/-- a text by its code points -/
def sL (l : List Nat) : Str := ⟨l.toArray⟩
theorem sL_add (a b : List Nat) : sL a ++ sL b = sL (a ++ b) := by
  show Str.mk _ = _
  unfold sL
  congr 1
  exact List.append_toArray a b
theorem sL_len (a : List Nat) : (sL a).length = a.length := List.size_toArray
theorem sL_inj {a b : List Nat} (h : sL a = sL b) : a = b := by
  have := congrArg (fun s : Str => s.cps.toList) h
  simpa [sL] using this
theorem sL_cut (a : List Nat) (lo hi : Option Int) : cutS (sL a) lo hi = sL ((a.drop (HT.sIx a.length 0 lo)).take (HT.sIx a.length a.length hi - HT.sIx a.length 0 lo)) := by
  unfold cutS
  rw [sL_len]
  rfl
theorem sL_lo (a : List Nat) (k : Nat) (h : k ≤ a.length) : cutS (sL a) none (some (k : Int)) = sL (a.take k) := by
  rw [sL_cut, HT.sIx_nat, HT.sIx_none, List.drop_zero, Nat.sub_zero, Nat.min_eq_left h]
theorem sL_hi (a : List Nat) (k : Nat) (h : k ≤ a.length) : cutS (sL a) (some (k : Int)) none = sL (a.drop k) := by
  rw [sL_cut, HT.sIx_nat, HT.sIx_none, Nat.min_eq_left h, List.take_of_length_le (by rw [List.length_drop]; omega)]
theorem mul0 (a : List Nat) : Txt.mul (sL a) 0 = sL [] := rfl
theorem mul1 (a : List Nat) : Txt.mul (sL a) 1 = sL a := rfl
abbrev lettersT : Str := "abcdefghijklmnopqrstuvwxyz"
theorem letters_eq : lettersT = sL ((List.range 26).map (97 + ·)) := by decide +kernel
theorem letter_at (k : Nat) (h : k < 26) : atI lettersT.cps.toList (k : Int) = some (97 + k) := by
  rw [letters_eq]
  refine atI_nat ?_
  show ((List.range 26).map (97 + ·)).toArray.toList[k]? = some (97 + k)
  simp [h]
/-! ### names -/
def isNm (l : List Nat) : Bool := decide (1 ≤ l.length) && decide (l.length ≤ 6) && l.all fun c => decide (97 ≤ c) && decide (c ≤ 122)
structure Nms (ns : List (List Nat)) (m : Nat) : Prop where
  len : ns.length = m
  nd : ns.Nodup
  ok : ∀ n ∈ ns, isNm n = true
theorem Nms.perm {ns ms : List (List Nat)} {m : Nat} (h : Nms ns m) (p : List.Perm ms ns) : Nms ms m := ⟨p.length_eq.trans h.len, p.nodup_iff.mpr h.nd, fun n hn => h.ok n (p.mem_iff.mp hn)⟩
theorem nms_take {ns : List (List Nat)} {m : Nat} (nd : ns.Nodup) (ok : ∀ n ∈ ns, isNm n = true) (h : m ≤ ns.length) : Nms (ns.take m) m :=
  ⟨by rw [List.length_take]; omega, nd.sublist (List.take_sublist m ns), fun n hn => ok n (List.mem_of_mem_take hn)⟩
theorem nodup_map {f : Nat → List Nat} {m : Nat} (h : ∀ i j, i < m → j < m → f i = f j → i = j) : ((List.range m).map f).Nodup := by
  refine List.pairwise_map.mpr ?_
  refine List.Pairwise.imp_of_mem (R := fun i j => i ≠ j) (fun {i j} hi hj ne e => ?_) (List.nodup_range)
  exact ne (h i j (List.mem_range.mp hi) (List.mem_range.mp hj) e)
/-- stem[:at] + letter + stem[at:] -/
def ltr (first k : Nat) : List Nat := (97 + (first + 7 * k) % 26) :: (if 25 < k then [97 + k / 26] else [])
def fnd (stem : List Nat) (at_ first k : Nat) : List Nat := (stem.take at_ ++ ltr first k) ++ stem.drop at_
theorem ltr_len (first k : Nat) : (ltr first k).length = if 25 < k then 2 else 1 := by
  unfold ltr
  split <;> rfl
theorem fnd_inj {stem : List Nat} {at_ first i j : Nat} (hi : i < 40) (hj : j < 40) (h : fnd stem at_ first i = fnd stem at_ first j) : i = j := by
  unfold fnd at h
  have hl := congrArg List.length h
  simp only [List.length_append, ltr_len] at hl
  have same : (25 < i) ↔ (25 < j) := by
    by_cases a : 25 < i <;> by_cases b : 25 < j <;> simp [a, b] at hl ⊢ <;> omega
  rw [List.append_assoc, List.append_assoc] at h
  have h2 := List.append_cancel_left h
  have hd := congrArg List.head? h2
  simp only [ltr, List.cons_append, List.head?_cons, Option.some.injEq] at hd
  by_cases a : 25 < i
  · have b := same.mp a
    omega
  · have b : ¬ 25 < j := fun z => a (same.mpr z)
    omega
theorem all_app (p : Nat → Bool) (a b : List Nat) : (a ++ b).all p = (a.all p && b.all p) := List.all_append
theorem fnd_ok {stem : List Nat} {at_ first k : Nat} (hs : stem.length ≤ 4) (ha : stem.all (fun c => decide (97 ≤ c) && decide (c ≤ 122)) = true) (hk : k < 40) : isNm (fnd stem at_ first k) = true := by
  have e : (fnd stem at_ first k).length = stem.length + (ltr first k).length := by
    unfold fnd
    have := List.length_append (as := stem.take at_) (bs := stem.drop at_)
    rw [List.take_append_drop] at this
    rw [List.length_append, List.length_append]
    omega
  have e2 := ltr_len first k
  have all1 : (fnd stem at_ first k).all (fun c => decide (97 ≤ c) && decide (c ≤ 122)) = true := by
    have split : (stem.take at_ ++ stem.drop at_).all (fun c => decide (97 ≤ c) && decide (c ≤ 122)) = true := by rw [List.take_append_drop]; exact ha
    rw [all_app] at split
    obtain ⟨s1, s2⟩ := Bool.and_eq_true_iff.mp split
    unfold fnd
    rw [all_app, all_app, s1, s2]
    have z : (first + 7 * k) % 26 < 26 := Nat.mod_lt _ (by decide)
    have z2 : k / 26 ≤ 1 := by omega
    unfold ltr
    split <;> simp <;> omega
  unfold isNm
  rw [all1]
  have l1 : 1 ≤ (fnd stem at_ first k).length := by split at e2 <;> omega
  have l2 : (fnd stem at_ first k).length ≤ 6 := by split at e2 <;> omega
  simp [l1, l2]
theorem fnd_nms {stem : List Nat} {at_ first m : Nat} (hs : stem.length ≤ 4) (ha : stem.all (fun c => decide (97 ≤ c) && decide (c ≤ 122)) = true) (hm : m ≤ 40) : Nms ((List.range m).map (fnd stem at_ first)) m :=
  ⟨by simp, nodup_map fun i j hi hj e => fnd_inj (by omega) (by omega) e, fun n hn => by
    obtain ⟨k, hk, rfl⟩ := List.mem_map.mp hn
    exact fnd_ok hs ha (by have := List.mem_range.mp hk; omega)⟩
/-- 'a', 'b', 'aa', 'ab', .. -/
def pairsL : Nat → List (List Nat)
  | 0 => [[97], [98]]
  | k + 1 => pairsL k ++ [(pairsL k).getD k [] ++ [97], (pairsL k).getD k [] ++ [98]]
theorem pairs_len : ∀ k, (pairsL k).length = 2 + 2 * k
  | 0 => rfl
  | k + 1 => by
    show (pairsL k ++ [_, _]).length = _
    rw [List.length_append, pairs_len k]
    show 2 + 2 * k + 2 = _
    omega
theorem pairs_nms : ∀ m, m ≤ 40 → Nms ((pairsL m).take m) m := fun m hm => by
  have z : ∀ i : Fin 41, ((pairsL i).take i).Nodup ∧ (((pairsL i).take i).all isNm) = true := by decide +kernel
  obtain ⟨h1, h2⟩ := z ⟨m, by omega⟩
  exact ⟨by rw [List.length_take, pairs_len]; omega, h1, fun n hn => List.all_eq_true.mp h2 n hn⟩
/-- long + a letter -/
def endL (long : List Nat) (first k : Nat) : List Nat := long ++ [97 + (first + 7 * k) % 26]
theorem ends_nms {long : List Nat} {first m : Nat} (hs : long.length = 5) (ha : long.all (fun c => decide (97 ≤ c) && decide (c ≤ 122)) = true) (hm : m ≤ 26) : Nms ((List.range m).map (endL long first)) m :=
  ⟨by simp, nodup_map fun i j hi hj e => by
    have h2 := List.append_cancel_left e
    simp only [List.cons.injEq, and_true] at h2
    omega, fun n hn => by
    obtain ⟨k, hk, rfl⟩ := List.mem_map.mp hn
    have z : (first + 7 * k) % 26 < 26 := Nat.mod_lt _ (by decide)
    unfold isNm endL
    rw [all_app, ha]
    simp [hs]
    omega⟩
abbrev wordsT : Str := "places edge rope party pull row undo show reach haul rest free nobody still length a"
def wordsL : List (List Nat) := (Txt.split wordsT " ").map fun s => s.cps.toList
theorem words_eq : Txt.split wordsT " " = wordsL.map sL := by
  unfold wordsL
  rw [List.map_map]
  have : ((fun l => sL l) ∘ fun s : Str => s.cps.toList) = id := by
    funext s
    simp [sL]
  show _ = List.map ((fun l => sL l) ∘ fun s : Str => s.cps.toList) _
  rw [this, List.map_id]
theorem words_nms : Nms wordsL 16 := ⟨by decide +kernel, by decide +kernel, by decide +kernel⟩
/-- the words that are not found, then those found -/
theorem odd_nms {ws fs : List (List Nat)} {m : Nat} (hw : Nms ws 16) (hf : Nms fs m) : Nms ((ws.filter (fun w => !fs.contains w) ++ fs).take m) m := by
  refine nms_take ?_ ?_ (by rw [List.length_append, hf.len]; omega)
  · refine List.nodup_append.mpr ⟨hw.nd.sublist List.filter_sublist, hf.nd, fun a ha b hb e => ?_⟩
    subst e
    have := (List.mem_filter.mp ha).2
    simp at this
    exact this hb
  · intro n hn
    rcases List.mem_append.mp hn with h | h
    · exact hw.ok n (List.mem_filter.mp h).1
    · exact hf.ok n h
end Tg

namespace Tg
open PySem L2 Ow
def top (i : Nat) : Stmt := PySem.Challenge.pw_towgrove_k19_values_that_are_webs.main.body.getD i (.Pass ⟨0, 0, 0, 0⟩)
abbrev sBox : Stmt := top 40
abbrev sTake : Stmt := top 41
abbrev sMixed : Stmt := top 42
abbrev sNames : Stmt := top 43
abbrev sLaw : Stmt := top 52
abbrev s_ : Stmt := top 0
abbrev sT_ : Stmt := top 15
abbrev sPleOfStrings_ : Stmt := top 20
abbrev sForm_ : Stmt := top 31
abbrev sPlaces_ : Stmt := top 23
abbrev sByPlace_ : Stmt := top 24
abbrev sAceOrder_ : Stmt := top 25
abbrev sJoined_ : Stmt := top 26
abbrev sPe_ : Stmt := top 30
abbrev sWalkers_ : Stmt := top 33
abbrev sRopes_ : Stmt := top 34
abbrev sSs_ : Stmt := top 35
abbrev sOf_ : Stmt := top 36
abbrev sEsOf_ : Stmt := top 37
abbrev sWeb_ : Stmt := top 44
abbrev sChanged_ : Stmt := top 45
abbrev sIsRope_ : Stmt := top 46
abbrev sHasForm_ : Stmt := top 47
abbrev sDue_ : Stmt := top 48
abbrev sTold_ : Stmt := top 49
abbrev sSpaced_ : Stmt := top 50
abbrev sBent_ : Stmt := top 51
structure TxtB (mg : Str → Option Value) : Prop where
  abs : mg "abs" = none
  len : mg "len" = none
section
variable {P : Program} {w : World} {K : PySem.W.Frag} {mg : Str → Option Value} {base : Heap}
theorem scTake : FnScope ["_law_box_here", "_law_many", "_law_digit", "_law_one"] ["_law_box_here", "_law_many"] (defScope sTake) := ⟨rfl, rfl, rfl, by decide +kernel, rfl, by decide +kernel, by decide +kernel⟩
theorem ok_take {f : Addr} {fd : FuncData} (F : Fun K "_law_take" "_law_take" sTake f fd) (T : TxtB mg) : FnOk P w K mg base CX0 1 f fd ["_law_box_here", "_law_many"] spTake := by
  refine F.ok scTake (fun vs H Q E h => ?_) (fun cdv A outer s H vs Q E hr h => ?_)
  · obtain ⟨b, L, m, rfl, _⟩ := h
    rfl
  · obtain ⟨b, L, m, rfl, m0, m9, ⟨gs, now, seed, turn, B⟩, k⟩ := h
    have hu := hu_of hr
    have nd := scTake.nd
    refine ⟨_, pss_cons (ps_if (PW.pt (pw_and (pt_cmpR op_eq (pe_dget hu (pv 0) pe_str (fun _ _ => rfl)) pe_int (nomark _)) (pw_and1 (pt_cmpR op_gt (pe_callB call_len_seq (by rfl) T.len PySem.boot_len (pa_cons (pe_dget hu (pv 0) pe_str (fun _ _ => rfl)) pa_nil)) pe_int (nomark _)))))
        (pss_one (ps_dput hu (pv 0) pe_str (pe_bm0 PySem.F.plainAttrs_list PySem.F.slot_list_pop PySem.F.type_list_pop mt_pop (pe_dget hu (pv 0) pe_str (fun _ _ => rfl))) rfl)) pss_nil)
      (pss_cons (ps_if (pt_cmpR op_gt (pe_dget hu (pv 0) pe_str (fun _ _ => rfl)) pe_int (nomark _))
        (pss_cons (ps_set (i := 2) nd rfl (.inl rfl) (pe_op op_mod (pe_dget hu (pv 0) pe_str (fun _ _ => rfl)) (pv 1)))
        (pss_cons (ps_dput hu (pv 0) pe_str (pe_op op_fdivW (pe_dget hu (pv 0) pe_str (fun _ _ => rfl)) (pv 1)) rfl)
        (pss_one (ps_ret (pv 2))))) pss_nil)
      (pss_cons (ps_dput hu (pv 0) pe_str (pe_op op_add (pe_dget hu (pv 0) pe_str (fun _ _ => rfl)) pe_int) rfl)
      (pss_cons (ps_set (i := 3) nd rfl (.inl rfl) (pe_op op_mod (pe_op op_mul (pe_op op_mod (pe_op op_add (pe_dget hu (pv 0) pe_str (fun _ _ => rfl)) (pe_op op_mul pe_int (pe_dget hu (pv 0) pe_str (fun _ _ => rfl)))) pe_int) pe_int) pe_int))
      (pss_cons (ps_dput hu (pv 0) pe_str (pe_op op_add (pe_op op_mod (pe_op op_add (pv 3) (pe_op op_mul pe_int (pe_dget hu (pv 0) pe_str (fun _ _ => rfl)))) pe_int) pe_int) rfl)
      (pss_one (ps_ret (pe_op op_mod (pe_op op_fdiv (pe_op op_add (pe_op op_mul (pv 3) pe_int) (pe_dget hu (pv 0) pe_str (fun _ _ => rfl))) pe_int) (pv 1)))))))), ?_⟩
    refine seq_rest (fun σ1 H1 => σ1 = [some (.ref b), some (.int m), none, none] ∧ Kp b L H H1 ∧ ∃ gs now seed turn, BoxAt H1 b L gs now seed turn) ?_ (fun rest => ?_)
    · rintro σ1 H1 ⟨rfl, k1, gs, now, seed, turn, B⟩
      refine ⟨_, rfl, b, _, rfl, B.gnow, _, _, rfl, rfl, _, rfl, ?_⟩
      refine ite2 (fun hn => ?_) (fun hn => ?_)
      · have hn0 : 0 < now := of_decide_eq_true hn
        refine ⟨_, rfl, b, _, rfl, B.gnow, _, rfl, _, _, rfl, rfl, m0, ?_⟩
        refine ⟨_, rfl, b, _, rfl, B.gnow, _, rfl, _, _, rfl, rfl, ⟨m0, m9⟩, _, rfl, b, _, rfl, B.pnow _, ?_⟩
        obtain ⟨B2, k2⟩ := B.put (turn' := turn) (Int.ediv_nonneg B.now0 (Int.le_of_lt m0)) B.seed0 B.seed1
        refine ⟨_, rfl, ?_⟩
        exact k _ _ (Int.emod_nonneg _ (by omega)) (Int.emod_lt_of_pos _ m0) ⟨_, _, _, _, B2⟩ (k1.trans k2)
      · refine ⟨_, rfl, b, _, rfl, B.gturn, _, _, rfl, rfl, _, rfl, b, _, rfl, B.pturn _, ?_⟩
        obtain ⟨B2, k2⟩ := B.put (turn' := turn + 1) B.now0 B.seed0 B.seed1
        have c1 := B.seed0
        have c2 := B.seed1
        refine ⟨_, rfl, b, _, rfl, B2.gseed, _, rfl, b, _, rfl, B2.gturn, _, _, rfl, rfl, .inl (by omega), _, _, rfl, rfl, _, _, rfl, rfl, pos_lit (by decide), _, _, rfl, rfl, .inr (by omega), _, _, rfl, rfl, pos_lit (by decide), ?_⟩
        generalize (seed + 69623 * (turn + 1)) % 2147483647 * 16807 = z0
        refine ⟨_, rfl, _, rfl, b, _, rfl, B2.gseed, _, _, rfl, rfl, .inl (by omega), _, _, rfl, rfl, _, _, rfl, rfl, pos_lit (by decide), _, _, rfl, rfl, _, rfl, b, _, rfl, B2.pseed _, ?_⟩
        obtain ⟨B3, k3⟩ := B2.put (now' := now) (turn' := turn + 1) (seed' := (z0 % 2147483647 + 3 * seed) % 2147483629 + 1) B.now0 (by omega) (by omega)
        refine ⟨_, rfl, _, _, rfl, rfl, .inr (by omega), _, rfl, b, _, rfl, B3.gseed, _, _, rfl, rfl, _, _, rfl, rfl, ⟨by decide, by decide⟩, _, rfl, _, _, rfl, rfl, m0, ?_⟩
        exact k _ _ (Int.emod_nonneg _ (by omega)) (Int.emod_lt_of_pos _ m0) ⟨_, _, _, _, B3⟩ ((k1.trans k2).trans k3)
    · refine ⟨_, rfl, b, _, rfl, B.gnow, rfl, _, rfl, ?_⟩
      refine ite2 (fun hn => ?_) (fun hn => ?_)
      · refine ⟨_, rfl, b, _, rfl, B.ggreat, _, _, rfl, .inl (SqL.of B.ls), _, _, rfl, rfl, _, rfl, ?_⟩
        refine ite2 (fun hg => ?_) (fun hg => ?_)
        · have hg0 : 0 < (gs.map V.int).length := by
            have := of_decide_eq_true hg
            omega
          have hlast : (gs.map V.int)[(gs.map V.int).length - 1]? = some (V.int (gs.getLast (by intro e; simp [e] at hg0))) := by
            simp [List.getLast_eq_getElem]
          obtain ⟨B2, k2⟩ := B.pop
          refine ⟨_, rfl, b, _, rfl, B.ggreat, .inl ⟨rfl, _, SqL.of B.ls⟩, L, _, _, rfl, rfl, B.ls, hlast, _, rfl, b, _, rfl, B2.pnow _, ?_⟩
          obtain ⟨B3, k3⟩ := B2.put (turn' := turn) (B.pos _ (List.getLast_mem _)) B.seed0 B.seed1
          exact rest _ _ ⟨rfl, k2.trans k3, _, _, _, _, B3⟩
        · exact rest _ _ ⟨rfl, Kp.refl _ _ _, _, _, _, _, B⟩
      · refine iteF ?_
        exact rest _ _ ⟨rfl, Kp.refl _ _ _, _, _, _, _, B⟩
theorem scBox : FnScope ["_law_script", "_law_base", "_law_seed", "_law_cell", "_law_great"] ["_law_script", "_law_base"] (defScope sBox) := ⟨rfl, rfl, rfl, by decide +kernel, rfl, by decide +kernel, by decide +kernel⟩
theorem ok_box {f : Addr} {fd : FuncData} (F : Fun K "_law_box" "_law_box" sBox f fd) (T : TxtB mg) : FnOk P w K mg base CX0 1 f fd ["_law_script", "_law_base"] (spBox K) := by
  refine F.ok scBox (fun vs H Q E h => ?_) (fun cdv A outer s H vs Q E hr h => ?_)
  · obtain ⟨a, ns, e, rfl, _⟩ := h
    rfl
  · obtain ⟨a, ns, e, rfl, hS, hl, e0, e1, k⟩ := h
    have nd := scBox.nd
    refine ⟨_, pss_cons (ps_set (i := 2) nd rfl (.inl rfl) (pe_op op_add pe_int (pe_op op_mul pe_int (pv 1))))
      (pss_cons (ps_for PassesOwn.never rfl (pi_list (pe_slice sl_list (pv 0) po_none (po_some pe_int))) (pg_name (i := 3) nd rfl (.inl rfl))
        (pss_one (ps_set (i := 2) nd rfl (.inl rfl) (pe_op op_mod (pe_op op_add (pe_op op_add (pe_op op_mul (pv 2) pe_int) (pe_op op_mod (pe_callB call_abs (by rfl) T.abs (by decide +kernel) (pa_cons (pv 3) pa_nil)) pe_int)) pe_int) pe_int))))
      (pss_cons (ps_setLc (i := 4) (own := [("_law_cell", 3)]) (g := gName 3) rfl nd rfl rfl (sw_true rfl rfl rfl (by decide +kernel)) (pi_list (pe_slice sl_list (pv 0) (po_some (pv 1)) (po_some pe_int)))
        (blkOk_by (own := [("_law_cell", 3)]) (N := ["_law_script", "_law_base", "_law_seed", "_law_cell", "_law_great"]) (sc := defScope sBox) (by decide +kernel)) (fun _ _ _ _ _ => pg_name (i := 3) nd rfl (.inl rfl))
        (fun _ _ _ _ _ => pts_one (pt_cmpR op_ge (pe_callB call_abs (by rfl) T.abs (by decide +kernel) (pa_cons (pv 3) pa_nil)) (pe_op op_pow pe_int pe_int) (nomark _)))
        (fun _ _ _ _ _ => pe_callB call_abs (by rfl) T.abs (by decide +kernel) (pa_cons (pv 3) pa_nil)))
      (pss_one (ps_ret (pe_disp (pps_cons pe_str (pe_revL (pv 4)) (pps_cons pe_str pe_int (pps_cons pe_str (pe_op op_add (pv 2) pe_int) (pps_cons pe_str pe_int pps_nil)))) (by rfl) (by rfl) (fun z => by cases z) (by decide)))))), ?_⟩
    refine ⟨_, rfl, _, _, rfl, rfl, .inl (by decide), _, _, rfl, rfl, ?_⟩
    refine ⟨_, rfl, _, rfl, a, _, rfl, hS, fun p hp => ?_⟩
    obtain ⟨ms, em, hm⟩ := cut_ints ns none (some 50)
    rw [em]
    refine ⟨p, rfl, ⟨_, SqL.of upd_same⟩, ?_⟩
    refine for_list (K := K) (a := p) (xs := ms.map V.int) (fun i σ H2 => ∃ (sd : Int) (c : Option V), σ = [some (.ref a), some (.int e), some (.int sd), c, none] ∧ Same (upd H p (.lst (ms.map V.int))) H2 ∧ 0 ≤ sd ∧ sd < 2147483648)
      ⟨_, none, rfl, Same.refl _, by omega, by omega⟩ (fun i σ H2 _ ⟨_, _, _, s2, _⟩ => SqL.of (s2 _ _ upd_same)) ?_ ?_
    · rintro i y σ H2 hi ⟨sd, c, rfl, s2, b0, b1⟩
      obtain ⟨z, hz, rfl⟩ := ints_at hi
      refine ⟨_, rfl, _, _, rfl, rfl, .inr (by decide), _, rfl, _, rfl, _, _, rfl, rfl, pos_lit (by decide), _, _, rfl, rfl, _, _, rfl, rfl, _, _, rfl, rfl, pos_lit (by decide), ?_⟩
      exact ⟨_, some (.int z), rfl, s2, Int.emod_nonneg _ (by decide), Int.lt_trans (Int.emod_lt_of_pos _ (by decide)) (by decide)⟩
    · rintro σ H2 ⟨sd, c, rfl, s2, b0, b1⟩
      have s3 : Same H H2 := (same_upd (Same.refl H) hp).trans s2
      refine ⟨_, rfl, _, rfl, _, rfl, _, rfl, a, _, rfl, s3.seq hS, fun p2 hp2 => ?_⟩
      obtain ⟨ms2, em2, hm2⟩ := cut_ints ns (some e) (some 50)
      rw [em2]
      refine ⟨p2, rfl, ⟨_, SqL.of upd_same⟩, fun D hD => ?_⟩
      have n2 : D ≠ p2 := fun z => by rw [z, upd_same] at hD; cases hD
      have hD2 : H2 D = none := by rw [upd_ne n2] at hD; exact hD
      refine lc_list (K := K) (a := p2) (xs := ms2.map V.int) (fun i H3 => ∃ gs : List Int, H3 D = some (.lst (gs.map V.int)) ∧ gs.length ≤ i ∧ (∀ g ∈ gs, 0 ≤ g) ∧ Same H H3 ∧ H3 p2 = some (.lst (ms2.map V.int)))
        ⟨[], upd_same, Nat.le_refl _, (fun g hg => nomatch hg), same_upd (same_upd s3 (s3.free hp2)) (s3.free hD2), by rw [upd_ne n2.symm, upd_same]⟩ (fun i H3 _ ⟨_, _, _, _, _, e3⟩ => SqL.of e3) ?_ ?_
      · rintro i y H3 hi ⟨gs, g1, g2, g3, g4, g5⟩
        obtain ⟨z, hz, rfl⟩ := ints_at hi
        have hi2 : i < ms2.length := (List.getElem?_eq_some_iff.mp hz).1
        refine ⟨rfl, _, rfl, _, rfl, _, _, rfl, rfl, ⟨by decide, by decide, by decide⟩, _, _, rfl, rfl, _, rfl, ?_⟩
        refine ite2 (fun hz0 => ?_) (fun hz0 => ?_)
        · refine ⟨_, rfl, _, rfl, _, g1, small1000 (by rw [List.length_map]; omega), gs ++ [if z < 0 then -z else z], ?_, ?_, ?_, same_upd g4 (s3.free hD2), ?_⟩
          · rw [upd_same, List.map_append]
            rfl
          · rw [List.length_append]
            exact Nat.succ_le_succ g2
          · intro g hg
            rcases List.mem_append.mp hg with h | h
            · exact g3 g h
            · have e := List.mem_singleton.mp h
              rw [e]
              split <;> omega
          · rw [upd_ne n2.symm]
            exact g5
        · exact ⟨gs, g1, Nat.le_succ_of_le g2, g3, g4, g5⟩
      · rintro H3 ⟨gs, g1, g2, g3, g4, g5⟩
        intro p3 hp3
        have n3 : D ≠ p3 := ne_of_none g1 hp3
        refine ⟨_, rfl, D, _, rfl, SqL.of (by rw [upd_ne n3]; exact g1), fun q hq => ?_⟩
        have n4 : q ≠ p3 := fun z => by rw [z, upd_same] at hq; cases hq
        have hq3 : H3 q = none := by rw [upd_ne n4] at hq; exact hq
        refine ⟨_, rfl, _, _, rfl, rfl, ?_⟩
        refine ⟨by rw [upd_ne n4.symm, upd_same], kvsB q 0 (sd + 1) 0, rfl, (by show 4 ≤ 15; decide), ?_⟩
        rw [merge_kvsB]
        refine k p3 q _ (g4.free hp3) (g4.free hq3) (same_upd (same_upd (same_upd g4 (g4.free hp3)) (g4.free hq3)) (g4.free hp3)) ⟨gs.reverse, 0, sd + 1, 0, upd_same, ?_, by omega, by omega, by omega, fun g hg => g3 g (List.mem_reverse.mp hg)⟩
        rw [upd_ne n4, upd_same, List.map_reverse]
end
theorem Kp.new {b L p : Addr} {H H' : Hp} {o : HO} (k : Kp b L H H') (n : H p = none) : Kp b L H (upd H' p o) := fun a u n1 n2 h => by
  rw [upd_ne (ne_of_none h n)]
  exact k a u n1 n2 h
theorem Box.new {b L p : Addr} {H : Hp} {o : HO} (B : Box b L H) (n : H p = none) : Box b L (upd H p o) := by
  obtain ⟨gs, now, seed, turn, B⟩ := B
  exact ⟨gs, now, seed, turn, by rw [upd_ne (ne_of_none B.dc n)]; exact B.dc, by rw [upd_ne (ne_of_none B.ls n)]; exact B.ls, B.now0, B.seed0, B.seed1, B.pos⟩
theorem Box.apart {b L p : Addr} {H : Hp} (B : Box b L H) (n : H p = none) : p ≠ b ∧ p ≠ L := by
  obtain ⟨gs, now, seed, turn, B⟩ := B
  exact ⟨(ne_of_none B.dc n).symm, (ne_of_none B.ls n).symm⟩
theorem Box.same {b L : Addr} {H H' : Hp} (B : Box b L H) (s : Same H H') : Box b L H' := by
  obtain ⟨gs, now, seed, turn, B⟩ := B
  exact ⟨gs, now, seed, turn, s _ _ B.dc, s _ _ B.ls, B.now0, B.seed0, B.seed1, B.pos⟩
/-- another object of ours is changed -/
theorem Box.put {b L p : Addr} {H : Hp} {o : HO} (B : Box b L H) (n1 : p ≠ b) (n2 : p ≠ L) : Box b L (upd H p o) := by
  obtain ⟨gs, now, seed, turn, B⟩ := B
  exact ⟨gs, now, seed, turn, by rw [upd_ne n1.symm]; exact B.dc, by rw [upd_ne n2.symm]; exact B.ls, B.now0, B.seed0, B.seed1, B.pos⟩
theorem _root_.L2.Same.kp {b L : Addr} {H H1 H2 : Hp} (s : Same H H1) (nb : H b = none) (nL : H L = none) (k : Kp b L H1 H2) : Same H H2 := fun a o e => k a o (ne_of_none e nb) (ne_of_none e nL) (s a o e)
theorem Kp.new2 {b L p : Addr} {H H' : Hp} {o : HO} (k : Kp b L H H') (n : H' p = none) : Kp b L H (upd H' p o) := fun a u n1 n2 h => by
  rw [upd_ne (ne_of_none (k a u n1 n2 h) n)]
  exact k a u n1 n2 h
/-- a list of names -/
def nmV (ns : List (List Nat)) : List V := ns.map fun l => V.str (sL l)
theorem glue_letters : ∀ cs : List Nat, Txt.join "" (cs.map fun c => sL [c]) = sL cs := by
  have step : ∀ (cs : List Nat) (acc : List Nat), (cs.map fun c => sL [c]).foldl (fun acc p => acc ++ (Str.ofString "").cps ++ p.cps) acc.toArray = (acc ++ cs).toArray := by
    intro cs
    induction cs with
    | nil => intro acc; simp
    | cons c cs ih =>
      intro acc
      have e : (Str.ofString "").cps = #[] := by decide +kernel
      simp only [List.map_cons, List.foldl_cons]
      rw [show acc.toArray ++ (Str.ofString "").cps ++ (sL [c]).cps = (acc ++ [c]).toArray from by rw [e]; simp [sL], ih]
      simp
  intro cs
  cases cs with
  | nil => rfl
  | cons c cs =>
    show Str.mk _ = _
    simp only [List.map_cons, List.drop_succ_cons, List.drop_zero, List.headD_cons]
    have := step cs [c]
    unfold sL
    congr 1

/-! ### items in a drawn order -/
structure TxtM (mg : Str → Option Value) : Prop where
  b_list : mg "list" = none
  b_range : mg "range" = none
  b_len : mg "len" = none
def spMixed (K : PySem.W.Frag) : Sp := fun vs H Q _ => ∃ b L l xs, vs = [.ref b, .ref l] ∧ Box b L H ∧ (SqL K H l xs ∨ SqT K H l xs) ∧ xs.length ≤ 1000 ∧
  ∀ p ys H', H p = none → List.Perm ys xs → H' p = some (.lst ys) → Box b L H' → Kp b L H H' → Q (.ref p) H'
theorem perm_pop {α : Type} {f l xs : List α} {k : Nat} {y : α} (h : List.Perm (f ++ l) xs) (hk : l[k]? = some y) : List.Perm ((f ++ [y]) ++ l.eraseIdx k) xs := by
  obtain ⟨hl, e⟩ := List.getElem?_eq_some_iff.mp hk
  have z : List.Perm (y :: l.eraseIdx k) l := by
    have e2 : l = l.take k ++ y :: l.drop (k + 1) := by
      rw [← e, List.getElem_cons_drop hl, List.take_append_drop]
    have e3 : l.eraseIdx k = l.take k ++ l.drop (k + 1) := List.eraseIdx_eq_take_drop_succ l k
    rw [e3]
    conv => rhs; rw [e2]
    exact List.perm_middle.symm
  refine List.Perm.trans ?_ h
  rw [List.append_assoc]
  exact List.Perm.append_left f z
section
variable {P : Program} {w : World} {K : PySem.W.Frag} {mg : Str → Option Value} {base : Heap} {C : Addr}
theorem scMixed : FnScope ["_law_box_here", "_law_items", "_law_left", "_law_found", "_law_turn"] ["_law_box_here", "_law_items"] (defScope sMixed) := ⟨rfl, rfl, rfl, by decide +kernel, rfl, by decide +kernel, by decide +kernel⟩
theorem ok_mixed {f : Addr} {fd : FuncData} (F : Fun K "_law_mixed" "_law_mixed" sMixed f fd) (T : TxtM mg) (cTake : Cal P w K mg base 1 "_law_take" ["_law_box_here", "_law_many"] spTake) : FnOk P w K mg base CX0 2 f fd ["_law_box_here", "_law_items"] (spMixed K) := by
  refine F.ok scMixed (fun vs H Q E h => ?_) (fun cdv A outer s H vs Q E hr h => ?_)
  · obtain ⟨b, L, l, xs, rfl, _⟩ := h
    rfl
  · obtain ⟨b, L, l, xs, rfl, B, hS, hz, k⟩ := h
    have nd := scMixed.nd
    refine ⟨_, (pss_cons (ps_par (i := 2) (j := 3) (by rfl) nd rfl rfl (by decide) rfl rfl (pa_cons (pe_callTy call_list_of (by rfl) T.b_list (by decide +kernel) (pa_cons (pv 1) pa_nil)) (pa_cons (pe_lst pa_nil) pa_nil)) (by rfl))
      (pss_cons (ps_for PassesOwn.never rfl (pi_range1 (by rfl) T.b_range (pa_cons (pe_callB call_len_seq (by rfl) T.b_len PySem.boot_len (pa_cons (pv 2) pa_nil)) pa_nil)) (pg_name (i := 4) nd rfl (.inl rfl))
        (pss_one (ps_expr (pe_bm PySem.F.plainAttrs_list PySem.F.slot_list_append PySem.F.type_list_append mt_append (pv 3) (pa_cons (pe_bm PySem.F.plainAttrs_list PySem.F.slot_list_pop PySem.F.type_list_pop mt_popAt (pv 2) (pa_cons (pe_cal cTake (hr.mono (by decide)) (by rfl) (pa_cons (pv 0) (pa_cons (pe_callB call_len_seq (by rfl) T.b_len PySem.boot_len (pa_cons (pv 2) pa_nil)) pa_nil))) pa_nil)) pa_nil)))))
      (pss_one (ps_ret (pv 3))))), ?_⟩
    refine ⟨_, rfl, l, xs, rfl, hS, fun p1 hp1 => ⟨(by show 0 ≤ sizeLine; decide), fun p2 hp2 => ?_⟩⟩
    have n12 : p1 ≠ p2 := fun z => by rw [← z, upd_same] at hp2; cases hp2
    have hp2' : H p2 = none := by rw [upd_ne n12.symm] at hp2; exact hp2
    obtain ⟨b1, b2⟩ := B.apart hp1
    obtain ⟨b3, b4⟩ := B.apart hp2'
    refine ⟨_, _, rfl, ?_⟩
    have e1 : (upd (upd H p1 (.lst xs)) p2 (.lst [])) p1 = some (.lst xs) := by rw [upd_ne n12, upd_same]
    refine ⟨_, rfl, p1, xs, rfl, .inl (SqL.of e1), _, rfl, (by omega), (by omega), ?_⟩
    refine for_range (n := xs.length) (fun i σ H1 => ∃ (left found : List V) (v : Option V), σ = [some (.ref b), some (.ref l), some (.ref p1), some (.ref p2), v] ∧ H1 p1 = some (.lst left) ∧ H1 p2 = some (.lst found) ∧ List.Perm (found ++ left) xs ∧ found.length = i ∧ Box b L H1 ∧ Kp b L H H1)
      ⟨xs, [], none, rfl, e1, upd_same, List.Perm.refl _, rfl, (B.new hp1).new hp2, ((Kp.refl b L H).new hp1).new hp2'⟩ ?_ ?_
    · rintro i σ H1 hi ⟨left, found, v, rfl, h1, h2, pm, hf, B1, k1⟩
      have hl : left.length + i = xs.length := by
        have := pm.length_eq
        rw [List.length_append] at this
        omega
      have hl0 : 0 < left.length := by omega
      refine ⟨_, rfl, .inl ⟨rfl, _, SqL.of h2⟩, _, rfl, .inl ⟨rfl, _, SqL.of h1⟩, _, rfl, _, rfl, p1, left, rfl, .inl (SqL.of h1), b, L, _, rfl, by omega, ?_, B1, fun d H2 d0 d1 B2 k2 => ?_⟩
      · have : (left.length : Int).natAbs < 2 ^ 20 := by
          have e : (2 : Nat) ^ 20 = 1048576 := by decide
          omega
        exact Nat.lt_of_lt_of_le (PySem.Flt.log2_lt_of (by decide) this) (by decide)
      have h1' := k2 _ _ b1 b2 h1
      have h2' := k2 _ _ b3 b4 h2
      obtain ⟨y, hy⟩ : ∃ y, left[d.toNat]? = some y := ⟨left[d.toNat], List.getElem?_eq_getElem (by omega)⟩
      refine ⟨p1, left, d, d.toNat, y, rfl, rfl, h1', by omega, by omega, seqIndex_of d0 d1, hy, ?_⟩
      refine ⟨p2, _, _, rfl, rfl, (by rw [upd_ne n12.symm]; exact h2'), small1000 (by omega), ?_⟩
      refine ⟨left.eraseIdx d.toNat, found ++ [y], _, rfl, (by rw [upd_ne n12, upd_same]), upd_same, perm_pop pm hy, by rw [List.length_append]; simp [hf], (B2.put b1 b2).put b3 b4, fun c o c1 c2 hc => ?_⟩
      rw [upd_ne (ne_of_none hc hp2'), upd_ne (ne_of_none hc hp1)]
      exact k2 c o c1 c2 (k1 c o c1 c2 hc)
    · rintro σ H1 ⟨left, found, v, rfl, h1, h2, pm, hf, B1, k1⟩
      have hl := pm.length_eq
      rw [List.length_append] at hl
      have e : left = [] := List.length_eq_zero_iff.mp (by omega)
      subst e
      rw [List.append_nil] at pm
      exact ⟨_, rfl, k p2 found H1 hp2' pm h2 B1 k1⟩
end

structure TxtN (mg : Str → Option Value) : Prop where
  b_range : mg "range" = none
  b_len : mg "len" = none
  b_int : mg "int" = none
  b_min : mg "min" = none
def spNames : Sp := fun vs H Q _ => ∃ b L m, vs = [.ref b, .int (m : Nat)] ∧ m ≤ 40 ∧ Box b L H ∧ ∀ p ns H', H p = none → Nms ns m → H' p = some (.lst (nmV ns)) → Box b L H' → Kp b L H H' → Q (.ref p) H'
abbrev nN : List Str := ["_law_box_here", "_law_many", "_law_letters", "_law_words", "_law_stem", "_law_at", "_law_first", "_law_form", "_law_found", "_law_pairs", "_law_k", "_law_letter", "_law_long", "_law_ends", "_law_odd", "_law_some", "_law_word"]
theorem scNames : FnScope nN ["_law_box_here", "_law_many"] (defScope sNames) := ⟨rfl, rfl, rfl, by decide +kernel, rfl, by decide +kernel, by decide +kernel⟩
theorem op_notInK {X : Cx} (K : PySem.W.Frag) (hK : X.K = K := by rfl) : OpR X (compareOp .NotIn) (rIn K true) := by
  rw [← hK]
  exact op_notIn_seq
abbrev lowC (cs : List Nat) : Bool := cs.all fun c => decide (97 ≤ c) && decide (c ≤ 122)
theorem letters_sum (cs : List Nat) (h : cs.length ≤ 10) : ((cs.map fun c => sL [c]).map (·.length)).sum + (cs.map fun c => sL [c]).length * (Str.ofString "").length ≤ 16777216 := by
  have e : (Str.ofString "").length = 0 := by decide +kernel
  have z : ((cs.map fun c => sL [c]).map (·.length)).sum = cs.length := by
    clear h
    induction cs with
    | nil => rfl
    | cons c cs ih =>
      simp only [List.map_cons, List.sum_cons, ih, sL_len]
      simp
      omega
  rw [e, z]
  omega
theorem low_snoc {cs : List Nat} {d : Nat} (h : lowC cs = true) (hd : d < 26) : lowC (cs ++ [97 + d]) = true := by
  unfold lowC at *
  rw [all_app, h]
  simp
  omega
theorem log_small {i : Int} (h0 : 0 ≤ i) (h1 : i < 1000) : i.natAbs.log2 < 9000 := by
  have : i.natAbs < 2 ^ 10 := by
    have e : (2 : Nat) ^ 10 = 1024 := by decide
    omega
  exact Nat.lt_of_lt_of_le (PySem.Flt.log2_lt_of (by decide) this) (by decide)
def back : V → List Nat
  | .str s => s.cps.toList
  | _ => []
theorem perm_nm {ys : List V} {L : List (List Nat)} (h : List.Perm ys (nmV L)) : ∃ ws, ys = nmV ws ∧ List.Perm ws L := by
  refine ⟨ys.map back, ?_, ?_⟩
  · unfold nmV
    rw [List.map_map]
    refine (List.map_id' ys).symm.trans (List.map_congr_left fun y hy => ?_)
    obtain ⟨l, _, rfl⟩ := List.mem_map.mp (h.mem_iff.mp hy)
    show V.str (sL l) = V.str (sL (back (V.str (sL l))))
    simp [back, sL]
  · have := h.map back
    unfold nmV at this
    rw [List.map_map] at this
    have e : (back ∘ fun l => V.str (sL l)) = id := by
      funext l
      simp [back, sL]
    rw [e, List.map_id] at this
    exact this
theorem Kp.free {b L p : Addr} {H H' : Hp} (k : Kp b L H H') (n : H' p = none) (h1 : p ≠ b) (h2 : p ≠ L) : H p = none := by
  cases e : H p with
  | none => rfl
  | some o =>
    have := k p o h1 h2 e
    rw [n] at this
    cases this
theorem str_a : Str.ofString "a" = sL [97] := by decide +kernel
theorem str_b : Str.ofString "b" = sL [98] := by decide +kernel
theorem pairs_le : ∀ k, ∀ l ∈ pairsL k, l.length ≤ k + 1
  | 0, l, h => by
    simp [pairsL] at h
    rcases h with rfl | rfl <;> simp
  | k + 1, l, h => by
    have ih := pairs_le k
    have g : ((pairsL k).getD k []).length ≤ k + 1 := by
      have hk : k < (pairsL k).length := by rw [pairs_len]; omega
      rw [List.getD_eq_getElem?_getD, List.getElem?_eq_getElem hk]
      exact ih _ (List.getElem_mem hk)
    simp only [pairsL, List.mem_append, List.mem_cons, List.not_mem_nil, or_false] at h
    rcases h with h | rfl | rfl
    · exact Nat.le_succ_of_le (ih l h)
    · rw [List.length_append]; exact Nat.succ_le_succ g
    · rw [List.length_append]; exact Nat.succ_le_succ g
theorem pairs_at (k : Nat) : (nmV (pairsL k))[k]? = some (V.str (sL ((pairsL k).getD k []))) ∧ ((pairsL k).getD k []).length ≤ k + 1 := by
  have hk : k < (pairsL k).length := by rw [pairs_len]; omega
  refine ⟨?_, ?_⟩
  · unfold nmV
    rw [List.getElem?_map, List.getD_eq_getElem?_getD, List.getElem?_eq_getElem hk]
    rfl
  · rw [List.getD_eq_getElem?_getD, List.getElem?_eq_getElem hk]
    exact pairs_le k _ (List.getElem_mem hk)
theorem nmV_snoc (ns : List (List Nat)) (l : List Nat) : nmV ns ++ [V.str (sL l)] = nmV (ns ++ [l]) := by
  unfold nmV
  rw [List.map_append]
  rfl
theorem nmV_len (ns : List (List Nat)) : (nmV ns).length = ns.length := List.length_map ..
theorem ltr_str (first k : Nat) (c : Bool) (hc : c = decide (25 < k)) : sL [97 + (first + 7 * k) % 26] ++ Txt.mul (sL [97 + k / 26]) (if c then 1 else 0) = sL (ltr first k) := by
  subst hc
  unfold ltr
  by_cases h : 25 < k
  · simp only [h, decide_true, if_true]
    rw [mul1, sL_add]
    rfl
  · simp only [h, decide_false, if_false]
    rw [show (if false = true then (1 : Int) else 0) = 0 from rfl, mul0, sL_add]
    rfl
theorem cut_nm (ls : List (List Nat)) (m : Nat) : cutV (nmV ls) none (some (m : Int)) = nmV (ls.take m) := by
  unfold cutV nmV
  rw [HT.sIx_nat, HT.sIx_none, List.drop_zero, Nat.sub_zero, List.length_map, ← List.map_take]
  congr 1
  rw [Nat.min_def]
  split
  · rfl
  · rw [List.take_of_length_le (Nat.le_refl _), List.take_of_length_le (by omega)]
theorem inV_nm (w : List Nat) (fs : List (List Nat)) : inV (V.str (sL w)) (nmV fs) = fs.contains w := by
  unfold inV nmV
  induction fs with
  | nil => rfl
  | cons f fs ih =>
    simp only [List.map_cons, List.any_cons, List.contains_cons, ih]
    congr 1
    by_cases h : w = f
    · subst h
      show (sL w == sL w) = (w == w)
      simp
    · have h2 : ¬ sL w = sL f := fun z => h (sL_inj z)
      have h3 : ¬ sL f = sL w := fun z => h2 z.symm
      have h4 : ¬ f = w := fun z => h z.symm
      show (sL f == sL w) = (w == f)
      rw [beq_eq_false_iff_ne.mpr h3, beq_eq_false_iff_ne.mpr h]
theorem flat_nm (fs : List (List Nat)) : (nmV fs).all flatV = true := by
  unfold nmV
  simp [List.all_map, flatV]
section
variable {P : Program} {w : World} {K : PySem.W.Frag} {mg : Str → Option Value} {base : Heap}
theorem ok_names {f : Addr} {fd : FuncData} (F : Fun K "_law_names" "_law_names" sNames f fd) (T : TxtN mg) (cTake : Cal P w K mg base 1 "_law_take" ["_law_box_here", "_law_many"] spTake)
    (cMixed : Cal P w K mg base 2 "_law_mixed" ["_law_box_here", "_law_items"] (spMixed K)) : FnOk P w K mg base CX0 3 f fd ["_law_box_here", "_law_many"] spNames := by
  refine F.ok scNames (fun vs H Q E h => ?_) (fun cdv A outer s H vs Q E hr h => ?_)
  · obtain ⟨b, L, m, rfl, _⟩ := h
    rfl
  · obtain ⟨b, L0, m, rfl, hm, B, k⟩ := h
    have nd := scNames.nd
    refine ⟨_, (pss_cons (ps_set (i := 2) nd rfl (.inr rfl) pe_str)
      (pss_cons (ps_set (i := 3) nd rfl (.inl rfl) (pe_split pe_str pe_str))
      (pss_cons (ps_set (i := 4) nd rfl (.inl rfl) (pe_join pe_str (pe_lc (own := [("_law_k", 10)]) (g := gName 10) rfl nd (pi_range1 (by rfl) T.b_range (pa_cons (pe_cal cTake (hr.mono (by decide)) (by rfl) (pa_cons (pv 0) (pa_cons pe_int pa_nil))) pa_nil)) (blkOk_by (own := [("_law_k", 10)]) (N := nN) (sc := defScope sNames) (by decide +kernel)) (fun _ _ _ _ _ => (pg_name (i := 10) nd rfl (.inl rfl))) (fun _ _ _ _ _ => pts_nil) (fun _ _ _ _ _ => (pe_ix ix_str (pv 2) (pe_cal cTake (hr.mono (by decide)) (by rfl) (pa_cons (pv 0) (pa_cons pe_int pa_nil))) (fun _ _ => rfl))))))
      (pss_cons (ps_asg (pe_tup (pa_cons (pe_cal cTake (hr.mono (by decide)) (by rfl) (pa_cons (pv 0) (pa_cons (pe_op op_add (pe_callB call_len_str (by rfl) T.b_len PySem.boot_len (pa_cons (pv 4) pa_nil)) pe_int) pa_nil))) (pa_cons (pe_cal cTake (hr.mono (by decide)) (by rfl) (pa_cons (pv 0) (pa_cons pe_int pa_nil))) (pa_cons (pe_cal cTake (hr.mono (by decide)) (by rfl) (pa_cons (pv 0) (pa_cons pe_int pa_nil))) pa_nil)))) (pg_tup (by rfl) (pgs_cons (pg_name (i := 5) nd rfl (.inl rfl)) (pgs_cons (pg_name (i := 6) nd rfl (.inr rfl)) (pgs_cons (pg_name (i := 7) nd rfl (.inl rfl)) pgs_nil)))))
      (pss_cons (ps_asg (pe_tup (pa_cons (pe_lst pa_nil) (pa_cons (pe_cal cMixed (hr.mono (by decide)) (by rfl) (pa_cons (pv 0) (pa_cons (pv 3) pa_nil))) (pa_cons (pe_lst (pa_cons pe_str (pa_cons pe_str pa_nil))) pa_nil)))) (pg_tup (by rfl) (pgs_cons (pg_name (i := 8) nd rfl (.inr rfl)) (pgs_cons (pg_name (i := 3) nd rfl (.inl rfl)) (pgs_cons (pg_name (i := 9) nd rfl (.inl rfl)) pgs_nil)))))
      (pss_cons (ps_for PassesOwn.never rfl (pi_range1 (by rfl) T.b_range (pa_cons (pv 1) pa_nil)) (pg_name (i := 10) nd rfl (.inl rfl))
        (pss_cons (ps_set (i := 11) nd rfl (.inl rfl) (pe_op op_add_str (pe_ix ix_str (pv 2) (pe_op op_mod (pe_op op_add (pv 6) (pe_op op_mul pe_int (pv 10))) pe_int) (fun _ _ => rfl)) (pe_op op_mulStr (pe_ix ix_str (pv 2) (pe_op op_fdiv (pv 10) pe_int) (fun _ _ => rfl)) (pe_callTy call_int1 (by rfl) T.b_int (by decide +kernel) (pa_cons (pe_cmpR op_gt (pv 10) pe_int (nomark _)) pa_nil)))))
          (pss_cons (ps_expr (pe_bm PySem.F.plainAttrs_list PySem.F.slot_list_append PySem.F.type_list_append mt_append (pv 8) (pa_cons (pe_op op_add_str (pe_op op_add_str (pe_slice sl_str (pv 4) po_none (po_some (pv 5))) (pv 11)) (pe_slice sl_str (pv 4) (po_some (pv 5)) po_none)) pa_nil)))
          (pss_one (ps_expr (pe_bm PySem.F.plainAttrs_list PySem.F.slot_list_extend PySem.F.type_list_extend mt_extend (pv 9) (pa_cons (pe_lst (pa_cons (pe_op op_add_str (pe_ix ix_list (pv 9) (pv 10) (fun _ _ => rfl)) pe_str) (pa_cons (pe_op op_add_str (pe_ix ix_list (pv 9) (pv 10) (fun _ _ => rfl)) pe_str) pa_nil))) pa_nil)))))))
      (pss_cons (ps_set (i := 12) nd rfl (.inr rfl) (pe_join pe_str (pe_lc (own := [("_law_k", 10)]) (g := gName 10) rfl nd (pi_range1 (by rfl) T.b_range (pa_cons pe_int pa_nil)) (blkOk_by (own := [("_law_k", 10)]) (N := nN) (sc := defScope sNames) (by decide +kernel)) (fun _ _ _ _ _ => (pg_name (i := 10) nd rfl (.inl rfl))) (fun _ _ _ _ _ => pts_nil) (fun _ _ _ _ _ => (pe_ix ix_str (pv 2) (pe_cal cTake (hr.mono (by decide)) (by rfl) (pa_cons (pv 0) (pa_cons pe_int pa_nil))) (fun _ _ => rfl))))))
      (pss_cons (ps_setLc (i := 13) (own := [("_law_k", 10)]) (g := gName 10) rfl nd rfl rfl (sw_true rfl rfl rfl (by decide +kernel)) (pi_range1 (by rfl) T.b_range (pa_cons (pe_callB (call_min2 rfl) (by rfl) T.b_min (by decide +kernel) (pa_cons (pv 1) (pa_cons pe_int pa_nil))) pa_nil)) (blkOk_by (own := [("_law_k", 10)]) (N := nN) (sc := defScope sNames) (by decide +kernel)) (fun _ _ _ _ _ => (pg_name (i := 10) nd rfl (.inl rfl))) (fun _ _ _ _ _ => pts_nil) (fun _ _ _ _ _ => (pe_op op_add_str (pv 12) (pe_ix ix_str (pv 2) (pe_op op_mod (pe_op op_add (pv 6) (pe_op op_mul pe_int (pv 10))) pe_int) (fun _ _ => rfl)))))
      (pss_cons (ps_set (i := 14) nd rfl (.inl rfl) (pe_op op_cat (pe_lc (own := [("_law_word", 16)]) (g := gName 16) rfl nd (pi_list (pv 3)) (blkOk_by (own := [("_law_word", 16)]) (N := nN) (sc := defScope sNames) (by decide +kernel)) (fun _ _ _ _ _ => (pg_name (i := 16) nd rfl (.inl rfl))) (fun _ _ _ _ _ => pts_one (pt_cmpR (op_notInK K) (pv 16) (pv 8) rfl)) (fun _ _ _ _ _ => (pv 16))) (pv 8)))
      (pss_cons (ps_set (i := 15) nd rfl (.inl rfl) (pe_lst (pa_cons (pv 14) (pa_cons (pv 9) (pa_cons (pe_ix ix_list (pe_lst (pa_cons (pv 13) (pa_cons (pv 8) pa_nil))) (pe_callTy call_int1 (by rfl) T.b_int (by decide +kernel) (pa_cons (pe_cmpR op_gt (pv 1) pe_int (nomark _)) pa_nil)) (fun _ _ => rfl)) (pa_cons (pv 8) (pa_cons (pv 8) pa_nil)))))))
      (pss_one (ps_ret (pe_cal cMixed (hr.mono (by decide)) (by rfl) (pa_cons (pv 0) (pa_cons (pe_slice sl_list (pe_ix ix_list (pv 15) (pv 7) (fun _ _ => rfl)) po_none (po_some (pv 1))) pa_nil))))))))))))))), ?_⟩
    -- words
    refine ⟨⟨_, rfl⟩, _, _, rfl, rfl, (by decide +kernel), (by decide +kernel), fun pw npw => ?_⟩
    have e1 : (Txt.split wordsT " ").map V.str = nmV wordsL := by
      rw [words_eq]
      unfold nmV
      rw [List.map_map]
      rfl
    have lw : (upd H pw (.lst ((Txt.split wordsT " ").map V.str))) pw = some (.lst (nmV wordsL)) := by rw [upd_same, e1]
    have B1 := B.new (o := .lst ((Txt.split wordsT " ").map V.str)) npw
    have k1 : Kp b L0 H (upd H pw (.lst ((Txt.split wordsT " ").map V.str))) := Kp.new2 (Kp.refl b L0 H) npw
    obtain ⟨w1, w2⟩ := B.apart npw
    generalize upd H pw (.lst ((Txt.split wordsT " ").map V.str)) = H1 at lw B1 k1 ⊢
    try dsimp only [tNext]
    -- stem
    refine ⟨⟨_, rfl⟩, _, rfl, b, L0, 5, rfl, by decide, by decide +kernel, B1, fun d1 H2 a1 c1 B2 k2 => ⟨_, rfl, by omega, by omega, fun D hD => ?_⟩⟩
    have lw := k2 _ _ w1 w2 lw
    have k02 := k1.trans k2
    obtain ⟨n1, n2⟩ := B2.apart hD
    refine lc_range (n := d1.toNat) (fun t H3 => ∃ cs : List Nat, H3 D = some (.lst (cs.map fun c => V.str (sL [c]))) ∧ cs.length = t ∧ lowC cs = true ∧ Box b L0 H3 ∧ Kp b L0 H2 H3) ⟨[], upd_same, rfl, rfl, B2.new hD, Kp.new2 (Kp.refl b L0 H2) hD⟩ ?_ ?_
    · rintro t H3 ht ⟨cs, e1, l1, a1, B3, k3⟩
      refine ⟨rfl, _, rfl, _, rfl, b, L0, 26, rfl, by decide, by decide +kernel, B3, fun d H4 a4 c4 B4 k4 => ?_⟩
      obtain ⟨dn, rfl⟩ : ∃ dn : Nat, d = dn := ⟨d.toNat, by omega⟩
      refine ⟨_, _, 97 + dn, rfl, rfl, (by decide +kernel), letter_at dn (by omega), _, k4 D _ n1 n2 e1, small1000 (by rw [List.length_map]; omega), cs ++ [97 + dn], ?_, by simp [l1], low_snoc a1 (by omega), B4.put n1 n2, ?_⟩
      · rw [upd_same, List.map_append]
        rfl
      · exact Kp.new (k3.trans k4) hD
    rintro H3 ⟨stem, e1, l1, lows, B3, k3⟩
    have l4 : stem.length ≤ 4 := by omega
    have k03 := k02.trans k3
    have lw := k3 _ _ w1 w2 lw
    refine ⟨_, D, stem.map (fun c => sL [c]), rfl, rfl, .inl (SqL.of (by rw [List.map_map]; exact e1)), letters_sum stem (by omega), ?_⟩
    rw [glue_letters]
    clear e1 hD n1 n2 k2 k3 B2 B1 k1 k02
    try dsimp only [tNext]
    -- at, first, form
    refine ⟨_, rfl, _, rfl, _, rfl, (by rw [sL_len, sizeLine_eq]; omega), _, _, rfl, rfl, b, L0, _, rfl, (by omega), log_small (by omega) (by rw [sL_len]; omega), B3, fun at0 H4 a4 c4 B4 k4 => ?_⟩
    refine ⟨_, rfl, b, L0, 26, rfl, by decide, by decide +kernel, B4, fun first0 H5 a5 c5 B5 k5 => ?_⟩
    refine ⟨_, rfl, b, L0, 5, rfl, by decide, by decide +kernel, B5, fun form H6 a6 c6 B6 k6 => ?_⟩
    rw [sL_len] at c4
    obtain ⟨at_, rfl⟩ : ∃ n : Nat, at0 = n := ⟨at0.toNat, by omega⟩
    obtain ⟨first, rfl⟩ : ∃ n : Nat, first0 = n := ⟨first0.toNat, by omega⟩
    have hat : at_ ≤ stem.length := by omega
    refine ⟨(by show 3 ≤ sizeLine; decide), fun t1 nt1 => ⟨t1, _, rfl, SqT.of upd_same, rfl, _, _, rfl, _, _, rfl, _, _, rfl, rfl, ?_⟩⟩
    have k06 := k03.trans (k4.trans (k5.trans k6))
    have lw := (k4.trans (k5.trans k6)) _ _ w1 w2 lw
    have k07 : Kp b L0 H (upd H6 t1 (.tup [.int at_, .int first, .int form])) := Kp.new2 k06 nt1
    have lw7 : (upd H6 t1 (.tup [.int at_, .int first, .int form])) pw = some (.lst (nmV wordsL)) := by rw [upd_ne (ne_of_none lw nt1)]; exact lw
    have B7 := B6.new (o := .tup [.int at_, .int first, .int form]) nt1
    generalize upd H6 t1 (.tup [.int at_, .int first, .int form]) = H7 at k07 lw7 B7 ⊢
    clear k4 k5 k6 k06 k03 B3 B4 B5 B6 nt1 lw a4 a5 a1 c1
    try dsimp only [tNext]
    -- found, words, pairs
    refine ⟨(by show 0 ≤ sizeLine; decide), fun pf npf => ?_⟩
    have k08 : Kp b L0 H (upd H7 pf (.lst [])) := Kp.new2 k07 npf
    have lf : (upd H7 pf (.lst [])) pf = some (.lst []) := upd_same
    obtain ⟨f1, f2⟩ := B7.apart npf
    have hf0 := Kp.free k07 npf f1 f2
    have B8 := B7.new (o := .lst []) npf
    have lw8 : (upd H7 pf (.lst [])) pw = some (.lst (nmV wordsL)) := by rw [upd_ne (ne_of_none lw7 npf)]; exact lw7
    generalize upd H7 pf (.lst []) = H8 at k08 lf B8 lw8 ⊢
    refine ⟨_, rfl, _, rfl, b, L0, pw, _, rfl, B8, .inl (SqL.of lw8), (by rw [show (nmV wordsL).length = 16 from by decide +kernel]; omega), fun pm ys H9 npm perm lm B9 k9 => ?_⟩
    have lf := k9 _ _ f1 f2 lf
    have k09 := k08.trans k9
    have nmf : pm ≠ pf := fun z => by rw [z, (show H8 pf = some (.lst []) by assumption)] at npm; cases npm
    obtain ⟨ws, rfl, pws⟩ := perm_nm perm
    have hws : Nms ws 16 := words_nms.perm pws
    refine ⟨(by show 2 ≤ sizeLine; decide), fun pp npp => ⟨(by show 3 ≤ sizeLine; decide), fun t2 nt2 => ⟨t2, _, rfl, SqT.of upd_same, rfl, _, _, rfl, _, _, rfl, _, _, rfl, rfl, ?_⟩⟩⟩
    rw [str_a, str_b] at nt2 ⊢
    have lf1 : (upd (upd H9 pp (.lst [.str (sL [97]), .str (sL [98])])) t2 (.tup [.ref pf, .ref pm, .ref pp])) pf = some (.lst []) := by
      have z : (upd H9 pp (.lst [.str (sL [97]), .str (sL [98])])) pf = some (.lst []) := by rw [upd_ne (ne_of_none lf npp)]; exact lf
      rw [upd_ne (ne_of_none z nt2)]
      exact z
    have lm1 : (upd (upd H9 pp (.lst [.str (sL [97]), .str (sL [98])])) t2 (.tup [.ref pf, .ref pm, .ref pp])) pm = some (.lst (nmV ws)) := by
      have z : (upd H9 pp (.lst [.str (sL [97]), .str (sL [98])])) pm = some (.lst (nmV ws)) := by rw [upd_ne (ne_of_none lm npp)]; exact lm
      rw [upd_ne (ne_of_none z nt2)]
      exact z
    have lp1 : (upd (upd H9 pp (.lst [.str (sL [97]), .str (sL [98])])) t2 (.tup [.ref pf, .ref pm, .ref pp])) pp = some (.lst (nmV (pairsL 0))) := by
      have z : (upd H9 pp (.lst [.str (sL [97]), .str (sL [98])])) pp = some (.lst (nmV (pairsL 0))) := upd_same
      rw [upd_ne (ne_of_none z nt2)]
      exact z
    have B10 := (B9.new (o := .lst [.str (sL [97]), .str (sL [98])]) npp).new (o := .tup [.ref pf, .ref pm, .ref pp]) nt2
    have k10 : Kp b L0 H (upd (upd H9 pp (.lst [.str (sL [97]), .str (sL [98])])) t2 (.tup [.ref pf, .ref pm, .ref pp])) := Kp.new2 (Kp.new2 k09 npp) nt2
    have nfp : pf ≠ pp := fun z => by rw [z, npp] at lf; cases lf
    have nmp : pm ≠ pp := fun z => by rw [z, npp] at lm; cases lm
    obtain ⟨p1, p2⟩ := B9.apart npp
    have hp0 := Kp.free k09 npp p1 p2
    generalize upd (upd H9 pp (.lst [.str (sL [97]), .str (sL [98])])) t2 (.tup [.ref pf, .ref pm, .ref pp]) = H10 at lf1 lm1 lp1 B10 k10 ⊢
    obtain ⟨m1, m2⟩ := B8.apart npm
    clear nt2 lf npf k09 k08 k07 lw7 lw8 B7 B8 B9 k9 lm
    try dsimp only [tNext]
    -- the loop
    refine ⟨_, rfl, _, rfl, by omega, by omega, ?_⟩
    refine for_range (n := m) (fun i σ H1 => ∃ v10 v11 v12 v13 v14 v15 v16 : Option V, σ = [some (.ref b), some (.int (m : Nat)), some (.str lettersT), some (.ref pm), some (.str (sL stem)), some (.int at_), some (.int first), some (.int form), some (.ref pf), some (.ref pp), v10, v11, v12, v13, v14, v15, v16] ∧
      H1 pf = some (.lst (nmV ((List.range i).map (fnd stem at_ first)))) ∧ H1 pp = some (.lst (nmV (pairsL i))) ∧ H1 pm = some (.lst (nmV ws)) ∧ Box b L0 H1 ∧ Kp b L0 H H1) ⟨_, _, _, _, _, _, _, rfl, lf1, lp1, lm1, B10, k10⟩ ?_ ?_
    · rintro i σ H1 hi ⟨v10, v11, v12, v13, v14, v15, v16, rfl, lf, lp, lm, BB, kk⟩
      have hmod : (first + 7 * i) % 26 < 26 := Nat.mod_lt _ (by decide)
      -- letter
      refine ⟨_, rfl, _, rfl, _, rfl, _, _, rfl, rfl, .inl (by omega), _, _, rfl, rfl, _, _, rfl, rfl, pos_lit (by decide), ?_⟩
      refine ⟨_, _, 97 + (first + 7 * i) % 26, rfl, rfl, (by decide +kernel), ?_, ?_⟩
      · rw [show ((first : Int) + 7 * (0 + (i : Int))) % 26 = (((first + 7 * i) % 26 : Nat) : Int) from by omega]
        exact letter_at _ hmod
      refine ⟨_, rfl, _, rfl, _, _, rfl, rfl, ⟨by decide, by decide⟩, ?_⟩
      refine ⟨_, _, 97 + i / 26, rfl, rfl, (by decide +kernel), ?_, ?_⟩
      · rw [show (0 + (i : Int)) / 26 = ((i / 26 : Nat) : Int) from by omega]
        exact letter_at _ (by omega)
      refine ⟨_, rfl, _, _, rfl, rfl, .inr ⟨_, rfl, ?_⟩⟩
      have ec : decide ((25 : Int) < 0 + (i : Int)) = decide (25 < i) := by
        by_cases z : 25 < i
        · rw [decide_eq_true z, decide_eq_true (by omega)]
        · rw [decide_eq_false z, decide_eq_false (by omega)]
      have el := ltr_str first i (decide ((25 : Int) < 0 + (i : Int))) ec
      have ml : ({ cps := #[97 + (first + 7 * i) % 26] } : Str).length + (Txt.mul { cps := #[97 + i / 26] } (if decide ((25 : Int) < 0 + (i : Int)) = true then 1 else 0)).length ≤ sizeLine := by
        cases decide ((25 : Int) < 0 + (i : Int))
        · show 1 + 0 ≤ sizeLine
          decide
        · show 1 + 1 ≤ sizeLine
          decide
      refine ⟨_, _, rfl, rfl, PyProof.Rows.mulOk_of 16 1 (by show 1 ≤ 16; decide) (by split <;> decide) (by split <;> decide) (by decide) (by decide), _, _, rfl, rfl, ml, ?_⟩
      have el' : ({ cps := #[97 + (first + 7 * i) % 26] } : Str) ++ Txt.mul { cps := #[97 + i / 26] } (if decide ((25 : Int) < 0 + (i : Int)) = true then 1 else 0) = sL (ltr first i) := el
      try dsimp only [tNext]
      rw [el']
      clear el el' ml ec
      -- found.append(stem[:at] + letter + stem[at:])
      have l2 := ltr_len first i
      have l2' : (ltr first i).length ≤ 2 := by split at l2 <;> omega
      have lt4 : (stem.take at_).length ≤ 4 := by rw [List.length_take]; omega
      have ld4 : (stem.drop at_).length ≤ 4 := by rw [List.length_drop]; omega
      refine ⟨_, rfl, .inl ⟨rfl, _, SqL.of lf⟩, ?_⟩
      refine ⟨_, rfl, _, rfl, _, rfl, _, rfl, (by rw [sL_len, sizeLine_eq]; omega), ?_⟩
      rw [sL_lo stem at_ hat]
      refine ⟨_, rfl, _, _, rfl, rfl, (by rw [sL_len, sL_len, sizeLine_eq]; omega), ?_⟩
      refine ⟨_, rfl, _, rfl, _, rfl, _, rfl, (by rw [sL_len, sizeLine_eq]; omega), ?_⟩
      rw [sL_hi stem at_ hat, sL_add]
      refine ⟨_, _, rfl, rfl, (by rw [sL_len, sL_len, sizeLine_eq, List.length_append]; omega), ?_⟩
      rw [sL_add]
      refine ⟨pf, _, _, rfl, rfl, lf, small1000 (by rw [nmV_len, List.length_map, List.length_range]; omega), ?_⟩
      have lfn : (upd H1 pf (.lst (nmV ((List.range i).map (fnd stem at_ first)) ++ [V.str (sL ((stem.take at_ ++ ltr first i) ++ stem.drop at_))]))) pf = some (.lst (nmV ((List.range (i + 1)).map (fnd stem at_ first)))) := by
        rw [upd_same, nmV_snoc, List.range_succ, List.map_append]
        rfl
      have lpn : (upd H1 pf (.lst (nmV ((List.range i).map (fnd stem at_ first)) ++ [V.str (sL ((stem.take at_ ++ ltr first i) ++ stem.drop at_))]))) pp = some (.lst (nmV (pairsL i))) := by
        rw [upd_ne nfp.symm]
        exact lp
      have lmn : (upd H1 pf (.lst (nmV ((List.range i).map (fnd stem at_ first)) ++ [V.str (sL ((stem.take at_ ++ ltr first i) ++ stem.drop at_))]))) pm = some (.lst (nmV ws)) := by
        rw [upd_ne nmf]
        exact lm
      have BBn := BB.put (o := .lst (nmV ((List.range i).map (fnd stem at_ first)) ++ [V.str (sL ((stem.take at_ ++ ltr first i) ++ stem.drop at_))])) f1 f2
      have kkn : Kp b L0 H (upd H1 pf (.lst (nmV ((List.range i).map (fnd stem at_ first)) ++ [V.str (sL ((stem.take at_ ++ ltr first i) ++ stem.drop at_))]))) := Kp.new kk hf0
      generalize upd H1 pf (.lst (nmV ((List.range i).map (fnd stem at_ first)) ++ [V.str (sL ((stem.take at_ ++ ltr first i) ++ stem.drop at_))])) = H2 at lfn lpn lmn BBn kkn ⊢
      try dsimp only [tNext]
      -- pairs.extend([pairs[k] + 'a', pairs[k] + 'b'])
      obtain ⟨pa, ple⟩ := pairs_at i
      have b97 : (sL ((pairsL i).getD i [])).length + (sL [97]).length ≤ sizeLine := by rw [sL_len, sL_len, sizeLine_eq]; show _ + 1 ≤ _; omega
      have b98 : (sL ((pairsL i).getD i [])).length + (sL [98]).length ≤ sizeLine := by rw [sL_len, sL_len, sizeLine_eq]; show _ + 1 ≤ _; omega
      have pa' : atI (nmV (pairsL i)) (0 + (i : Int)) = some (V.str (sL ((pairsL i).getD i []))) := by
        rw [Int.zero_add]
        exact atI_nat pa
      refine ⟨_, rfl, .inl ⟨rfl, _, SqL.of lpn⟩, ?_⟩
      refine ⟨_, rfl, _, rfl, pp, _, _, _, rfl, rfl, SqL.of lpn, pa', _, _, rfl, rfl, b97, ?_⟩
      refine ⟨_, rfl, _, rfl, pp, _, _, _, rfl, rfl, SqL.of lpn, pa', _, _, rfl, rfl, b98, ?_⟩
      refine ⟨(by show 2 ≤ sizeLine; decide), fun q nq => ?_⟩
      rw [sL_add, sL_add]
      have nqf : q ≠ pf := fun z => by rw [z, lfn] at nq; cases nq
      have nqp : q ≠ pp := fun z => by rw [z, lpn] at nq; cases nq
      have nqm : q ≠ pm := fun z => by rw [z, lmn] at nq; cases nq
      refine ⟨pp, q, _, _, rfl, rfl, (by rw [upd_ne nqp.symm]; exact lpn), upd_same, (by rw [nmV_len, pairs_len, sizeLine_eq]; show 2 + 2 * i + 2 ≤ _; omega), ?_⟩
      refine ⟨_, _, _, _, _, _, _, rfl, ?_, ?_, ?_, (BBn.new nq).put p1 p2, Kp.new (Kp.new2 kkn nq) hp0⟩
      · rw [upd_ne nfp, upd_ne nqf.symm]
        exact lfn
      · rw [upd_same]
        unfold nmV
        rw [show pairsL (i + 1) = pairsL i ++ [(pairsL i).getD i [] ++ [97], (pairsL i).getD i [] ++ [98]] from rfl, List.map_append]
        rfl
      · rw [upd_ne nmp, upd_ne nqm.symm]
        exact lmn
    · rintro σ H1 ⟨v10, v11, v12, v13, v14, v15, v16, rfl, lf, lp, lm, BB, kk⟩
      clear lf1 lm1 lp1 B10 k10
      have fN := fnd_nms (stem := stem) (at_ := at_) (first := first) (m := m) l4 lows hm
      -- long
      refine ⟨⟨_, rfl⟩, _, rfl, by decide, by decide, fun D hD => ?_⟩
      obtain ⟨n1, n2⟩ := BB.apart hD
      refine lc_range (n := 5) (fun t H3 => ∃ cs : List Nat, H3 D = some (.lst (cs.map fun c => V.str (sL [c]))) ∧ cs.length = t ∧ lowC cs = true ∧ Box b L0 H3 ∧ Kp b L0 H1 H3) ⟨[], upd_same, rfl, rfl, BB.new hD, Kp.new2 (Kp.refl b L0 H1) hD⟩ ?_ ?_
      · rintro t H3 ht ⟨cs, e1, l1, a1, B3, k3⟩
        refine ⟨rfl, _, rfl, _, rfl, b, L0, 25, rfl, by decide, by decide +kernel, B3, fun d H4 a4 c4 B4 k4 => ?_⟩
        obtain ⟨dn, rfl⟩ : ∃ dn : Nat, d = dn := ⟨d.toNat, by omega⟩
        refine ⟨_, _, 97 + dn, rfl, rfl, (by decide +kernel), letter_at dn (by omega), _, k4 D _ n1 n2 e1, small1000 (by rw [List.length_map]; omega), cs ++ [97 + dn], ?_, by simp [l1], low_snoc a1 (by omega), B4.put n1 n2, ?_⟩
        · rw [upd_same, List.map_append]
          rfl
        · exact Kp.new (k3.trans k4) hD
      rintro H3 ⟨long, e1, l5, lows5, B3, k3⟩
      refine ⟨_, D, long.map (fun c => sL [c]), rfl, rfl, .inl (SqL.of (by rw [List.map_map]; exact e1)), letters_sum long (by omega), ?_⟩
      rw [glue_letters]
      have lf := k3 _ _ f1 f2 lf
      have lp := k3 _ _ p1 p2 lp
      have lm := k3 _ _ m1 m2 lm
      have kk := kk.trans k3
      clear e1 hD n1 n2 k3 BB
      try dsimp only [tNext]
      -- ends
      refine ⟨_, rfl, _, _, rfl, _, rfl, ?_, ?_, fun D hD => ?_⟩
      · split <;> omega
      · split <;> omega
      have en : (if (26 : Int) < (m : Int) then (26 : Int) else (m : Int)).toNat = min m 26 := by split <;> omega
      rw [en]
      refine lc_range (n := min m 26) (fun t H4 => H4 D = some (.lst (nmV ((List.range t).map (endL long first)))) ∧ Same H3 H4) ⟨upd_same, same_upd (Same.refl _) hD⟩ ?_ ?_
      · rintro t H4 ht ⟨e1, s4⟩
        have hmod : (first + 7 * t) % 26 < 26 := Nat.mod_lt _ (by decide)
        refine ⟨rfl, _, rfl, _, rfl, _, rfl, _, rfl, _, _, rfl, rfl, .inl (by omega), _, _, rfl, rfl, _, _, rfl, rfl, pos_lit (by decide), ?_⟩
        refine ⟨_, _, 97 + (first + 7 * t) % 26, rfl, rfl, (by decide +kernel), ?_, ?_⟩
        · rw [show ((first : Int) + 7 * (0 + (t : Int))) % 26 = (((first + 7 * t) % 26 : Nat) : Int) from by omega]
          exact letter_at _ hmod
        refine ⟨_, _, rfl, rfl, (by rw [sL_len, sizeLine_eq]; show _ + 1 ≤ _; omega), _, e1, small1000 (by rw [nmV_len, List.length_map, List.length_range]; omega), ?_, same_upd s4 hD⟩
        rw [upd_same, List.range_succ, List.map_append]
        unfold nmV
        rw [List.map_append]
        show some (HO.lst (_ ++ [V.str (sL long ++ sL [97 + (first + 7 * t) % 26])])) = _
        rw [sL_add]
        rfl
      rintro H4 ⟨le, s4⟩
      have lf := s4 _ _ lf
      have lp := s4 _ _ lp
      have lm := s4 _ _ lm
      have B4 := B3.same s4
      have kk : Kp b L0 H H4 := kk.trans fun a o _ _ e => s4 a o e
      clear s4 hD en B3
      try dsimp only [tNext]
      -- odd
      refine ⟨_, rfl, pm, rfl, ⟨_, SqL.of lm⟩, fun D2 hD2 => ?_⟩
      refine lc_list (K := K) (a := pm) (xs := nmV ws) (fun t H5 => H5 D2 = some (.lst (nmV ((ws.take t).filter (fun x => !((List.range m).map (fnd stem at_ first)).contains x)))) ∧ Same H4 H5) ⟨upd_same, same_upd (Same.refl _) hD2⟩ (fun t H5 _ ⟨_, s5⟩ => SqL.of (s5 _ _ lm)) ?_ ?_
      · rintro t x H5 hx ⟨e1, s5⟩
        obtain ⟨y, hy, rfl⟩ : ∃ y, ws[t]? = some y ∧ x = V.str (sL y) := by
          unfold nmV at hx
          rw [List.getElem?_map] at hx
          cases e : ws[t]? with
          | none => rw [e] at hx; cases hx
          | some z => rw [e] at hx; exact ⟨z, rfl, (Option.some.inj hx).symm⟩
        have tk : ws.take (t + 1) = ws.take t ++ [y] := by
          rw [List.take_add_one, hy]
          rfl
        refine ⟨rfl, _, rfl, _, rfl, pf, _, rfl, .inl (SqL.of (s5 _ _ lf)), rfl, flat_nm _, _, rfl, ?_⟩
        rw [inV_nm]
        have small : (nmV ((ws.take t).filter (fun x => !((List.range m).map (fnd stem at_ first)).contains x))).length < 1000 := by
          rw [nmV_len]
          have z1 := List.length_filter_le (fun x => !((List.range m).map (fnd stem at_ first)).contains x) (ws.take t)
          have z2 : (ws.take t).length ≤ 16 := by rw [List.length_take, hws.len]; omega
          omega
        refine ite2 (fun c0 => ?_) (fun c0 => ?_)
        · refine ⟨_, rfl, _, e1, small1000 (by omega), ?_, same_upd s5 hD2⟩
          rw [upd_same, tk, List.filter_append, nmV_snoc]
          have c1 : (!((List.range m).map (fnd stem at_ first)).contains y) = true := c0
          simp only [List.filter_cons, c1, if_true, List.filter_nil]
        · refine ⟨?_, s5⟩
          rw [tk, List.filter_append]
          have c1 : (!((List.range m).map (fnd stem at_ first)).contains y) = false := by simpa using c0
          simp only [List.filter_cons, c1, Bool.false_eq_true, if_false, List.filter_nil, List.append_nil]
          exact e1
      rintro H5 ⟨e1, s5⟩
      rw [show ws.take (nmV ws).length = ws from by rw [nmV_len]; exact List.take_of_length_le (Nat.le_refl _)] at e1
      have lf := s5 _ _ lf
      have lp := s5 _ _ lp
      have le := s5 _ _ le
      have B5 := B4.same s5
      have kk : Kp b L0 H H5 := kk.trans fun a o _ _ e => s5 a o e
      clear s5 hD2 lm B4
      generalize hod : ws.filter (fun x => !((List.range m).map (fnd stem at_ first)).contains x) = odd0 at e1
      refine ⟨_, rfl, D2, pf, _, _, rfl, rfl, e1, lf, ?_, fun po npo => ?_⟩
      · rw [nmV_len, nmV_len, List.length_map, List.length_range, ← hod, sizeLine_eq]
        have z1 := List.length_filter_le (fun x => !((List.range m).map (fnd stem at_ first)).contains x) ws
        have z2 := hws.len
        omega
      have lo : (upd H5 po (.lst (nmV odd0 ++ nmV ((List.range m).map (fnd stem at_ first))))) po = some (.lst (nmV (odd0 ++ (List.range m).map (fnd stem at_ first)))) := by
        rw [upd_same]
        unfold nmV
        rw [List.map_append]
      have s6 : Same H5 (upd H5 po (.lst (nmV odd0 ++ nmV ((List.range m).map (fnd stem at_ first))))) := same_upd (Same.refl _) npo
      have lf := s6 _ _ lf
      have lp := s6 _ _ lp
      have le := s6 _ _ le
      have B6 := B5.same s6
      have kk : Kp b L0 H (upd H5 po (.lst (nmV odd0 ++ nmV ((List.range m).map (fnd stem at_ first))))) := kk.trans fun a o _ _ e => s6 a o e
      generalize upd H5 po (.lst (nmV odd0 ++ nmV ((List.range m).map (fnd stem at_ first)))) = H6 at lo s6 lf lp le B6 kk ⊢
      clear s6 npo e1 B5
      try dsimp only [tNext]
      -- some
      refine ⟨_, rfl, _, rfl, _, rfl, _, rfl, (by show 2 ≤ sizeLine; decide), fun l2 nl2 => ?_⟩
      have s7 : Same H6 (upd H6 l2 (.lst [.ref D, .ref pf])) := same_upd (Same.refl _) nl2
      have ll2 : (upd H6 l2 (.lst [.ref D, .ref pf])) l2 = some (.lst [.ref D, .ref pf]) := upd_same
      have lf := s7 _ _ lf
      have lp := s7 _ _ lp
      have le := s7 _ _ le
      have lo := s7 _ _ lo
      have B7 := B6.same s7
      have kk : Kp b L0 H (upd H6 l2 (.lst [.ref D, .ref pf])) := kk.trans fun a o _ _ e => s7 a o e
      generalize upd H6 l2 (.lst [.ref D, .ref pf]) = H7 at ll2 s7 lf lp le lo B7 kk ⊢
      clear s7 nl2 B6
      have at2 : ∀ c : Bool, atI [V.ref D, V.ref pf] (if c = true then 1 else 0) = some (V.ref (if c = true then pf else D)) := fun c => by cases c <;> rfl
      refine ⟨_, rfl, _, _, rfl, rfl, .inr ⟨_, rfl, l2, _, _, _, rfl, rfl, SqL.of ll2, at2 _, ?_⟩⟩
      refine ⟨_, rfl, _, rfl, (by show 5 ≤ sizeLine; decide), fun ps nps => ?_⟩
      have s8 : Same H7 (upd H7 ps (.lst [.ref po, .ref pp, .ref (if decide ((26 : Int) < (m : Int)) = true then pf else D), .ref pf, .ref pf])) := same_upd (Same.refl _) nps
      have lps : (upd H7 ps (.lst [.ref po, .ref pp, .ref (if decide ((26 : Int) < (m : Int)) = true then pf else D), .ref pf, .ref pf])) ps = some (.lst [.ref po, .ref pp, .ref (if decide ((26 : Int) < (m : Int)) = true then pf else D), .ref pf, .ref pf]) := upd_same
      have lf := s8 _ _ lf
      have lp := s8 _ _ lp
      have le := s8 _ _ le
      have lo := s8 _ _ lo
      have B8 := B7.same s8
      have kk : Kp b L0 H (upd H7 ps (.lst [.ref po, .ref pp, .ref (if decide ((26 : Int) < (m : Int)) = true then pf else D), .ref pf, .ref pf])) := kk.trans fun a o _ _ e => s8 a o e
      generalize upd H7 ps (.lst [.ref po, .ref pp, .ref (if decide ((26 : Int) < (m : Int)) = true then pf else D), .ref pf, .ref pf]) = H8 at lps s8 lf lp le lo B8 kk ⊢
      clear s8 nps B7 ll2 at2
      try dsimp only [tNext]
      -- mixed(box, some[form][:many])
      have it : ∃ (la : Addr) (ls : List (List Nat)), atI [V.ref po, .ref pp, .ref (if decide ((26 : Int) < (m : Int)) = true then pf else D), .ref pf, .ref pf] form = some (.ref la) ∧ H8 la = some (.lst (nmV ls)) ∧ Nms (ls.take m) m := by
        have tkf : ((List.range m).map (fnd stem at_ first)).take m = (List.range m).map (fnd stem at_ first) := List.take_of_length_le (by simp)
        have fT : Nms (((List.range m).map (fnd stem at_ first)).take m) m := by rw [tkf]; exact fN
        rcases (by omega : form = 0 ∨ form = 1 ∨ form = 2 ∨ form = 3 ∨ form = 4) with rfl | rfl | rfl | rfl | rfl
        · refine ⟨po, _, rfl, lo, ?_⟩
          rw [← hod]
          exact odd_nms hws fN
        · exact ⟨pp, _, rfl, lp, pairs_nms m hm⟩
        · by_cases c : (26 : Int) < (m : Int)
          · refine ⟨pf, _, ?_, lf, fT⟩
            rw [decide_eq_true c]
            rfl
          · refine ⟨D, _, ?_, le, ?_⟩
            · rw [decide_eq_false c]
              rfl
            · rw [Nat.min_eq_left (by omega), List.take_of_length_le (by simp)]
              exact ends_nms l5 lows5 (by omega)
        · exact ⟨pf, _, rfl, lf, fT⟩
        · exact ⟨pf, _, rfl, lf, fT⟩
      obtain ⟨la, ls, ia, hla, nls⟩ := it
      refine ⟨_, rfl, _, rfl, _, rfl, ps, _, _, _, rfl, rfl, SqL.of lps, ia, _, rfl, _, rfl, la, _, rfl, SqL.of hla, fun p np => ?_⟩
      rw [cut_nm]
      have B9 := B8.new (o := .lst (nmV (ls.take m))) np
      refine ⟨b, L0, p, _, rfl, B9, .inl (SqL.of upd_same), (by rw [nmV_len, nls.len]; omega), fun r ys H9 nr perm er B10 k10 => ?_⟩
      obtain ⟨ns, rfl, pns⟩ := perm_nm perm
      have k9 := Kp.new2 (o := .lst (nmV (ls.take m))) kk np
      obtain ⟨r1, r2⟩ := B9.apart nr
      exact k r ns H9 (Kp.free k9 nr r1 r2) (nls.perm pns) er B10 (k9.trans k10)
end

/-- a rope as it stands: its tuple, two walkers, its length -/
abbrev Rp := Addr × (List Nat × List Nat × Int)
def rpV (r : Rp) : V := .ref r.1
structure RpAt (ws : List (List Nat)) (H : Hp) (r : Rp) : Prop where
  at_ : H r.1 = some (.tup [.str (sL r.2.1), .str (sL r.2.2.1), .int r.2.2.2])
  two : ∃ i j, i < ws.length ∧ j < ws.length ∧ i ≠ j ∧ r.2.1 = ws.getD i [] ∧ r.2.2.1 = ws.getD j []
  l0 : 0 ≤ r.2.2.2
  l1 : r.2.2.2 ≤ 100
structure WebAt (H : Hp) (p : Addr) (most : Nat) (ws : List (List Nat)) (rs : List Rp) : Prop where
  top : ∃ pw pr, H p = some (.tup [.ref pw, .ref pr]) ∧ H pw = some (.tup (nmV ws)) ∧ H pr = some (.tup (rs.map rpV))
  nm : Nms ws ws.length
  n1 : 1 ≤ ws.length
  n2 : ws.length ≤ most
  rn : rs.length < 2 * ws.length
  rp : ∀ r ∈ rs, RpAt ws H r
def spWeb : Sp := fun vs H Q _ => ∃ b L, ∃ most : Nat, vs = [.ref b, .int (most : Nat)] ∧ 1 ≤ most ∧ most ≤ 40 ∧ Box b L H ∧ ∀ p ws rs H', H p = none → WebAt H' p most ws rs → Box b L H' → Kp b L H H' → Q (.ref p) H'
structure TxtW (mg : Str → Option Value) : Prop where
  b_range : mg "range" = none
  b_len : mg "len" = none
  b_int : mg "int" = none
  b_tuple : mg "tuple" = none
theorem RpAt.kp {ws : List (List Nat)} {b L : Addr} {H H' : Hp} {r : Rp} (h : RpAt ws H r) (B : Box b L H) (k : Kp b L H H') : RpAt ws H' r := by
  obtain ⟨gs, now, seed, turn, B⟩ := B
  exact ⟨k _ _ (ne_of h.at_ B.dc (by intro z; cases z)) (ne_of h.at_ B.ls (by intro z; cases z)) h.at_, h.two, h.l0, h.l1⟩
theorem RpAt.same {ws : List (List Nat)} {H H' : Hp} {r : Rp} (h : RpAt ws H r) (s : Same H H') : RpAt ws H' r := ⟨s _ _ h.at_, h.two, h.l0, h.l1⟩
theorem RpAt.lst {ws : List (List Nat)} {H : Hp} {r : Rp} {p : Addr} {xs : List V} {o : HO} (h : RpAt ws H r) (l : H p = some (.lst xs)) : RpAt ws (upd H p o) r :=
  ⟨by rw [upd_ne (ne_of h.at_ l (by intro z; cases z))]; exact h.at_, h.two, h.l0, h.l1⟩
abbrev wN : List Str := ["_law_box_here", "_law_most", "_law_walkers", "_law_ropes", "_law_longest", "_law_turn", "_law_one", "_law_other"]
theorem scWeb : FnScope wN ["_law_box_here", "_law_most"] (defScope sWeb_) := ⟨rfl, rfl, rfl, by decide +kernel, rfl, by decide +kernel, by decide +kernel⟩
section
variable {P : Program} {w : World} {K : PySem.W.Frag} {mg : Str → Option Value} {base : Heap}
theorem ok_web {f : Addr} {fd : FuncData} (F : Fun K "_law_web" "_law_web" sWeb_ f fd) (T : TxtW mg) (cTake : Cal P w K mg base 1 "_law_take" ["_law_box_here", "_law_many"] spTake)
    (cNames : Cal P w K mg base 3 "_law_names" ["_law_box_here", "_law_many"] spNames) : FnOk P w K mg base CX0 4 f fd ["_law_box_here", "_law_most"] spWeb := by
  refine F.ok scWeb (fun vs H Q E h => ?_) (fun cdv A outer s H vs Q E hr h => ?_)
  · obtain ⟨b, L, m, rfl, _⟩ := h
    rfl
  · obtain ⟨b, L0, most, rfl, h1, h40, B, k⟩ := h
    have nd := scWeb.nd
    refine ⟨_, (pss_cons (ps_set (i := 2) nd rfl (.inl rfl) (pe_cal cNames (hr.mono (by decide)) (by rfl) (pa_cons (pv 0) (pa_cons (pe_op op_add pe_int (pe_cal cTake (hr.mono (by decide)) (by rfl) (pa_cons (pv 0) (pa_cons (pv 1) pa_nil)))) pa_nil))))
      (pss_cons (ps_par (i := 3) (j := 4) (by rfl) nd rfl rfl (by decide) rfl rfl (pa_cons (pe_lst pa_nil) (pa_cons (pe_ix ix_list (pe_lst (pa_cons pe_int (pa_cons pe_int (pa_cons pe_int (pa_cons pe_int (pa_cons pe_int pa_nil)))))) (pe_cal cTake (hr.mono (by decide)) (by rfl) (pa_cons (pv 0) (pa_cons pe_int pa_nil))) (fun _ _ => rfl)) pa_nil)) (by rfl))
      (pss_cons (ps_for PassesOwn.never rfl (pi_range1 (by rfl) T.b_range (pa_cons (pe_op op_mul (pe_cal cTake (hr.mono (by decide)) (by rfl) (pa_cons (pv 0) (pa_cons (pe_op op_mul pe_int (pe_callB call_len_seq (by rfl) T.b_len PySem.boot_len (pa_cons (pv 2) pa_nil))) pa_nil))) (pe_callTy call_int1 (by rfl) T.b_int (by decide +kernel) (pa_cons (pe_cmpR op_gt (pe_callB call_len_seq (by rfl) T.b_len PySem.boot_len (pa_cons (pv 2) pa_nil)) pe_int (nomark _)) pa_nil))) pa_nil)) (pg_name (i := 5) nd rfl (.inl rfl))
        (pss_cons (ps_set (i := 6) nd rfl (.inl rfl) (pe_cal cTake (hr.mono (by decide)) (by rfl) (pa_cons (pv 0) (pa_cons (pe_callB call_len_seq (by rfl) T.b_len PySem.boot_len (pa_cons (pv 2) pa_nil)) pa_nil))))
          (pss_cons (ps_set (i := 7) nd rfl (.inl rfl) (pe_op op_mod (pe_op op_add (pe_op op_add (pv 6) pe_int) (pe_cal cTake (hr.mono (by decide)) (by rfl) (pa_cons (pv 0) (pa_cons (pe_op op_sub (pe_callB call_len_seq (by rfl) T.b_len PySem.boot_len (pa_cons (pv 2) pa_nil)) pe_int) pa_nil)))) (pe_callB call_len_seq (by rfl) T.b_len PySem.boot_len (pa_cons (pv 2) pa_nil))))
          (pss_one (ps_expr (pe_bm PySem.F.plainAttrs_list PySem.F.slot_list_append PySem.F.type_list_append mt_append (pv 3) (pa_cons (pe_tup (pa_cons (pe_ix ix_list (pv 2) (pv 6) (fun _ _ => rfl)) (pa_cons (pe_ix ix_list (pv 2) (pv 7) (fun _ _ => rfl)) (pa_cons (pe_cal cTake (hr.mono (by decide)) (by rfl) (pa_cons (pv 0) (pa_cons (pv 4) pa_nil))) pa_nil)))) pa_nil)))))))
      (pss_one (ps_ret (pe_tup (pa_cons (pe_callTy call_tuple_of (by rfl) T.b_tuple (by decide +kernel) (pa_cons (pv 2) pa_nil)) (pa_cons (pe_callTy call_tuple_of (by rfl) T.b_tuple (by decide +kernel) (pa_cons (pv 3) pa_nil)) pa_nil)))))))), ?_⟩
    -- walkers
    refine ⟨_, rfl, _, rfl, _, rfl, b, L0, most, rfl, by omega, log_small (by omega) (by omega), B, fun d1 H1 a1 c1 B1 k1 => ?_⟩
    obtain ⟨dn, rfl⟩ : ∃ n : Nat, d1 = n := ⟨d1.toNat, by omega⟩
    have em : (1 + (dn : Int)) = ((1 + dn : Nat) : Int) := by omega
    refine ⟨_, _, rfl, rfl, b, L0, 1 + dn, (by show [V.ref b, V.int ((1 : Int) + dn)] = _; rw [em]), by omega, B1, fun pn ws H2 npn hws ln B2 k2 => ?_⟩
    have nl : ws.length = 1 + dn := hws.len
    obtain ⟨q1, q2⟩ := B1.apart npn
    have kk := k1.trans k2
    try dsimp only [tNext]
    -- ropes, longest
    refine ⟨(by show 0 ≤ sizeLine; decide), fun pr npr => ?_⟩
    have hr0 : H pr = none := Kp.free kk npr (B2.apart npr).1 (B2.apart npr).2
    obtain ⟨e1, e2⟩ := B2.apart npr
    have nnr : pn ≠ pr := fun z => by rw [z, npr] at ln; cases ln
    have ln3 : (upd H2 pr (.lst [])) pn = some (.lst (nmV ws)) := by rw [upd_ne nnr]; exact ln
    have lr3 : (upd H2 pr (.lst [])) pr = some (.lst (([] : List Rp).map rpV)) := upd_same
    have B3 := B2.new (o := .lst []) npr
    have k3 : Kp b L0 H (upd H2 pr (.lst [])) := Kp.new2 kk npr
    generalize upd H2 pr (.lst []) = H3 at ln3 lr3 B3 k3 ⊢
    refine ⟨(by show 5 ≤ sizeLine; decide), fun q nq => ?_⟩
    have s4 : Same H3 (upd H3 q (.lst [.int 2, .int 4, .int 4, .int 12, .int 101])) := same_upd (Same.refl _) nq
    have lq : (upd H3 q (.lst [.int 2, .int 4, .int 4, .int 12, .int 101])) q = some (.lst [.int 2, .int 4, .int 4, .int 12, .int 101]) := upd_same
    obtain ⟨y1, y2⟩ := B3.apart nq
    have ln4 := s4 _ _ ln3
    have lr4 := s4 _ _ lr3
    have B4 := B3.same s4
    have k4 : Kp b L0 H (upd H3 q (.lst [.int 2, .int 4, .int 4, .int 12, .int 101])) := k3.trans fun a o _ _ e => s4 a o e
    generalize upd H3 q (.lst [.int 2, .int 4, .int 4, .int 12, .int 101]) = H4 at lq ln4 lr4 B4 k4 ⊢
    refine ⟨_, rfl, b, L0, 5, rfl, by decide, by decide +kernel, B4, fun d5 H5 a5 c5 B5 k5 => ?_⟩
    have lq := k5 _ _ y1 y2 lq
    have ln5 := k5 _ _ q1 q2 ln4
    have lr5 := k5 _ _ e1 e2 lr4
    have kk := k4.trans k5
    have lg : ∃ g : Int, 2 ≤ g ∧ g ≤ 101 ∧ atI [V.int 2, .int 4, .int 4, .int 12, .int 101] d5 = some (.int g) := by
      rcases (by omega : d5 = 0 ∨ d5 = 1 ∨ d5 = 2 ∨ d5 = 3 ∨ d5 = 4) with rfl | rfl | rfl | rfl | rfl
      · exact ⟨2, by decide, by decide, rfl⟩
      · exact ⟨4, by decide, by decide, rfl⟩
      · exact ⟨4, by decide, by decide, rfl⟩
      · exact ⟨12, by decide, by decide, rfl⟩
      · exact ⟨101, by decide, by decide, rfl⟩
    obtain ⟨g, g2, g101, ig⟩ := lg
    refine ⟨q, _, _, _, rfl, rfl, SqL.of lq, ig, _, _, rfl, ?_⟩
    clear lq ig s4 nq
    try dsimp only [tNext]
    -- the loop
    have nl2 : (nmV ws).length = 1 + dn := by rw [nmV_len]; exact nl
    refine ⟨_, rfl, _, rfl, pn, _, rfl, .inl (SqL.of ln5), _, _, rfl, rfl, .inl (by omega), b, L0, _, rfl, by omega, log_small (by omega) (by omega), B5, fun d6 H6 a6 c6 B6 k6 => ?_⟩
    have ln6 := k6 _ _ q1 q2 ln5
    have lr6 := k6 _ _ e1 e2 lr5
    have kk := kk.trans k6
    refine ⟨_, rfl, pn, _, rfl, .inl (SqL.of ln6), _, _, rfl, rfl, .inr ⟨_, rfl, _, _, rfl, rfl, .inl (by omega), _, rfl, ?_, ?_, ?_⟩⟩
    · split <;> omega
    · split <;> omega
    refine for_range (fun i σ H1 => ∃ (v5 v6 v7 : Option V) (rs : List Rp), σ = [some (.ref b), some (.int (most : Nat)), some (.ref pn), some (.ref pr), some (.int g), v5, v6, v7] ∧ H1 pn = some (.lst (nmV ws)) ∧ H1 pr = some (.lst (rs.map rpV)) ∧ rs.length = i ∧ (∀ r ∈ rs, RpAt ws H1 r) ∧ Box b L0 H1 ∧ Kp b L0 H H1)
      ⟨_, _, _, [], rfl, ln6, lr6, rfl, (fun _ h => by cases h), B6, kk⟩ ?_ ?_
    · rintro i σ H7 hi ⟨v5, v6, v7, rs, rfl, ln, lr, rl, ra, BB, kk⟩
      have hn : 1 ≤ dn := by
        cases e : decide (((nmV ws).length : Int) > 1) with
        | true =>
          have := of_decide_eq_true e
          omega
        | false =>
          rw [e] at hi
          simp at hi
      have i80 : i < 80 := by
        split at hi <;> omega
      -- one
      refine ⟨_, rfl, _, rfl, pn, _, rfl, .inl (SqL.of ln), b, L0, _, rfl, by omega, log_small (by omega) (by omega), BB, fun x1 H8 a1 c1 B8 k8 => ?_⟩
      have ln := k8 _ _ q1 q2 ln
      have lr := k8 _ _ e1 e2 lr
      have ra : ∀ r ∈ rs, RpAt ws H8 r := fun r h => (ra r h).kp BB k8
      have kk := kk.trans k8
      obtain ⟨i1, rfl⟩ : ∃ n : Nat, x1 = n := ⟨x1.toNat, by omega⟩
      try dsimp only [tNext]
      -- other
      refine ⟨_, rfl, _, _, rfl, rfl, _, rfl, _, rfl, pn, _, rfl, .inl (SqL.of ln), _, _, rfl, rfl, b, L0, _, rfl, by omega, log_small (by omega) (by omega), B8, fun x2 H9 a2 c2 B9 k9 => ?_⟩
      have ln := k9 _ _ q1 q2 ln
      have lr := k9 _ _ e1 e2 lr
      have ra : ∀ r ∈ rs, RpAt ws H9 r := fun r h => (ra r h).kp B8 k9
      have kk := kk.trans k9
      obtain ⟨i2, rfl⟩ : ∃ n : Nat, x2 = n := ⟨x2.toNat, by omega⟩
      refine ⟨_, _, rfl, rfl, _, rfl, pn, _, rfl, .inl (SqL.of ln), _, _, rfl, rfl, by omega, ?_⟩
      have lt1 : i1 < 1 + dn := by omega
      have mm : ((i1 : Int) + 1 + (i2 : Int)) % ((nmV ws).length : Int) = (((i1 + 1 + i2) % (1 + dn) : Nat) : Int) := by
        rw [nl2]
        rfl
      have j2 : (i1 + 1 + i2) % (1 + dn) < 1 + dn := Nat.mod_lt _ (by omega)
      have ne : i1 ≠ (i1 + 1 + i2) % (1 + dn) := by
        by_cases z : i1 + 1 + i2 < 1 + dn
        · rw [Nat.mod_eq_of_lt z]
          omega
        · rw [Nat.mod_eq_sub_mod (by omega), Nat.mod_eq_of_lt (by omega)]
          omega
      have n1 : atI (nmV ws) (i1 : Int) = some (V.str (sL (ws.getD i1 []))) := by
        refine atI_nat ?_
        unfold nmV
        rw [List.getElem?_map, List.getD_eq_getElem?_getD, List.getElem?_eq_getElem (by omega)]
        rfl
      have n2 : atI (nmV ws) (((i1 : Int) + 1 + (i2 : Int)) % ((nmV ws).length : Int)) = some (V.str (sL (ws.getD ((i1 + 1 + i2) % (1 + dn)) []))) := by
        rw [mm]
        refine atI_nat ?_
        unfold nmV
        rw [List.getElem?_map, List.getD_eq_getElem?_getD, List.getElem?_eq_getElem (by omega)]
        rfl
      try dsimp only [tNext]
      -- ropes.append(..)
      refine ⟨_, rfl, .inl ⟨rfl, _, SqL.of lr⟩, ?_⟩
      refine ⟨_, rfl, _, rfl, pn, _, _, _, rfl, rfl, SqL.of ln, n1, _, rfl, _, rfl, pn, _, _, _, rfl, rfl, SqL.of ln, n2, _, rfl, _, rfl, b, L0, g, rfl, by omega, log_small (by omega) (by omega), B9, fun x3 G1 a3 c3 B10 k10 => ?_⟩
      have ln := k10 _ _ q1 q2 ln
      have lr := k10 _ _ e1 e2 lr
      have ra : ∀ r ∈ rs, RpAt ws G1 r := fun r h => (ra r h).kp B9 k10
      have kk := kk.trans k10
      refine ⟨(by show 3 ≤ sizeLine; decide), fun t nt => ?_⟩
      have s1 : Same G1 (upd G1 t (.tup [.str (sL (ws.getD i1 [])), .str (sL (ws.getD ((i1 + 1 + i2) % (1 + dn)) [])), .int x3])) := same_upd (Same.refl _) nt
      have lt : (upd G1 t (.tup [.str (sL (ws.getD i1 [])), .str (sL (ws.getD ((i1 + 1 + i2) % (1 + dn)) [])), .int x3])) t = some (.tup [.str (sL (ws.getD i1 [])), .str (sL (ws.getD ((i1 + 1 + i2) % (1 + dn)) [])), .int x3]) := upd_same
      have ln := s1 _ _ ln
      have lr := s1 _ _ lr
      have ra : ∀ r ∈ rs, RpAt ws (upd G1 t (.tup [.str (sL (ws.getD i1 [])), .str (sL (ws.getD ((i1 + 1 + i2) % (1 + dn)) [])), .int x3])) r := fun r h => (ra r h).same s1
      have B11 := B10.same s1
      have kk : Kp b L0 H (upd G1 t (.tup [.str (sL (ws.getD i1 [])), .str (sL (ws.getD ((i1 + 1 + i2) % (1 + dn)) [])), .int x3])) := kk.trans fun a o _ _ e => s1 a o e
      generalize upd G1 t (.tup [.str (sL (ws.getD i1 [])), .str (sL (ws.getD ((i1 + 1 + i2) % (1 + dn)) [])), .int x3]) = G2 at lt ln lr ra B11 kk ⊢
      have rp : RpAt ws G2 (t, (ws.getD i1 [], ws.getD ((i1 + 1 + i2) % (1 + dn)) [], x3)) := ⟨lt, ⟨i1, (i1 + 1 + i2) % (1 + dn), by omega, by omega, ne, rfl, rfl⟩, a3, by show x3 ≤ 100; omega⟩
      refine ⟨pr, _, _, rfl, rfl, lr, small1000 (by rw [List.length_map]; omega), ?_⟩
      refine ⟨_, _, _, rs ++ [(t, (ws.getD i1 [], ws.getD ((i1 + 1 + i2) % (1 + dn)) [], x3))], rfl, ?_, ?_, by simp [rl], fun r hr => ?_, B11.put e1 e2, Kp.new kk hr0⟩
      · rw [upd_ne nnr]
        exact ln
      · rw [upd_same, List.map_append]
        rfl
      · rcases List.mem_append.mp hr with h | h
        · exact (ra r h).lst lr
        · simp at h
          subst h
          exact rp.lst lr
    · rintro σ H7 ⟨v5, v6, v7, rs, rfl, ln, lr, rl, ra, BB, kk⟩
      refine ⟨_, rfl, pn, _, rfl, .inl ⟨SqL.of ln, fun tw ntw => ?_⟩⟩
      have s1 : Same H7 (upd H7 tw (.tup (nmV ws))) := same_upd (Same.refl _) ntw
      have ltw : (upd H7 tw (.tup (nmV ws))) tw = some (.tup (nmV ws)) := upd_same
      generalize upd H7 tw (.tup (nmV ws)) = H8 at s1 ltw ⊢
      refine ⟨_, rfl, pr, _, rfl, .inl ⟨SqL.of (s1 _ _ lr), fun tr ntr => ⟨(by show 2 ≤ sizeLine; decide), fun res nres => ?_⟩⟩⟩
      have s2 : Same H8 (upd H8 tr (.tup (rs.map rpV))) := same_upd (Same.refl _) ntr
      have s3 : Same (upd H8 tr (.tup (rs.map rpV))) (upd (upd H8 tr (.tup (rs.map rpV))) res (.tup [.ref tw, .ref tr])) := same_upd (Same.refl _) nres
      have S := s1.trans (s2.trans s3)
      have n7 : H7 res = none := (s1.trans s2).free nres
      obtain ⟨z1, z2⟩ := BB.apart n7
      refine k res ws rs _ (Kp.free kk n7 z1 z2) ⟨⟨tw, tr, upd_same, (s2.trans s3) _ _ ltw, s3 _ _ upd_same⟩, ?_, by omega, by omega, ?_, fun r h => (ra r h).same S⟩ (BB.same S) (kk.trans fun a o _ _ e => S a o e)
      · rw [nl]
        exact hws
      · rw [rl]
        split <;> omega
end

end Tg

namespace Tg
open PySem PySem.Spec PyProof.Rows L2 Ow
abbrev v_CT (K : PySem.W.Frag) : Addr := He.ga K "Tree"
abbrev v_CN (K : PySem.W.Frag) : Addr := He.ga K "NoWeb"
abbrev v_gN (K : PySem.W.Frag) : Addr := He.ma K (v_CN K) "__init__"
abbrev v_E1 (K : PySem.W.Frag) : Addr := He.ga K "NoGrove"
abbrev v_E2 (K : PySem.W.Frag) : Addr := He.ga K "NoMatch"
abbrev v_E3 (K : PySem.W.Frag) : Addr := He.ga K "NoText"
abbrev v_E4 (K : PySem.W.Frag) : Addr := He.ga K "NoTree"
abbrev v_C (K : PySem.W.Frag) : Addr := He.ga K "Web"
abbrev v_f1 (K : PySem.W.Frag) : Addr := He.ma K (v_C K) "__init__"
abbrev v_p2 (K : PySem.W.Frag) : Addr := He.ma K (v_C K) "walkers"
abbrev v_f2 (K : PySem.W.Frag) : Addr := Hh.rec1 K (v_p2 K) "property"
abbrev v_rs2 (K : PySem.W.Frag) : List Value := Hh.recRest K (v_p2 K) "property"
abbrev v_p3 (K : PySem.W.Frag) : Addr := He.ma K (v_C K) "ropes"
abbrev v_f3 (K : PySem.W.Frag) : Addr := Hh.rec1 K (v_p3 K) "property"
abbrev v_rs3 (K : PySem.W.Frag) : List Value := Hh.recRest K (v_p3 K) "property"
abbrev v_f4 (K : PySem.W.Frag) : Addr := He.ma K (v_C K) "__len__"
abbrev v_p5 (K : PySem.W.Frag) : Addr := He.ma K (v_CT K) "is_name"
abbrev v_f5 (K : PySem.W.Frag) : Addr := Hh.rec1 K (v_p5 K) "staticmethod"
abbrev v_rs5 (K : PySem.W.Frag) : List Value := Hh.recRest K (v_p5 K) "staticmethod"
abbrev v_f6 (K : PySem.W.Frag) : Addr := He.ga K "is_tuple_of_strings"
abbrev v_f7 (K : PySem.W.Frag) : Addr := He.ga K "is_rope"
abbrev v_f8 (K : PySem.W.Frag) : Addr := He.ga K "check_form_webs"
abbrev v_f9 (K : PySem.W.Frag) : Addr := He.ga K "check_walkers"
abbrev v_f10 (K : PySem.W.Frag) : Addr := He.ga K "check_ropes"
abbrev v_f11 (K : PySem.W.Frag) : Addr := He.ga K "is_less"
abbrev v_f12 (K : PySem.W.Frag) : Addr := He.ga K "ties_of"
abbrev v_f13 (K : PySem.W.Frag) : Addr := He.ga K "reaches_of"
abbrev v_f14 (K : PySem.W.Frag) : Addr := He.ga K "_law_box"
abbrev v_f15 (K : PySem.W.Frag) : Addr := He.ga K "_law_take"
abbrev v_f16 (K : PySem.W.Frag) : Addr := He.ga K "_law_mixed"
abbrev v_f17 (K : PySem.W.Frag) : Addr := He.ga K "_law_names"
abbrev v_f18 (K : PySem.W.Frag) : Addr := He.ga K "_law_web"
abbrev v_f19 (K : PySem.W.Frag) : Addr := He.ga K "_law_changed"
abbrev v_f20 (K : PySem.W.Frag) : Addr := He.ga K "_law_is_rope"
abbrev v_f21 (K : PySem.W.Frag) : Addr := He.ga K "_law_has_form"
abbrev v_f22 (K : PySem.W.Frag) : Addr := He.ga K "_law_due"
abbrev v_f23 (K : PySem.W.Frag) : Addr := He.ga K "_law_told"
abbrev v_f24 (K : PySem.W.Frag) : Addr := He.ga K "_law_spaced"
abbrev v_f25 (K : PySem.W.Frag) : Addr := He.ga K "_law_bent"
abbrev v_f26 (K : PySem.W.Frag) : Addr := He.ga K "law"
def exL0 (K : PySem.W.Frag) : List Bool := [decide (PySem.W.nsIn K mainGlobals "Web" = some (some (.ref (v_C K)))),
  decide (PySem.W.findIn K (.ref (v_C K)) "__init__" = some (some (.ref (v_f1 K)))),
  PySem.W.isFn K (.ref (v_f1 K)),
  decide (PySem.W.findIn K (.ref (v_C K)) "walkers" = some (some (.ref (v_p2 K)))),
  decide (PySem.W.specialIn K (.ref (v_p2 K)) "__get__" = some (some (.builtin "property.__get__"))),
  decide (PySem.W.takesIn K (.ref (v_p2 K)) = some true),
  Hh.recB K (v_p2 K) "property",
  decide (PySem.W.findIn K (.ref (v_C K)) "ropes" = some (some (.ref (v_p3 K)))),
  decide (PySem.W.specialIn K (.ref (v_p3 K)) "__get__" = some (some (.builtin "property.__get__"))),
  decide (PySem.W.takesIn K (.ref (v_p3 K)) = some true),
  Hh.recB K (v_p3 K) "property",
  decide (PySem.W.findIn K (.ref (v_C K)) "__len__" = some (some (.ref (v_f4 K)))),
  PySem.W.isFn K (.ref (v_f4 K)),
  Hh.getB K (v_CT K) "is_name" "staticmethod.__get__" (v_p5 K),
  decide (PySem.W.findIn K (.ref (v_CT K)) "is_name" = some (some (.ref (v_p5 K)))),
  decide (PySem.W.typeIn K (.ref (v_p5 K)) = some (.type "staticmethod")),
  decide (PySem.W.specialIn K (.ref (v_p5 K)) "__get__" = some (some (.builtin "staticmethod.__get__"))),
  decide (PySem.W.takesIn K (.ref (v_p5 K)) = some false),
  Hh.recB K (v_p5 K) "staticmethod",
  decide (PySem.W.nsIn K mainGlobals "is_tuple_of_strings" = some (some (.ref (v_f6 K)))),
  decide (PySem.W.nsIn K mainGlobals "is_rope" = some (some (.ref (v_f7 K)))),
  decide (PySem.W.nsIn K mainGlobals "check_form_webs" = some (some (.ref (v_f8 K)))),
  decide (PySem.W.nsIn K mainGlobals "check_walkers" = some (some (.ref (v_f9 K)))),
  decide (PySem.W.nsIn K mainGlobals "check_ropes" = some (some (.ref (v_f10 K)))),
  decide (PySem.W.nsIn K mainGlobals "is_less" = some (some (.ref (v_f11 K)))),
  decide (PySem.W.nsIn K mainGlobals "ties_of" = some (some (.ref (v_f12 K)))),
  decide (PySem.W.nsIn K mainGlobals "reaches_of" = some (some (.ref (v_f13 K)))),
  decide (PySem.W.nsIn K mainGlobals "_law_box" = some (some (.ref (v_f14 K)))),
  decide (PySem.W.nsIn K mainGlobals "_law_take" = some (some (.ref (v_f15 K)))),
  decide (PySem.W.nsIn K mainGlobals "_law_mixed" = some (some (.ref (v_f16 K))))]
def exL1 (K : PySem.W.Frag) : List Bool := [decide (PySem.W.nsIn K mainGlobals "_law_names" = some (some (.ref (v_f17 K)))),
  decide (PySem.W.nsIn K mainGlobals "_law_web" = some (some (.ref (v_f18 K)))),
  decide (PySem.W.nsIn K mainGlobals "_law_changed" = some (some (.ref (v_f19 K)))),
  decide (PySem.W.nsIn K mainGlobals "_law_is_rope" = some (some (.ref (v_f20 K)))),
  decide (PySem.W.nsIn K mainGlobals "_law_has_form" = some (some (.ref (v_f21 K)))),
  decide (PySem.W.nsIn K mainGlobals "_law_due" = some (some (.ref (v_f22 K)))),
  decide (PySem.W.nsIn K mainGlobals "_law_told" = some (some (.ref (v_f23 K)))),
  decide (PySem.W.nsIn K mainGlobals "_law_spaced" = some (some (.ref (v_f24 K)))),
  decide (PySem.W.nsIn K mainGlobals "_law_bent" = some (some (.ref (v_f25 K)))),
  decide (PySem.W.nsIn K mainGlobals "law" = some (some (.ref (v_f26 K)))),
  PySem.W.plainGet K (v_C K) Str.empty,
  PySem.W.hasDictIn K (v_C K),
  PySem.W.plainOver K (v_C K),
  decide (PySem.W.findIn K (.ref (v_C K)) "__setattr__" = some (some (.builtin "object.__setattr__"))),
  PySem.W.makesIn K (v_C K),
  PySem.W.keepIn K (.ref (v_C K)),
  decide (PySem.W.findIn K (.ref (v_C K)) "_walkers" = some none),
  decide (PySem.W.findIn K (.ref (v_C K)) "_ropes" = some none),
  decide (PySem.W.findIn K (.ref (v_C K)) "ties" = some none),
  decide (PySem.W.findIn K (.ref (v_C K)) "reaches" = some none),
  decide (PySem.W.findIn K (.ref (v_C K)) "_shape" = some none),
  decide (PySem.W.nsIn K mainGlobals "Tree" = some (some (.ref (v_CT K)))),
  PySem.W.readsIn K (v_CT K) (.type "type"),
  decide (PySem.W.specialIn K (.ref (v_CT K)) "__getattribute__" = some (some (.builtin "type.__getattribute__"))),
  Hh.intAt K "LONGEST_NAME" 6,
  Hh.intAt K "MOST_WALKERS" 6,
  decide (PySem.W.nsIn K mainGlobals "NoWeb" = some (some (.ref (v_CN K)))),
  decide (PySem.W.nsIn K mainGlobals "NoGrove" = some (some (.ref (v_E1 K)))),
  decide (PySem.W.nsIn K mainGlobals "NoMatch" = some (some (.ref (v_E2 K)))),
  decide (PySem.W.nsIn K mainGlobals "NoText" = some (some (.ref (v_E3 K))))]
def exL2 (K : PySem.W.Frag) : List Bool := [decide (PySem.W.nsIn K mainGlobals "NoTree" = some (some (.ref (v_E4 K)))),
  PySem.W.keepIn K (.ref (v_CN K)),
  Hh.excB K (v_CN K),
  decide (PySem.W.findIn K (.ref (v_CN K)) "__setattr__" = some (some (.builtin "object.__setattr__"))),
  decide (PySem.W.subIn K (.ref (v_CN K)) (.type "BaseException") = some true),
  decide (PySem.W.typeIn K (.ref (v_CN K)) = some (.type "type")),
  decide (PySem.W.findIn K (.ref (v_CN K)) "__getattribute__" = some (some (.builtin "BaseException.__getattribute__"))),
  decide (PySem.W.findIn K (.ref (v_CN K)) "__getattr__" = some none),
  PySem.W.hasDictIn K (v_CN K),
  decide (PySem.W.findIn K (.ref (v_CN K)) "__class__" = some (some (.builtin "object.__class__"))),
  decide (PySem.W.mroIn K (v_CN K) (.type "object") = some true),
  decide (PySem.W.findIn K (.ref (v_CN K)) "word" = some none),
  decide (PySem.W.findIn K (.ref (v_CN K)) "at" = some none),
  decide (PySem.W.findIn K (.ref (v_CN K)) "__init__" = some (some (.ref (v_gN K)))),
  decide (PySem.W.typeIn K (.ref (v_gN K)) = some (.type "function")),
  decide (PySem.W.specialIn K (.builtin "object.__class__") "__get__" = some (some (.builtin "getset_descriptor.__get__"))),
  decide (PySem.W.takesIn K (.builtin "object.__class__") = some true),
  decide (PySem.W.subIn K (.ref (v_CN K)) (.ref (v_CN K)) = some true),
  decide (PySem.W.kitAny K (.ref (v_CN K)) [.ref (v_E1 K), .ref (v_E2 K), .ref (v_E3 K), .ref (v_E4 K)] = some false),
  decide (PySem.W.nsIn K mainGlobals "isinstance" = some none),
  decide (PySem.W.nsIn K mainGlobals "tuple" = some none),
  decide (PySem.W.nsIn K mainGlobals "str" = some none),
  decide (PySem.W.nsIn K mainGlobals "int" = some none),
  decide (PySem.W.nsIn K mainGlobals "bool" = some none),
  decide (PySem.W.nsIn K mainGlobals "len" = some none),
  decide (PySem.W.nsIn K mainGlobals "all" = some none),
  decide (PySem.W.nsIn K mainGlobals "enumerate" = some none),
  decide (PySem.W.nsIn K mainGlobals "list" = some none),
  decide (PySem.W.nsIn K mainGlobals "range" = some none),
  decide (PySem.W.nsIn K mainGlobals "abs" = some none)]
def exL3 (K : PySem.W.Frag) : List Bool := [decide (PySem.W.nsIn K mainGlobals "min" = some none),
  decide (PySem.W.nsIn K mainGlobals "repr" = some none)]
def exK (K : PySem.W.Frag) : Bool := (exL0 K).all id && (exL1 K).all id && (exL2 K).all id && (exL3 K).all id
def dfs : List Hh.Df := [⟨v_f1, "__init__", "Web.__init__", inClass (top 38) 0⟩,
  ⟨v_f2, "walkers", "Web.walkers", inClass (top 38) 3⟩,
  ⟨v_f3, "ropes", "Web.ropes", inClass (top 38) 4⟩,
  ⟨v_f4, "__len__", "Web.__len__", inClass (top 38) 13⟩,
  ⟨v_f5, "is_name", "Tree.is_name", inClass (top 27) 1⟩,
  ⟨v_f6, "is_tuple_of_strings", "is_tuple_of_strings", top 20⟩,
  ⟨v_f7, "is_rope", "is_rope", top 30⟩,
  ⟨v_f8, "check_form", "check_form", top 31⟩,
  ⟨v_f9, "check_walkers", "check_walkers", top 33⟩,
  ⟨v_f10, "check_ropes", "check_ropes", top 34⟩,
  ⟨v_f11, "is_less", "is_less", top 35⟩,
  ⟨v_f12, "ties_of", "ties_of", top 36⟩,
  ⟨v_f13, "reaches_of", "reaches_of", top 37⟩,
  ⟨v_f14, "_law_box", "_law_box", top 40⟩,
  ⟨v_f15, "_law_take", "_law_take", top 41⟩,
  ⟨v_f16, "_law_mixed", "_law_mixed", top 42⟩,
  ⟨v_f17, "_law_names", "_law_names", top 43⟩,
  ⟨v_f18, "_law_web", "_law_web", top 44⟩,
  ⟨v_f19, "_law_changed", "_law_changed", top 45⟩,
  ⟨v_f20, "_law_is_rope", "_law_is_rope", top 46⟩,
  ⟨v_f21, "_law_has_form", "_law_has_form", top 47⟩,
  ⟨v_f22, "_law_due", "_law_due", top 48⟩,
  ⟨v_f23, "_law_told", "_law_told", top 49⟩,
  ⟨v_f24, "_law_spaced", "_law_spaced", top 50⟩,
  ⟨v_f25, "_law_bent", "_law_bent", top 51⟩,
  ⟨v_f26, "law", "law", top 52⟩,
  ⟨v_gN, "__init__", "NoWeb.__init__", inClass (top 7) 0⟩]
def names0 : List PySem.Str := ["_wall", "TowError", "BuildError", "UseError", "NoTree", "NoGrove", "NoWeb", "NoText", "NoMatch", "NoPlace", "NoWalker", "Length", "lowest", "Plan", "LONGEST_NAME", "MOST_PLACES", "is_tuple_of_strings", "check_form", "check_form_trees", "check_places", "mates_by_place", "in_place_order", "check_joined", "Tree", "MOST_WALKERS", "is_rope", "check_form_webs", "check_walkers", "check_ropes", "is_less"]
def names1 : List PySem.Str := ["ties_of", "reaches_of", "Web", "_law_box", "_law_take", "_law_mixed", "_law_names", "_law_web", "_law_changed", "_law_is_rope", "_law_has_form", "_law_due", "_law_told", "_law_spaced", "_law_bent"]
def names : List PySem.Str := names0 ++ names1
abbrev RR : PySem.W.OpenRow := PySem.W.OpenLaw.row PySem.Challenge.rw_towgrove_k19_values_that_are_webs
def adrs : List Addr := List.range 1000
abbrev hk : PySem.W.Hook := Hh.hook adrs exK dfs
theorem run (w : World) : HandSHeadRun.RunEq RR (PySem.W.view RR.prog [52]) hk (Hh.ob adrs exK dfs) 9000 names w := by
  intro os
  kernel_rfl
end Tg

namespace Ow
open PySem PySem.Spec PyProof.Rows L2
/-- walk_G over a head by facts -/
theorem walk_GE {l : PySem.W.OpenLaw} {n k : Nat} {q : Program} {loose : List Str} {XP : (Str → Option Value) → Heap → Prop} {YP : World → Heap → Prop} {d : DefRec} {x : Str}
    (hn : l.most = some n) (hn2 : n ≤ sizeLine) (hdf : d.params.defaults = []) (hr : Room k callerA)
    (F : ∀ (w : World) (mg : Str → Option Value) (fa : Addr) (h : Heap), YP w h → h.Ns mainGlobals mg → mg d.name = some (.ref fa) →
      ∃ (K : PySem.W.Frag) (fd : FuncData) (sp : Sp), K.In h ∧ (∀ (s : Shared) (u : Value), BindsTo s fd ⟨[u], []⟩ [(x, u)]) ∧
        (∀ (H : Hp) (a : Addr) (ns : List Int), ns.length ≤ n → SqL K H a (ns.map V.int) → sp [.ref a] H (fun v _ => v = .bl true) fun _ _ _ => False) ∧
        ∀ base : Heap, K.In base → base.Ns mainGlobals mg → FnOkG l.prog w K mg base CX0 k fa fd [x] sp) :
    PySem.W.WalkO q loose XP YP l.row.toRowW d [] (fun f vs => PySem.call f vs) := by
  refine Att.attach_call hn hdf fun w s0 s1 mg mb fa o pm cd doc a vs ns G Y ho hd hcd hmg hobj hints hlen hg => ?_
  obtain ⟨K, fd, sp, kx, hb, hsp, hF⟩ := F w mg fa _ Y G.T.g hmg
  exact call_G kx G.T.g G.T.b G.T.builtins G.T.nolimit hg hobj hints (Nat.le_trans hlen hn2) hr hF hb fun H _ hS => hsp H a ns hlen hS
end Ow

/-! x in t, x not in t: t a tuple of data of any depth; pairs of texts in a tuple of such pairs -/
namespace Ow
open PySem PySem.Spec PyProof.Rows L2
section
variable {X : Cx}
def rInT (K : PySem.W.Frag) (neg : Bool) : R2 := fun x y H Q => ∃ d ds, Dp K H x d ∧ Dp K H y (.tuple ds) ∧ SeqAt.shaped d = true ∧ SeqAt.shaped (.tuple ds) = true ∧ Q (.bl (if neg then !(ds.any fun z => PyData.eqv z d) else ds.any fun z => PyData.eqv z d)) H
theorem op_inT (hu : X.A.units + 65 < cLine) : OpR X (compareOp .In) (rInT X.K false) := by
  intro pins s σ H x y v u Q I rx ry h
  obtain ⟨d, ds, hd, he, sd, se, q⟩ := h
  obtain ⟨as, a1⟩ := Dp.reads I d x v hd rx
  obtain ⟨bs, b1⟩ := Dp.reads I (.tuple ds) y u he ry
  exact SeqAt.in_tuple_reads b1 a1 (SeqAt.canLay_of_shaped se) (SeqAt.canLay_of_shaped sd) (room_in_shaped sd hu) ⟨.bl _, H, I, rfl, q⟩
theorem op_notInT (hu : X.A.units + 65 < cLine) : OpR X (compareOp .NotIn) (rInT X.K true) := by
  intro pins s σ H x y v u Q I rx ry h
  obtain ⟨d, ds, hd, he, sd, se, q⟩ := h
  obtain ⟨as, a1⟩ := Dp.reads I d x v hd rx
  obtain ⟨bs, b1⟩ := Dp.reads I (.tuple ds) y u he ry
  exact SeqAt.notIn_tuple_reads b1 a1 (SeqAt.canLay_of_shaped se) (SeqAt.canLay_of_shaped sd) (room_in_shaped sd hu) ⟨.bl _, H, I, rfl, q⟩
theorem op_inTK (K : PySem.W.Frag) (hu : X.A.units + 65 < cLine) (hK : X.K = K := by rfl) : OpR X (compareOp .In) (rInT K false) := by
  rw [← hK]
  exact op_inT hu
/-- pairs of texts -/
def pD (p : Str × Str) : PyData := .tuple [.str p.1, .str p.2]
theorem pD_eqv (p q : Str × Str) : PyData.eqv (pD p) (pD q) = decide (p = q) := by
  obtain ⟨a, b⟩ := p
  obtain ⟨c, d⟩ := q
  simp only [pD, PyData.eqv, PyData.eqvAll]
  by_cases h1 : a = c <;> by_cases h2 : b = d <;> simp [h1, h2]
theorem pD_shaped {p : Str × Str} (h1 : PyData.strOk p.1 = true) (h2 : PyData.strOk p.2 = true) : SeqAt.shaped (pD p) = true := by simp [SeqAt.shaped, pD, PyData.canLay0, PyData.canLayAll0, PyData.depth, PyData.depthAll, h1, h2]
theorem pDs_shaped {es : List (Str × Str)} (h : ∀ p ∈ es, PyData.strOk p.1 = true ∧ PyData.strOk p.2 = true) : SeqAt.shaped (.tuple (es.map pD)) = true := by
  have z : PyData.canLayAll0 (es.map pD) = true ∧ PyData.depthAll (es.map pD) ≤ 1 := by
    induction es with
    | nil => exact ⟨rfl, by decide⟩
    | cons e es ih =>
      obtain ⟨z1, z2⟩ := ih fun p hp => h p (List.mem_cons_of_mem _ hp)
      obtain ⟨y1, y2⟩ := h e List.mem_cons_self
      refine ⟨?_, ?_⟩
      · simp [PyData.canLayAll0, z1, pD, PyData.canLay0, y1, y2]
      · simp [PyData.depthAll, pD, PyData.depth]
        omega
  have d : PyData.depthAll (es.map pD) + 1 ≤ 64 := by omega
  simp [SeqAt.shaped, PyData.canLay0, PyData.depth, z.1, d]
theorem pD_any (es : List (Str × Str)) (q : Str × Str) : ((es.map pD).any fun z => PyData.eqv z (pD q)) = decide (q ∈ es) := by
  induction es with
  | nil => rfl
  | cons e es ih =>
    simp only [List.map_cons, List.any_cons, ih, pD_eqv]
    by_cases h : e = q
    · subst h
      simp
    · have h2 : ¬ q = e := fun z => h z.symm
      simp [h, h2]
end
end Ow

/-! enumerate(xs) for a tuple, and for what is a list or a tuple -/
namespace Ow
open PySem PySem.Spec PyProof.Rows L2
set_option maxHeartbeats 1000000 in
theorem meets_en1 {v : Value} {o : Obj} {H : Heap → Prop} (B : Begins v o H) :
    Meets (Builtin.«enumerate.__new__» ⟨[.type "enumerate", v], []⟩)
      (fun _ R s => H s.heap ∧
        R (.ok (.ret (.ref (s.heap.push o).objs.size)))
          { s with heap := (s.heap.push o).push { cls := .type "enumerate", data := .fields #[.none, .bool false, .ref s.heap.objs.size, rawInt 0, .none, .none] } }) :=
  .of_wp fun prog w A R s ⟨hH, hR⟩ => by
    obtain ⟨hp, gg, dd, kk, oo⟩ := s
    have su := sub_enumerate
    have go : ∀ {A1 : Around} {E1 Q1 : Value → Shared → Prop}, Q1 (.ref hp.objs.size) ⟨hp.push o, gg, dd, kk, oo⟩ → wpAny (model prog w) A1 (pyIter v) Q1 E1 ⟨hp, gg, dd, kk, oo⟩ :=
      fun q => B.iter prog w _ _ ⟨hp, gg, dd, kk, oo⟩ _ hH q
    wp_walk using go
    refine wpAny_stack_any fun st => wpAny_pure ?_
    split
    · rename_i c _ _ _ _ _
      cases (c == Value.type "enumerate") <;> (wp_walk using go; exact ⟨_, rfl, hR⟩)
    · (wp_walk using go; exact ⟨_, rfl, hR⟩)
section
variable {prog : Program} {w : World} {A : Around} {E : Value → Shared → Prop} {s : Shared}
/-- the call enumerate(v): two new cells -/
theorem call_en1 {v : Value} {o : Obj} {H : Heap → Prop} {Q : Value → Shared → Prop} (B : Begins v o H) (hH : H s.heap)
    (q : ∀ g, IsEnum g (s.heap.objs.size + 1) s.heap.objs.size 0 .none → g.get? s.heap.objs.size = some o → g.objs.size = s.heap.objs.size + 2 →
      (∀ b z, s.heap.get? b = some z → g.get? b = some z) → Q (.ref (s.heap.objs.size + 1)) { s with heap := g }) :
    wpAny (model prog w) A (call (.type "enumerate") [v]) Q E s := by
  refine callType_new F.called_enumerate (by decide) (F.typeCall_enumerate_1 _) (F.newCall_enumerate_1 _)
    (fun ob => F.args_object_init_2 ob _) F.entry_enumerate_new (meets_en1 B) ⟨hH, ?_⟩
  have z1 : (s.heap.push o).objs.size = s.heap.objs.size + 1 := Heap.size_push ..
  show _ ∧ _
  rw [z1]
  have en : IsEnum ((s.heap.push o).push { cls := .type "enumerate", data := .fields #[.none, .bool false, .ref s.heap.objs.size, rawInt 0, .none, .none] })
      (s.heap.objs.size + 1) s.heap.objs.size 0 .none := by
    have y := Heap.get?_push_size (s.heap.push o) (o := { cls := .type "enumerate", data := .fields #[.none, .bool false, .ref s.heap.objs.size, rawInt 0, .none, .none] }) rfl
    rw [z1] at y
    exact y
  exact ⟨⟨_, en, rfl⟩, q _ en (Heap.get?_push_of_some _ (Heap.get?_push_size _ B.free)) (by rw [Heap.size_push, z1]) fun b z hb => Heap.get?_push_of_some _ (Heap.get?_push_of_some _ hb)⟩
end
/-- the tuple at a, its items by their places, each time in a new pair -/
def Itet (K : PySem.W.Frag) (a : Addr) : It :=
  ⟨fun i H => ∃ (l : List V) (y : V), SqT K H a l ∧ l[i]? = some y,
   fun i H v G => ∃ c y, v = .ref c ∧ H c = none ∧ G = upd H c (.tup [.int (i : Nat), y]) ∧ ∀ l, SqT K H a l → l[i]? = some y,
   fun i H => ∃ l : List V, SqT K H a l ∧ l.length ≤ i⟩
theorem turn_enT {P : Program} {w : World} {K : PySem.W.Frag} {elts : List Expr} {kk : Nat} {tpos : Pos} (a e it : Addr) :
    Turn P w K (.Tuple elts kk tpos) (Itet K a) [e, it] e (fun i h => (∃ old, IsEnum h e it ((i : Nat) : Int) old) ∧ h.IsTupleIter it a i ∧ e ≠ it) where
  mem := by simp
  obj := fun i h st b hb => by
    obtain ⟨⟨old, he⟩, ⟨o, ho, _, hd⟩, _⟩ := st
    rcases (by simpa using hb : b = e ∨ b = it) with rfl | rfl
    · exact ⟨_, he, fun v q => nomatch q⟩
    · exact ⟨o, ho, fun v q => by rw [hd] at q; cases q⟩
  keep := fun i h g st k => let ⟨⟨old, he⟩, hi, ne⟩ := st; ⟨⟨old, k e (by simp) _ he⟩, hi.at fun o q => k it (by simp) o q, ne⟩
  item := by
    intro X hP hw hK hc i pins s σ H E I hf st hg
    subst hP hw hK
    obtain ⟨⟨old, he⟩, hit, ne⟩ := st
    obtain ⟨l, y, hq, hy⟩ := hg
    obtain ⟨its, rv, p, hz⟩ := I.tuple hq
    obtain ⟨u, hu, ru⟩ := rv.get hy
    have pt : s.heap.IsTuple a its.toArray := p
    have ll := rv.length
    have e_lt : e < s.heap.objs.size := Heap.lt_size he
    have i_lt : it < s.heap.objs.size := by
      obtain ⟨_, q, _⟩ := hit
      exact Heap.lt_size q
    have ai : a ≠ it := fun z => by
      obtain ⟨o1, h1, c1, _⟩ := hit
      obtain ⟨o2, h2, c2, _⟩ := pt
      rw [z, h1] at h2
      cases h2
      rw [c1] at c2
      exact absurd c2 (by decide)
    have ae : e ∉ [it, a] := by
      intro hm
      rcases (by simpa using hm : e = it ∨ e = a) with z | z
      · exact ne z
      · subst z
        obtain ⟨o2, h2, c2, _⟩ := pt
        rw [he] at h2
        cases h2
        have c3 : Value.type "enumerate" = Value.type "tuple" := c2
        injection c3 with c4
        exact absurd c4 (by decide)
    have i_lt2 : i < its.toArray.size := by
      have h1 : i < l.length := (List.getElem?_eq_some_iff.mp hy).1
      simp
      omega
    refine wpAny_pyNext_enum_itemD (Draws.tuple (prog := X.prog) (w := X.w) (A := X.A.in1) (show X.A.in1.handled = none from I.ok.hd hc) it a ai its.toArray) he ⟨hit, pt⟩ i_lt2 ne ae fun x g tk hP ho hst hT hsz hk => ?_
    have ex : x = u := by
      have h2 : its.toArray[i]? = some u := by simpa using hu
      rw [h2] at hP
      exact (Option.some.inj hP).symm
    subst ex
    refine ⟨_, rfl, wpAny_letOwnedTupleGo_enum (s := { s with heap := g, toks := tk + 1 }) ho fun g2 he2 sb => ?_⟩
    have hT2 : g2.get? s.heap.objs.size = some { cls := .type "tuple", data := .seq #[.int i tk, x] } := (sb.2 _ (Nat.ne_of_gt e_lt)).trans hT
    have nw : ObjOk X.prog X.w (upd H s.heap.objs.size (.tup [.int (i : Nat), y])) g2 s.heap.objs.size (.tup [.int (i : Nat), y]) :=
      ⟨by show 2 ≤ sizeLine; decide, [.int i tk, x], .cons ⟨_, rfl⟩ (.cons ru .nil), ⟨_, hT2, rfl, _, rfl⟩⟩
    have J : Inv X pins σ (upd H s.heap.objs.size (.tup [.int (i : Nat), y])) { s with heap := g2, toks := tk + 1 } :=
      I.turnedNew (ch := [e, it]) (fun b ob hb q => (sb.2 b (fun z => hb (by simp [z]))).trans (hk b ob (fun z => hb (by simp [z])) (fun z => hb (by simp [z])) q)) hf (Nat.le_refl _) nw
    refine ⟨.ref s.heap.objs.size, _, J, rfl, ⟨_, y, rfl, I.hok.fresh (Nat.le_refl _), rfl, fun m hm => by rw [I.tuple_inj hm hq]; exact hy⟩, ⟨⟨x, ?_⟩, hst.1.at fun o q => (sb.2 it (Ne.symm ne)).trans q, ne⟩, fun b hb => ?_⟩
    · rw [show ((i + 1 : Nat) : Int) = (i : Int) + 1 from by omega]
      exact he2
    · have b_lt : b < s.heap.objs.size := by
        rcases (by simpa using hb : b = e ∨ b = it) with z | z
        · rw [z]; exact e_lt
        · rw [z]; exact i_lt
      rw [upd_ne (Nat.ne_of_lt b_lt)]
      exact (hf b hb).1
  done := by
    intro X hP hw hK hc i pins s σ H E I hf st hg
    subst hP hw hK
    obtain ⟨⟨old, he⟩, hit, ne⟩ := st
    obtain ⟨l, hq, hl⟩ := hg
    obtain ⟨its, rv, p, hz⟩ := I.tuple hq
    have pt : s.heap.IsTuple a its.toArray := p
    obtain ⟨f0, f1, f2, f3, f4, f5⟩ := hf it (by simp)
    have ll := rv.length
    have hx : its.toArray[i]? = none := by simp; omega
    have hT : s.TypeIs (.ref e) "enumerate" := ⟨_, he, rfl⟩
    unfold pyNext
    refine wpAny_bind (wpAny_attempt (wpAny_callSpecial?_slot (name := Str.ofString "__next__") hT F.slot_enumerate_next
      (wpAny_call_entry F.slot_enumerate_next hT F.entry_enumerate_next ?_ (F.args_enumerate_next_1 _))))
    show wpAny _ _ (field (.ref e) 2 >>= _) _ _ _
    refine wpAny_bind (wpAny_field he rfl (x := .ref it) rfl ?_)
    refine wpAny_bind (wpAny_nextOf_tuple_end (I.ok.hd hc) hit pt hx fun g x eb hx' => ?_)
    obtain ⟨o, ho, hcl⟩ := hx'
    refine wpAny_bind (wpAny_isInstance (T := "StopIteration") (b := true) ⟨o, ho, hcl⟩ isSubtype_stop ?_)
    exact wpAny_pure ⟨rfl, I.turned (t' := s.toks) (fun b o hb q => eb b o hb q) f0 f1 f3 f4 f5⟩
  self := fun A i s Q E st h => let ⟨⟨_, he⟩, _⟩ := st; wpAny_pyIter_enum he h
theorem walk_enT {K : PySem.W.Frag} {a : Addr} {xs : List V} : Walk (Itet K a) xs.length (fun H => SqT K H a xs) (YPair (fun i => some (.int (i : Nat))) (fun i => xs[i]?)) := by
  refine ⟨fun i _ hi q => ⟨xs, xs[i], q, by simp [hi]⟩, fun _ q => ⟨xs, q, Nat.le_refl _⟩, fun i H v G _ q y => ?_⟩
  obtain ⟨c, x, h1, h2, h3, h4⟩ := y
  exact ⟨c, .int (i : Nat), x, h1, h2, h3, rfl, h4 xs q⟩
def iEnA (K : PySem.W.Frag) (ta : TA) : TI := fun σ H R => ta σ H fun vs G => ∃ a l, vs = [.ref a] ∧ ((SqL K G a l ∧ R (Ite K a) G) ∨ (SqT K G a l ∧ R (Itet K a) G))
theorem pi_enA {X : Cx} {e : Expr} {ta : TA} {p pos tpos : Pos} {elts : List Expr} {kk : Nat} (hg : Gl X "enumerate") (hm : X.mg "enumerate" = none) (ha : PA X [e] ta) (hs : starEach [e] X.env = [(false, eval e X.env)] := by rfl) :
    PI X (.Tuple elts kk tpos) (.Call (.Name "enumerate" p) [e] [] pos) (iEnA X.K ta) := by
  refine ⟨fun pins s σ H R I h => ?_⟩
  refine Call_ (ld_blt I hg hm boot_enumerate (PyProof.Rows.callWith_type1 (thn (ha.run pos pins s σ H _ I h) fun us s1 ⟨vs, G, J, r1, q1⟩ => ?_) hs rfl))
  obtain ⟨a, l, ex, q1⟩ := q1
  subst ex
  cases r1 with
  | cons r rr =>
    cases rr
    cases r
    have fin : ∀ (g : Heap) (JJ : Inv X pins σ G { s1 with heap := g }), ∀ b ∈ [s1.heap.objs.size + 1, s1.heap.objs.size], s1.heap.objs.size ≤ b := by
      intro g JJ b hb
      rcases (by simpa using hb : b = s1.heap.objs.size + 1 ∨ b = s1.heap.objs.size) with z | z <;> omega
    rcases q1 with ⟨hq, q⟩ | ⟨hq, q⟩
    · obtain ⟨its, rv, p', hz⟩ := J.list hq
      refine call_enumerate_list p'.isList fun g he hit hsz hk => wpAny_pyIter_enum he ?_
      have J2 : Inv X pins σ G { s1 with heap := g } := J.kept (t' := s1.toks) hk
      refine ⟨s1.heap.objs.size + 1, [s1.heap.objs.size + 1, s1.heap.objs.size], _, _, G, rfl, J2, turn_enum a (s1.heap.objs.size + 1) s1.heap.objs.size, ⟨⟨.none, he⟩, hit, Nat.succ_ne_self _⟩, fun b hb => ?_, q⟩
      have hle := fin g J2 b hb
      exact J.fpOk hle (J.hok.fresh hle)
    · obtain ⟨its, rv, p', hz⟩ := J.tuple hq
      have pt : s1.heap.IsTuple a its.toArray := p'
      refine call_en1 (begins_tuple a its.toArray) pt fun g he hit hsz hk => wpAny_pyIter_enum he ?_
      have J2 : Inv X pins σ G { s1 with heap := g } := J.kept (t' := s1.toks) hk
      refine ⟨s1.heap.objs.size + 1, [s1.heap.objs.size + 1, s1.heap.objs.size], _, _, G, rfl, J2, turn_enT a (s1.heap.objs.size + 1) s1.heap.objs.size, ⟨⟨.none, he⟩, ⟨_, hit, rfl, rfl⟩, Nat.succ_ne_self _⟩, fun b hb => ?_, q⟩
      have hle := fin g J2 b hb
      exact J.fpOk hle (J.hok.fresh hle)
end Ow

/-! rules that name K for comprehensions; pairs of texts as they stand; the last one of equal pairs -/
namespace Ow
open PySem PySem.Spec PyProof.Rows L2
theorem _root_.L2.Room.units65 {k : Nat} {A : Around} (r : Room k A) : A.units + 65 < cLine := by
  have := r.un
  omega
section
variable {X : Cx}
theorem slA (K : PySem.W.Frag) (hK : X.K = K := by rfl) : SlR X (fun x lo hi H Q => rSlL K x lo hi H Q ∨ rSlT K x lo hi H Q) := by
  subst hK
  exact sl_list.or sl_tup
theorem slTK (K : PySem.W.Frag) (hK : X.K = K := by rfl) : SlR X (rSlT K) := by
  subst hK
  exact sl_tup
theorem op_notInAK (K : PySem.W.Frag) (hu : X.A.units + 65 < cLine) (hK : X.K = K := by rfl) : OpR X (compareOp .NotIn) (fun x y H Q => rNotInD K x y H Q ∨ rInT K true x y H Q) := by
  subst hK
  exact (op_notInD hu).or (op_notInT hu)
theorem op_inAK (K : PySem.W.Frag) (hu : X.A.units + 65 < cLine) (hK : X.K = K := by rfl) : OpR X (compareOp .In) (fun x y H Q => rInD K x y H Q ∨ rInT K false x y H Q) := by
  subst hK
  exact (op_inD hu).or (op_inT hu)
theorem pg_tupK (K : PySem.W.Frag) {pos : Pos} {es : List Expr} {k : Nat} {t : TGs} {n : Nat} (h : PGs X es t) (hc : X.calm = true := by rfl)
    (hn : (assignEach es X.env).length = n := by rfl) (hst : (assignEach es X.env).findIdx? (·.1) = none := by rfl) (hK : X.K = K := by rfl) : PG X (.Tuple es k pos) (gTup K n t) := by
  subst hK
  exact pg_tup hc h hn hst
end
/-- a pair of texts where it stands -/
abbrev Pl := Addr × Str × Str
def plV (r : Pl) : V := .ref r.1
structure PlAt (H : Hp) (r : Pl) : Prop where
  at_ : H r.1 = some (.tup [.str r.2.1, .str r.2.2])
  o1 : PyData.strOk r.2.1 = true
  o2 : PyData.strOk r.2.2 = true
theorem PlAt.same {H H' : Hp} {r : Pl} (h : PlAt H r) (s : Same H H') : PlAt H' r := ⟨s _ _ h.at_, h.o1, h.o2⟩
def plsD (rs : List Pl) : List PyData := (rs.map (·.2)).map pD
theorem PlAt.dp {K : PySem.W.Frag} {H : Hp} {r : Pl} (h : PlAt H r) : Dp K H (plV r) (pD r.2) := Dp.tup (SqT.of h.at_) (.cons (.str _) (.cons (.str _) .nil))
theorem pls_dp {K : PySem.W.Frag} {H : Hp} : ∀ {rs : List Pl}, (∀ r ∈ rs, PlAt H r) → DpAll K H (rs.map plV) (plsD rs)
  | [], _ => .nil
  | r :: rs, h => .cons (h r List.mem_cons_self).dp (pls_dp fun z hz => h z (List.mem_cons_of_mem _ hz))
theorem pls_lay {rs : List Pl} {H : Hp} (h : ∀ r ∈ rs, PlAt H r) : PyData.canLayAll0 (plsD rs) = true ∧ PyData.depthAll (plsD rs) ≤ 1 := by
  induction rs with
  | nil => exact ⟨rfl, by decide⟩
  | cons e es ih =>
    obtain ⟨z1, z2⟩ := ih fun p hp => h p (List.mem_cons_of_mem _ hp)
    have y1 := (h e List.mem_cons_self).o1
    have y2 := (h e List.mem_cons_self).o2
    refine ⟨?_, ?_⟩
    · show PyData.canLayAll0 (pD e.2 :: plsD es) = true
      simp [PyData.canLayAll0, z1, pD, PyData.canLay0, y1, y2]
    · show PyData.depthAll (pD e.2 :: plsD es) ≤ 1
      simp [PyData.depthAll, pD, PyData.depth]
      omega
theorem pls_shT {rs : List Pl} {H : Hp} (h : ∀ r ∈ rs, PlAt H r) : SeqAt.shaped (.tuple (plsD rs)) = true := by
  obtain ⟨z1, z2⟩ := pls_lay h
  have d : PyData.depthAll (plsD rs) + 1 ≤ 64 := by omega
  simp [SeqAt.shaped, PyData.canLay0, PyData.depth, z1, d]
theorem pls_shL {rs : List Pl} {H : Hp} (h : ∀ r ∈ rs, PlAt H r) : SeqAt.shaped (.list (plsD rs)) = true := by
  obtain ⟨z1, z2⟩ := pls_lay h
  have d : PyData.depthAll (plsD rs) + 1 ≤ 64 := by omega
  simp [SeqAt.shaped, PyData.canLay0, PyData.depth, z1, d]
theorem pls_sh1 {r : Pl} {H : Hp} (h : PlAt H r) : SeqAt.shaped (pD r.2) = true := pD_shaped h.o1 h.o2
def hasP (rs : List Pl) (q : Str × Str) : Bool := rs.any fun z => decide (z.2 = q)
theorem plsD_any (rs : List Pl) (q : Str × Str) : ((plsD rs).any fun z => PyData.eqv z (pD q)) = hasP rs q := by
  induction rs with
  | nil => rfl
  | cons e es ih =>
    show (PyData.eqv (pD e.2) (pD q) || (plsD es).any fun z => PyData.eqv z (pD q)) = (decide (e.2 = q) || hasP es q)
    rw [ih, pD_eqv]
/-- the pairs that do not come again -/
def lastOf : List Pl → List Pl
  | [] => []
  | r :: rs => if hasP rs r.2 then lastOf rs else r :: lastOf rs
theorem lastOf_mem : ∀ {rs : List Pl} {r : Pl}, r ∈ lastOf rs → r ∈ rs
  | [], _, h => h
  | e :: es, r, h => by
    unfold lastOf at h
    split at h
    · exact List.mem_cons_of_mem _ (lastOf_mem h)
    · rcases List.mem_cons.mp h with rfl | h
      · exact List.mem_cons_self
      · exact List.mem_cons_of_mem _ (lastOf_mem h)
theorem lastOf_len : ∀ rs : List Pl, (lastOf rs).length ≤ rs.length
  | [] => Nat.le_refl _
  | e :: es => by
    have := lastOf_len es
    unfold lastOf
    split
    · exact Nat.le_succ_of_le this
    · simpa using this
theorem lastOf_has : ∀ (rs : List Pl) (q : Str × Str), hasP (lastOf rs) q = hasP rs q
  | [], _ => rfl
  | e :: es, q => by
    have ih := lastOf_has es q
    unfold lastOf
    show _ = (decide (e.2 = q) || hasP es q)
    split
    · rename_i h
      rw [ih]
      by_cases c : e.2 = q
      · rw [← c, h]
        simp
      · simp [c]
    · show (decide (e.2 = q) || hasP (lastOf es) q) = _
      rw [ih]
theorem lastOf_twice : ∀ rs : List Pl, lastOf (lastOf rs) = lastOf rs
  | [] => rfl
  | e :: es => by
    have ih := lastOf_twice es
    by_cases c : hasP es e.2 = true
    · have z : lastOf (e :: es) = lastOf es := by
        show (if hasP es e.2 then _ else _) = _
        rw [c]
        rfl
      rw [z, ih]
    · have c' : hasP es e.2 = false := by simpa using c
      have z : lastOf (e :: es) = e :: lastOf es := by
        show (if hasP es e.2 then _ else _) = _
        rw [c']
        rfl
      rw [z]
      show (if hasP (lastOf es) e.2 then _ else _) = _
      rw [lastOf_has, c', ih]
      rfl
theorem cut_from {xs : List V} {i : Nat} {k : Int} (hk : k = ((i + 1 : Nat) : Int)) : cutV xs (some k) none = xs.drop (i + 1) := by
  subst hk
  unfold cutV
  rw [HT.sIx_nat, HT.sIx_none]
  by_cases h : i + 1 ≤ xs.length
  · rw [Nat.min_eq_left h, List.take_of_length_le (by rw [List.length_drop]; omega)]
  · rw [Nat.min_eq_right (by omega), List.drop_of_length_le (Nat.le_refl _), List.drop_of_length_le (by omega)]
    simp
theorem not_whole {xs : List V} {i : Nat} {k : Int} (hk : k = ((i + 1 : Nat) : Int)) (hi : i < xs.length) : ¬ (HT.sIx xs.length 0 (some k) = 0 ∧ HT.sIx xs.length xs.length none = xs.length) := by
  subst hk
  rw [HT.sIx_nat]
  rintro ⟨h, _⟩
  rw [Nat.min_eq_left (by omega)] at h
  cases h
theorem eqvAll_refl : ∀ rs : List Pl, PyData.eqvAll (plsD rs) (plsD rs) = true
  | [] => rfl
  | e :: es => by
    show (PyData.eqv (pD e.2) (pD e.2) && PyData.eqvAll (plsD es) (plsD es)) = true
    rw [eqvAll_refl es, pD_eqv]
    simp
end Ow

namespace Ow
open PySem PySem.Spec PyProof.Rows L2 ClX
/-- C.m is a staticmethod: its record at p, its def at g -/
structure SMet (K : PySem.W.Frag) (C : Addr) (mc : Value) (m : Str) (p g : Addr) : Prop where
  at_ : PySem.W.findCls K (.ref C) mc m = some (.get (.builtin "staticmethod.__get__") (.ref p) .none (.ref C))
  rc : ∃ rest, PySem.W.recIn K p "staticmethod" = some (.ref g :: rest)
  kp : PySem.W.keepIn K (.ref g) = true
/-- .. reached through an instance of C -/
structure SInst (K : PySem.W.Frag) (C : Addr) (m : Str) (p g : Addr) : Prop where
  pg : PySem.W.plainGet K C Str.empty = true
  ic : PySem.W.isClsIn K C = true
  at_ : PySem.W.findIn K (.ref C) m = some (some (.ref p))
  ty : PySem.W.typeIn K (.ref p) = some (.type "staticmethod")
  get : PySem.W.specialIn K (.ref p) "__get__" = some (some (.builtin "staticmethod.__get__"))
  tk : PySem.W.takesIn K (.ref p) = some false
  cp : PySem.W.copiedNames.contains m = false
  rc : ∃ rest, PySem.W.recIn K p "staticmethod" = some (.ref g :: rest)
  kp : PySem.W.keepIn K (.ref g) = true
theorem SInst.pgm {K : PySem.W.Frag} {C p g : Addr} {m : Str} (k : SInst K C m p g) : PySem.W.plainGet K C m = true := k.pg
section
variable {X : Cx} {pins : List (Addr × Obj)} {σ : L2.St} {H : Hp} {s : Shared} {a C p g : Addr} {mc : Value} {m : Str} {A : Around} {E : Value → Shared → Prop} {pl : Sem Bool} {Q : Value × List Value → Shared → Prop}
theorem getsm_ok (I : Inv X pins σ H s) (r : CRead X.K C mc) (k : SMet X.K C mc m p g) (h : ∀ s', Inv X pins σ H s' → Q (.ref g, []) s') : wpAny (model X.prog X.w) A (getMethod (.ref C) m pl) Q E s := by
  obtain ⟨rest, hp⟩ := k.rc
  refine PySem.W.method_cls I.kIn r.ga (PySem.W.cls_bind I.kIn r.rd k.at_ ?_)
  exact wpAny_call (PySem.W.sm_get (s := { s with toks := s.toks + 1 }) I.kIn hp (PySem.W.handed_on rfl (h _ (I.tok _))))
theorem getsim_ok {ox od : Obj} (I : Inv X pins σ H s) (J : PySem.W.InstAt s.heap a ox C (some od)) (hl : PySem.W.lookIn m od = some none) (k : SInst X.K C m p g) (h : ∀ s', Inv X pins σ H s' → Q (.ref g, []) s') :
    wpAny (model X.prog X.w) A (getMethod (.ref a) m pl) Q E s := by
  obtain ⟨rest, hp⟩ := k.rc
  have pgm := PySem.W.plainGet_of k.pgm
  refine PySem.W.method_usual (r := some (.ref p)) I.kIn J pgm.1 pgm.2 k.at_ ?_ ?_
  · have e := k.ty
    show ((PySem.W.typeIn X.K (.ref p)).any fun t => t != .type "function" && t != .type "method_descriptor" && t != .type "wrapper_descriptor") = true
    rw [e]
    first | rfl | decide +kernel
  · refine PySem.W.get_bind I.kIn J pgm.1 (find_cm k.ic k.at_ k.get k.tk k.cp hl) pgm.2 ?_
    exact wpAny_call (PySem.W.sm_get (s := { s with toks := s.toks + 1 }) I.kIn hp (PySem.W.handed_on rfl (h _ (I.tok _))))
end
section
variable {X : Cx} {CX : CXT} {k : Nat} {C p g : Addr} {mc : Value} {sp : Sp} {E : XK} {o e : Expr} {es : List Expr} {m : Str} {pos apos : Pos} {ta : TE} {t : TA} {pl : Sem Bool}
theorem run_R {pins : List (Addr × Obj)} {σ : L2.St} {H : Hp} {s : Shared} {Q : VK} {us : List Value} {vs : List V} (F : FnR X.prog X.w X.K X.mg X.base CX k g sp) (hr : Room k X.A) (hx : Passes CX X E) (I : Inv X pins σ H s) (r : Vals vs us) (h : sp vs H Q E) :
    wpAny (model X.prog X.w) X.A (call (.ref g) us) (EP X pins σ Q) X.xe s := wpAny_call (run_fnR F hr hx I r h)
/-- e.m(..), e the class at C, m a staticmethod of it -/
def tSMeth (C : Addr) (sp : Sp) (E : XK) (ta : TE) (t : TA) : TE := fun σ H Q => ta σ H fun x H1 => x = .ref C ∧ t σ H1 fun vs H2 => sp vs H2 Q E
theorem pe_smeth (he : PE X o ta) (r : CRead X.K C mc) (c : SMet X.K C mc m p g) (F : FnR X.prog X.w X.K X.mg X.base CX k g sp) (hr : Room k X.A) (hx : Passes CX X E) (ha : PA X (e :: es) t)
    (hst : starEach (e :: es) X.env = (false, eval e X.env) :: starEach es X.env := by rfl) (hpl : (backTo pos (starEach es X.env)).any (·.1) = false := by rfl)
    (ht : eval (.Call (.Attribute o m apos) (e :: es) [] pos) X.env = (do
      let ov ← eval o X.env
      standAt apos.atName
      let (fv, fst) ← holding [ov] (getMethod ov m pl)
      callWith pos fv fst (backTo pos (starEach (e :: es) X.env)) (backToKw pos (keywordEach [] X.env))) := by rfl) :
    PE X (.Call (.Attribute o m apos) (e :: es) [] pos) (tSMeth C sp E ta t) := by
  refine ⟨fun pins s σ H Q I h => ?_⟩
  refine PySem.W.methodCall_KW (pl := pl) (thn (he.run pins s σ H _ I h) fun u s1 ⟨x, H1, I1, rx, ex, q⟩ => ?_) ht
  subst ex
  cases (show u = Value.ref C from rx)
  refine getsm_ok I1 r c fun s2 I2 => ?_
  exact PySem.W.callWith_K (h₀ := X.base) (first := []) I.ok.mod.kin c.kp (thn (ha.run pos pins s2 σ H1 _ I2 q) fun us s3 ⟨vs, H2, I3, rv, q2⟩ => ⟨I3.kIn, run_R F hr hx I3 rv q2⟩) hst hpl
/-- .. through an instance -/
def tSMethI (C : Addr) (m : Str) (sp : Sp) (E : XK) (ta : TE) (t : TA) : TE := fun σ H Q => ta σ H fun x H1 => ∃ a dx fs, x = .ref a ∧ H1 a = some (.ins C dx fs) ∧ fs.lookup m = none ∧ t σ H1 fun vs H2 => sp vs H2 Q E
theorem pe_smethI (he : PE X o ta) (c : SInst X.K C m p g) (F : FnR X.prog X.w X.K X.mg X.base CX k g sp) (hr : Room k X.A) (hx : Passes CX X E) (ha : PA X (e :: es) t)
    (hst : starEach (e :: es) X.env = (false, eval e X.env) :: starEach es X.env := by rfl) (hpl : (backTo pos (starEach es X.env)).any (·.1) = false := by rfl)
    (ht : eval (.Call (.Attribute o m apos) (e :: es) [] pos) X.env = (do
      let ov ← eval o X.env
      standAt apos.atName
      let (fv, fst) ← holding [ov] (getMethod ov m pl)
      callWith pos fv fst (backTo pos (starEach (e :: es) X.env)) (backToKw pos (keywordEach [] X.env))) := by rfl) :
    PE X (.Call (.Attribute o m apos) (e :: es) [] pos) (tSMethI C m sp E ta t) := by
  refine ⟨fun pins s σ H Q I h => ?_⟩
  refine PySem.W.methodCall_KW (pl := pl) (thn (he.run pins s σ H _ I h) fun u s1 ⟨x, H1, I1, rx, a, dx, fs, ex, ea, l, q⟩ => ?_) ht
  subst ex
  cases (show u = Value.ref a from rx)
  obtain ⟨mA, O, rr, _⟩ := ins_get I1.hok ea
  have hn : mA m = none := RelO.none_of (by rw [← l]; exact rr m)
  obtain ⟨od, J, hl⟩ := O.look
  refine getsim_ok I1 J (by rw [hl m, hn]) c fun s2 I2 => ?_
  exact PySem.W.callWith_K (h₀ := X.base) (first := []) I.ok.mod.kin c.kp (thn (ha.run pos pins s2 σ H1 _ I2 q) fun us s3 ⟨vs, H2, I3, rv, q2⟩ => ⟨I3.kIn, run_R F hr hx I3 rv q2⟩) hst hpl
end
end Ow

/-! any value: None, truth values, ints, texts, tuples of such, as it stands in the heap; its depth and its bulk -/
namespace Ow
open PySem PySem.Spec PyProof.Rows L2
mutual
def Vd (H : Hp) : PyData → V → Prop
  | .none, v => v = .non
  | .bool b, v => v = .bl b
  | .int i, v => v = .int i
  | .str x, v => v = .str x
  | .tuple ds, v => ∃ a xs, v = .ref a ∧ H a = some (.tup xs) ∧ VdA H ds xs
  | .list _, _ => False
  | .dict _, _ => False
def VdA (H : Hp) : List PyData → List V → Prop
  | [], xs => xs = []
  | d :: ds, xs => ∃ x r, xs = x :: r ∧ Vd H d x ∧ VdA H ds r
end
def TupKept (H H' : Hp) : Prop := ∀ a xs, H a = some (.tup xs) → H' a = some (.tup xs)
theorem TupKept.refl (H : Hp) : TupKept H H := fun _ _ h => h
theorem TupKept.trans {H H1 H2 : Hp} (x : TupKept H H1) (y : TupKept H1 H2) : TupKept H H2 := fun a xs e => y a xs (x a xs e)
theorem _root_.L2.Same.tkept {H H' : Hp} (s : Same H H') : TupKept H H' := fun a xs e => s a _ e
theorem tkept_lst {H : Hp} {p : Addr} {xs : List V} {o : HO} (e : H p = some (.lst xs)) : TupKept H (upd H p o) := fun a ys ea => by
  rw [upd_ne (ne_of ea e (by intro z; cases z))]
  exact ea
mutual
theorem Vd.keep {H H' : Hp} (s : TupKept H H') : ∀ {d : PyData} {v : V}, Vd H d v → Vd H' d v
  | .none, _, h => h
  | .bool _, _, h => h
  | .int _, _, h => h
  | .str _, _, h => h
  | .tuple ds, v, h => by
    unfold Vd at h ⊢
    obtain ⟨a, xs, e, ea, hs⟩ := h
    exact ⟨a, xs, e, s _ _ ea, VdA.keep s hs⟩
  | .list _, _, h => h
  | .dict _, _, h => h
theorem VdA.keep {H H' : Hp} (s : TupKept H H') : ∀ {ds : List PyData} {xs : List V}, VdA H ds xs → VdA H' ds xs
  | [], _, h => h
  | d :: ds, xs, h => by
    unfold VdA at h ⊢
    obtain ⟨x, r, e, h1, h2⟩ := h
    exact ⟨x, r, e, Vd.keep s h1, VdA.keep s h2⟩
end
mutual
theorem Vd.dp {K : PySem.W.Frag} {H : Hp} : ∀ {d : PyData} {v : V}, Vd H d v → Dp K H v d
  | .none, _, h => by unfold Vd at h; subst h; exact .non
  | .bool _, _, h => by unfold Vd at h; subst h; exact .bl _
  | .int _, _, h => by unfold Vd at h; subst h; exact .int _
  | .str _, _, h => by unfold Vd at h; subst h; exact .str _
  | .tuple ds, v, h => by
    unfold Vd at h
    obtain ⟨a, xs, e, ea, hs⟩ := h
    subst e
    exact .tup (SqT.of ea) (VdA.dp hs)
  | .list _, _, h => by unfold Vd at h; exact h.elim
  | .dict _, _, h => by unfold Vd at h; exact h.elim
theorem VdA.dp {K : PySem.W.Frag} {H : Hp} : ∀ {ds : List PyData} {xs : List V}, VdA H ds xs → DpAll K H xs ds
  | [], _, h => by unfold VdA at h; subst h; exact .nil
  | d :: ds, xs, h => by
    unfold VdA at h
    obtain ⟨x, r, e, h1, h2⟩ := h
    subst e
    exact .cons (Vd.dp h1) (VdA.dp h2)
end
theorem VdA.len {H : Hp} : ∀ {ds : List PyData} {xs : List V}, VdA H ds xs → xs.length = ds.length
  | [], _, h => by unfold VdA at h; subst h; rfl
  | d :: ds, xs, h => by
    unfold VdA at h
    obtain ⟨x, r, e, h1, h2⟩ := h
    subst e
    rw [List.length_cons, List.length_cons, VdA.len h2]
theorem VdA.at_ {H : Hp} : ∀ {ds : List PyData} {xs : List V} {i : Nat}, VdA H ds xs → i < ds.length → ∃ d x, ds[i]? = some d ∧ xs[i]? = some x ∧ Vd H d x
  | [], _, _, _, hi => by simp at hi
  | d :: ds, xs, i, h, hi => by
    unfold VdA at h
    obtain ⟨x, r, e, h1, h2⟩ := h
    subst e
    cases i with
    | zero => exact ⟨d, x, rfl, rfl, h1⟩
    | succ i => simpa using VdA.at_ (i := i) h2 (by simpa using hi)
theorem VdA.cons {H : Hp} {d : PyData} {x : V} {ds : List PyData} {xs : List V} (h : Vd H d x) (hs : VdA H ds xs) : VdA H (d :: ds) (x :: xs) := by
  unfold VdA
  exact ⟨x, xs, rfl, h, hs⟩
theorem VdA.nil {H : Hp} : VdA H [] [] := by unfold VdA; rfl
theorem VdA.one {H : Hp} {d : PyData} {x : V} (h : Vd H d x) : VdA H [d] [x] := VdA.cons h VdA.nil
theorem VdA.uncons {H : Hp} {d : PyData} {ds : List PyData} {xs : List V} (h : VdA H (d :: ds) xs) : ∃ x r, xs = x :: r ∧ Vd H d x ∧ VdA H ds r := by
  unfold VdA at h
  exact h
theorem VdA.app {H : Hp} : ∀ {ds : List PyData} {xs : List V} {es : List PyData} {ys : List V}, VdA H ds xs → VdA H es ys → VdA H (ds ++ es) (xs ++ ys)
  | [], _, _, _, h, h2 => by unfold VdA at h; subst h; exact h2
  | d :: ds, xs, es, ys, h, h2 => by
    obtain ⟨x, r, e, h1, h3⟩ := h.uncons
    subst e
    exact VdA.cons h1 (VdA.app h3 h2)
theorem VdA.take {H : Hp} : ∀ (n : Nat) {ds : List PyData} {xs : List V}, VdA H ds xs → VdA H (ds.take n) (xs.take n)
  | 0, _, _, _ => by simpa using VdA.nil
  | n + 1, [], _, h => by unfold VdA at h; subst h; simpa using VdA.nil
  | n + 1, d :: ds, xs, h => by
    obtain ⟨x, r, e, h1, h3⟩ := h.uncons
    subst e
    exact VdA.cons h1 (VdA.take n h3)
theorem VdA.drop {H : Hp} : ∀ (n : Nat) {ds : List PyData} {xs : List V}, VdA H ds xs → VdA H (ds.drop n) (xs.drop n)
  | 0, _, _, h => h
  | n + 1, [], _, h => by unfold VdA at h; subst h; simpa using VdA.nil
  | n + 1, d :: ds, xs, h => by
    obtain ⟨x, r, e, h1, h3⟩ := h.uncons
    subst e
    exact VdA.drop n h3
/-- the type's name -/
def tyOf : PyData → String
  | .none => "NoneType"
  | .bool _ => "bool"
  | .int _ => "int"
  | .str _ => "str"
  | .list _ => "list"
  | .tuple _ => "tuple"
  | .dict _ => "dict"
theorem Vd.ty {K : PySem.W.Frag} {H : Hp} {d : PyData} {v : V} (h : Vd H d v) : TyX K H v (.type (tyOf d)) := by
  cases d with
  | none => unfold Vd at h; subst h; exact .base .non
  | bool b => unfold Vd at h; subst h; exact .base (.bl b)
  | int i => unfold Vd at h; subst h; exact .base (.int i)
  | str x => unfold Vd at h; subst h; exact .base (.str x)
  | tuple ds =>
    unfold Vd at h
    obtain ⟨a, xs, e, ea, hs⟩ := h
    subst e
    exact .base (.tup ea)
  | list _ => unfold Vd at h; exact h.elim
  | dict _ => unfold Vd at h; exact h.elim
theorem Vd.tup {H : Hp} {ds : List PyData} {v : V} (h : Vd H (.tuple ds) v) : ∃ a xs, v = .ref a ∧ H a = some (.tup xs) ∧ VdA H ds xs := by
  unfold Vd at h
  exact h
theorem Vd.ofTup {H : Hp} {ds : List PyData} {a : Addr} {xs : List V} (e : H a = some (.tup xs)) (h : VdA H ds xs) : Vd H (.tuple ds) (.ref a) := by
  unfold Vd
  exact ⟨a, xs, rfl, e, h⟩
theorem Vd.str {H : Hp} {x : Str} {v : V} (h : Vd H (.str x) v) : v = .str x := by unfold Vd at h; exact h
theorem Vd.int {H : Hp} {i : Int} {v : V} (h : Vd H (.int i) v) : v = .int i := by unfold Vd at h; exact h
theorem Vd.mkStr {H : Hp} (x : Str) : Vd H (.str x) (.str x) := by unfold Vd; rfl
theorem Vd.mkInt {H : Hp} (i : Int) : Vd H (.int i) (.int i) := by unfold Vd; rfl
theorem Vd.mkBl {H : Hp} (b : Bool) : Vd H (.bool b) (.bl b) := by unfold Vd; rfl
theorem Vd.mkNon {H : Hp} : Vd H .none .non := by unfold Vd; rfl
/-! ### what fits -/
mutual
def gd : PyData → Bool
  | .none => true
  | .bool _ => true
  | .int i => decide (i.natAbs.log2 < 100)
  | .str x => PyData.strOk x
  | .tuple ds => gdA ds
  | .list _ => false
  | .dict _ => false
def gdA : List PyData → Bool
  | [] => true
  | d :: ds => gd d && gdA ds
end
mutual
def wt : PyData → Nat
  | .none => 10
  | .bool _ => 10
  | .int _ => 200
  | .str x => 10 * x.length + 10
  | .tuple ds => wtA ds + 10
  | .list _ => 0
  | .dict _ => 0
def wtA : List PyData → Nat
  | [] => 0
  | d :: ds => wt d + 2 + wtA ds
end
theorem gdA_iff : ∀ {ds : List PyData}, gdA ds = true ↔ ∀ d ∈ ds, gd d = true
  | [] => by simp [gdA]
  | d :: ds => by simp [gdA, gdA_iff (ds := ds)]
theorem wtA_app : ∀ (ds es : List PyData), wtA (ds ++ es) = wtA ds + wtA es
  | [], es => by simp [wtA]
  | d :: ds, es => by simp [wtA, wtA_app ds es]; omega
theorem wtA_mem : ∀ {ds : List PyData} {d : PyData}, d ∈ ds → wt d + 2 ≤ wtA ds
  | e :: es, d, h => by
    unfold wtA
    rcases List.mem_cons.mp h with rfl | h
    · omega
    · have := wtA_mem h
      omega
theorem wtA_len : ∀ ds : List PyData, 2 * ds.length ≤ wtA ds
  | [] => by simp
  | d :: ds => by
    have := wtA_len ds
    simp [wtA]
    omega
theorem wtA_sub : ∀ {es ds : List PyData}, es.Sublist ds → wtA es ≤ wtA ds
  | _, _, .slnil => Nat.le_refl _
  | _, _, .cons d h => by
    have := wtA_sub h
    simp [wtA]
    omega
  | _, _, .cons₂ d h => by
    have := wtA_sub h
    simp [wtA]
    omega
theorem depthA_mem {ds : List PyData} {d : PyData} (h : d ∈ ds) : d.depth ≤ PyData.depthAll ds := by
  induction ds with
  | nil => cases h
  | cons e es ih =>
    unfold PyData.depthAll
    rcases List.mem_cons.mp h with rfl | h
    · exact Nat.le_max_left _ _
    · exact Nat.le_trans (ih h) (Nat.le_max_right _ _)
theorem depthA_le {ds : List PyData} {n : Nat} (h : ∀ d ∈ ds, d.depth ≤ n) : PyData.depthAll ds ≤ n := by
  induction ds with
  | nil => exact Nat.zero_le _
  | cons e es ih =>
    unfold PyData.depthAll
    exact Nat.max_le.mpr ⟨h e List.mem_cons_self, ih fun d hd => h d (List.mem_cons_of_mem _ hd)⟩
structure Good (d : PyData) (n S : Nat) : Prop where
  gd : gd d = true
  dp : d.depth ≤ n
  wt : wt d ≤ S
theorem Good.mono {d : PyData} {n n' S S' : Nat} (h : Good d n S) (h1 : n ≤ n') (h2 : S ≤ S') : Good d n' S' := ⟨h.gd, Nat.le_trans h.dp h1, Nat.le_trans h.wt h2⟩
theorem Good.item {ds : List PyData} {d : PyData} {n S : Nat} (h : Good (.tuple ds) (n + 1) S) (hd : d ∈ ds) : Good d n S := by
  refine ⟨?_, ?_, ?_⟩
  · have := h.gd
    simp only [Ow.gd] at this
    exact gdA_iff.mp this d hd
  · have := h.dp
    unfold PyData.depth at this
    exact Nat.le_trans (depthA_mem hd) (Nat.le_of_succ_le_succ this)
  · have := h.wt
    unfold Ow.wt at this
    have := wtA_mem hd
    omega
theorem Good.dpos {ds : List PyData} {n S : Nat} (h : Good (.tuple ds) n S) : ∃ m, n = m + 1 := by
  have := h.dp
  unfold PyData.depth at this
  exact ⟨n - 1, by omega⟩
theorem Good.ofItems {ds : List PyData} {n S : Nat} (hd : ∀ d ∈ ds, Ow.gd d = true ∧ d.depth ≤ n) (hw : wtA ds + 10 ≤ S) : Good (.tuple ds) (n + 1) S := by
  refine ⟨?_, ?_, ?_⟩
  · simp only [Ow.gd]
    exact gdA_iff.mpr fun d h => (hd d h).1
  · unfold PyData.depth
    exact Nat.succ_le_succ (depthA_le fun d h => (hd d h).2)
  · unfold Ow.wt
    exact hw
theorem Good.lenS {ds : List PyData} {n S : Nat} (h : Good (.tuple ds) n S) : 2 * ds.length + 10 ≤ S := by
  have := h.wt
  unfold Ow.wt at this
  have := wtA_len ds
  omega
mutual
theorem gd_show : ∀ {d : PyData}, gd d = true → d.showable = true ∧ d.hasDict = false ∧ d.shown.length ≤ wt d ∧ d.canLay0 = true
  | .none, _ => ⟨rfl, rfl, by decide +kernel, rfl⟩
  | .bool b, _ => ⟨rfl, rfl, by cases b <;> decide +kernel, rfl⟩
  | .int i, h => by
    have h1 : i.natAbs.log2 < 100 := by simpa [gd] using h
    refine ⟨?_, rfl, ?_, ?_⟩
    · simp [PyData.showable]
      omega
    · have e := int_text_length_le (k := 100) (by decide) h1
      show (Str.ofString (toString i)).length ≤ 200
      rw [PySem.ofString_length]
      omega
    · simp [PyData.canLay0]
  | .str x, h => by
    have h1 : PyData.strOk x = true := by simpa [gd] using h
    refine ⟨rfl, rfl, ?_, by simpa [PyData.canLay0] using h1⟩
    show (reprText x).length ≤ 10 * x.length + 10
    have := StrLaws.reprText_len x (fun c hc => by
      have h2 := Array.all_eq_true'.mp (show x.cps.all (· < 0x110000) = true from h1) c (by simpa using hc)
      have : c < 1114112 := by simpa using h2
      have e : (16 : Nat) ^ 8 = 4294967296 := by decide
      omega)
    omega
  | .tuple ds, h => by
    have h1 : gdA ds = true := by simpa [gd] using h
    obtain ⟨a1, a2, a3, a4⟩ := gdA_show h1
    refine ⟨a1, a2, ?_, a4⟩
    show (tupleText (PyData.shownAll ds)).length ≤ wtA ds + 10
    have z := tupleText_len_le (PyData.shownAll ds)
    omega
  | .list _, h => by simp [gd] at h
  | .dict _, h => by simp [gd] at h
theorem gdA_show : ∀ {ds : List PyData}, gdA ds = true → PyData.showableAll ds = true ∧ PyData.hasDictAll ds = false ∧ ((PyData.shownAll ds).map (·.length)).sum + 2 * (PyData.shownAll ds).length ≤ wtA ds ∧ PyData.canLayAll0 ds = true
  | [], _ => ⟨rfl, rfl, by simp [PyData.shownAll], rfl⟩
  | d :: ds, h => by
    have h1 : gd d = true ∧ gdA ds = true := by simpa [gdA] using h
    obtain ⟨a1, a2, a3, a4⟩ := gd_show h1.1
    obtain ⟨b1, b2, b3, b4⟩ := gdA_show h1.2
    refine ⟨?_, ?_, ?_, ?_⟩
    · simp [PyData.showableAll, a1, b1]
    · simp [PyData.hasDictAll, a2, b2]
    · simp [PyData.shownAll, wtA]
      omega
    · simp [PyData.canLayAll0, a4, b4]
end
theorem Good.shaped {d : PyData} {n S : Nat} (h : Good d n S) (hn : n ≤ 64) : SeqAt.shaped d = true := by
  have z := (gd_show h.gd).2.2.2
  have y := h.dp
  have : d.depth ≤ 64 := by omega
  simp [SeqAt.shaped, z, this]
end Ow

namespace Ow
open PySem PySem.Spec PyProof.Rows L2
/-! slices and sums of tuples of any values -/
theorem slA_take {K : PySem.W.Frag} {H : Hp} {ds : List PyData} {v : V} {k : Nat} {Q : VK} (hv : Vd H (.tuple ds) v) (hk : k ≤ ds.length) (q : ∀ u G, Same H G → Vd G (.tuple (ds.take k)) u → Q u G) : rSlA K v none (some (k : Int)) H Q := by
  obtain ⟨a, xs, rfl, ea, hs⟩ := hv.tup
  have hl := hs.len
  have cu : cutV xs none (some (k : Int)) = xs.take k := by
    unfold cutV
    rw [HT.sIx_none, HT.sIx_nat, List.drop_zero, Nat.sub_zero, Nat.min_eq_left (by omega)]
  refine ⟨a, xs, rfl, SqT.of ea, fun h => ?_, fun _ p np => ?_⟩
  · rw [HT.sIx_nat] at h
    have : k = ds.length := by
      have := h.2
      rw [Nat.min_eq_left (by omega)] at this
      omega
    refine q _ H (Same.refl _) ?_
    rw [this, List.take_length]
    exact hv
  · rw [cu]
    have s : Same H (upd H p (.tup (xs.take k))) := fun b o e => by
      rw [upd_ne (ne_of_none e np)]
      exact e
    exact q _ _ s (Vd.ofTup upd_same ((hs.take k).keep s.tkept))
theorem slA_drop {K : PySem.W.Frag} {H : Hp} {ds : List PyData} {v : V} {k : Nat} {Q : VK} (hv : Vd H (.tuple ds) v) (hk : k ≤ ds.length) (q : ∀ u G, Same H G → Vd G (.tuple (ds.drop k)) u → Q u G) : rSlA K v (some (k : Int)) none H Q := by
  obtain ⟨a, xs, rfl, ea, hs⟩ := hv.tup
  have hl := hs.len
  have cu : cutV xs (some (k : Int)) none = xs.drop k := by
    unfold cutV
    rw [HT.sIx_none, HT.sIx_nat, Nat.min_eq_left (by omega), List.take_of_length_le (by rw [List.length_drop]; omega)]
  refine ⟨a, xs, rfl, SqT.of ea, fun h => ?_, fun _ p np => ?_⟩
  · rw [HT.sIx_nat] at h
    have : k = 0 := by
      have := h.1
      rw [Nat.min_eq_left (by omega)] at this
      exact this
    refine q _ H (Same.refl _) ?_
    rw [this, List.drop_zero]
    exact hv
  · rw [cu]
    have s : Same H (upd H p (.tup (xs.drop k))) := fun b o e => by
      rw [upd_ne (ne_of_none e np)]
      exact e
    exact q _ _ s (Vd.ofTup upd_same ((hs.drop k).keep s.tkept))
theorem slA_dropE {K : PySem.W.Frag} {H : Hp} {ds : List PyData} {v : V} {k : Nat} {z : Int} {Q : VK} (hz : z = (k : Int)) (hv : Vd H (.tuple ds) v) (hk : k ≤ ds.length) (q : ∀ u G, Same H G → Vd G (.tuple (ds.drop k)) u → Q u G) : rSlA K v (some z) none H Q := by
  subst hz
  exact slA_drop hv hk q
theorem catA {K : PySem.W.Frag} {H : Hp} {ds es : List PyData} {u v : V} {Q : VK} (hu : Vd H (.tuple ds) u) (hv : Vd H (.tuple es) v) (hz : ds.length + es.length ≤ sizeLine) (q : ∀ x G, Same H G → Vd G (.tuple (ds ++ es)) x → Q x G) : rCatA K u v H Q := by
  obtain ⟨a, xs, rfl, ea, hs⟩ := hu.tup
  obtain ⟨b, ys, rfl, eb, hy⟩ := hv.tup
  refine ⟨a, b, xs, ys, rfl, rfl, SqT.of ea, SqT.of eb, by rw [hs.len, hy.len]; exact hz, fun h => ?_, fun _ h => ?_, fun _ _ p np => ?_⟩
  · have : ds = [] := List.length_eq_zero_iff.mp (by rw [← hs.len, h]; rfl)
    refine q _ H (Same.refl _) ?_
    rw [this]
    exact hv
  · have : es = [] := List.length_eq_zero_iff.mp (by rw [← hy.len, h]; rfl)
    refine q _ H (Same.refl _) ?_
    rw [this, List.append_nil]
    exact hu
  · have s : Same H (upd H p (.tup (xs ++ ys))) := fun c o e => by
      rw [upd_ne (ne_of_none e np)]
      exact e
    exact q _ _ s (Vd.ofTup upd_same ((hs.app hy).keep s.tkept))
theorem take_mem {ds : List PyData} {k : Nat} {d : PyData} (h : d ∈ ds.take k) : d ∈ ds := List.mem_of_mem_take h
theorem drop_mem {ds : List PyData} {k : Nat} {d : PyData} (h : d ∈ ds.drop k) : d ∈ ds := List.mem_of_mem_drop h
theorem wtA_take_drop (ds : List PyData) (k : Nat) : wtA (ds.take k) + wtA (ds.drop k) = wtA ds := by
  rw [← wtA_app, List.take_append_drop]
theorem wtA_cons (d : PyData) (ds : List PyData) : wtA (d :: ds) = wt d + 2 + wtA ds := by
  show wt d + 2 + wtA ds = _
  rfl
theorem wtA_at {ds : List PyData} {k : Nat} {d : PyData} (h : ds[k]? = some d) : wtA ds = wtA (ds.take k) + (wt d + 2) + wtA (ds.drop (k + 1)) := by
  have hk := (List.getElem?_eq_some_iff.mp h).1
  have e : ds.drop k = d :: ds.drop (k + 1) := by
    rw [List.drop_eq_getElem_cons hk, (List.getElem?_eq_some_iff.mp h).2]
  rw [← wtA_take_drop ds k, e, wtA_cons]
  omega
theorem gdA_app {ds es : List PyData} : gdA (ds ++ es) = true ↔ gdA ds = true ∧ gdA es = true := by
  rw [gdA_iff, gdA_iff, gdA_iff]
  constructor
  · intro h
    exact ⟨fun d hd => h d (List.mem_append_left _ hd), fun d hd => h d (List.mem_append_right _ hd)⟩
  · rintro ⟨h1, h2⟩ d hd
    rcases List.mem_append.mp hd with h | h
    · exact h1 d h
    · exact h2 d h
/-- a tuple of items that fit -/
theorem Good.made {ds : List PyData} {n S : Nat} (hd : ∀ d ∈ ds, Good d n S) (hw : wtA ds + 10 ≤ S) : Good (.tuple ds) (n + 1) S := Good.ofItems (fun d h => ⟨(hd d h).gd, (hd d h).dp⟩) hw
theorem Good.items {ds : List PyData} {n S : Nat} (h : Good (.tuple ds) n S) : ∀ d ∈ ds, Good d (n - 1) S := fun d hd => by
  obtain ⟨m, rfl⟩ := h.dpos
  exact h.item hd
theorem Good.wtT {ds : List PyData} {n S : Nat} (h : Good (.tuple ds) n S) : wtA ds + 10 ≤ S := h.wt
end Ow

/-! raised and caught: C(..) whose __init__ may raise, within a try; isinstance of a held exception against several classes -/
namespace Ow
open PySem PySem.Spec PyProof.Rows L2
section
variable {X : Cx} {CX : CXT} {k : Nat} {f C : Addr} {fd : FuncData} {ps : List Str} {sp : Sp} {x : Str} {p pos : Pos} {e : Expr} {es : List Expr} {t : TA}
def tMakeS (C : Addr) (sp : Sp) (E : L2.St → XK) (t : TA) : TE := fun σ H Q => t σ H fun vs G => ∀ o dx, G o = none → G dx = none → dx ≠ o →
  sp (.ref o :: vs) (upd (upd G dx (.own o)) o (.ins C dx [])) (fun v G2 => v = .non ∧ Q (.ref o) G2) (E σ)
theorem pe_makeS {E : L2.St → XK} (M : Mk X.K C f) (F : FnOk X.prog X.w X.K X.mg X.base CX k f fd ps sp) (hr : Room (k + 1) X.A) (hg : Gl X x) (hm : X.mg x = some (.ref C)) (hb : Binds X.K fd ps []) (hx : ∀ σ, PassesAt CX X σ (E σ))
    (ha : PA X (e :: es) t) (hdb : (x == ("__debug__" : Str)) = false := by decide) (he : starEach (e :: es) X.env = (false, eval e X.env) :: starEach es X.env := by rfl) (hpl : (backTo pos (starEach es X.env)).any (·.1) = false := by rfl) :
    PE X (.Call (.Name x p) (e :: es) [] pos) (tMakeS C sp E t) := by
  refine ⟨fun pins s σ H Q I h => ?_⟩
  refine wpAny_Call_Name_kw (ld_glob I hg hm ?_ hdb)
  refine PySem.W.callWith_K (h₀ := X.base) I.ok.mod.kin M.kp (thn (ha.run pos pins s σ H _ I h) fun us s1 ⟨vs, G, J, r, q⟩ => ⟨J.kIn, ?_⟩) he hpl
  have q0 := q (s1.heap.objs.size + 1) s1.heap.objs.size (J.hok.fresh (Nat.le_succ _)) (J.hok.fresh (Nat.le_refl _)) (Nat.ne_of_lt (Nat.lt_succ_self _))
  have J2 := Inv.made (C := C) J
  have r2 : Vals (V.ref (s1.heap.objs.size + 1) :: vs) (Value.ref (s1.heap.objs.size + 1) :: us) := .cons rfl r
  have ln : (Value.ref (s1.heap.objs.size + 1) :: us).length = ps.length := by
    have z := r2.length
    rw [F.len _ _ _ _ q0] at z
    exact z.symm
  have b := hb _ (Value.ref (s1.heap.objs.size + 1) :: us) J2.kIn (by rw [List.append_nil]; exact ln)
  rw [List.append_nil] at b
  refine wpAny_call (make_map (f := f) J.kIn M.makes M.init (beq_iff_eq.mp M.fn) (codeAny_mono (F.run _ X.stack _ _ ⟨Value.ref (s1.heap.objs.size + 1) :: us, []⟩ (Value.ref (s1.heap.objs.size + 1) :: us) _ _ (E σ) (hr.make C us [])
    (J2.env0.make C us []) b r2 q0) fun r s' hq' => ?_))
  cases r with
  | error er => exact hx σ pins _ _ er s' J2 hq'
  | ok fl =>
    cases fl with
    | ret u =>
      obtain ⟨v, G', J3, rv, ev, q3⟩ := J2.after hq'
      subst ev
      exact ⟨rv, ⟨V.ref (s1.heap.objs.size + 1), G', J3, rfl, q3⟩⟩
    | next => exact False.elim hq'
    | brk => exact False.elim hq'
    | cont => exact False.elim hq'
/-- isinstance(e, (C1, C2, ..)), e the exception that the suite holds, with its own dict -/
def rIsET (K : PySem.W.Frag) (D a : Addr) : List V → Hp → VK → Prop := fun xs H Q => ∃ (tp : Addr) (cs : List V) (us : List Value) (b : Bool), xs = [.ref a, .ref tp] ∧ H tp = some (.tup cs) ∧ Paired ClsV cs us ∧ PySem.W.kitAny K (.ref D) us = some b ∧ Q (.bl b) H
theorem held_at {a D : Addr} {d : Option Addr} {oe : Obj} {pn : List (Addr × Obj)} {pins : List (Addr × Obj)} {σ : L2.St} {H : Hp} {s : Shared} {dd : Addr} {fs : List (Str × V)} (I : Inv (X.suite a ((a, oe) :: pn)) pins σ H s) (hz : Zc (.ref D) d oe) (hf : ∃ vs, oe.data = .fields vs)
    (ed : d = some dd) (ea : H dd = some (.xd fs)) : ∃ od, PySem.W.InstAt s.heap a oe D (some od) := by
  subst ed
  obtain ⟨ha, _⟩ := I.pin (a, oe) (List.mem_append_left _ List.mem_cons_self)
  obtain ⟨vs, hd⟩ := hf
  have hx : ObjOk X.prog X.w H s.heap dd (.xd fs) := I.hok dd _ ea
  obtain ⟨mA, hns, hr⟩ := hx
  obtain ⟨od, ho, hl⟩ := lookIn_ns hns
  exact ⟨od, ha, hz.1, by unfold PySem.W.notCls; rw [hd] <;> rfl, by rw [hz.2]; exact ho⟩
theorem call_isET {a D : Addr} {oe : Obj} {cls : Value} {d : Option Addr} {pn : List (Addr × Obj)} (T : ExcC X.K D) (hz : Zc cls d oe) (hf : ∃ vs, oe.data = .fields vs) :
    CallR (X.suite a ((a, oe) :: pn)) (.builtin "isinstance") (fun xs H Q => cls = .ref D ∧ (∃ dd fs, d = some dd ∧ H dd = some (.xd fs)) ∧ rIsET X.K D a xs H Q) := by
  intro pins s σ H xs us Q I r h
  obtain ⟨ec, ⟨dd, fs, ed, ea⟩, tp, cs, ws, b, rfl, hT, pc, e, q⟩ := h
  subst ec
  obtain ⟨u1, u2, rfl, r1, r2⟩ := vals2 r
  cases (show u2 = Value.ref tp from r2)
  cases (show u1 = Value.ref a from r1)
  obtain ⟨od, J⟩ := held_at I hz hf ed ea
  have isC : (PySem.W.clsIn X.K D).isSome = true := by
    obtain ⟨cd, hc, _⟩ := PySem.W.any_some T.hd
    rw [hc]
    rfl
  obtain ⟨_, its, rv, o, h1, h2, n, h3⟩ := (show ObjOk X.prog X.w H s.heap tp (.tup cs) from I.hok tp _ hT)
  have e3 := ClsV.all pc rv
  subst e3
  obtain ⟨oc, odd, dt, sl⟩ := o
  simp only at h2 h3
  subst h2 h3
  exact PySem.W.kia_tup (PySem.W.kitx_exc isC T.hg T.hk T.hs T.ha T.hn T.ht T.hm) I.kIn J h1 e (fun z => nomatch z) fun tk => ⟨.bl b, H, I.tok tk, rfl, q⟩
/-- what a def lets out that may raise, taken by a def that may raise the same -/
theorem passOn {E E2 : XK} (tk : Takes X (fun cls d _ H => E cls d H)) (hE : ∀ cls d H, E2 cls d H → E cls d H) : Passes (L2.CX X.prog X.w) X E2 := passes_call (W := fun cls d _ H => E cls d H) tk fun cls d _ H h => hE cls d H h
/-- a block that is never reached -/
def tNever : TS := fun _ _ _ => False
theorem pss_never {b : List Stmt} : PSs X b tNever := ⟨fun _ _ _ _ _ _ h => h.elim⟩
end
end Ow

/-! name = {k: v for ..} on one line; dicts whose keys are the texts of a list, in its order -/
namespace Ow
open PySem PySem.Spec PyProof.Rows L2
section
variable {X : Cx}
theorem ps_setDc {n : Nat} {y : Str} {yp : Pos} {kx vx tg src : Expr} {fs : List Expr} {sc : Scope} {own : List (Str × Nat)} {cp sp : Pos} {wi : TI} {g : TG} {tt : TT} {tk tv : TE}
    (cm : X.calm = true) (nn : X.N.Nodup) (hy : X.N[n]? = some y) (yl : X.env.scope.names.lookup y = some .local)
    (sw : swapsWith (.DictComp kx vx [⟨tg, src, fs, 0⟩] sc cp) (some (.Name y yp)) sp.line X.env = pure true)
    (hi : PI X tg src wi) (bk : BlkOk X.N X.env.scope sc own)
    (hg : ∀ (z : Shared) (G : Hp) (c : Addr) (l : List (Str × Addr)) (fp : List Addr), PG (X.blk z G sc (compEnvC sc l c X.env) fp) tg g)
    (ht : ∀ (z : Shared) (G : Hp) (c : Addr) (l : List (Str × Addr)) (fp : List Addr), PTs (X.blk z G sc (compEnvC sc l c X.env) fp) fs tt)
    (hk : ∀ (z : Shared) (G : Hp) (c : Addr) (l : List (Str × Addr)) (fp : List Addr), PE (X.blk z G sc (compEnvC sc l c X.env) fp) kx tk)
    (hv : ∀ (z : Shared) (G : Hp) (c : Addr) (l : List (Str × Addr)) (fp : List Addr), PE (X.blk z G sc (compEnvC sc l c X.env) fp) vx tv)
    (hs : ∀ x, foldedSetIterable src X.env x = pure x := by intro _; rfl) :
    PS X (.Assign [.Name y yp] (.DictComp kx vx [⟨tg, src, fs, 0⟩] sc cp) sp) (tAsg (tDc wi g tt tk tv (own.map (·.2))) (gName n)) := by
  refine ⟨fun pins z σ H D I q0 => ?_⟩
  rw [exec_Assign_Name_used _ _ _ _ sw]
  refine wpAny_bind (wpAny_standAt (wpAny_bind ?_))
  show wpAny _ X.A (do
    let _ ← comprehension (.DictComp kx vx [⟨tg, src, fs, 0⟩] sc cp) sc X.env (firstIterPos [⟨tg, src, fs, 0⟩] cp) newDict false (eval src X.env) (some (assign (.Name y yp) X.env))) _ _ z
  have q1 : tDc wi g tt tk tv (own.map (·.2)) σ H (fun x G => gName n x σ G D.nx) := q0
  refine wpAny_bind (thn (dc_core (Qf := fun _ s2 => SP X pins D .next s2) cm nn I hi bk hg ht hk hv hs q1
    fun L c s2 m G J q hn f => ?_) fun _ s2 hq => wpAny_pure (wpAny_pure hq))
  show wpAny _ _ (assign (.Name y yp) X.env (.ref L)) _ _ _
  refine wpAny_assign_Name (store_ok2 (v := V.ref L) J nn hy (.inl yl) rfl (fun s3 J3 ⟨a, sb, ha⟩ => ?_) (.inr yl))
  obtain ⟨f0, f1, f2, f3, f4, f5⟩ := f
  have ne : c ≠ a := by
    rcases ha with e | e
    · rw [e]; exact f1
    · exact fun e2 => f4 y a e e2.symm
  refine ⟨m, hn.sameBut sb ne, fun h3 sb3 => ?_⟩
  exact ⟨_, G, J3.turned (t' := s3.toks) (fun b o hb e => (sb3.2 b hb).trans e) f0 f1 f3 f4 f5, q⟩
theorem pi_tupK (K : PySem.W.Frag) {tg e : Expr} {te : TE} (he : PE X e te) (hK : X.K = K := by rfl) : PI X tg e (iTup K te) := by
  subst hK
  exact pi_tup he
theorem sw_trueD {kx vx : Expr} {gs : List Comprehension} {sc : Scope} {cp yp : Pos} {y : Str} {l : Nat} {env : Env} (hk : env.scope.kind = .function) (hy : env.scope.names.lookup y = some .local)
    (hl : (yp.line == cp.line) = true) (ha : (sc.names.any fun (n, k) => n == y && (k == .local || k == .cell)) = false) :
    swapsWith (.DictComp kx vx gs sc cp) (some (.Name y yp)) l env = pure true := by
  have k1 : env.kindOf y = some .local := hy
  have k2 : env.blockKind = .function := by
    unfold Env.blockKind
    rw [hk]
    rfl
  unfold swapsWith
  simp only [k2, k1, ha, Expr.pos, hl]
  rfl
end
/-- a comprehension within a comprehension: the outer one's scope as it is while it runs -/
theorem rel_look {env : Env} {y : Str} {k : NameKind} (hk : k = .cell ∨ k = .free) : ∀ {l : List (Str × NameKind)}, l.lookup y = some k →
    (l.map fun (m, j) => if (j == NameKind.free && env.scope.kind == .function && env.kindOf m == some .cell) then (m, NameKind.cell) else (m, j)).lookup y = some .cell ∨
    (l.map fun (m, j) => if (j == NameKind.free && env.scope.kind == .function && env.kindOf m == some .cell) then (m, NameKind.cell) else (m, j)).lookup y = some .free
  | [], h => by simp at h
  | (m, j) :: l, h => by
    have ih := @rel_look env y k hk l
    rw [List.map_cons]
    by_cases e : y = m
    · subst e
      have ej : j = k := by simpa [List.lookup] using h
      subst ej
      dsimp only
      split
      · left
        simp [List.lookup]
      · rcases hk with rfl | rfl
        · left
          simp [List.lookup]
        · right
          simp [List.lookup]
    · have ne : (y == m) = false := by simpa using e
      have h2 : l.lookup y = some k := by simpa [List.lookup, ne] using h
      dsimp only
      split <;> simpa [List.lookup, ne] using ih h2
theorem blk_rel {N : List Str} {sc scope : Scope} {own : List (Str × Nat)} {env : Env} (h : BlkOk N sc scope own) : BlkOk N (relabel sc env) scope own :=
  ⟨h.kind, h.uniq, h.ix, fun y hy e => by
    rcases h.free y hy e with z | z
    · exact rel_look (.inl rfl) z
    · exact rel_look (.inr rfl) z, h.own⟩
/-! ### a row: f j under the j-th text -/
def kvT (f : Nat → V) (ws : List Str) (t : Nat) : List (Key × V) := (List.range t).map fun j => (.inr (ws.getD j ""), f j)
theorem kvT_len (f : Nat → V) (ws : List Str) (t : Nat) : (kvT f ws t).length = t := by
  unfold kvT
  rw [List.length_map, List.length_range]
theorem kvT_succ (f : Nat → V) (ws : List Str) (t : Nat) : kvT f ws (t + 1) = kvT f ws t ++ [(.inr (ws.getD t ""), f t)] := by
  unfold kvT
  rw [List.range_succ, List.map_append]
  rfl
theorem getD_inj {ws : List Str} (nd : ws.Nodup) {i j : Nat} (hi : i < ws.length) (hj : j < ws.length) (e : ws.getD i "" = ws.getD j "") : i = j := by
  rw [List.getD_eq_getElem?_getD, List.getD_eq_getElem?_getD, List.getElem?_eq_getElem hi, List.getElem?_eq_getElem hj] at e
  exact (List.getElem_inj nd).mp e
theorem valV_app {κ : Type} [DecidableEq κ] {a b : List (κ × V)} {k : κ} (h : valV a k = none) : valV (a ++ b) k = valV b k := by
  induction a with
  | nil => rfl
  | cons p r ih =>
    by_cases e : p.1 = k
    · rw [valV_pos e] at h
      cases h
    · rw [valV_neg e] at h
      rw [List.cons_append, valV_neg e, ih h]
theorem valV_app1 {κ : Type} [DecidableEq κ] {a b : List (κ × V)} {k : κ} {v : V} (h : valV a k = some v) : valV (a ++ b) k = some v := by
  induction a with
  | nil => cases h
  | cons p r ih =>
    by_cases e : p.1 = k
    · rw [List.cons_append, valV_pos e]
      rw [valV_pos e] at h
      exact h
    · rw [List.cons_append, valV_neg e]
      rw [valV_neg e] at h
      exact ih h
theorem kvT_no {f : Nat → V} {ws : List Str} (nd : ws.Nodup) : ∀ {t j : Nat}, t ≤ j → j < ws.length → valV (kvT f ws t) (.inr (ws.getD j "") : Key) = none
  | 0, _, _, _ => rfl
  | t + 1, j, h, hj => by
    rw [kvT_succ, valV_app (kvT_no nd (by omega) hj)]
    have ne : ¬ ((.inr (ws.getD t "") : Key) = .inr (ws.getD j "")) := fun e => by
      have := getD_inj nd (by omega) hj (Sum.inr.inj e)
      omega
    rw [valV_neg ne]
    rfl
theorem kvT_val {f : Nat → V} {ws : List Str} (nd : ws.Nodup) : ∀ {t j : Nat}, j < t → t ≤ ws.length → valV (kvT f ws t) (.inr (ws.getD j "") : Key) = some (f j)
  | 0, _, h, _ => absurd h (Nat.not_lt_zero _)
  | t + 1, j, h, ht => by
    rw [kvT_succ]
    by_cases e : j = t
    · subst e
      rw [valV_app (kvT_no nd (Nat.le_refl _) (by omega)), valV_pos rfl]
    · exact valV_app1 (kvT_val nd (by omega) (by omega))
theorem kvT_put_new {f : Nat → V} {ws : List Str} (nd : ws.Nodup) {t : Nat} (ht : t < ws.length) : putK (kvT f ws t) (.inr (ws.getD t "") : Key) (f t) = kvT f ws (t + 1) := by
  rw [putK_new _ (kvT_no nd (Nat.le_refl _) ht), kvT_succ]
def setF (f : Nat → V) (j : Nat) (v : V) : Nat → V := fun i => if i = j then v else f i
theorem kvT_put {f : Nat → V} {ws : List Str} (nd : ws.Nodup) {t j : Nat} (hj : j < t) (ht : t ≤ ws.length) (v : V) : putK (kvT f ws t) (.inr (ws.getD j "") : Key) v = kvT (setF f j v) ws t := by
  have any : ((kvT f ws t).any fun kv => decide (kv.1 = (.inr (ws.getD j "") : Key))) = true := by
    rw [valV_any, kvT_val nd hj ht]
    rfl
  unfold putK
  rw [if_pos any]
  unfold kvT
  rw [List.map_map]
  refine List.map_congr_left fun i hi => ?_
  have hi2 : i < t := List.mem_range.mp hi
  show (if (.inr (ws.getD i "") : Key) = .inr (ws.getD j "") then _ else _) = _
  by_cases e : i = j
  · subst e
    rw [if_pos rfl]
    show _ = ((.inr (ws.getD i "") : Key), setF f i v i)
    unfold setF
    rw [if_pos rfl]
  · have ne : ¬ ((.inr (ws.getD i "") : Key) = .inr (ws.getD j "")) := fun z => e (getD_inj nd (by omega) (by omega) (Sum.inr.inj z))
    rw [if_neg ne]
    show _ = ((.inr (ws.getD i "") : Key), setF f j v i)
    unfold setF
    rw [if_neg e]
theorem kvT_congr {f g : Nat → V} {ws : List Str} {t : Nat} (h : ∀ j, j < t → f j = g j) : kvT f ws t = kvT g ws t := by
  unfold kvT
  exact List.map_congr_left fun i hi => by rw [h i (List.mem_range.mp hi)]
end Ow

namespace Ow
open PySem PySem.Spec PyProof.Rows L2
section
variable {X : Cx} {CX : CXT} {k : Nat} {C f : Addr} {fd : FuncData} {ps : List Str} {sp : Sp} {E : XK}
/-- len(a) by the own __len__ -/
theorem call_lenOwn (F : FnOk X.prog X.w X.K X.mg X.base CX k f fd ps sp) (hr : Room (k + 1) X.A) (hb : Binds X.K fd ps []) (hx : Passes CX X E) (hs : PySem.W.findIn X.K (.ref C) "__len__" = some (some (.ref f))) (hf : PySem.W.isFn X.K (.ref f) = true) :
    CallR X (.builtin "len") (fun xs H Q => ∃ a dx fs, xs = [.ref a] ∧ H a = some (.ins C dx fs) ∧ sp [.ref a] H (fun v G => ∃ n : Nat, v = .int n ∧ n ≤ 4000000 ∧ Q (.int n) G) E) := by
  intro pins s σ H xs us Q I r h
  obtain ⟨a, dx, fs, rfl, ea, q⟩ := h
  obtain ⟨ox, od, J⟩ := ins_inst I ea
  have rr : Vals [V.ref a] us := r
  obtain ⟨m, fr⟩ := I.fr
  cases r with
  | cons r1 rn =>
    cases rn
    cases (show _ = Value.ref a from r1)
    refine PySem.W.len_K fr I.ok.mod.kin J hs hf ?_
    refine wpAny_mono (run_at (A := X.A.in1) rfl F hr.in1 hb hx I rr q) (fun u s2 z => ?_) fun _ _ z => z
    obtain ⟨v, G, J2, rv, n, ev, hn, q2⟩ := z
    subst ev
    obtain ⟨t, e⟩ := (show ∃ t, u = Value.int n t from rv)
    subst e
    have e63 : (2 : Int) ^ 63 = 9223372036854775808 := by decide
    exact ⟨⟨by omega, by omega⟩, ⟨.int n, G, J2.tok _, ⟨_, rfl⟩, q2⟩⟩
end
end Ow

namespace Tg
open PySem L2 Ow
abbrev pTuS : Stmt := top 20
abbrev pForm : Stmt := top 31
abbrev pRope : Stmt := top 30
abbrev pWalk : Stmt := top 33
abbrev pRopes : Stmt := top 34
abbrev pLess : Stmt := top 35
abbrev pTies : Stmt := top 36
abbrev pReach : Stmt := top 37
structure TxtP (mg : Str → Option Value) : Prop where
  b_isinstance : mg "isinstance" = none
  b_tuple : mg "tuple" = none
  b_str : mg "str" = none
  b_int : mg "int" = none
  b_bool : mg "bool" = none
  b_len : mg "len" = none
  b_all : mg "all" = none
  b_enumerate : mg "enumerate" = none
  b_list : mg "list" = none
  b_range : mg "range" = none
/-! ### what is asked of values -/
def isStrD : PyData → Bool
  | .str _ => true
  | _ => false
def isTupD : PyData → Bool
  | .tuple _ => true
  | _ => false
def isIntB : PyData → Bool
  | .int _ => true
  | .bool _ => true
  | _ => false
def isBoolD : PyData → Bool
  | .bool _ => true
  | _ => false
def isTupS : PyData → Bool
  | .tuple ds => ds.all isStrD
  | _ => false
def isRopeD : PyData → Bool
  | .tuple [a, b, c] => isStrD a && isStrD b && (isIntB c && !isBoolD c)
  | _ => false
def ropesD : PyData → Bool
  | .tuple ds => ds.all isRopeD
  | _ => false
theorem k_tup (K : PySem.W.Frag) : ∀ d : PyData, PySem.W.kitOne K (.type (tyOf d)) (.type "tuple") = some (isTupD d)
  | .none => (kit_ty (by decide +kernel) : PySem.W.kitOne K (.type "NoneType") (.type "tuple") = some false)
  | .bool _ => (kit_ty (by decide +kernel) : PySem.W.kitOne K (.type "bool") (.type "tuple") = some false)
  | .int _ => (kit_ty (by decide +kernel) : PySem.W.kitOne K (.type "int") (.type "tuple") = some false)
  | .str _ => (kit_ty (by decide +kernel) : PySem.W.kitOne K (.type "str") (.type "tuple") = some false)
  | .list _ => (kit_ty (by decide +kernel) : PySem.W.kitOne K (.type "list") (.type "tuple") = some false)
  | .tuple _ => (kit_ty (by decide +kernel) : PySem.W.kitOne K (.type "tuple") (.type "tuple") = some true)
  | .dict _ => (kit_ty (by decide +kernel) : PySem.W.kitOne K (.type "dict") (.type "tuple") = some false)
theorem k_str (K : PySem.W.Frag) : ∀ d : PyData, PySem.W.kitOne K (.type (tyOf d)) (.type "str") = some (isStrD d)
  | .none => (kit_ty (by decide +kernel) : PySem.W.kitOne K (.type "NoneType") (.type "str") = some false)
  | .bool _ => (kit_ty (by decide +kernel) : PySem.W.kitOne K (.type "bool") (.type "str") = some false)
  | .int _ => (kit_ty (by decide +kernel) : PySem.W.kitOne K (.type "int") (.type "str") = some false)
  | .str _ => (kit_ty (by decide +kernel) : PySem.W.kitOne K (.type "str") (.type "str") = some true)
  | .list _ => (kit_ty (by decide +kernel) : PySem.W.kitOne K (.type "list") (.type "str") = some false)
  | .tuple _ => (kit_ty (by decide +kernel) : PySem.W.kitOne K (.type "tuple") (.type "str") = some false)
  | .dict _ => (kit_ty (by decide +kernel) : PySem.W.kitOne K (.type "dict") (.type "str") = some false)
theorem k_int (K : PySem.W.Frag) : ∀ d : PyData, PySem.W.kitOne K (.type (tyOf d)) (.type "int") = some (isIntB d)
  | .none => (kit_ty (by decide +kernel) : PySem.W.kitOne K (.type "NoneType") (.type "int") = some false)
  | .bool _ => (kit_ty (by decide +kernel) : PySem.W.kitOne K (.type "bool") (.type "int") = some true)
  | .int _ => (kit_ty (by decide +kernel) : PySem.W.kitOne K (.type "int") (.type "int") = some true)
  | .str _ => (kit_ty (by decide +kernel) : PySem.W.kitOne K (.type "str") (.type "int") = some false)
  | .list _ => (kit_ty (by decide +kernel) : PySem.W.kitOne K (.type "list") (.type "int") = some false)
  | .tuple _ => (kit_ty (by decide +kernel) : PySem.W.kitOne K (.type "tuple") (.type "int") = some false)
  | .dict _ => (kit_ty (by decide +kernel) : PySem.W.kitOne K (.type "dict") (.type "int") = some false)
theorem k_bool (K : PySem.W.Frag) : ∀ d : PyData, PySem.W.kitOne K (.type (tyOf d)) (.type "bool") = some (isBoolD d)
  | .none => (kit_ty (by decide +kernel) : PySem.W.kitOne K (.type "NoneType") (.type "bool") = some false)
  | .bool _ => (kit_ty (by decide +kernel) : PySem.W.kitOne K (.type "bool") (.type "bool") = some true)
  | .int _ => (kit_ty (by decide +kernel) : PySem.W.kitOne K (.type "int") (.type "bool") = some false)
  | .str _ => (kit_ty (by decide +kernel) : PySem.W.kitOne K (.type "str") (.type "bool") = some false)
  | .list _ => (kit_ty (by decide +kernel) : PySem.W.kitOne K (.type "list") (.type "bool") = some false)
  | .tuple _ => (kit_ty (by decide +kernel) : PySem.W.kitOne K (.type "tuple") (.type "bool") = some false)
  | .dict _ => (kit_ty (by decide +kernel) : PySem.W.kitOne K (.type "dict") (.type "bool") = some false)
section
variable {X : Cx}
theorem call_isiB (K : PySem.W.Frag) (hK : X.K = K := by rfl) : CallR X (.builtin "isinstance") (rIsi K) := by
  subst hK
  exact call_isi
end
def Lim (d : PyData) : Prop := wt d ≤ 4000000
theorem Lim.len {ds : List PyData} (h : Lim (.tuple ds)) : ds.length ≤ 2000000 := by
  have h1 : wtA ds + 10 ≤ 4000000 := h
  have := wtA_len ds
  omega
theorem Lim.item {ds : List PyData} {d : PyData} (h : Lim (.tuple ds)) (hd : d ∈ ds) : Lim d := by
  have h1 : wtA ds + 10 ≤ 4000000 := h
  have := wtA_mem hd
  show wt d ≤ 4000000
  omega
theorem small2m {n : Nat} (h : n ≤ 2000000) : n < sizeLine := by
  rw [sizeLine_eq]
  omega
section
variable {P : Program} {w : World} {K : PySem.W.Frag} {mg : Str → Option Value} {base : Heap}
def spTuS : Sp := fun vs H Q _ => ∃ d v, vs = [v] ∧ Vd H d v ∧ Lim d ∧ ∀ H', Same H H' → Q (.bl (isTupS d)) H'
theorem scTuS : FnScope ["value", "item"] ["value"] (defScope pTuS) := ⟨rfl, rfl, rfl, by decide +kernel, rfl, by decide +kernel, by decide +kernel⟩
theorem ok_TuS {f : Addr} {fd : FuncData} (F : Fun K "is_tuple_of_strings" "is_tuple_of_strings" pTuS f fd) (T : TxtP mg) : FnOk P w K mg base CX0 1 f fd ["value"] spTuS := by
  refine F.ok scTuS (fun vs H Q E h => ?_) (fun cdv A outer s H vs Q E hr h => ?_)
  · obtain ⟨d, v, rfl, _⟩ := h
    rfl
  · obtain ⟨d, v, rfl, hv, hl, k⟩ := h
    have nd := scTuS.nd
    refine ⟨_, (pss_one (ps_ret (pe_and (pe_callB call_isi (by rfl) T.b_isinstance (by decide +kernel) (pa_cons (pv 0) (pa_cons (pe_bltn (v := .ty "tuple") (by rfl) T.b_tuple (by decide +kernel) rfl) pa_nil)))
      (pe_one (pe_callB (cr_all rfl) (by rfl) T.b_all (by decide +kernel) (pa_cons (pe_lc (own := [("item", 1)]) (g := gName 1) rfl nd (pi_tup (pv 0)) (blkOk_by (own := [("item", 1)]) (N := ["value", "item"]) (sc := defScope pTuS) (by decide +kernel)) (fun _ _ _ _ _ => (pg_name (i := 1) nd rfl (.inl rfl))) (fun _ _ _ _ _ => pts_nil) (fun _ _ _ _ _ => (pe_callB (call_isiB K) (by rfl) T.b_isinstance (by decide +kernel) (pa_cons (pv 1) (pa_cons (pe_bltn (v := .ty "str") (by rfl) T.b_str (by decide +kernel) rfl) pa_nil))))) pa_nil)))))), ?_⟩
    refine ⟨_, rfl, _, .ty "tuple", _, _, _, rfl, .ty _, Vd.ty hv, k_tup K _, _, rfl, ?_⟩
    by_cases hd : isTupD d = true
    · rw [if_pos hd]
      cases d <;> simp [isTupD] at hd
      rename_i ds
      obtain ⟨a, xs, rfl, ea, hs⟩ := hv.tup
      refine ⟨_, rfl, a, rfl, ⟨_, SqT.of ea⟩, fun D hD => ?_⟩
      refine lc_tup (K := K) (a := a) (xs := xs) (fun t G => G D = some (.lst (((ds.take t).map isStrD).map V.bl)) ∧ Same H G) ⟨upd_same, same_upd (Same.refl _) hD⟩ (fun t G _ ⟨_, sG⟩ => SqT.of (sG _ _ ea)) ?_ ?_
      · rintro t x G hx ⟨e1, sG⟩
        have ht : t < ds.length := by
          rw [← hs.len]
          exact (List.getElem?_eq_some_iff.mp hx).1
        obtain ⟨d1, x1, hd1, hx1, v1⟩ := hs.at_ ht
        rw [hx] at hx1
        cases hx1
        refine ⟨rfl, _, rfl, _, .ty "str", _, _, _, rfl, .ty _, Vd.ty (v1.keep sG.tkept), k_str K _, _, e1, small2m (by rw [List.length_map, List.length_map, List.length_take]; have := hl.len; omega), ?_, same_upd sG hD⟩
        rw [upd_same, List.take_add_one, hd1, List.map_append, List.map_append]
        rfl
      · rintro G ⟨e1, sG⟩
        rw [hs.len, List.take_length] at e1
        refine ⟨D, _, rfl, SqL.of e1, ?_⟩
        have : (ds.map isStrD).all id = isTupS (.tuple ds) := by
          show _ = ds.all isStrD
          rw [List.all_map]
          rfl
        rw [this]
        exact k G sG
    · have hd2 : isTupD d = false := by simpa using hd
      rw [if_neg hd]
      have : isTupS d = false := by cases d <;> first | rfl | (simp [isTupD] at hd2)
      rw [← this]
      exact k H (Same.refl _)
def spRopeP : Sp := fun vs H Q _ => ∃ d v, vs = [v] ∧ Vd H d v ∧ Q (.bl (isRopeD d)) H
abbrev ropN : List Str := ["value", "one", "other", "length"]
theorem scRopeP : FnScope ropN ["value"] (defScope pRope) := ⟨rfl, rfl, rfl, by decide +kernel, rfl, by decide +kernel, by decide +kernel⟩
theorem not_rope {ds : List PyData} (h : ds.length ≠ 3) : isRopeD (.tuple ds) = false := by
  match ds, h with
  | [], _ => rfl
  | [_], _ => rfl
  | [_, _], _ => rfl
  | [_, _, _], h => exact absurd rfl h
  | _ :: _ :: _ :: _ :: _, _ => rfl
theorem ok_RopeP {f : Addr} {fd : FuncData} (F : Fun K "is_rope" "is_rope" pRope f fd) (T : TxtP mg) : FnOk P w K mg base CX0 1 f fd ["value"] spRopeP := by
  refine F.ok scRopeP (fun vs H Q E h => ?_) (fun cdv A outer s H vs Q E hr h => ?_)
  · obtain ⟨d, v, rfl, _⟩ := h
    rfl
  · obtain ⟨d, v, rfl, hv, k⟩ := h
    have nd := scRopeP.nd
    refine ⟨_, (pss_cons (ps_if (PW.pt (pw_or (pt_not (pt_val (pe_callB call_isi (by rfl) T.b_isinstance (by decide +kernel) (pa_cons (pv 0) (pa_cons (pe_bltn (v := .ty "tuple") (by rfl) T.b_tuple (by decide +kernel) rfl) pa_nil))))) (pw_or1 (pt_cmpR op_ne (pe_callB call_len_seq (by rfl) T.b_len PySem.boot_len (pa_cons (pv 0) pa_nil)) pe_int (nomark _)))))
        (pss_one (ps_ret pe_bl))
        pss_nil)
      (pss_cons (ps_asg (pv 0) (pg_tup (by rfl) (pgs_cons (pg_name (i := 1) nd rfl (.inl rfl)) (pgs_cons (pg_name (i := 2) nd rfl (.inl rfl)) (pgs_cons (pg_name (i := 3) nd rfl (.inl rfl)) pgs_nil)))))
      (pss_cons (ps_if (PW.pt (pw_or (pt_not (pt_val (pe_callB call_isi (by rfl) T.b_isinstance (by decide +kernel) (pa_cons (pv 1) (pa_cons (pe_bltn (v := .ty "str") (by rfl) T.b_str (by decide +kernel) rfl) pa_nil))))) (pw_or1 (pt_not (pt_val (pe_callB call_isi (by rfl) T.b_isinstance (by decide +kernel) (pa_cons (pv 2) (pa_cons (pe_bltn (v := .ty "str") (by rfl) T.b_str (by decide +kernel) rfl) pa_nil))))))))
        (pss_one (ps_ret pe_bl))
        pss_nil)
      (pss_one (ps_ret (pe_and (pe_callB call_isi (by rfl) T.b_isinstance (by decide +kernel) (pa_cons (pv 3) (pa_cons (pe_bltn (v := .ty "int") (by rfl) T.b_int (by decide +kernel) rfl) pa_nil))) (pe_one (pe_not (pe_callB call_isi (by rfl) T.b_isinstance (by decide +kernel) (pa_cons (pv 3) (pa_cons (pe_bltn (v := .ty "bool") (by rfl) T.b_bool (by decide +kernel) rfl) pa_nil))))))))))), ?_⟩
    refine ⟨_, rfl, _, .ty "tuple", _, _, _, rfl, .ty _, Vd.ty hv, k_tup K _, _, rfl, ?_⟩
    by_cases hd : isTupD d = true
    · rw [hd]
      refine iteF ?_
      cases d <;> simp [isTupD] at hd
      rename_i ds
      obtain ⟨a, xs, rfl, ea, hs⟩ := hv.tup
      refine ⟨_, rfl, a, _, rfl, .inr (SqT.of ea), rfl, _, rfl, ?_⟩
      rw [hs.len]
      refine ite2 (fun hn => ?_) (fun hn => ?_)
      · have : ds.length ≠ 3 := by
          intro z
          rw [z] at hn
          simp at hn
        rw [not_rope this] at k
        exact k
      · have h3 : ds.length = 3 := by
          simp at hn
          omega
        obtain ⟨d1, d2, d3, rfl⟩ : ∃ d1 d2 d3, ds = [d1, d2, d3] := by
          match ds, h3 with
          | [d1, d2, d3], _ => exact ⟨d1, d2, d3, rfl⟩
        obtain ⟨x1, r1, e1, v1, hs1⟩ := hs.uncons
        obtain ⟨x2, r2, e2, v2, hs2⟩ := hs1.uncons
        obtain ⟨x3, r3, e3, v3, hs3⟩ := hs2.uncons
        unfold VdA at hs3
        subst hs3 e3 e2 e1
        try dsimp only [tNext]
        refine ⟨_, rfl, a, _, rfl, SqT.of ea, rfl, _, _, rfl, _, _, rfl, _, _, rfl, rfl, ?_⟩
        try dsimp only [tNext]
        have kk : isRopeD (.tuple [d1, d2, d3]) = (isStrD d1 && isStrD d2 && (isIntB d3 && !isBoolD d3)) := rfl
        rw [kk] at k
        refine ⟨_, rfl, _, .ty "str", _, _, _, rfl, .ty _, Vd.ty v1, k_str K _, _, rfl, ?_⟩
        cases c1 : isStrD d1
        · rw [c1] at k
          exact iteT (iteT k)
        · rw [c1] at k
          refine iteF ?_
          refine ⟨_, rfl, _, .ty "str", _, _, _, rfl, .ty _, Vd.ty v2, k_str K _, _, rfl, ?_⟩
          cases c2 : isStrD d2
          · rw [c2] at k
            exact iteT k
          · rw [c2] at k
            refine iteF ?_
            refine ⟨_, rfl, _, .ty "int", _, _, _, rfl, .ty _, Vd.ty v3, k_int K _, _, rfl, ?_⟩
            cases c3 : isIntB d3
            · rw [c3] at k
              exact iteF k
            · rw [c3] at k
              refine iteT ?_
              exact ⟨_, rfl, _, .ty "bool", _, _, _, rfl, .ty _, Vd.ty v3, k_bool K _, _, rfl, k⟩
    · have hd2 : isTupD d = false := by simpa using hd
      rw [hd2]
      have : isRopeD d = false := by cases d <;> first | rfl | (simp [isTupD] at hd2)
      rw [this] at k
      exact iteT (iteT k)
end
end Tg

namespace Tg
open PySem L2 Ow
/-! ### names -/
def okCp (c : Nat) : Bool := decide (97 ≤ c) && decide (c ≤ 122)
def isNmS (x : Str) : Bool := decide (1 ≤ x.length) && decide (x.length ≤ 6) && x.cps.toList.all okCp
theorem cp_table : ∀ c : Fin 128, (Unicode.isAlpha c.val && !(Unicode.isUpper c.val || Unicode.isTitle c.val)) = okCp c.val ∧ (okCp c.val = true → Unicode.isLower c.val = true) := by decide +kernel
theorem all_and {l : List Nat} {p q : Nat → Bool} : l.all (fun c => p c && q c) = (l.all p && l.all q) := by
  induction l with
  | nil => rfl
  | cons c l ih =>
    simp only [List.all_cons, ih]
    cases p c <;> cases q c <;> cases l.all p <;> cases l.all q <;> rfl
theorem low_iff (l : List Nat) : (l.all (fun c => decide (c < 128)) && (decide (0 < l.length) && l.all Unicode.isAlpha) && (l.any Unicode.isLower && !l.any fun c => Unicode.isUpper c || Unicode.isTitle c)) = (decide (0 < l.length) && l.all okCp) := by
  by_cases h1 : l.all (fun c => decide (c < 128)) = true
  · rw [h1, Bool.true_and]
    have tab : ∀ c ∈ l, (Unicode.isAlpha c && !(Unicode.isUpper c || Unicode.isTitle c)) = okCp c ∧ (okCp c = true → Unicode.isLower c = true) := fun c hc => by
      have := List.all_eq_true.mp h1 c hc
      exact cp_table ⟨c, by simpa using this⟩
    have e1 : (l.all Unicode.isAlpha && !l.any fun c => Unicode.isUpper c || Unicode.isTitle c) = l.all okCp := by
      rw [show (!l.any fun c => Unicode.isUpper c || Unicode.isTitle c) = l.all (fun c => !(Unicode.isUpper c || Unicode.isTitle c)) from List.not_any_eq_all_not, ← all_and]
      refine Bool.eq_iff_iff.mpr ⟨fun h => List.all_eq_true.mpr fun c hc => ?_, fun h => List.all_eq_true.mpr fun c hc => ?_⟩
      · rw [← (tab c hc).1]
        exact List.all_eq_true.mp h c hc
      · rw [(tab c hc).1]
        exact List.all_eq_true.mp h c hc
    cases l with
    | nil => rfl
    | cons c cs =>
      have e0 : decide (0 < (c :: cs).length) = true := by simp
      rw [e0, Bool.true_and, Bool.true_and, ← e1]
      cases h2 : ((c :: cs).all Unicode.isAlpha && !(c :: cs).any fun c => Unicode.isUpper c || Unicode.isTitle c) with
      | true =>
        obtain ⟨a1, a2⟩ := Bool.and_eq_true_iff.mp h2
        have a3 := e1.symm.trans h2
        have : (c :: cs).any Unicode.isLower = true := List.any_eq_true.mpr ⟨c, List.mem_cons_self, (tab c List.mem_cons_self).2 (List.all_eq_true.mp a3 c List.mem_cons_self)⟩
        rw [a1, a2, this]
        rfl
      | false =>
        cases a : (c :: cs).all Unicode.isAlpha
        · rfl
        · rw [a] at h2
          rw [Bool.true_and] at h2
          rw [h2, Bool.and_false]
          rfl
  · have h2 : l.all (fun c => decide (c < 128)) = false := by simpa using h1
    rw [h2, Bool.false_and, Bool.false_and]
    have h3 : l.all okCp = false := by
      cases h : l.all okCp
      · rfl
      · exfalso
        apply h1
        refine List.all_eq_true.mpr fun c hc => ?_
        have := List.all_eq_true.mp h c hc
        unfold okCp at this
        simp at this
        simp
        omega
    rw [h3, Bool.and_false]
theorem name_is (x : Str) (h : ¬ 6 < x.length) : (Txt.isascii x && (Txt.isalpha x && Txt.islower x)) = isNmS x := by
  have h1 := low_iff x.cps.toList
  have e1 : Txt.isascii x = x.cps.toList.all (fun c => decide (c < 128)) := by unfold Txt.isascii; exact Array.all_toList.symm
  have e2 : Txt.isalpha x = (decide (0 < x.cps.toList.length) && x.cps.toList.all Unicode.isAlpha) := by
    unfold Txt.isalpha
    rw [Array.all_toList]
    rfl
  have e3 : Txt.islower x = (x.cps.toList.any Unicode.isLower && !x.cps.toList.any fun c => Unicode.isUpper c || Unicode.isTitle c) := by
    unfold Txt.islower
    rw [Array.any_toList, Array.any_toList]
  rw [e1, e2, e3, ← Bool.and_assoc, h1]
  have l6 : decide (x.length ≤ 6) = true := decide_eq_true (by omega)
  unfold isNmS
  rw [l6, Bool.and_true]
  rfl
abbrev pIsName : Stmt := inClass (top 27) 1
def isNameD : PyData → Bool
  | .str x => isNmS x
  | _ => false
def spIsName : Sp := fun vs H Q _ => ∃ d v, vs = [v] ∧ Vd H d v ∧ Lim d ∧ Q (.bl (isNameD d)) H
theorem scIsName : FnScope ["value"] ["value"] (defScope pIsName) := ⟨rfl, rfl, rfl, by decide +kernel, rfl, by decide +kernel, by decide +kernel⟩
section
variable {P : Program} {w : World} {K : PySem.W.Frag} {mg : Str → Option Value} {base : Heap}
theorem ok_isName {f : Addr} {fd : FuncData} {t0 : Tok} (F : Fun K "is_name" "Tree.is_name" pIsName f fd) (T : TxtP mg) (gLN : mg "LONGEST_NAME" = some (.int 6 t0)) : FnOk P w K mg base CX0 1 f fd ["value"] spIsName := by
  refine F.ok scIsName (fun vs H Q E h => ?_) (fun cdv A outer s H vs Q E hr h => ?_)
  · obtain ⟨d, v, rfl, _⟩ := h
    rfl
  · obtain ⟨d, v, rfl, hv, hl, k⟩ := h
    have nd := scIsName.nd
    refine ⟨_, (pss_cons (ps_if (PW.pt (pw_or (pt_not (pt_val (pe_callB call_isi (by rfl) T.b_isinstance (by decide +kernel) (pa_cons (pv 0) (pa_cons (pe_bltn (v := .ty "str") (by rfl) T.b_str (by decide +kernel) rfl) pa_nil))))) (pw_or1 (pt_cmpR op_gt (pe_callB call_len_str (by rfl) T.b_len PySem.boot_len (pa_cons (pv 0) pa_nil)) (pe_glob (v := .int 6) rfl gLN ⟨_, rfl⟩) (nomark _)))))
        (pss_one (ps_ret pe_bl))
        pss_nil)
      (pss_one (ps_ret (pe_and (pe_bm0 PySem.F.plainAttrs_str PySem.F.slot_str_isascii PySem.F.type_str_isascii mt_isascii (pv 0)) (pe_and (pe_bm0 PySem.F.plainAttrs_str PySem.F.slot_str_isalpha PySem.F.type_str_isalpha mt_isalpha (pv 0)) (pe_one (pe_bm0 PySem.F.plainAttrs_str PySem.F.slot_str_islower PySem.F.type_str_islower mt_islower (pv 0)))))))), ?_⟩
    refine ⟨_, rfl, _, .ty "str", _, _, _, rfl, .ty _, Vd.ty hv, k_str K _, _, rfl, ?_⟩
    by_cases hd : isStrD d = true
    · rw [hd]
      refine iteF ?_
      cases d <;> simp [isStrD] at hd
      rename_i x
      cases hv.str
      have hx : x.length ≤ sizeLine := by
        have : 10 * x.length + 10 ≤ 4000000 := hl
        rw [sizeLine_eq]
        omega
      refine ⟨_, rfl, x, rfl, hx, _, _, rfl, rfl, _, rfl, ?_⟩
      refine ite2 (fun hn => ?_) (fun hn => ?_)
      · have h6 : 6 < x.length := by
          have z : (6 : Int) < x.length := by simpa using hn
          omega
        have : isNmS x = false := by
          unfold isNmS
          have : decide (x.length ≤ 6) = false := decide_eq_false (by omega)
          rw [this, Bool.and_false]
          rfl
        have k' : Q (.bl (isNmS x)) H := k
        rw [this] at k'
        exact k'
      · have h6 : ¬ 6 < x.length := by
          have z : (x.length : Int) ≤ 6 := by simpa using hn
          omega
        have k' : Q (.bl (isNmS x)) H := k
        rw [← name_is x h6] at k'
        try dsimp only [tNext]
        refine ⟨_, rfl, rfl, x, rfl, rfl, trivial, _, rfl, ?_⟩
        cases c1 : Txt.isascii x
        · rw [c1] at k'
          exact iteF k'
        · rw [c1] at k'
          refine iteT ?_
          refine ⟨_, rfl, rfl, x, rfl, rfl, trivial, _, rfl, ?_⟩
          cases c2 : Txt.isalpha x
          · rw [c2] at k'
            exact iteF k'
          · rw [c2] at k'
            refine iteT ?_
            exact ⟨_, rfl, rfl, x, rfl, rfl, trivial, k'⟩
    · have hd2 : isStrD d = false := by simpa using hd
      rw [hd2]
      have : isNameD d = false := by cases d <;> first | rfl | (simp [isStrD] at hd2)
      rw [this] at k
      exact iteT (iteT k)
end
end Tg

namespace Tg
open PySem L2 Ow
/-! ### NoWeb, raised -/
def spI2x (C : Addr) (f g : Str) : Sp := fun vs H Q _ => ∃ (a : Addr) (x y : V), vs = [.ref a, x, y] ∧ H a = some (exo a C none) ∧ ∀ d, H d = none → d ≠ a → Q .non (upd (upd (upd H d (exd d [(f, x)])) a (exo a C (some d))) d (exd d [(g, y), (f, x)]))
abbrev pINoWeb : Stmt := inClass (top 7) 0
theorem scINoWeb : FnScope ["self", "word", "at"] ["self", "word", "at"] (defScope pINoWeb) := ⟨rfl, rfl, rfl, by decide +kernel, rfl, by decide +kernel, by decide +kernel⟩
section
variable {P : Program} {w : World} {K : PySem.W.Frag} {mg : Str → Option Value} {base : Heap}
theorem ok_INoWeb {C f : Addr} {fd : FuncData} (F : Fun K "__init__" "NoWeb.__init__" pINoWeb f fd) (T : OexC K C) (n1 : PySem.W.findIn K (.ref C) "word" = some none) (n2 : PySem.W.findIn K (.ref C) "at" = some none) : FnOk P w K mg base CX0 1 f fd ["self", "word", "at"] (spI2x C "word" "at") := by
  refine F.ok scINoWeb (fun vs H Q E h => ?_) (fun cdv A outer s H vs Q E hr h => ?_)
  · obtain ⟨a, x, y, rfl, _⟩ := h
    rfl
  · obtain ⟨a, x, y, rfl, ea, k⟩ := h
    refine ⟨_, pss_cons (ps_ost (pv 0) (pv 1)) (pss_one (ps_ost (pv 0) (pv 2))), ?_⟩
    refine ⟨_, rfl, _, rfl, a, C, rfl, T, n1, .inl ⟨ea, fun d hd ne => ?_⟩⟩
    have e1 : (upd (upd H d (exd d [("word", x)])) a (exo a C (some d))) a = some (exo a C (some d)) := upd_same
    have e2 : (upd (upd H d (exd d [("word", x)])) a (exo a C (some d))) d = some (exd d [("word", x)]) := by rw [upd_ne ne, upd_same]
    refine ⟨_, rfl, _, rfl, a, C, rfl, T, n2, .inr ⟨d, _, e1, e2, (by show 1 ≤ 900; decide), ?_⟩⟩
    exact k d hd ne
end
/-- what a caller may know of a raised NoWeb -/
def Told (C : Addr) (fs : List (Str × V)) (H : Hp) (E : XK) : Prop := ∀ d H', H d = none → Same H H' → H' d = some (.xd fs) → E (.ref C) (some d) H'
theorem Told.on {C : Addr} {fs : List (Str × V)} {H H1 : Hp} {E : XK} (t : Told C fs H E) (s : Same H H1) : Told C fs H1 E := fun d H' h1 h2 h3 => t d H' (s.free h1) (s.trans h2) h3
theorem mk_told {C : Addr} {f g : Str} {x y : V} {H : Hp} {E : XK} (k : Told C [(g, y), (f, x)] H E) : ∀ a, H a = none → spI2x C f g (.ref a :: ([x, y] ++ [])) (upd H a (exo a C none))
    (fun v H2 => v = .non ∧ ∃ (d : Addr) (fs : List (Str × V)), H2 a = some (exo a C (some d)) ∧ H2 d = some (exd d fs) ∧ H d = none ∧ E (.ref C) (some d) (upd (del H2 a) d (.xd fs))) (fun _ _ _ => False) := by
  intro a na
  refine ⟨a, x, y, rfl, upd_same, fun d hd ne => ⟨rfl, d, _, ?_, upd_same, ?_, ?_⟩⟩
  · rw [upd_ne ne.symm, upd_same]
  · rw [upd_ne ne] at hd
    exact hd
  · rw [upd_ne ne] at hd
    refine k d _ hd (fun b o e => ?_) upd_same
    have nb : b ≠ d := ne_of_none e hd
    have na2 : b ≠ a := ne_of_none e na
    rw [upd_ne nb, del_ne na2, upd_ne nb, upd_ne na2, upd_ne nb, upd_ne na2]
    exact e
/-- the class NoWeb as raised -/
structure Rz (P : Program) (w : World) (K : PySem.W.Frag) (mg : Str → Option Value) (base : Heap) (C fI : Addr) (fdI : FuncData) : Prop where
  T : OexC K C
  iC : PySem.W.findIn K (.ref C) "__init__" = some (some (.ref fI))
  tI : PySem.W.typeIn K (.ref fI) = some (.type "function")
  F1 : FnOk P w K mg base CX0 1 fI fdI ["self", "word", "at"] (spI2x C "word" "at")
  b : Binds K fdI ["self", "word", "at"] []
  gm : mg "NoWeb" = some (.ref C)
/-! ### what is due -/
def strOfD : PyData → Str
  | .str x => x
  | _ => ""
def intOfD : PyData → Int
  | .int i => i
  | _ => 0
def itemsD : PyData → List PyData
  | .tuple ds => ds
  | _ => []
def strsOf (d : PyData) : List Str := (itemsD d).map strOfD
abbrev Rop := Str × Str × Int
def ropOf (d : PyData) : Rop := (strOfD ((itemsD d).getD 0 .none), strOfD ((itemsD d).getD 1 .none), intOfD ((itemsD d).getD 2 .none))
def ropsOf (d : PyData) : List Rop := (itemsD d).map ropOf
def ropD (r : Rop) : PyData := .tuple [.str r.1, .str r.2.1, .int r.2.2]
theorem strs_back {d : PyData} (h : isTupS d = true) : d = .tuple ((strsOf d).map PyData.str) := by
  cases d <;> simp [isTupS] at h
  rename_i ds
  show _ = PyData.tuple ((ds.map strOfD).map PyData.str)
  congr 1
  induction ds with
  | nil => rfl
  | cons e es ih =>
    have he := h e List.mem_cons_self
    rw [List.map_cons, List.map_cons, ← ih fun x hx => h x (List.mem_cons_of_mem _ hx)]
    cases e <;> simp [isStrD] at he
    rfl
theorem rop_back {d : PyData} (h : isRopeD d = true) : d = ropD (ropOf d) := by
  cases d <;> try (simp [isRopeD] at h; done)
  rename_i ds
  by_cases h3 : ds.length = 3
  · match ds, h3 with
    | [a, b, c], _ =>
      simp only [isRopeD, Bool.and_eq_true] at h
      obtain ⟨⟨h1, h2⟩, h3, h4⟩ := h
      cases a <;> simp [isStrD] at h1
      cases b <;> simp [isStrD] at h2
      cases c <;> simp [isIntB, isBoolD] at h3 h4
      rfl
  · rw [not_rope h3] at h
    cases h
theorem rops_back {d : PyData} (h : ropesD d = true) : d = .tuple ((ropsOf d).map ropD) := by
  cases d <;> simp [ropesD] at h
  rename_i ds
  show _ = PyData.tuple ((ds.map ropOf).map ropD)
  congr 1
  induction ds with
  | nil => rfl
  | cons e es ih =>
    have he := h e List.mem_cons_self
    rw [List.map_cons, List.map_cons, ← ih fun x hx => h x (List.mem_cons_of_mem _ hx), ← rop_back he]
def wBad (ws : List Str) (i : Nat) : Bool := (ws.take i).contains (ws.getD i "") || !isNmS (ws.getD i "")
def badW (ws : List Str) : Option Nat := (List.range ws.length).find? (wBad ws)
def rBad (ws : List Str) (r : Rop) : Bool := !ws.contains r.1 || (!ws.contains r.2.1 || (decide (r.1 = r.2.1) || decide (r.2.2 < 0)))
def badR (ws : List Str) (rs : List Rop) : Option Nat := (List.range rs.length).find? fun i => rBad ws (rs.getD i ("", "", 0))
def formD (W R : PyData) : Bool := isTupS W && ropesD R
def sizeD (W : PyData) : Bool := decide (1 ≤ (itemsD W).length) && decide ((itemsD W).length ≤ 6)
def dueD (W R : PyData) : Option (Str × Int) :=
  if formD W R then
    if sizeD W then
      match badW (strsOf W) with
      | some i => some ("walker", (i : Int))
      | none => match badR (strsOf W) (ropsOf R) with
        | some i => some ("rope", (i : Int))
        | none => none
    else some ("size", 0)
  else some ("form", 0)
theorem find_hit {p : Nat → Bool} {n t : Nat} (ht : t < n) (h0 : ∀ j, j < t → p j = false) (h1 : p t = true) : (List.range n).find? p = some t := by
  rw [List.find?_range_eq_some]
  exact ⟨h1, List.mem_range.mpr ht, fun j hj => by rw [h0 j hj]; rfl⟩
theorem find_no {p : Nat → Bool} {n : Nat} (h0 : ∀ j, j < n → p j = false) : (List.range n).find? p = none := by
  rw [List.find?_range_eq_none]
  exact fun j hj => by rw [h0 j hj]; rfl
theorem vdA_strs {H : Hp} : ∀ {ws : List Str} {xs : List V}, VdA H (ws.map PyData.str) xs → xs = ws.map V.str
  | [], _, h => by unfold VdA at h; exact h
  | x :: ws, xs, h => by
    obtain ⟨v, r, e, h1, h2⟩ := h.uncons
    rw [e, h1.str, vdA_strs h2]
    rfl
theorem inV_strs (x : Str) (ws : List Str) : inV (V.str x) (ws.map V.str) = ws.contains x := by
  induction ws with
  | nil => rfl
  | cons y ws ih =>
    have : inV (V.str x) ((y :: ws).map V.str) = (eqV (V.str y) (V.str x) || inV (V.str x) (ws.map V.str)) := rfl
    rw [this, ih, List.contains_cons]
    congr 1
    show decide (y = x) = (x == y)
    by_cases c : y = x
    · subst c
      simp
    · have c2 : ¬ x = y := fun z => c z.symm
      simp [c, c2]
theorem flat_strs (ws : List Str) : (ws.map V.str).all flatV = true := by
  induction ws with
  | nil => rfl
  | cons y ws ih => simp [List.all_cons, flatV, ih]
end Tg

namespace Tg
open PySem L2 Ow ClX
section
variable {P : Program} {w : World} {K : PySem.W.Frag} {mg : Str → Option Value} {base : Heap} {C fI : Addr} {fdI : FuncData}
def fsW (word : Str) (at_ : Int) : List (Str × V) := [("at", .int at_), ("word", .str word)]
def spChkF (C : Addr) : Sp := fun vs H Q E => ∃ W R wv rv, vs = [wv, rv] ∧ Vd H W wv ∧ Vd H R rv ∧ Lim W ∧ Lim R ∧ (formD W R = true → ∀ H', Same H H' → Q .non H') ∧ (formD W R = false → Told C (fsW "form" 0) H E)
theorem scChkF : FnScope ["walkers", "ropes", "rope"] ["walkers", "ropes"] (defScope pForm) := ⟨rfl, rfl, rfl, by decide +kernel, rfl, by decide +kernel, by decide +kernel⟩
theorem ok_ChkF {f : Addr} {fd : FuncData} (F : Fun K "check_form" "check_form" pForm f fd) (T : TxtP mg) (W : Rz P w K mg base C fI fdI) (cTuS : Cal P w K mg base 1 "is_tuple_of_strings" ["value"] spTuS) (cRope : Cal P w K mg base 1 "is_rope" ["value"] spRopeP) :
    FnOk P w K mg base (L2.CX P w) 3 f fd ["walkers", "ropes"] (spChkF C) := by
  refine F.okX scChkF (fun vs H Q E h => ?_) (fun cdv A outer s H vs Q E hr h => ?_)
  · obtain ⟨W, R, wv, rv, rfl, _⟩ := h
    rfl
  · obtain ⟨WD, RD, wv, rv, rfl, hw, hrv, lw, lr, kok, kno⟩ := h
    have nd := scChkF.nd
    refine ⟨_, (pss_cons (ps_if (PW.pt (pw_or (pt_not (pt_val (pe_cal cTuS (hr.mono (by decide)) (by rfl) (pa_cons (pv 0) pa_nil)))) (pw_or1 (pt_not (pt_val (pe_callB call_isi (by rfl) T.b_isinstance (by decide +kernel) (pa_cons (pv 1) (pa_cons (pe_bltn (v := .ty "tuple") (by rfl) T.b_tuple (by decide +kernel) rfl) pa_nil))))))))
        (pss_one (ps_raise rfl (takes_of rfl rfl rfl rfl) (pmk_oex W.T W.iC W.tI W.F1 (hr.mono (by decide)) W.b .nil pass0 (by rfl) W.gm (pa_cons pe_str (pa_cons pe_int pa_nil)))))
        pss_nil)
      (pss_one (ps_for (passes_of rfl) rfl (pi_tup (pv 1)) (pg_name (i := 2) nd rfl (.inl rfl))
        (pss_one (ps_if (pt_not (pt_val (pe_cal cRope (hr.mono (by decide)) (by rfl) (pa_cons (pv 2) pa_nil))))
          (pss_one (ps_raise rfl (takes_of rfl rfl rfl rfl) (pmk_oex W.T W.iC W.tI W.F1 (hr.mono (by decide)) W.b .nil pass0 (by rfl) W.gm (pa_cons pe_str (pa_cons pe_int pa_nil)))))
          pss_nil))))), ?_⟩
    refine ⟨_, rfl, WD, wv, rfl, hw, lw, fun H1 s1 => ⟨_, rfl, ?_⟩⟩
    cases c1 : isTupS WD
    · refine iteT (iteT ?_)
      have k := (kno (by unfold formD; rw [c1]; rfl)).on s1
      exact ⟨by decide, mk_told k⟩
    refine iteF ?_
    have hr1 := hrv.keep s1.tkept
    refine ⟨_, rfl, _, .ty "tuple", _, _, _, rfl, .ty _, Vd.ty hr1, k_tup K _, _, rfl, ?_⟩
    cases c2 : isTupD RD
    · refine iteT ?_
      have : ropesD RD = false := by cases RD <;> first | rfl | (simp [isTupD] at c2)
      have k := (kno (by unfold formD; rw [this, Bool.and_false])).on s1
      exact ⟨by decide, mk_told k⟩
    refine iteF ?_
    cases RD <;> simp [isTupD] at c2
    rename_i ds
    obtain ⟨a, xs, rfl, ea, hs⟩ := hr1.tup
    try dsimp only [tNext]
    refine ⟨_, rfl, a, rfl, ⟨_, SqT.of ea⟩, ?_⟩
    refine for_tup (K := K) (a := a) (xs := xs) (fun t σ G => ∃ v2 : Option V, σ = [some wv, some (.ref a), v2] ∧ Same H1 G ∧ ∀ j, j < t → isRopeD (ds.getD j .none) = true) ⟨_, rfl, Same.refl _, fun j hj => absurd hj (Nat.not_lt_zero _)⟩ (fun t σ G _ ⟨_, _, sG, _⟩ => SqT.of (sG _ _ ea)) ?_ ?_
    · rintro t x σ G hx ⟨v2, rfl, sG, hj⟩
      have ht : t < ds.length := by
        rw [← hs.len]
        exact (List.getElem?_eq_some_iff.mp hx).1
      obtain ⟨d1, x1, hd1, hx1, v1⟩ := hs.at_ ht
      rw [hx] at hx1
      cases hx1
      have gd1 : ds.getD t .none = d1 := by rw [List.getD_eq_getElem?_getD, hd1]; rfl
      refine ⟨_, rfl, d1, x, rfl, v1.keep sG.tkept, _, rfl, ?_⟩
      cases c3 : isRopeD d1
      · refine iteT ?_
        have : ropesD (.tuple ds) = false := by
          show ds.all isRopeD = false
          rw [List.all_eq_false]
          exact ⟨d1, List.mem_of_getElem? hd1, by rw [c3]; decide⟩
        have k := (kno (by unfold formD; rw [this, Bool.and_false])).on (s1.trans sG)
        exact ⟨by decide, mk_told k⟩
      · refine iteF ?_
        refine ⟨_, rfl, sG, fun j hj2 => ?_⟩
        by_cases e : j = t
        · rw [e, gd1]
          exact c3
        · exact hj j (by omega)
    · rintro σ G ⟨v2, rfl, sG, hj⟩
      rw [hs.len] at hj
      refine kok ?_ G (s1.trans sG)
      unfold formD
      rw [c1, Bool.true_and]
      show ds.all isRopeD = true
      refine List.all_eq_true.mpr fun d hd => ?_
      obtain ⟨j, hj1, hj2⟩ := List.mem_iff_getElem.mp hd
      have := hj j hj1
      rw [List.getD_eq_getElem?_getD, List.getElem?_eq_getElem hj1, hj2] at this
      exact this
/-- Tree.is_name -/
structure NmC (P : Program) (w : World) (K : PySem.W.Frag) (mg : Str → Option Value) (base : Heap) : Prop where
  ex : ∃ (CT p g : Addr) (mc : Value), CRead K CT mc ∧ SMet K CT mc "is_name" p g ∧ FnR P w K mg base CX0 1 g spIsName ∧ mg "Tree" = some (.ref CT)
def spChkW (C : Addr) : Sp := fun vs H Q E => ∃ (ws : List Str) (a : Addr), vs = [.ref a] ∧ H a = some (.tup (ws.map V.str)) ∧ ws.length ≤ 2000000 ∧ (∀ x ∈ ws, 10 * x.length + 10 ≤ 4000000) ∧
  (1 ≤ ws.length ∧ ws.length ≤ 6 → badW ws = none → ∀ H', Same H H' → Q .non H') ∧ (1 ≤ ws.length ∧ ws.length ≤ 6 → ∀ i, badW ws = some i → Told C (fsW "walker" i) H E) ∧ (¬ (1 ≤ ws.length ∧ ws.length ≤ 6) → Told C (fsW "size" 0) H E)
theorem scChkW : FnScope ["walkers", "at", "walker"] ["walkers"] (defScope pWalk) := ⟨rfl, rfl, rfl, by decide +kernel, rfl, by decide +kernel, by decide +kernel⟩
theorem ok_ChkW {f : Addr} {fd : FuncData} {t0 : Tok} (F : Fun K "check_walkers" "check_walkers" pWalk f fd) (T : TxtP mg) (W : Rz P w K mg base C fI fdI) (N : NmC P w K mg base) (gMW : mg "MOST_WALKERS" = some (.int 6 t0)) :
    FnOk P w K mg base (L2.CX P w) 3 f fd ["walkers"] (spChkW C) := by
  refine F.okX scChkW (fun vs H Q E h => ?_) (fun cdv A outer s H vs Q E hr h => ?_)
  · obtain ⟨ws, a, rfl, _⟩ := h
    rfl
  · obtain ⟨ws, a, rfl, ea, hlen, hx, kok, kwalk, ksize⟩ := h
    obtain ⟨CT, pT, gT, mc, rT, cT, FT, mT⟩ := N.ex
    have nd := scChkW.nd
    refine ⟨_, (pss_cons (ps_if (pt_not (pt_chain op_le op_le pe_int (pe_callB call_len_seq (by rfl) T.b_len PySem.boot_len (pa_cons (pv 0) pa_nil)) (pe_glob (v := .int 6) rfl gMW ⟨_, rfl⟩)))
        (pss_one (ps_raise rfl (takes_of rfl rfl rfl rfl) (pmk_oex W.T W.iC W.tI W.F1 (hr.mono (by decide)) W.b .nil pass0 (by rfl) W.gm (pa_cons pe_str (pa_cons pe_int pa_nil)))))
        pss_nil)
      (pss_one (ps_for (passes_of rfl) rfl (pi_enA (by rfl) T.b_enumerate (pa_cons (pv 0) pa_nil)) (pg_tup (by rfl) (pgs_cons (pg_name (i := 1) nd rfl (.inl rfl)) (pgs_cons (pg_name (i := 2) nd rfl (.inl rfl)) pgs_nil)))
        (pss_one (ps_if (PW.pt (pw_or (pt_cmpR op_in_seq (pv 2) (pe_slice sl_tup (pv 0) po_none (po_some (pv 1))) rfl) (pw_or1 (pt_not (pt_val (pe_smeth (pe_glob (v := .ref CT) (by rfl) mT rfl) rT cT FT (hr.mono (by decide)) pass0 (pa_cons (pv 2) pa_nil)))))))
            (pss_one (ps_raise rfl (takes_of rfl rfl rfl rfl) (pmk_oex W.T W.iC W.tI W.F1 (hr.mono (by decide)) W.b .nil pass0 (by rfl) W.gm (pa_cons pe_str (pa_cons (pv 1) pa_nil)))))
            pss_nil))))), ?_⟩
    refine ⟨_, rfl, a, _, rfl, .inr (SqT.of ea), _, _, rfl, rfl, _, rfl, ?_⟩
    have lw : ((ws.map V.str).length : Int) = (ws.length : Int) := by rw [List.length_map]
    rw [lw]
    by_cases c1 : (1 : Int) ≤ (ws.length : Int)
    case neg =>
      rw [decide_eq_false c1]
      refine iteF ⟨_, rfl, iteT ?_⟩
      exact ⟨by decide, mk_told (ksize (by omega))⟩
    rw [decide_eq_true c1]
    refine iteT ⟨_, _, rfl, rfl, _, rfl, ?_⟩
    by_cases c2 : (ws.length : Int) ≤ 6
    case neg =>
      rw [decide_eq_false c2]
      refine iteT ?_
      exact ⟨by decide, mk_told (ksize (by omega))⟩
    rw [decide_eq_true c2]
    refine iteF ?_
    have sz : 1 ≤ ws.length ∧ ws.length ≤ 6 := ⟨by omega, by omega⟩
    try dsimp only [tNext]
    refine ⟨_, rfl, a, _, rfl, .inr ⟨SqT.of ea, ?_⟩⟩
    refine for_it (walk_enT (xs := ws.map V.str)) (fun t σ G => ∃ v1 v2 : Option V, σ = [some (.ref a), v1, v2] ∧ Same H G ∧ ∀ j, j < t → wBad ws j = false) ⟨_, _, rfl, Same.refl _, fun j hj => absurd hj (Nat.not_lt_zero _)⟩ (fun t σ G _ ⟨_, _, _, sG, _⟩ => SqT.of (sG _ _ ea)) ?_ ?_
    · rintro t x σ G G2 ht ⟨v1, v2, rfl, sG, hj⟩ ⟨T0, x0, y0, rfl, nT, rfl, ex, ey⟩
      obtain rfl : V.int (t : Nat) = x0 := Option.some.inj ex
      have ht2 : t < ws.length := by rw [List.length_map] at ht; exact ht
      have ey2 : y0 = V.str (ws.getD t "") := by
        have ey : (ws.map V.str)[t]? = some y0 := ey
        rw [List.getElem?_map, List.getElem?_eq_getElem ht2] at ey
        rw [List.getD_eq_getElem?_getD, List.getElem?_eq_getElem ht2]
        exact (Option.some.inj ey).symm
      subst ey2
      have hwt : ws.getD t "" ∈ ws := by
        rw [List.getD_eq_getElem?_getD, List.getElem?_eq_getElem ht2]
        exact List.getElem_mem ht2
      have s2 : Same H (upd G T0 (.tup [.int (t : Nat), V.str (ws.getD t "")])) := same_upd sG (sG.free nT)
      have eT : (upd G T0 (.tup [.int (t : Nat), V.str (ws.getD t "")])) T0 = some (.tup [.int (t : Nat), V.str (ws.getD t "")]) := upd_same
      generalize upd G T0 (.tup [.int (t : Nat), V.str (ws.getD t "")]) = G3 at s2 eT ⊢
      refine ⟨T0, _, rfl, SqT.of eT, rfl, _, _, rfl, _, _, rfl, rfl, ?_⟩
      refine ⟨_, rfl, _, rfl, _, rfl, _, rfl, a, _, rfl, SqT.of (s2 _ _ ea), ?_, fun p np => ?_⟩
      · rw [HT.sIx_nat]
        rintro ⟨_, h⟩
        rw [List.length_map] at h
        rw [Nat.min_eq_left (by omega)] at h
        omega
      have cutE : cutV (ws.map V.str) none (some (t : Int)) = (ws.take t).map V.str := by
        unfold cutV
        rw [HT.sIx_none, HT.sIx_nat, List.drop_zero, Nat.sub_zero, Nat.min_eq_left (by rw [List.length_map]; omega), List.map_take]
      rw [cutE]
      have s3 : Same H (upd G3 p (.tup ((ws.take t).map V.str))) := same_upd s2 (s2.free np)
      refine ⟨p, _, rfl, .inr (SqT.of upd_same), rfl, flat_strs _, _, rfl, ?_⟩
      rw [inV_strs]
      have wb : wBad ws t = ((ws.take t).contains (ws.getD t "") || !isNmS (ws.getD t "")) := rfl
      have bad : wBad ws t = true → Told C (fsW "walker" (t : Int)) (upd G3 p (.tup ((ws.take t).map V.str))) E := fun z => (kwalk sz t (find_hit ht2 hj z)).on s3
      have good : wBad ws t = false → ∀ j, j < t + 1 → wBad ws j = false := fun z j hj2 => by
        by_cases e : j = t
        · rw [e]; exact z
        · exact hj j (by omega)
      cases c3 : (ws.take t).contains (ws.getD t "")
      · refine iteF ?_
        rw [c3, Bool.false_or] at wb
        refine ⟨rfl, _, rfl, .str (ws.getD t ""), _, rfl, Vd.mkStr _, hx _ hwt, _, rfl, ?_⟩
        show if (!isNmS (ws.getD t "")) = true then _ else _
        cases c4 : isNmS (ws.getD t "")
        · rw [c4] at wb
          refine iteT ?_
          exact ⟨_, rfl, (by show 2 ≤ 1000; decide), mk_told (bad wb)⟩
        · rw [c4] at wb
          refine iteF ?_
          exact ⟨_, _, rfl, s3, good wb⟩
      · refine iteT ?_
        rw [c3] at wb
        exact ⟨_, rfl, (by show 2 ≤ 1000; decide), mk_told (bad wb)⟩
    · rintro σ G ⟨v1, v2, rfl, sG, hj⟩
      rw [List.length_map] at hj
      exact kok sz (find_no hj) G sG
theorem vdA_rops {H : Hp} : ∀ {rs : List Rop} {xs : List V} {i : Nat}, VdA H (rs.map ropD) xs → i < rs.length → ∃ (q : Addr) (r : Rop), rs[i]? = some r ∧ xs[i]? = some (.ref q) ∧ H q = some (.tup [.str r.1, .str r.2.1, .int r.2.2]) := by
  intro rs xs i h hi
  obtain ⟨d, x, e1, e2, v⟩ := h.at_ (i := i) (by rw [List.length_map]; exact hi)
  rw [List.getElem?_map, List.getElem?_eq_getElem hi] at e1
  cases Option.some.inj e1
  obtain ⟨q, ys, rfl, eq, hs⟩ := v.tup
  obtain ⟨x1, r1, rfl, v1, hs1⟩ := hs.uncons
  obtain ⟨x2, r2, rfl, v2, hs2⟩ := hs1.uncons
  obtain ⟨x3, r3, rfl, v3, hs3⟩ := hs2.uncons
  unfold VdA at hs3
  subst hs3
  rw [v1.str, v2.str, v3.int] at eq
  exact ⟨q, rs[i], List.getElem?_eq_getElem hi, e2, eq⟩
def spChkR (C : Addr) : Sp := fun vs H Q E => ∃ (ws : List Str) (rs : List Rop) (xs : List V) (a b : Addr), vs = [.ref a, .ref b] ∧ H a = some (.tup (ws.map V.str)) ∧ H b = some (.tup xs) ∧ VdA H (rs.map ropD) xs ∧
  (badR ws rs = none → ∀ H', Same H H' → Q .non H') ∧ (∀ i, badR ws rs = some i → Told C (fsW "rope" i) H E)
theorem scChkR : FnScope ["walkers", "ropes", "at", "one", "other", "length"] ["walkers", "ropes"] (defScope pRopes) := ⟨rfl, rfl, rfl, by decide +kernel, rfl, by decide +kernel, by decide +kernel⟩
theorem ok_ChkR {f : Addr} {fd : FuncData} (F : Fun K "check_ropes" "check_ropes" pRopes f fd) (T : TxtP mg) (W : Rz P w K mg base C fI fdI) : FnOk P w K mg base (L2.CX P w) 3 f fd ["walkers", "ropes"] (spChkR C) := by
  refine F.okX scChkR (fun vs H Q E h => ?_) (fun cdv A outer s H vs Q E hr h => ?_)
  · obtain ⟨ws, rs, xs, a, b, rfl, _⟩ := h
    rfl
  · obtain ⟨ws, rs, xs, a, b, rfl, ea, eb, hv, kok, kbad⟩ := h
    have nd := scChkR.nd
    have lx : xs.length = rs.length := by rw [hv.len, List.length_map]
    refine ⟨_, (pss_one (ps_for (passes_of rfl) rfl (pi_enA (by rfl) T.b_enumerate (pa_cons (pv 1) pa_nil)) (pg_tup (by rfl) (pgs_cons (pg_name (i := 2) nd rfl (.inl rfl)) (pgs_cons (pg_tup (by rfl) (pgs_cons (pg_name (i := 3) nd rfl (.inl rfl)) (pgs_cons (pg_name (i := 4) nd rfl (.inl rfl)) (pgs_cons (pg_name (i := 5) nd rfl (.inl rfl)) pgs_nil)))) pgs_nil)))
        (pss_one (ps_if (PW.pt (pw_or (pt_cmpR op_notIn_seq (pv 3) (pv 0) rfl) (pw_or (pt_cmpR op_notIn_seq (pv 4) (pv 0) rfl) (pw_or (pt_cmpR op_eq (pv 3) (pv 4) (nomark _)) (pw_or1 (pt_cmpR op_lt (pv 5) pe_int (nomark _)))))))
            (pss_one (ps_raise rfl (takes_of rfl rfl rfl rfl) (pmk_oex W.T W.iC W.tI W.F1 (hr.mono (by decide)) W.b .nil pass0 (by rfl) W.gm (pa_cons pe_str (pa_cons (pv 2) pa_nil)))))
            pss_nil)))), ?_⟩
    refine ⟨_, rfl, b, _, rfl, .inr ⟨SqT.of eb, ?_⟩⟩
    refine for_it (walk_enT (xs := xs)) (fun t σ G => ∃ v2 v3 v4 v5 : Option V, σ = [some (.ref a), some (.ref b), v2, v3, v4, v5] ∧ Same H G ∧ ∀ j, j < t → rBad ws (rs.getD j ("", "", 0)) = false) ⟨_, _, _, _, rfl, Same.refl _, fun j hj => absurd hj (Nat.not_lt_zero _)⟩ (fun t σ G _ ⟨_, _, _, _, _, sG, _⟩ => SqT.of (sG _ _ eb)) ?_ ?_
    · rintro t x σ G G2 ht ⟨v2, v3, v4, v5, rfl, sG, hj⟩ ⟨T0, x0, y0, rfl, nT, rfl, ex, ey⟩
      obtain rfl : V.int (t : Nat) = x0 := Option.some.inj ex
      have ht2 : t < rs.length := by rw [← lx]; exact ht
      obtain ⟨q, r, er, exq, eq⟩ := vdA_rops hv ht2
      obtain rfl : V.ref q = y0 := by
        have ey : xs[t]? = some y0 := ey
        rw [exq] at ey
        exact Option.some.inj ey
      have gr : rs.getD t ("", "", 0) = r := by rw [List.getD_eq_getElem?_getD, er]; rfl
      have s2 : Same H (upd G T0 (.tup [.int (t : Nat), .ref q])) := same_upd sG (sG.free nT)
      have eT : (upd G T0 (.tup [.int (t : Nat), .ref q])) T0 = some (.tup [.int (t : Nat), .ref q]) := upd_same
      generalize upd G T0 (.tup [.int (t : Nat), .ref q]) = G3 at s2 eT ⊢
      have ea3 := s2 _ _ ea
      refine ⟨T0, _, rfl, SqT.of eT, rfl, _, _, rfl, _, _, rfl, ⟨q, _, rfl, SqT.of (s2 _ _ eq), rfl, _, _, rfl, _, _, rfl, _, _, rfl, rfl, rfl, ?_⟩⟩
      have wb : rBad ws (rs.getD t ("", "", 0)) = (!ws.contains r.1 || (!ws.contains r.2.1 || (decide (r.1 = r.2.1) || decide (r.2.2 < 0)))) := by rw [gr]; rfl
      have bad : rBad ws (rs.getD t ("", "", 0)) = true → Told C (fsW "rope" (t : Int)) G3 E := fun z => (kbad t (find_hit ht2 hj z)).on s2
      have good : rBad ws (rs.getD t ("", "", 0)) = false → ∀ j, j < t + 1 → rBad ws (rs.getD j ("", "", 0)) = false := fun z j hj2 => by
        by_cases e : j = t
        · rw [e]; exact z
        · exact hj j (by omega)
      refine ⟨_, rfl, _, rfl, a, _, rfl, .inr (SqT.of ea3), rfl, flat_strs _, _, rfl, ?_⟩
      rw [inV_strs]
      show if (!ws.contains r.1) = true then _ else _
      cases c1 : ws.contains r.1
      · rw [c1] at wb
        refine iteT (iteT ?_)
        exact ⟨_, rfl, (by show 2 ≤ 1000; decide), mk_told (bad wb)⟩
      rw [c1] at wb
      refine iteF ⟨_, rfl, _, rfl, a, _, rfl, .inr (SqT.of ea3), rfl, flat_strs _, _, rfl, ?_⟩
      rw [inV_strs]
      show if (!ws.contains r.2.1) = true then _ else _
      cases c2 : ws.contains r.2.1
      · rw [c2] at wb
        refine iteT (iteT ?_)
        exact ⟨_, rfl, (by show 2 ≤ 1000; decide), mk_told (bad wb)⟩
      rw [c2] at wb
      refine iteF ⟨_, rfl, _, rfl, rfl, _, rfl, ?_⟩
      refine ite2 (fun c3 => ?_) (fun c3 => ?_)
      · have c3 : r.1 = r.2.1 := by simpa using c3
        rw [decide_eq_true c3] at wb
        refine iteT ?_
        exact ⟨_, rfl, (by show 2 ≤ 1000; decide), mk_told (bad wb)⟩
      have c3 : ¬ r.1 = r.2.1 := by simpa using c3
      rw [decide_eq_false c3] at wb
      refine ⟨_, rfl, _, _, rfl, rfl, _, rfl, ?_⟩
      by_cases c4 : r.2.2 < 0
      · rw [decide_eq_true c4] at wb
        rw [decide_eq_true c4]
        refine iteT ?_
        exact ⟨_, rfl, (by show 2 ≤ 1000; decide), mk_told (bad wb)⟩
      · rw [decide_eq_false c4] at wb
        rw [decide_eq_false c4]
        refine iteF ?_
        exact ⟨_, _, _, _, rfl, s2, good wb⟩
    · rintro σ G ⟨v2, v3, v4, v5, rfl, sG, hj⟩
      rw [lx] at hj
      exact kok (find_no hj) G sG
end
end Tg

namespace Tg
open PySem L2 Ow
def oV : Option Int → V
  | none => .non
  | some i => .int i
def lessO : Option Int → Option Int → Bool
  | none, _ => false
  | some _, none => true
  | some a, some b => decide (a < b)
structure MatAt (H : Hp) (p : Addr) (ws : List Str) (qs : Nat → Addr) (M : Nat → Nat → Option Int) : Prop where
  top : H p = some (.dK (kvT (fun i => .ref (qs i)) ws ws.length))
  row : ∀ i, i < ws.length → H (qs i) = some (.dK (kvT (fun j => oV (M i j)) ws ws.length))
  inj : ∀ i j, i < ws.length → j < ws.length → qs i = qs j → i = j
theorem MatAt.same {H H' : Hp} {p : Addr} {ws : List Str} {qs : Nat → Addr} {M : Nat → Nat → Option Int} (m : MatAt H p ws qs M) (s : Same H H') : MatAt H' p ws qs M := ⟨s _ _ m.top, fun i hi => s _ _ (m.row i hi), m.inj⟩
def setM (M : Nat → Nat → Option Int) (i j : Nat) (x : Option Int) : Nat → Nat → Option Int := fun a b => if a = i ∧ b = j then x else M a b
theorem kvT_ne {ws : List Str} {n : Nat} {f g : Nat → V} (hn : 0 < n) (h : f 0 ≠ g 0) : kvT f ws n ≠ kvT g ws n := fun e => by
  obtain ⟨m, rfl⟩ : ∃ m, n = m + 1 := ⟨n - 1, by omega⟩
  have e2 := congrArg (fun l => l.head?.map (·.2)) e
  simp only [kvT, List.range_succ_eq_map, List.map_cons, List.head?_cons, Option.map_some] at e2
  exact h (Option.some.inj e2)
theorem oV_ref (o : Option Int) (a : Addr) : V.ref a ≠ oV o := by cases o <;> (intro z; cases z)
theorem MatAt.pq {H : Hp} {p : Addr} {ws : List Str} {qs : Nat → Addr} {M : Nat → Nat → Option Int} (m : MatAt H p ws qs M) {i : Nat} (hi : i < ws.length) : p ≠ qs i := fun z => by
  have e1 := m.top
  rw [z, m.row i hi] at e1
  have e2 := Option.some.inj e1
  injection e2 with e3
  exact kvT_ne (by omega) (oV_ref (M i 0) (qs 0)).symm e3
theorem MatAt.put {H : Hp} {p : Addr} {ws : List Str} {qs : Nat → Addr} {M : Nat → Nat → Option Int} (m : MatAt H p ws qs M) {i j : Nat} (hi : i < ws.length) (hj : j < ws.length) (x : Option Int) :
    MatAt (upd H (qs i) (.dK (kvT (setF (fun j => oV (M i j)) j (oV x)) ws ws.length))) p ws qs (setM M i j x) := by
  refine ⟨by rw [upd_ne (m.pq hi)]; exact m.top, fun a ha => ?_, m.inj⟩
  by_cases e : a = i
  · subst e
    rw [upd_same]
    congr 2
    refine kvT_congr fun b hb => ?_
    unfold setF setM
    by_cases e2 : b = j
    · subst e2
      simp
    · simp [e2]
  · rw [upd_ne fun z => e (m.inj a i ha hi z), m.row a ha]
    congr 2
    refine kvT_congr fun b hb => ?_
    unfold setM
    simp [e]
theorem MatAt.dput {H : Hp} {p : Addr} {ws : List Str} {qs : Nat → Addr} {M : Nat → Nat → Option Int} (nd : ws.Nodup) (hl : ws.length < sizeLine) (m : MatAt H p ws qs M) {i j : Nat} (hi : i < ws.length) (hj : j < ws.length) (x : Option Int) :
    DPut H (qs i) (.str (ws.getD j "")) (oV x) (upd H (qs i) (.dK (kvT (setF (fun j => oV (M i j)) j (oV x)) ws ws.length))) :=
  dput_of (k := .inr (ws.getD j "")) (m.row i hi) (kvT_put nd hj (Nat.le_refl _) _) (by rw [kvT_len]; exact hl)
theorem MatAt.g1 {H : Hp} {p : Addr} {ws : List Str} {qs : Nat → Addr} {M : Nat → Nat → Option Int} (nd : ws.Nodup) (m : MatAt H p ws qs M) {i : Nat} (hi : i < ws.length) : DGet H p (.str (ws.getD i "")) (some (.ref (qs i))) :=
  dget_of (k := .inr (ws.getD i "")) m.top (kvT_val nd hi (Nat.le_refl _))
theorem MatAt.g2 {H : Hp} {p : Addr} {ws : List Str} {qs : Nat → Addr} {M : Nat → Nat → Option Int} (nd : ws.Nodup) (m : MatAt H p ws qs M) {i j : Nat} (hi : i < ws.length) (hj : j < ws.length) : DGet H (qs i) (.str (ws.getD j "")) (some (oV (M i j))) :=
  dget_of (k := .inr (ws.getD j "")) (m.row i hi) (kvT_val nd hj (Nat.le_refl _))
def scD1 : Scope := { kind := .function, names := [(".0", .local), ("walker", .local), ("walkers", .free)], isGenerator := false, isCoroutine := false }
section
variable {P : Program} {w : World} {K : PySem.W.Frag} {mg : Str → Option Value} {base : Heap} {C fI : Addr} {fdI : FuncData}
def spLess : Sp := fun vs H Q _ => ∃ a b, vs = [oV a, oV b] ∧ Q (.bl (lessO a b)) H
theorem scLess : FnScope ["length", "other"] ["length", "other"] (defScope pLess) := ⟨rfl, rfl, rfl, by decide +kernel, rfl, by decide +kernel, by decide +kernel⟩
theorem ok_Less {f : Addr} {fd : FuncData} (F : Fun K "is_less" "is_less" pLess f fd) : FnOk P w K mg base CX0 1 f fd ["length", "other"] spLess := by
  refine F.ok scLess (fun vs H Q E h => ?_) (fun cdv A outer s H vs Q E hr h => ?_)
  · obtain ⟨a, b, rfl, _⟩ := h
    rfl
  · obtain ⟨a, b, rfl, k⟩ := h
    refine ⟨_, (pss_one (ps_ret (pe_and (pe_cmpR op_notN (pv 0) pe_non (nomark _)) (pe_one (pe_or (pe_cmpR op_isN (pv 1) pe_non (nomark _)) (pe_one (pe_cmpR op_lt (pv 0) (pv 1) (nomark _)))))))), ?_⟩
    cases a with
    | none => exact ⟨_, rfl, rfl, _, rfl, iteF k⟩
    | some x =>
      refine ⟨_, rfl, rfl, _, rfl, iteT ?_⟩
      cases b with
      | none => exact ⟨_, rfl, rfl, _, rfl, iteT k⟩
      | some y => exact ⟨_, rfl, rfl, _, rfl, iteF ⟨_, rfl, _, rfl, _, _, rfl, rfl, k⟩⟩
/-- the ends of ropes are walkers -/
def EndsIn (ws : List Str) (rs : List Rop) : Prop := ∀ r ∈ rs, r.1 ∈ ws ∧ r.2.1 ∈ ws
def spTies : Sp := fun vs H Q _ => ∃ (ws : List Str) (rs : List Rop) (xs : List V) (a b : Addr), vs = [.ref a, .ref b] ∧ H a = some (.tup (ws.map V.str)) ∧ H b = some (.tup xs) ∧ VdA H (rs.map ropD) xs ∧ ws.Nodup ∧ ws.length ≤ 1000 ∧ EndsIn ws rs ∧
  ∀ p qs M H', H p = none → Same H H' → MatAt H' p ws qs M → (∀ i, i < ws.length → H (qs i) = none) → Q (.ref p) H'
abbrev tiN : List Str := ["walkers", "ropes", "ties", "one", "other", "length", "walker", "mate"]
theorem scTies : FnScope tiN ["walkers", "ropes"] (defScope pTies) := ⟨rfl, rfl, rfl, by decide +kernel, rfl, by decide +kernel, by decide +kernel⟩
theorem ok_Ties {f : Addr} {fd : FuncData} (F : Fun K "ties_of" "ties_of" pTies f fd) (cLess : Cal P w K mg base 1 "is_less" ["length", "other"] spLess) : FnOk P w K mg base CX0 2 f fd ["walkers", "ropes"] spTies := by
  refine F.ok scTies (fun vs H Q E h => ?_) (fun cdv A outer s H vs Q E hr h => ?_)
  · obtain ⟨ws, rs, xs, a, b, rfl, _⟩ := h
    rfl
  · obtain ⟨ws, rs, xs, a, b, rfl, ea, eb, hv, nw, hl, hen, k⟩ := h
    have nd := scTies.nd
    have hu := hu_of hr
    have lx : xs.length = rs.length := by rw [hv.len, List.length_map]
    refine ⟨_, (pss_cons (ps_setDc (n := 2) (own := [("walker", 6)]) (g := gName 6) rfl nd rfl rfl (sw_trueD rfl rfl rfl (by decide +kernel)) (pi_tup (pv 0)) (blkOk_by (own := [("walker", 6)]) (N := tiN) (sc := defScope pTies) (by decide +kernel)) (fun _ _ _ _ _ => (pg_name (i := 6) nd rfl (.inl rfl))) (fun _ _ _ _ _ => pts_nil) (fun _ _ _ _ _ => pv 6)
          (fun _ _ _ _ _ => pe_dc (own := [("mate", 7)]) (g := gName 7) rfl nd (pi_tupK K (pv 0)) (blk_rel (blkOk_by (own := [("mate", 7)]) (N := tiN) (sc := scD1) (by decide +kernel))) (fun _ _ _ _ _ => (pg_name (i := 7) nd rfl (.inl rfl))) (fun _ _ _ _ _ => pts_nil) (fun _ _ _ _ _ => pv 7) (fun _ _ _ _ _ => pe_non)))
      (pss_cons (ps_for PassesOwn.never rfl (pi_tup (pv 1)) (pg_tup (by rfl) (pgs_cons (pg_name (i := 3) nd rfl (.inl rfl)) (pgs_cons (pg_name (i := 4) nd rfl (.inl rfl)) (pgs_cons (pg_name (i := 5) nd rfl (.inl rfl)) pgs_nil))))
        (pss_one (ps_if (pt_val (pe_cal cLess (hr.mono (by decide)) (by rfl) (pa_cons (pv 5) (pa_cons (pe_dget hu (pe_dget hu (pv 2) (pv 3) (fun _ _ => rfl)) (pv 4) (fun _ _ => rfl)) pa_nil))))
            (pss_cons (ps_dput hu (pe_dget hu (pv 2) (pv 3) (fun _ _ => rfl)) (pv 4) (pv 5) rfl)
              (pss_one (ps_dput hu (pe_dget hu (pv 2) (pv 4) (fun _ _ => rfl)) (pv 3) (pv 5) rfl)))
            pss_nil)))
      (pss_one (ps_ret (pv 2))))), ?_⟩
    have lw : (ws.map V.str).length = ws.length := List.length_map ..
    have wat : ∀ {i : Nat} {x : V}, (ws.map V.str)[i]? = some x → i < ws.length ∧ x = V.str (ws.getD i "") := fun {i x} h => by
      have hi : i < ws.length := by rw [← lw]; exact (List.getElem?_eq_some_iff.mp h).1
      rw [List.getElem?_map, List.getElem?_eq_getElem hi] at h
      rw [List.getD_eq_getElem?_getD, List.getElem?_eq_getElem hi]
      exact ⟨hi, (Option.some.inj h).symm⟩
    have hsz : ws.length < sizeLine := small1000 (by omega)
    refine ⟨_, rfl, a, rfl, ⟨_, SqT.of ea⟩, fun D hD => ?_⟩
    refine dc_tup (K := K) (a := a) (xs := ws.map V.str) (fun t G => ∃ qs : Nat → Addr, G D = some (.dK (kvT (fun i => .ref (qs i)) ws t)) ∧ (∀ i, i < t → G (qs i) = some (.dK (kvT (fun _ => .non) ws ws.length)) ∧ H (qs i) = none ∧ qs i ≠ D) ∧ (∀ i j, i < t → j < t → qs i = qs j → i = j) ∧ Same H G)
      ⟨fun _ => 0, upd_same, (fun i hi => absurd hi (Nat.not_lt_zero _)), (fun i j hi => absurd hi (Nat.not_lt_zero _)), same_upd (Same.refl _) hD⟩ (fun t G _ ⟨_, _, _, _, sG⟩ => SqT.of (sG _ _ ea)) ?_ ?_
    · rintro t x G hx ⟨qs, eD, rows, inj, sG⟩
      obtain ⟨ht, rfl⟩ := wat hx
      refine ⟨rfl, _, rfl, _, rfl, a, rfl, ⟨_, SqT.of (sG _ _ ea)⟩, fun D2 hD2 => ?_⟩
      have hDD : D ≠ D2 := fun z => by rw [z, hD2] at eD; cases eD
      refine dc_tup (K := K) (a := a) (xs := ws.map V.str) (fun t2 G2 => G2 D2 = some (.dK (kvT (fun _ => .non) ws t2)) ∧ Same G G2) ⟨upd_same, same_upd (Same.refl _) hD2⟩ (fun t2 G2 _ ⟨_, s2⟩ => SqT.of (s2 _ _ (sG _ _ ea))) ?_ ?_
      · rintro t2 x2 G2 hx2 ⟨e2, s2⟩
        obtain ⟨ht2, rfl⟩ := wat hx2
        refine ⟨rfl, _, rfl, _, .inr (ws.getD t2 ""), rfl, e2, by rw [kvT_len]; omega, ?_, same_upd s2 hD2⟩
        rw [upd_same, kvT_put_new (f := fun _ => .non) nw ht2]
      · rintro G2 ⟨e2, s2⟩
        rw [lw] at e2
        refine ⟨_, .inr (ws.getD t ""), rfl, s2 _ _ eD, by rw [kvT_len]; omega, fun i => if i = t then D2 else qs i, ?_, fun i hi => ?_, fun i j hi hj e => ?_, ?_⟩
        · rw [upd_same]
          congr 2
          have c := kvT_congr (f := fun i => V.ref (qs i)) (g := fun i => V.ref (if i = t then D2 else qs i)) (ws := ws) (t := t) (fun j hj => by
            have : j ≠ t := by omega
            simp [this])
          rw [c, ← kvT_put_new (f := fun i => V.ref (if i = t then D2 else qs i)) nw ht]
          simp
        · by_cases e : i = t
          · subst e
            simp only [if_true]
            refine ⟨by rw [upd_ne hDD.symm]; exact e2, sG.free hD2, hDD.symm⟩
          · simp only [e, if_false]
            obtain ⟨r1, r2, r3⟩ := rows i (by omega)
            refine ⟨by rw [upd_ne r3]; exact s2 _ _ r1, r2, r3⟩
        · by_cases e1 : i = t <;> by_cases e3 : j = t
          · omega
          · simp only [e1, e3, if_true, if_false] at e
            exfalso
            have := (rows j (by omega)).1
            rw [← e, hD2] at this
            cases this
          · simp only [e1, e3, if_true, if_false] at e
            exfalso
            have := (rows i (by omega)).1
            rw [e, hD2] at this
            cases this
          · simp only [e1, e3, if_false] at e
            exact inj i j (by omega) (by omega) e
        · intro b2 o2 e
          have nb : b2 ≠ D := ne_of_none e hD
          rw [upd_ne nb]
          exact s2 _ _ (sG _ _ e)
    rintro G ⟨qs, eD, rows, inj, sG⟩
    rw [lw] at eD rows inj
    have mat : MatAt G D ws qs (fun _ _ => none) := ⟨eD, fun i hi => (rows i hi).1, inj⟩
    have fr : ∀ i, i < ws.length → H (qs i) = none := fun i hi => (rows i hi).2.1
    try dsimp only [tNext]
    refine ⟨_, rfl, b, rfl, ⟨_, SqT.of (sG _ _ eb)⟩, ?_⟩
    refine for_tup (K := K) (a := b) (xs := xs) (fun t σ G => ∃ (v3 v4 v5 v6 v7 : Option V) (M : Nat → Nat → Option Int), σ = [some (.ref a), some (.ref b), some (.ref D), v3, v4, v5, v6, v7] ∧ Same H G ∧ MatAt G D ws qs M) ⟨_, _, _, _, _, _, rfl, sG, mat⟩ (fun t σ G _ ⟨_, _, _, _, _, _, _, s2, _⟩ => SqT.of (s2 _ _ eb)) ?_ ?_
    · rintro t x σ G hx ⟨v3, v4, v5, v6, v7, M, rfl, sG, mat⟩
      have ht : t < rs.length := by rw [← lx]; exact (List.getElem?_eq_some_iff.mp hx).1
      obtain ⟨q, r, er, exq, eq⟩ := vdA_rops hv ht
      rw [hx] at exq
      cases exq
      obtain ⟨m1, m2⟩ := hen r (List.mem_of_getElem? er)
      obtain ⟨i, hi, ei⟩ := List.mem_iff_getElem.mp m1
      obtain ⟨j, hj, ej⟩ := List.mem_iff_getElem.mp m2
      have gi : r.1 = ws.getD i "" := by rw [List.getD_eq_getElem?_getD, List.getElem?_eq_getElem hi, ← ei]; rfl
      have gj : r.2.1 = ws.getD j "" := by rw [List.getD_eq_getElem?_getD, List.getElem?_eq_getElem hj, ← ej]; rfl
      refine ⟨q, _, rfl, SqT.of (sG _ _ eq), rfl, _, _, rfl, _, _, rfl, _, _, rfl, rfl, ?_⟩
      have d1 : DGet G D (.str r.1) (some (.ref (qs i))) := by rw [gi]; exact mat.g1 nw hi
      have d2 : DGet G (qs i) (.str r.2.1) (some (oV (M i j))) := by rw [gj]; exact mat.g2 nw hi hj
      refine ⟨_, rfl, _, rfl, _, rfl, D, _, rfl, d1, _, rfl, qs i, _, rfl, d2, some r.2.2, M i j, rfl, _, rfl, ?_⟩
      refine ite2 (fun _ => ?_) (fun _ => ?_)
      · refine ⟨_, rfl, _, rfl, _, rfl, D, _, rfl, d1, _, rfl, qs i, _, rfl, by rw [gj]; exact mat.dput nw hsz hi hj (some r.2.2), ?_⟩
        have mat2 := mat.put hi hj (some r.2.2)
        have s2 : Same H (upd G (qs i) (.dK (kvT (setF (fun j => oV (M i j)) j (oV (some r.2.2))) ws ws.length))) := fun b2 o2 e => by
          rw [upd_ne (ne_of_none e (fr i hi))]
          exact sG _ _ e
        generalize upd G (qs i) (.dK (kvT (setF (fun j => oV (M i j)) j (oV (some r.2.2))) ws ws.length)) = G2 at mat2 s2 ⊢
        have d3 : DGet G2 D (.str r.2.1) (some (.ref (qs j))) := by rw [gj]; exact mat2.g1 nw hj
        refine ⟨_, rfl, _, rfl, _, rfl, D, _, rfl, d3, _, rfl, qs j, _, rfl, by rw [gi]; exact mat2.dput nw hsz hj hi (some r.2.2), ?_⟩
        refine ⟨_, _, _, _, _, _, rfl, fun b2 o2 e => ?_, mat2.put hj hi (some r.2.2)⟩
        rw [upd_ne (ne_of_none e (fr j hj))]
        exact s2 _ _ e
      · exact ⟨_, _, _, _, _, M, rfl, sG, mat⟩
    · rintro σ G ⟨v3, v4, v5, v6, v7, M, rfl, sG, mat⟩
      exact ⟨_, rfl, k D qs M G hD sG mat fr⟩
end
end Tg

namespace Tg
open PySem L2 Ow
def scD2 : Scope := { kind := .function, names := [(".0", .local), ("walker", .cell), ("ties", .free), ("walkers", .free)], isGenerator := false, isCoroutine := false }
section
variable {P : Program} {w : World} {K : PySem.W.Frag} {mg : Str → Option Value} {base : Heap} {C fI : Addr} {fdI : FuncData}
def spReach : Sp := fun vs H Q _ => ∃ (ws : List Str) (a p : Addr) (qs0 : Nat → Addr) (M0 : Nat → Nat → Option Int), vs = [.ref a, .ref p] ∧ H a = some (.tup (ws.map V.str)) ∧ MatAt H p ws qs0 M0 ∧ ws.Nodup ∧ ws.length ≤ 1000 ∧
  ∀ p2 qs M H', H p2 = none → Same H H' → MatAt H' p2 ws qs M → (∀ i, i < ws.length → H (qs i) = none) → Q (.ref p2) H'
abbrev reN : List Str := ["walkers", "ties", "reaches", "walker", "between", "one", "first", "other", "second", "mate"]
theorem scReach : FnScope reN ["walkers", "ties"] (defScope pReach) := ⟨rfl, rfl, rfl, by decide +kernel, rfl, by decide +kernel, by decide +kernel⟩
theorem ok_Reach {f : Addr} {fd : FuncData} (F : Fun K "reaches_of" "reaches_of" pReach f fd) (cLess : Cal P w K mg base 1 "is_less" ["length", "other"] spLess) : FnOk P w K mg base CX0 2 f fd ["walkers", "ties"] spReach := by
  refine F.ok scReach (fun vs H Q E h => ?_) (fun cdv A outer s H vs Q E hr h => ?_)
  · obtain ⟨ws, a, p, qs0, M0, rfl, _⟩ := h
    rfl
  · obtain ⟨ws, a, p, qs0, M0, rfl, ea, m0, nw, hl, k⟩ := h
    have nd := scReach.nd
    have hu := hu_of hr
    refine ⟨_, (pss_cons (ps_setDc (n := 2) (own := [("walker", 3)]) (g := gName 3) rfl nd rfl rfl (sw_trueD rfl rfl rfl (by decide +kernel)) (pi_tup (pv 0)) (blkOk_by (own := [("walker", 3)]) (N := reN) (sc := defScope pReach) (by decide +kernel)) (fun _ _ _ _ _ => (pg_name (i := 3) nd rfl (.inr rfl))) (fun _ _ _ _ _ => pts_nil) (fun _ _ _ _ _ => pv 3)
          (fun _ _ _ _ _ => pe_dc (own := [("mate", 9)]) (g := gName 9) rfl nd (pi_tupK K (pv 0)) (blk_rel (blkOk_by (own := [("mate", 9)]) (N := reN) (sc := scD2) (by decide +kernel))) (fun _ _ _ _ _ => (pg_name (i := 9) nd rfl (.inl rfl))) (fun _ _ _ _ _ => pts_nil) (fun _ _ _ _ _ => pv 9) (fun _ _ _ _ _ => (pe_dget hu (pe_dget hu (pv 1) (pv 3) (fun _ _ => rfl)) (pv 9) (fun _ _ => rfl)))))
      (pss_cons (ps_for PassesOwn.never rfl (pi_tup (pv 0)) (pg_name (i := 3) nd rfl (.inl rfl))
        (pss_one (ps_dput hu (pe_dget hu (pv 2) (pv 3) (fun _ _ => rfl)) (pv 3) pe_int rfl)))
      (pss_cons (ps_for PassesOwn.never rfl (pi_tup (pv 0)) (pg_name (i := 4) nd rfl (.inl rfl))
        (pss_one (ps_for PassesOwn.never rfl (pi_tup (pv 0)) (pg_name (i := 5) nd rfl (.inl rfl))
            (pss_cons (ps_set (i := 6) nd rfl (.inl rfl) (pe_dget hu (pe_dget hu (pv 2) (pv 5) (fun _ _ => rfl)) (pv 4) (fun _ _ => rfl)))
              (pss_cons (ps_if (pt_cmpR op_isN (pv 6) pe_non (nomark _))
                (pss_one ps_continue)
                pss_nil)
              (pss_one (ps_for PassesOwn.never rfl (pi_tup (pv 0)) (pg_name (i := 7) nd rfl (.inl rfl))
                (pss_cons (ps_set (i := 8) nd rfl (.inl rfl) (pe_dget hu (pe_dget hu (pv 2) (pv 4) (fun _ _ => rfl)) (pv 7) (fun _ _ => rfl)))
                  (pss_one (ps_if (PW.pt (pw_and (pt_cmpR op_notN (pv 8) pe_non (nomark _)) (pw_and1 (pt_val (pe_cal cLess (hr.mono (by decide)) (by rfl) (pa_cons (pe_op op_add (pv 6) (pv 8)) (pa_cons (pe_dget hu (pe_dget hu (pv 2) (pv 5) (fun _ _ => rfl)) (pv 7) (fun _ _ => rfl)) pa_nil)))))))
                    (pss_one (ps_dput hu (pe_dget hu (pv 2) (pv 5) (fun _ _ => rfl)) (pv 7) (pe_op op_add (pv 6) (pv 8)) rfl))
                    pss_nil))))))))))
      (pss_one (ps_ret (pv 2)))))), ?_⟩
    have lw : (ws.map V.str).length = ws.length := List.length_map ..
    have wat : ∀ {i : Nat} {x : V}, (ws.map V.str)[i]? = some x → i < ws.length ∧ x = V.str (ws.getD i "") := fun {i x} h => by
      have hi : i < ws.length := by rw [← lw]; exact (List.getElem?_eq_some_iff.mp h).1
      rw [List.getElem?_map, List.getElem?_eq_getElem hi] at h
      rw [List.getD_eq_getElem?_getD, List.getElem?_eq_getElem hi]
      exact ⟨hi, (Option.some.inj h).symm⟩
    have hsz : ws.length < sizeLine := small1000 (by omega)
    refine ⟨_, rfl, a, rfl, ⟨_, SqT.of ea⟩, fun D hD => ?_⟩
    refine dc_tup (K := K) (a := a) (xs := ws.map V.str) (fun t G => ∃ qs : Nat → Addr, G D = some (.dK (kvT (fun i => .ref (qs i)) ws t)) ∧ (∀ i, i < t → G (qs i) = some (.dK (kvT (fun j => oV (M0 i j)) ws ws.length)) ∧ H (qs i) = none ∧ qs i ≠ D) ∧ (∀ i j, i < t → j < t → qs i = qs j → i = j) ∧ Same H G)
      ⟨fun _ => 0, upd_same, (fun i hi => absurd hi (Nat.not_lt_zero _)), (fun i j hi => absurd hi (Nat.not_lt_zero _)), same_upd (Same.refl _) hD⟩ (fun t G _ ⟨_, _, _, _, sG⟩ => SqT.of (sG _ _ ea)) ?_ ?_
    · rintro t x G hx ⟨qs, eD, rows, inj, sG⟩
      obtain ⟨ht, rfl⟩ := wat hx
      refine ⟨rfl, _, rfl, _, rfl, a, rfl, ⟨_, SqT.of (sG _ _ ea)⟩, fun D2 hD2 => ?_⟩
      have hDD : D ≠ D2 := fun z => by rw [z, hD2] at eD; cases eD
      refine dc_tup (K := K) (a := a) (xs := ws.map V.str) (fun t2 G2 => G2 D2 = some (.dK (kvT (fun j => oV (M0 t j)) ws t2)) ∧ Same G G2) ⟨upd_same, same_upd (Same.refl _) hD2⟩ (fun t2 G2 _ ⟨_, s2⟩ => SqT.of (s2 _ _ (sG _ _ ea))) ?_ ?_
      · rintro t2 x2 G2 hx2 ⟨e2, s2⟩
        obtain ⟨ht2, rfl⟩ := wat hx2
        have m2 := m0.same (sG.trans s2)
        refine ⟨rfl, _, rfl, _, rfl, _, rfl, p, _, rfl, m2.g1 nw ht, _, rfl, qs0 t, _, rfl, m2.g2 nw ht ht2, _, .inr (ws.getD t2 ""), rfl, e2, by rw [kvT_len]; omega, ?_, same_upd s2 hD2⟩
        rw [upd_same, kvT_put_new (f := fun j => oV (M0 t j)) nw ht2]
      · rintro G2 ⟨e2, s2⟩
        rw [lw] at e2
        refine ⟨_, .inr (ws.getD t ""), rfl, s2 _ _ eD, by rw [kvT_len]; omega, fun i => if i = t then D2 else qs i, ?_, fun i hi => ?_, fun i j hi hj e => ?_, ?_⟩
        · rw [upd_same]
          congr 2
          have c := kvT_congr (f := fun i => V.ref (qs i)) (g := fun i => V.ref (if i = t then D2 else qs i)) (ws := ws) (t := t) (fun j hj => by
            have : j ≠ t := by omega
            simp [this])
          rw [c, ← kvT_put_new (f := fun i => V.ref (if i = t then D2 else qs i)) nw ht]
          simp
        · by_cases e : i = t
          · subst e
            simp only [if_true]
            refine ⟨by rw [upd_ne hDD.symm]; exact e2, sG.free hD2, hDD.symm⟩
          · simp only [e, if_false]
            obtain ⟨r1, r2, r3⟩ := rows i (by omega)
            refine ⟨by rw [upd_ne r3]; exact s2 _ _ r1, r2, r3⟩
        · by_cases e1 : i = t <;> by_cases e3 : j = t
          · omega
          · simp only [e1, e3, if_true, if_false] at e
            exfalso
            have := (rows j (by omega)).1
            rw [← e, hD2] at this
            cases this
          · simp only [e1, e3, if_true, if_false] at e
            exfalso
            have := (rows i (by omega)).1
            rw [e, hD2] at this
            cases this
          · simp only [e1, e3, if_false] at e
            exact inj i j (by omega) (by omega) e
        · intro b2 o2 e
          have nb : b2 ≠ D := ne_of_none e hD
          rw [upd_ne nb]
          exact s2 _ _ (sG _ _ e)
    rintro G ⟨qs, eD, rows, inj, sG⟩
    rw [lw] at eD rows inj
    have mat : MatAt G D ws qs M0 := ⟨eD, fun i hi => (rows i hi).1, inj⟩
    have fr : ∀ i, i < ws.length → H (qs i) = none := fun i hi => (rows i hi).2.1
    have more : ∀ {G : Hp} {i j : Nat} {M : Nat → Nat → Option Int} {x : Option Int}, i < ws.length → Same H G → Same H (upd G (qs i) (.dK (kvT (setF (fun j => oV (M i j)) j (oV x)) ws ws.length))) := fun {G i j M x} hi s2 b2 o2 e => by
      rw [upd_ne (ne_of_none e (fr i hi))]
      exact s2 _ _ e
    clear rows eD
    try dsimp only [tNext]
    refine ⟨_, rfl, a, rfl, ⟨_, SqT.of (sG _ _ ea)⟩, ?_⟩
    refine for_tup (K := K) (a := a) (xs := ws.map V.str) (fun t σ G => ∃ (v3 v4 v5 v6 v7 v8 v9 : Option V) (M : Nat → Nat → Option Int), σ = [some (.ref a), some (.ref p), some (.ref D), v3, v4, v5, v6, v7, v8, v9] ∧ Same H G ∧ MatAt G D ws qs M) ⟨_, _, _, _, _, _, _, _, rfl, sG, mat⟩ (fun t σ G _ ⟨_, _, _, _, _, _, _, _, _, s2, _⟩ => SqT.of (s2 _ _ ea)) ?_ ?_
    · rintro t x σ G hx ⟨v3, v4, v5, v6, v7, v8, v9, M, rfl, sG, mat⟩
      obtain ⟨ht, rfl⟩ := wat hx
      refine ⟨_, rfl, _, rfl, D, _, rfl, mat.g1 nw ht, _, rfl, qs t, _, rfl, mat.dput nw hsz ht ht (some 0), ?_⟩
      exact ⟨_, _, _, _, _, _, _, _, rfl, more ht sG, mat.put ht ht (some 0)⟩
    rintro σ G2 ⟨v3, v4, v5, v6, v7, v8, v9, M, rfl, sG2, mat2⟩
    try dsimp only [tNext]
    refine ⟨_, rfl, a, rfl, ⟨_, SqT.of (sG2 _ _ ea)⟩, ?_⟩
    refine for_tup (K := K) (a := a) (xs := ws.map V.str) (fun t σ G => ∃ (v3 v4 v5 v6 v7 v8 v9 : Option V) (M : Nat → Nat → Option Int), σ = [some (.ref a), some (.ref p), some (.ref D), v3, v4, v5, v6, v7, v8, v9] ∧ Same H G ∧ MatAt G D ws qs M) ⟨_, _, _, _, _, _, _, _, rfl, sG2, mat2⟩ (fun t σ G _ ⟨_, _, _, _, _, _, _, _, _, s2, _⟩ => SqT.of (s2 _ _ ea)) ?_ ?_
    · rintro t x σ G hx ⟨v3, v4, v5, v6, v7, v8, v9, M, rfl, sG, mat⟩
      obtain ⟨ht, rfl⟩ := wat hx
      refine ⟨_, rfl, a, rfl, ⟨_, SqT.of (sG _ _ ea)⟩, ?_⟩
      refine for_tup (K := K) (a := a) (xs := ws.map V.str) (fun t1 σ G => ∃ (v3 v5 v6 v7 v8 v9 : Option V) (M : Nat → Nat → Option Int), σ = [some (.ref a), some (.ref p), some (.ref D), v3, some (.str (ws.getD t "")), v5, v6, v7, v8, v9] ∧ Same H G ∧ MatAt G D ws qs M) ⟨_, _, _, _, _, _, _, rfl, sG, mat⟩ (fun t σ G _ ⟨_, _, _, _, _, _, _, _, s2, _⟩ => SqT.of (s2 _ _ ea)) ?_ ?_
      · rintro t1 x1 σ G hx1 ⟨v3, v5, v6, v7, v8, v9, M, rfl, sG, mat⟩
        obtain ⟨ht1, rfl⟩ := wat hx1
        refine ⟨_, rfl, _, rfl, D, _, rfl, mat.g1 nw ht1, _, rfl, qs t1, _, rfl, mat.g2 nw ht1 ht, ?_⟩
        try dsimp only [tNext]
        cases eM : M t1 t with
        | none =>
          refine ⟨_, rfl, rfl, _, rfl, iteT ?_⟩
          exact ⟨_, _, _, _, _, _, M, rfl, sG, mat⟩
        | some first =>
          refine ⟨_, rfl, rfl, _, rfl, iteF ?_⟩
          try dsimp only [tNext]
          refine ⟨_, rfl, a, rfl, ⟨_, SqT.of (sG _ _ ea)⟩, ?_⟩
          refine for_tup (K := K) (a := a) (xs := ws.map V.str) (fun t2 σ G => ∃ (v3 v7 v8 v9 : Option V) (M : Nat → Nat → Option Int), σ = [some (.ref a), some (.ref p), some (.ref D), v3, some (.str (ws.getD t "")), some (.str (ws.getD t1 "")), some (.int first), v7, v8, v9] ∧ Same H G ∧ MatAt G D ws qs M) ⟨_, _, _, _, _, rfl, sG, mat⟩ (fun t σ G _ ⟨_, _, _, _, _, _, s2, _⟩ => SqT.of (s2 _ _ ea)) ?_ ?_
          · rintro t2 x2 σ G hx2 ⟨v3, v7, v8, v9, M, rfl, sG, mat⟩
            obtain ⟨ht2, rfl⟩ := wat hx2
            refine ⟨_, rfl, _, rfl, D, _, rfl, mat.g1 nw ht, _, rfl, qs t, _, rfl, mat.g2 nw ht ht2, ?_⟩
            try dsimp only [tNext]
            cases eM2 : M t t2 with
            | none =>
              refine ⟨_, rfl, rfl, _, rfl, iteF (iteF ?_)⟩
              exact ⟨_, _, _, _, M, rfl, sG, mat⟩
            | some second =>
              refine ⟨_, rfl, rfl, _, rfl, iteT ?_⟩
              refine ⟨_, rfl, _, rfl, _, _, rfl, rfl, _, rfl, _, rfl, D, _, rfl, mat.g1 nw ht1, _, rfl, qs t1, _, rfl, mat.g2 nw ht1 ht2, some (first + second), M t1 t2, rfl, _, rfl, ?_⟩
              refine ite2 (fun _ => ?_) (fun _ => ?_)
              · refine ⟨_, rfl, _, rfl, _, _, rfl, rfl, _, rfl, _, rfl, D, _, rfl, mat.g1 nw ht1, _, rfl, qs t1, _, rfl, mat.dput nw hsz ht1 ht2 (some (first + second)), ?_⟩
                exact ⟨_, _, _, _, _, rfl, more ht1 sG, mat.put ht1 ht2 (some (first + second))⟩
              · exact ⟨_, _, _, _, M, rfl, sG, mat⟩
          · rintro σ G ⟨v3, v7, v8, v9, M, rfl, sG, mat⟩
            exact ⟨_, _, _, _, _, _, M, rfl, sG, mat⟩
      · rintro σ G ⟨v3, v5, v6, v7, v8, v9, M, rfl, sG, mat⟩
        exact ⟨_, _, _, _, _, _, _, M, rfl, sG, mat⟩
    · rintro σ G ⟨v3, v4, v5, v6, v7, v8, v9, M, rfl, sG, mat⟩
      exact ⟨_, rfl, k D qs M G hD sG mat fr⟩
end
end Tg

namespace Tg
open PySem L2 Ow
/-- a def that may raise, called by its name from such a def -/
structure CalX (P : Program) (w : World) (K : PySem.W.Frag) (mg : Str → Option Value) (base : Heap) (k : Nat) (x : Str) (ps : List Str) (sp : Sp) : Prop where
  ex : ∃ f fd, FnOk P w K mg base (L2.CX P w) k f fd ps sp ∧ mg x = some (.ref f) ∧ PySem.W.keepIn K (.ref f) = true ∧ Binds K fd ps []
section
variable {X : Cx} {k : Nat} {x : Str} {ps : List Str} {sp : Sp} {p pos : Pos} {e : Expr} {es : List Expr} {t : TA} {E : XK}
theorem pe_calX (c : CalX X.prog X.w X.K X.mg X.base k x ps sp) (tk : Takes X (fun cls d _ H => E cls d H)) (hr : Room k X.A) (hg : Gl X x) (ha : PA X (e :: es) t) (hdb : (x == ("__debug__" : Str)) = false := by decide)
    (he : starEach (e :: es) X.env = (false, eval e X.env) :: starEach es X.env := by rfl) (hpl : (backTo pos (starEach es X.env)).any (·.1) = false := by rfl) :
    PE X (.Call (.Name x p) (e :: es) [] pos) (tCall sp [] E t) := by
  obtain ⟨f, fd, F, hm, hk, hb⟩ := c.ex
  exact pe_call F hr hg hm hk hb .nil (passOn tk fun _ _ _ h => h) ha hdb he hpl
end
theorem nodup_of {ws : List Str} (h : ∀ i, i < ws.length → (ws.take i).contains (ws.getD i "") = false) : ws.Nodup := by
  rw [List.nodup_iff_pairwise_ne, List.pairwise_iff_getElem]
  intro i j hi hj hij e
  have z := h j hj
  have : ws.getD j "" ∈ ws.take j := by
    rw [List.getD_eq_getElem?_getD, List.getElem?_eq_getElem hj]
    show ws[j] ∈ _
    rw [← e]
    exact List.mem_take_iff_getElem.mpr ⟨i, by omega, rfl⟩
  rw [List.contains_iff_mem.mpr this] at z
  cases z
theorem badW_no {ws : List Str} (h : badW ws = none) : ws.Nodup ∧ ∀ x ∈ ws, isNmS x = true := by
  unfold badW at h
  rw [List.find?_range_eq_none] at h
  have z : ∀ i, i < ws.length → (ws.take i).contains (ws.getD i "") = false ∧ isNmS (ws.getD i "") = true := fun i hi => by
    have := h i hi
    unfold wBad at this
    simp only [Bool.not_or, Bool.not_not, Bool.and_eq_true, Bool.not_eq_true'] at this
    exact this
  refine ⟨nodup_of fun i hi => (z i hi).1, fun x hx => ?_⟩
  obtain ⟨i, hi, e⟩ := List.mem_iff_getElem.mp hx
  have := (z i hi).2
  rw [List.getD_eq_getElem?_getD, List.getElem?_eq_getElem hi] at this
  rw [← e]
  exact this
theorem badR_no {ws : List Str} {rs : List Rop} (h : badR ws rs = none) : ∀ r ∈ rs, rBad ws r = false := by
  unfold badR at h
  rw [List.find?_range_eq_none] at h
  intro r hr
  obtain ⟨i, hi, e⟩ := List.mem_iff_getElem.mp hr
  have := h i hi
  rw [List.getD_eq_getElem?_getD, List.getElem?_eq_getElem hi] at this
  rw [← e]
  simpa using this
theorem ends_of {ws : List Str} {rs : List Rop} (h : badR ws rs = none) : EndsIn ws rs := fun r hr => by
  have := badR_no h r hr
  unfold rBad at this
  simp only [Bool.or_eq_false_iff, Bool.not_eq_false'] at this
  exact ⟨List.contains_iff_mem.mp this.1, List.contains_iff_mem.mp this.2.1⟩
abbrev pWI : Stmt := inClass (top 38) 0
/-- the class Web -/
structure WebTxt (K : PySem.W.Frag) (mg : Str → Option Value) (CW : Addr) : Prop where
  cl : Cls K CW
  n1 : NoAttr K CW "_walkers"
  n2 : NoAttr K CW "_ropes"
  n3 : NoAttr K CW "ties"
  n4 : NoAttr K CW "reaches"
  n5 : NoAttr K CW "_shape"
def webF (wv rv : V) (t r s : Addr) : List (Str × V) := putF "_shape" (.ref s) (putF "reaches" (.ref r) (putF "ties" (.ref t) (putF "_ropes" rv (putF "_walkers" wv []))))
/-- a web made of W and R -/
def WebOf (CW : Addr) (H : Hp) (p : Addr) (wv rv : V) : Prop := ∃ dx t r s, H p = some (.ins CW dx (webF wv rv t r s))
def spWI (CW CN : Addr) : Sp := fun vs H Q E => ∃ (W R : PyData) (wv rv : V) (p dx : Addr), vs = [.ref p, wv, rv] ∧ H p = some (.ins CW dx []) ∧ Vd H W wv ∧ Vd H R rv ∧ Lim W ∧ Lim R ∧
  (dueD W R = none → ∀ H', WebOf CW H' p wv rv → (∀ b o, H b = some o → b ≠ p → H' b = some o) → Q .non H') ∧ (∀ wd i, dueD W R = some (wd, i) → Told CN (fsW wd i) H E)
theorem scWI : FnScope ["self", "walkers", "ropes"] ["self", "walkers", "ropes"] (defScope pWI) := ⟨rfl, rfl, rfl, by decide +kernel, rfl, by decide +kernel, by decide +kernel⟩
section
variable {P : Program} {w : World} {K : PySem.W.Frag} {mg : Str → Option Value} {base : Heap} {CW CN : Addr}
theorem ok_WI {f : Addr} {fd : FuncData} (F : Fun K "__init__" "Web.__init__" pWI f fd) (T : WebTxt K mg CW) (cF : CalX P w K mg base 3 "check_form_webs" ["walkers", "ropes"] (spChkF CN)) (cW : CalX P w K mg base 3 "check_walkers" ["walkers"] (spChkW CN)) (cR : CalX P w K mg base 3 "check_ropes" ["walkers", "ropes"] (spChkR CN))
    (cT : Cal P w K mg base 2 "ties_of" ["walkers", "ropes"] spTies) (cC : Cal P w K mg base 2 "reaches_of" ["walkers", "ties"] spReach) : FnOk P w K mg base (L2.CX P w) 4 f fd ["self", "walkers", "ropes"] (spWI CW CN) := by
  refine F.okX scWI (fun vs H Q E h => ?_) (fun cdv A outer s H vs Q E hr h => ?_)
  · obtain ⟨W, R, wv, rv, p, dx, rfl, _⟩ := h
    rfl
  · obtain ⟨W, R, wv, rv, p, dx, rfl, hp, hw, hrv, lw, lr, kok, kno⟩ := h
    have nd := scWI.nd
    refine ⟨_, (pss_cons (ps_expr (pe_calX (E := E) cF (takes_of rfl rfl rfl rfl) (hr.mono (by decide)) (by rfl) (pa_cons (pv 1) (pa_cons (pv 2) pa_nil))))
      (pss_cons (ps_expr (pe_calX (E := E) cW (takes_of rfl rfl rfl rfl) (hr.mono (by decide)) (by rfl) (pa_cons (pv 1) pa_nil)))
      (pss_cons (ps_expr (pe_calX (E := E) cR (takes_of rfl rfl rfl rfl) (hr.mono (by decide)) (by rfl) (pa_cons (pv 1) (pa_cons (pv 2) pa_nil))))
      (pss_cons (ps_fld (pv 0) (pv 1) rfl)
      (pss_cons (ps_fld (pv 0) (pv 2) rfl)
      (pss_cons (ps_fld (pv 0) (pe_cal cT (hr.mono (by decide)) (by rfl) (pa_cons (pv 1) (pa_cons (pv 2) pa_nil))) rfl)
      (pss_cons (ps_fld (pv 0) (pe_cal cC (hr.mono (by decide)) (by rfl) (pa_cons (pv 1) (pa_cons (pe_fld (pv 0) rfl) pa_nil))) rfl)
      (pss_one (ps_fld (pv 0) (pe_tup (pa_cons (pv 1) (pa_cons (pe_fld (pv 0) rfl) pa_nil))) rfl))))))))), ?_⟩
    refine ⟨_, rfl, _, rfl, W, R, wv, rv, rfl, hw, hrv, lw, lr, fun hf H1 s1 => ?_, fun hf => kno _ _ (by unfold dueD; rw [hf]; rfl)⟩
    obtain ⟨f1, f2⟩ := Bool.and_eq_true_iff.mp hf
    obtain ⟨ws, eW, ews⟩ : ∃ ws, W = .tuple (ws.map PyData.str) ∧ ws = strsOf W := ⟨_, strs_back f1, rfl⟩
    obtain ⟨rs, eR, ers⟩ : ∃ rs, R = .tuple (rs.map ropD) ∧ rs = ropsOf R := ⟨_, rops_back f2, rfl⟩
    rw [eW] at hw
    rw [eR] at hrv
    obtain ⟨a, xs, rfl, ea, hs⟩ := hw.tup
    obtain ⟨b, ys, rfl, eb, hy⟩ := hrv.tup
    have exs := vdA_strs hs
    subst exs
    have li : (itemsD W).length = ws.length := by rw [eW]; exact List.length_map ..
    have hl : ws.length ≤ 2000000 := by
      rw [eW] at lw
      have := lw.len
      rw [List.length_map] at this
      exact this
    have hx : ∀ x ∈ ws, 10 * x.length + 10 ≤ 4000000 := fun x hx => by
      rw [eW] at lw
      exact lw.item (d := .str x) (List.mem_map.mpr ⟨x, hx, rfl⟩)
    have sD : sizeD W = true ↔ 1 ≤ ws.length ∧ ws.length ≤ 6 := by
      unfold sizeD
      rw [li]
      simp
    try dsimp only [tNext]
    refine ⟨_, rfl, ws, a, rfl, s1 _ _ ea, hl, hx, fun sz hb H2 s2 => ?_, fun sz i hb => (kno "walker" i ?_).on s1, fun sz => (kno "size" 0 ?_).on s1⟩
    rotate_left
    · unfold dueD
      rw [hf, sD.mpr sz, ← ews, hb]
      rfl
    · unfold dueD
      have : sizeD W = false := by
        cases e : sizeD W
        · rfl
        · exact absurd (sD.mp e) sz
      rw [hf, this]
      rfl
    have s02 := s1.trans s2
    obtain ⟨nw, _⟩ := badW_no hb
    try dsimp only [tNext]
    refine ⟨_, rfl, _, rfl, ws, rs, ys, a, b, rfl, s02 _ _ ea, s02 _ _ eb, hy.keep s02.tkept, fun hb2 H3 s3 => ?_, fun i hb2 => (kno "rope" i ?_).on s02⟩
    rotate_left
    · unfold dueD
      rw [hf, sD.mpr sz, ← ews, hb, ← ers, hb2]
      rfl
    have s03 := s02.trans s3
    have due0 : dueD W R = none := by
      unfold dueD
      rw [hf, sD.mpr sz, ← ews, hb, ← ers, hb2]
      rfl
    have hp3 := s03 _ _ hp
    have ea3 := s03 _ _ ea
    have eb3 := s03 _ _ eb
    have hy3 := hy.keep s03.tkept
    have keep3 : ∀ c o, H c = some o → c ≠ p → H3 c = some o := fun c o e _ => s03 _ _ e
    have pa_ : a ≠ p := ne_of ea hp (by intro z; cases z)
    have pb_ : b ≠ p := ne_of eb hp (by intro z; cases z)
    clear s1 s2 s3 s02 s03
    try dsimp only [tNext]
    refine ⟨_, rfl, _, rfl, p, CW, dx, [], rfl, hp3, T.cl, T.n1, (by show 0 < 1000; decide), ?_⟩
    have hp4 : (upd H3 p (.ins CW dx (putF "_walkers" (.ref a) []))) p = some (.ins CW dx (putF "_walkers" (.ref a) [])) := upd_same
    try dsimp only [tNext]
    refine ⟨_, rfl, _, rfl, p, CW, dx, _, rfl, hp4, T.cl, T.n2, (by show 1 < 1000; decide), ?_⟩
    have hp5 : (upd (upd H3 p (.ins CW dx (putF "_walkers" (.ref a) []))) p (.ins CW dx (putF "_ropes" (.ref b) (putF "_walkers" (.ref a) [])))) p = some (.ins CW dx (putF "_ropes" (.ref b) (putF "_walkers" (.ref a) []))) := upd_same
    have keep5 : ∀ c o, H3 c = some o → c ≠ p → (upd (upd H3 p (.ins CW dx (putF "_walkers" (.ref a) []))) p (.ins CW dx (putF "_ropes" (.ref b) (putF "_walkers" (.ref a) [])))) c = some o := fun c o e n => by
      rw [upd_ne n, upd_ne n]
      exact e
    generalize upd (upd H3 p (.ins CW dx (putF "_walkers" (.ref a) []))) p (.ins CW dx (putF "_ropes" (.ref b) (putF "_walkers" (.ref a) []))) = H5 at hp5 keep5 ⊢
    have kp5 : ∀ c o, H c = some o → c ≠ p → H5 c = some o := fun c o e n => keep5 c o (keep3 c o e n) n
    have ea5 := kp5 _ _ ea pa_
    have eb5 := kp5 _ _ eb pb_
    have hy5 : VdA H5 (rs.map ropD) ys := hy.keep fun c zs e => kp5 c _ e (ne_of e hp (by intro z; cases z))
    try dsimp only [tNext]
    refine ⟨_, rfl, _, rfl, ws, rs, ys, a, b, rfl, ea5, eb5, hy5, nw, by omega, ends_of hb2, fun t qs M H6 nt s6 mat fr => ?_⟩
    have hp6 := s6 _ _ hp5
    refine ⟨_, rfl, p, CW, dx, _, rfl, hp6, T.cl, T.n3, (by show 2 < 1000; decide), ?_⟩
    have tp : t ≠ p := fun z => by rw [z, hp5] at nt; cases nt
    have qp : ∀ i, i < ws.length → qs i ≠ p := fun i hi z => by
      have := fr i hi
      rw [z, hp5] at this
      cases this
    have hp7 : (upd H6 p (.ins CW dx (putF "ties" (.ref t) (putF "_ropes" (.ref b) (putF "_walkers" (.ref a) []))))) p = some (.ins CW dx (putF "ties" (.ref t) (putF "_ropes" (.ref b) (putF "_walkers" (.ref a) [])))) := upd_same
    have mat7 : MatAt (upd H6 p (.ins CW dx (putF "ties" (.ref t) (putF "_ropes" (.ref b) (putF "_walkers" (.ref a) []))))) t ws qs M := ⟨by rw [upd_ne tp]; exact mat.top, fun i hi => by rw [upd_ne (qp i hi)]; exact mat.row i hi, mat.inj⟩
    have kp7 : ∀ c o, H c = some o → c ≠ p → (upd H6 p (.ins CW dx (putF "ties" (.ref t) (putF "_ropes" (.ref b) (putF "_walkers" (.ref a) []))))) c = some o := fun c o e n => by
      rw [upd_ne n]
      exact s6 _ _ (kp5 c o e n)
    generalize upd H6 p (.ins CW dx (putF "ties" (.ref t) (putF "_ropes" (.ref b) (putF "_walkers" (.ref a) [])))) = H7 at hp7 mat7 kp7 ⊢
    try dsimp only [tNext]
    refine ⟨_, rfl, _, rfl, p, CW, dx, _, _, rfl, hp7, T.cl, T.n3, rfl, ws, a, t, qs, M, rfl, kp7 _ _ ea pa_, mat7, nw, by omega, fun r qs2 M2 H8 nr s8 mat8 fr8 => ?_⟩
    have hp8 := s8 _ _ hp7
    refine ⟨_, rfl, p, CW, dx, _, rfl, hp8, T.cl, T.n4, (by show 3 < 1000; decide), ?_⟩
    have hp9 : (upd H8 p (.ins CW dx (putF "reaches" (.ref r) (putF "ties" (.ref t) (putF "_ropes" (.ref b) (putF "_walkers" (.ref a) [])))))) p = some (.ins CW dx (putF "reaches" (.ref r) (putF "ties" (.ref t) (putF "_ropes" (.ref b) (putF "_walkers" (.ref a) []))))) := upd_same
    have kp9 : ∀ c o, H c = some o → c ≠ p → (upd H8 p (.ins CW dx (putF "reaches" (.ref r) (putF "ties" (.ref t) (putF "_ropes" (.ref b) (putF "_walkers" (.ref a) [])))))) c = some o := fun c o e n => by
      rw [upd_ne n]
      exact s8 _ _ (kp7 c o e n)
    generalize upd H8 p (.ins CW dx (putF "reaches" (.ref r) (putF "ties" (.ref t) (putF "_ropes" (.ref b) (putF "_walkers" (.ref a) []))))) = H9 at hp9 kp9 ⊢
    try dsimp only [tNext]
    refine ⟨_, rfl, _, rfl, p, CW, dx, _, _, rfl, hp9, T.cl, T.n4, rfl, (by show 2 ≤ sizeLine; decide), fun u nu => ?_⟩
    have up : p ≠ u := fun z => by rw [← z, hp9] at nu; cases nu
    have hp10 : (upd H9 u (.tup [.ref a, .ref r])) p = some (.ins CW dx (putF "reaches" (.ref r) (putF "ties" (.ref t) (putF "_ropes" (.ref b) (putF "_walkers" (.ref a) []))))) := by rw [upd_ne up]; exact hp9
    refine ⟨_, rfl, p, CW, dx, _, rfl, hp10, T.cl, T.n5, (by show 4 < 1000; decide), ?_⟩
    refine kok due0 _ ⟨dx, t, r, u, upd_same⟩ fun c o e n => ?_
    rw [upd_ne n, upd_ne (ne_of_none (kp9 c o e n) nu)]
    exact kp9 c o e n
end
end Tg

namespace Tg
open PySem L2 Ow
abbrev lIsRope : Stmt := top 46
abbrev lForm : Stmt := top 47
abbrev lDue : Stmt := top 48
section
variable {P : Program} {w : World} {K : PySem.W.Frag} {mg : Str → Option Value} {base : Heap}
def spLRope : Sp := fun vs H Q _ => ∃ d v, vs = [v] ∧ Vd H d v ∧ ∀ H', Same H H' → Q (.bl (isRopeD d)) H'
theorem scLRope : FnScope ["_law_rope", "_law_end"] ["_law_rope"] (defScope lIsRope) := ⟨rfl, rfl, rfl, by decide +kernel, rfl, by decide +kernel, by decide +kernel⟩
theorem ok_LRope {f : Addr} {fd : FuncData} (F : Fun K "_law_is_rope" "_law_is_rope" lIsRope f fd) (T : TxtP mg) : FnOk P w K mg base CX0 1 f fd ["_law_rope"] spLRope := by
  refine F.ok scLRope (fun vs H Q E h => ?_) (fun cdv A outer s H vs Q E hr h => ?_)
  · obtain ⟨d, v, rfl, _⟩ := h
    rfl
  · obtain ⟨d, v, rfl, hv, k⟩ := h
    have nd := scLRope.nd
    refine ⟨_, (pss_cons (ps_if (PW.pt (pw_or (pt_not (pt_val (pe_callB call_isi (by rfl) T.b_isinstance (by decide +kernel) (pa_cons (pv 0) (pa_cons (pe_bltn (v := .ty "tuple") (by rfl) T.b_tuple (by decide +kernel) rfl) pa_nil))))) (pw_or (pt_cmpR op_ne (pe_callB call_len_seq (by rfl) T.b_len PySem.boot_len (pa_cons (pv 0) pa_nil)) pe_int (nomark _)) (pw_or1 (pt_not (pt_val (pe_callB (cr_all rfl) (by rfl) T.b_all (by decide +kernel) (pa_cons (pe_lc (own := [("_law_end", 1)]) (g := gName 1) rfl nd (pi_tup (pe_slice sl_tup (pv 0) po_none (po_some pe_int))) (blkOk_by (own := [("_law_end", 1)]) (N := ["_law_rope", "_law_end"]) (sc := defScope lIsRope) (by decide +kernel)) (fun _ _ _ _ _ => (pg_name (i := 1) nd rfl (.inl rfl))) (fun _ _ _ _ _ => pts_nil) (fun _ _ _ _ _ => (pe_callB (call_isiB K) (by rfl) T.b_isinstance (by decide +kernel) (pa_cons (pv 1) (pa_cons (pe_bltn (v := .ty "str") (by rfl) T.b_str (by decide +kernel) rfl) pa_nil))))) pa_nil))))))))
        (pss_one (ps_ret pe_bl))
        pss_nil)
      (pss_one (ps_ret (pe_and (pe_callB call_isi (by rfl) T.b_isinstance (by decide +kernel) (pa_cons (pe_ix ix_tup (pv 0) pe_int (fun _ _ => rfl)) (pa_cons (pe_bltn (v := .ty "int") (by rfl) T.b_int (by decide +kernel) rfl) pa_nil))) (pe_one (pe_not (pe_callB call_isi (by rfl) T.b_isinstance (by decide +kernel) (pa_cons (pe_ix ix_tup (pv 0) pe_int (fun _ _ => rfl)) (pa_cons (pe_bltn (v := .ty "bool") (by rfl) T.b_bool (by decide +kernel) rfl) pa_nil))))))))), ?_⟩
    refine ⟨_, rfl, _, .ty "tuple", _, _, _, rfl, .ty _, Vd.ty hv, k_tup K _, _, rfl, ?_⟩
    by_cases hd : isTupD d = true
    · rw [hd]
      refine iteF ?_
      cases d <;> simp [isTupD] at hd
      rename_i ds
      obtain ⟨a, xs, rfl, ea, hs⟩ := hv.tup
      refine ⟨_, rfl, a, _, rfl, .inr (SqT.of ea), rfl, _, rfl, ?_⟩
      rw [hs.len]
      refine ite2 (fun hn => ?_) (fun hn => ?_)
      · have : ds.length ≠ 3 := by
          intro z
          rw [z] at hn
          simp at hn
        rw [not_rope this] at k
        exact iteT (k H (Same.refl _))
      · have h3 : ds.length = 3 := by
          simp at hn
          omega
        obtain ⟨d1, d2, d3, rfl⟩ : ∃ d1 d2 d3, ds = [d1, d2, d3] := by
          match ds, h3 with
          | [d1, d2, d3], _ => exact ⟨d1, d2, d3, rfl⟩
        obtain ⟨x1, r1, e1, v1, hs1⟩ := hs.uncons
        obtain ⟨x2, r2, e2, v2, hs2⟩ := hs1.uncons
        obtain ⟨x3, r3, e3, v3, hs3⟩ := hs2.uncons
        unfold VdA at hs3
        subst hs3 e3 e2 e1
        have kk : isRopeD (.tuple [d1, d2, d3]) = (isStrD d1 && isStrD d2 && (isIntB d3 && !isBoolD d3)) := rfl
        rw [kk] at k
        refine ⟨_, rfl, _, rfl, a, _, rfl, SqT.of ea, (fun z => absurd (show HT.sIx 3 3 (some 2) = 3 from z.2) (by decide)), fun p np => ⟨p, rfl, ⟨_, SqT.of upd_same⟩, ?_⟩⟩
        have s1 : Same H (upd H p (.tup (cutV [x1, x2, x3] none (some 2)))) := same_upd (Same.refl _) np
        have ep : (upd H p (.tup (cutV [x1, x2, x3] none (some 2)))) p = some (.tup [x1, x2]) := by rw [upd_same]; rfl
        generalize upd H p (.tup (cutV [x1, x2, x3] none (some 2))) = H1 at s1 ep ⊢
        intro D hD
        refine lc_tup (K := K) (a := p) (xs := [x1, x2]) (fun t G => G D = some (.lst ((([isStrD d1, isStrD d2] : List Bool).take t).map V.bl)) ∧ Same H1 G) ⟨upd_same, same_upd (Same.refl _) hD⟩ (fun t G _ ⟨_, sG⟩ => SqT.of (sG _ _ ep)) ?_ ?_
        · rintro t x G hx ⟨e1, sG⟩
          have sH := (s1.trans sG).tkept
          match t, hx with
          | 0, hx =>
            cases hx
            exact ⟨rfl, _, rfl, _, .ty "str", _, _, _, rfl, .ty _, Vd.ty (v1.keep sH), k_str K _, _, e1, (by show 0 < sizeLine; decide), by rw [upd_same]; rfl, same_upd sG hD⟩
          | 1, hx =>
            cases hx
            exact ⟨rfl, _, rfl, _, .ty "str", _, _, _, rfl, .ty _, Vd.ty (v2.keep sH), k_str K _, _, e1, (by show 1 < sizeLine; decide), by rw [upd_same]; rfl, same_upd sG hD⟩
          | t + 2, hx => simp at hx
        · rintro G ⟨e1, sG⟩
          have sGH := s1.trans sG
          refine ⟨D, [isStrD d1, isStrD d2], rfl, SqL.of e1, _, rfl, ?_⟩
          have eall : ([isStrD d1, isStrD d2] : List Bool).all id = (isStrD d1 && isStrD d2) := by simp
          rw [eall]
          show if (!(isStrD d1 && isStrD d2)) = true then _ else _
          cases c1 : (isStrD d1 && isStrD d2)
          · rw [c1] at k
            exact iteT (k G sGH)
          · rw [c1] at k
            refine iteF ?_
            try dsimp only [tNext]
            have v3G := v3.keep sGH.tkept
            have i2 : atI [x1, x2, x3] 2 = some x3 := rfl
            refine ⟨_, rfl, a, _, _, _, rfl, rfl, SqT.of (sGH _ _ ea), i2, _, .ty "int", _, _, _, rfl, .ty _, Vd.ty v3G, k_int K _, _, rfl, ?_⟩
            cases c3 : isIntB d3
            · rw [c3] at k
              exact iteF (k G sGH)
            · rw [c3] at k
              refine iteT ?_
              exact ⟨_, rfl, a, _, _, _, rfl, rfl, SqT.of (sGH _ _ ea), i2, _, .ty "bool", _, _, _, rfl, .ty _, Vd.ty v3G, k_bool K _, _, rfl, k G sGH⟩
    · have hd2 : isTupD d = false := by simpa using hd
      rw [hd2]
      have : isRopeD d = false := by cases d <;> first | rfl | (simp [isTupD] at hd2)
      rw [this] at k
      exact iteT (iteT (k H (Same.refl _)))
def spLForm : Sp := fun vs H Q _ => ∃ W R wv rv, vs = [wv, rv] ∧ Vd H W wv ∧ Vd H R rv ∧ Lim W ∧ Lim R ∧ ∀ H', Same H H' → Q (.bl (formD W R)) H'
abbrev lfN : List Str := ["_law_walkers", "_law_ropes", "_law_walker", "_law_rope"]
theorem scLForm : FnScope lfN ["_law_walkers", "_law_ropes"] (defScope lForm) := ⟨rfl, rfl, rfl, by decide +kernel, rfl, by decide +kernel, by decide +kernel⟩
theorem ok_LForm {f : Addr} {fd : FuncData} (F : Fun K "_law_has_form" "_law_has_form" lForm f fd) (T : TxtP mg) (cIsRope : Cal P w K mg base 1 "_law_is_rope" ["_law_rope"] spLRope) : FnOk P w K mg base CX0 2 f fd ["_law_walkers", "_law_ropes"] spLForm := by
  refine F.ok scLForm (fun vs H Q E h => ?_) (fun cdv A outer s H vs Q E hr h => ?_)
  · obtain ⟨W, R, wv, rv, rfl, _⟩ := h
    rfl
  · obtain ⟨W, R, wv, rv, rfl, hw, hrv, lw, lr, k⟩ := h
    have nd := scLForm.nd
    refine ⟨_, (pss_cons (ps_if (PW.pt (pw_or (pt_not (pt_val (pe_callB call_isi (by rfl) T.b_isinstance (by decide +kernel) (pa_cons (pv 0) (pa_cons (pe_bltn (v := .ty "tuple") (by rfl) T.b_tuple (by decide +kernel) rfl) pa_nil))))) (pw_or1 (pt_not (pt_val (pe_callB call_isi (by rfl) T.b_isinstance (by decide +kernel) (pa_cons (pv 1) (pa_cons (pe_bltn (v := .ty "tuple") (by rfl) T.b_tuple (by decide +kernel) rfl) pa_nil))))))))
        (pss_one (ps_ret pe_bl))
        pss_nil)
      (pss_one (ps_ret (pe_and (pe_callB (cr_all rfl) (by rfl) T.b_all (by decide +kernel) (pa_cons (pe_lc (own := [("_law_walker", 2)]) (g := gName 2) rfl nd (pi_tup (pv 0)) (blkOk_by (own := [("_law_walker", 2)]) (N := lfN) (sc := defScope lForm) (by decide +kernel)) (fun _ _ _ _ _ => (pg_name (i := 2) nd rfl (.inl rfl))) (fun _ _ _ _ _ => pts_nil) (fun _ _ _ _ _ => (pe_callB (call_isiB K) (by rfl) T.b_isinstance (by decide +kernel) (pa_cons (pv 2) (pa_cons (pe_bltn (v := .ty "str") (by rfl) T.b_str (by decide +kernel) rfl) pa_nil))))) pa_nil))
        (pe_one (pe_callB (cr_all rfl) (by rfl) T.b_all (by decide +kernel) (pa_cons (pe_lc (own := [("_law_rope", 3)]) (g := gName 3) rfl nd (pi_tup (pv 1)) (blkOk_by (own := [("_law_rope", 3)]) (N := lfN) (sc := defScope lForm) (by decide +kernel)) (fun _ _ _ _ _ => (pg_name (i := 3) nd rfl (.inl rfl))) (fun _ _ _ _ _ => pts_nil) (fun _ _ _ _ _ => (pe_cal cIsRope (hr.mono (by decide)) (by rfl) (pa_cons (pv 3) pa_nil)))) pa_nil))))))), ?_⟩
    refine ⟨_, rfl, _, .ty "tuple", _, _, _, rfl, .ty _, Vd.ty hw, k_tup K _, _, rfl, ?_⟩
    cases c1 : isTupD W
    · have : formD W R = false := by
        unfold formD
        have : isTupS W = false := by cases W <;> first | rfl | (simp [isTupD] at c1)
        rw [this]
        rfl
      rw [this] at k
      exact iteT (iteT (k H (Same.refl _)))
    refine iteF ?_
    refine ⟨_, rfl, _, .ty "tuple", _, _, _, rfl, .ty _, Vd.ty hrv, k_tup K _, _, rfl, ?_⟩
    cases c2 : isTupD R
    · have : formD W R = false := by
        unfold formD
        have : ropesD R = false := by cases R <;> first | rfl | (simp [isTupD] at c2)
        rw [this, Bool.and_false]
      rw [this] at k
      exact iteT (k H (Same.refl _))
    refine iteF ?_
    cases W <;> simp [isTupD] at c1
    rename_i ds
    cases R <;> simp [isTupD] at c2
    rename_i es
    obtain ⟨a, xs, rfl, ea, hs⟩ := hw.tup
    obtain ⟨b, ys, rfl, eb, hy⟩ := hrv.tup
    have kk : formD (.tuple ds) (.tuple es) = (ds.all isStrD && es.all isRopeD) := rfl
    rw [kk] at k
    try dsimp only [tNext]
    refine ⟨_, rfl, a, rfl, ⟨_, SqT.of ea⟩, fun D hD => ?_⟩
    refine lc_tup (K := K) (a := a) (xs := xs) (fun t G => G D = some (.lst (((ds.take t).map isStrD).map V.bl)) ∧ Same H G) ⟨upd_same, same_upd (Same.refl _) hD⟩ (fun t G _ ⟨_, sG⟩ => SqT.of (sG _ _ ea)) ?_ ?_
    · rintro t x G hx ⟨e1, sG⟩
      have ht : t < ds.length := by
        rw [← hs.len]
        exact (List.getElem?_eq_some_iff.mp hx).1
      obtain ⟨d1, x1, hd1, hx1, v1⟩ := hs.at_ ht
      rw [hx] at hx1
      cases hx1
      refine ⟨rfl, _, rfl, _, .ty "str", _, _, _, rfl, .ty _, Vd.ty (v1.keep sG.tkept), k_str K _, _, e1, small2m (by rw [List.length_map, List.length_map, List.length_take]; have := lw.len; omega), ?_, same_upd sG hD⟩
      rw [upd_same, List.take_add_one, hd1, List.map_append, List.map_append]
      rfl
    · rintro G ⟨e1, sG⟩
      rw [hs.len, List.take_length] at e1
      refine ⟨D, _, rfl, SqL.of e1, _, rfl, ?_⟩
      have : (ds.map isStrD).all id = ds.all isStrD := by
        rw [List.all_map]
        rfl
      rw [this]
      cases c3 : ds.all isStrD
      · rw [c3] at k
        exact iteF (k G sG)
      rw [c3] at k
      refine iteT ?_
      clear e1
      refine ⟨_, rfl, b, rfl, ⟨_, SqT.of (sG _ _ eb)⟩, fun D2 hD2 => ?_⟩
      refine lc_tup (K := K) (a := b) (xs := ys) (fun t G2 => G2 D2 = some (.lst (((es.take t).map isRopeD).map V.bl)) ∧ Same G G2) ⟨upd_same, same_upd (Same.refl _) hD2⟩ (fun t G2 _ ⟨_, s2⟩ => SqT.of (s2 _ _ (sG _ _ eb))) ?_ ?_
      · rintro t x G2 hx ⟨e1, s2⟩
        have ht : t < es.length := by
          rw [← hy.len]
          exact (List.getElem?_eq_some_iff.mp hx).1
        obtain ⟨d1, x1, hd1, hx1, v1⟩ := hy.at_ ht
        rw [hx] at hx1
        cases hx1
        refine ⟨rfl, _, rfl, d1, x, rfl, v1.keep (sG.trans s2).tkept, fun G3 s3 => ⟨_, s3 _ _ e1, small2m (by rw [List.length_map, List.length_map, List.length_take]; have := lr.len; omega), ?_, same_upd (s2.trans s3) hD2⟩⟩
        rw [upd_same, List.take_add_one, hd1, List.map_append, List.map_append]
        rfl
      · rintro G2 ⟨e1, s2⟩
        rw [hy.len, List.take_length] at e1
        refine ⟨D2, _, rfl, SqL.of e1, ?_⟩
        have : (es.map isRopeD).all id = es.all isRopeD := by
          rw [List.all_map]
          rfl
        rw [this]
        exact k G2 (sG.trans s2)
end
end Tg

namespace Tg
open PySem L2 Ow
abbrev alphaT : Str := "abcdefghijklmnopqrstuvwxyz"
theorem alpha_in (c : Nat) : decide (c ∈ alphaT.cps.toList) = okCp c := by
  have e : alphaT.cps.toList = (List.range 26).map (97 + ·) := by
    have := congrArg (fun s : Str => s.cps.toList) letters_eq
    simpa [sL] using this
  rw [e]
  unfold okCp
  by_cases h : 97 ≤ c ∧ c ≤ 122
  · rw [decide_eq_true (List.mem_map.mpr ⟨c - 97, List.mem_range.mpr (by omega), by omega⟩), decide_eq_true h.1, decide_eq_true h.2]
    rfl
  · have : ¬ c ∈ (List.range 26).map (97 + ·) := fun z => by
      obtain ⟨k, hk, rfl⟩ := List.mem_map.mp z
      have := List.mem_range.mp hk
      exact h ⟨by omega, by omega⟩
    rw [decide_eq_false this]
    by_cases h1 : 97 ≤ c
    · have h2 : ¬ c ≤ 122 := fun z => h ⟨h1, z⟩
      rw [decide_eq_false h2, Bool.and_false]
    · rw [decide_eq_false h1]
      rfl
/-- the signs of a text that are no small letters -/
def oddL (l : List Nat) : List Nat := l.filter fun c => !okCp c
theorem oddL_nil (l : List Nat) : (oddL l).isEmpty = l.all okCp := by
  induction l with
  | nil => rfl
  | cons c l ih =>
    unfold oddL at ih ⊢
    rw [List.filter_cons, List.all_cons]
    cases h : okCp c
    · simp
    · simpa using ih
def sgD (l : List Nat) : List PyData := l.map fun c => PyData.str ⟨#[c]⟩
def sgV (l : List Nat) : List V := l.map fun c => V.str ⟨#[c]⟩
theorem sg_dp {K : PySem.W.Frag} {H : Hp} : ∀ l : List Nat, DpAll K H (sgV l) (sgD l)
  | [] => .nil
  | c :: l => .cons (.str _) (sg_dp l)
theorem sg_lay : ∀ {l : List Nat}, (∀ c ∈ l, c < 0x110000) → PyData.canLayAll0 (sgD l) = true ∧ PyData.depthAll (sgD l) = 0
  | [], _ => ⟨rfl, rfl⟩
  | c :: l, h => by
    obtain ⟨a, b⟩ := sg_lay (l := l) fun x hx => h x (List.mem_cons_of_mem _ hx)
    have hc := h c List.mem_cons_self
    have e : PyData.strOk ⟨#[c]⟩ = true := by
      show (Array.all #[c] _) = true
      simp
      exact hc
    refine ⟨?_, ?_⟩
    · show (PyData.canLay0 (.str ⟨#[c]⟩) && PyData.canLayAll0 (sgD l)) = true
      rw [a, Bool.and_true]
      simpa [PyData.canLay0] using e
    · show max (PyData.depth (.str ⟨#[c]⟩)) (PyData.depthAll (sgD l)) = 0
      rw [b]
      rfl
theorem sg_shaped {l : List Nat} (h : ∀ c ∈ l, c < 0x110000) : SeqAt.shaped (.list (sgD l)) = true := by
  obtain ⟨a, b⟩ := sg_lay h
  simp [SeqAt.shaped, PyData.canLay0, PyData.depth, a, b]
theorem sg_eqv (l : List Nat) : PyData.eqv (.list (sgD l)) (.list []) = l.isEmpty := by cases l <;> rfl
theorem wBad_is {ws : List Str} {t : Nat} (x : Str) (hx : x = ws.getD t "") : wBad ws t = (!(decide (0 < x.length) && decide (x.length < 7)) || (!(oddL x.cps.toList).isEmpty || (ws.take t).contains x)) := by
  unfold wBad
  rw [← hx, oddL_nil]
  unfold isNmS
  have e1 : decide (1 ≤ x.length) = decide (0 < x.length) := rfl
  have e2 : decide (x.length ≤ 6) = decide (x.length < 7) := by
    by_cases h : x.length ≤ 6
    · rw [decide_eq_true h, decide_eq_true (by omega)]
    · rw [decide_eq_false h, decide_eq_false (by omega)]
  rw [e1, e2]
  cases decide (0 < x.length) <;> cases decide (x.length < 7) <;> cases x.cps.toList.all okCp <;> cases (ws.take t).contains x <;> rfl
section
variable {P : Program} {w : World} {K : PySem.W.Frag} {mg : Str → Option Value} {base : Heap}
def spLDue : Sp := fun vs H Q _ => ∃ W R wv rv, vs = [wv, rv] ∧ Vd H W wv ∧ Vd H R rv ∧ gd W = true ∧ Lim W ∧ Lim R ∧ (dueD W R = none → ∀ H', Same H H' → Q .non H') ∧
  (∀ wd i, dueD W R = some (wd, i) → ∀ p H', H p = none → Same H H' → H' p = some (.tup [.str wd, .int i]) → Q (.ref p) H')
abbrev ldN : List Str := ["_law_walkers", "_law_ropes", "_law_at", "_law_walker", "_law_letters", "_law_one", "_law_other", "_law_length", "_law_letter"]
theorem scLDue : FnScope ldN ["_law_walkers", "_law_ropes"] (defScope lDue) := ⟨rfl, rfl, rfl, by decide +kernel, rfl, by decide +kernel, by decide +kernel⟩
theorem ok_LDue {f : Addr} {fd : FuncData} (F : Fun K "_law_due" "_law_due" lDue f fd) (T : TxtP mg) (cHasForm : Cal P w K mg base 2 "_law_has_form" ["_law_walkers", "_law_ropes"] spLForm) : FnOk P w K mg base CX0 3 f fd ["_law_walkers", "_law_ropes"] spLDue := by
  refine F.ok scLDue (fun vs H Q E h => ?_) (fun cdv A outer s H vs Q E hr h => ?_)
  · obtain ⟨W, R, wv, rv, rfl, _⟩ := h
    rfl
  · obtain ⟨W, R, wv, rv, rfl, hw, hrv, gW, lw, lr, kok, kno⟩ := h
    have nd := scLDue.nd
    refine ⟨_, (pss_cons (ps_if (pt_not (pt_val (pe_cal cHasForm (hr.mono (by decide)) (by rfl) (pa_cons (pv 0) (pa_cons (pv 1) pa_nil)))))
        (pss_one (ps_ret (pe_tup (pa_cons pe_str (pa_cons pe_int pa_nil)))))
        pss_nil)
      (pss_cons (ps_if (pt_not (pt_chain op_lt op_lt pe_int (pe_callB call_len_seq (by rfl) T.b_len PySem.boot_len (pa_cons (pv 0) pa_nil)) pe_int))
        (pss_one (ps_ret (pe_tup (pa_cons pe_str (pa_cons pe_int pa_nil)))))
        pss_nil)
      (pss_cons (ps_for PassesOwn.never rfl (pi_enA (by rfl) T.b_enumerate (pa_cons (pv 0) pa_nil)) (pg_tup (by rfl) (pgs_cons (pg_name (i := 2) nd rfl (.inl rfl)) (pgs_cons (pg_name (i := 3) nd rfl (.inl rfl)) pgs_nil)))
        (pss_cons (ps_setLc (i := 4) (own := [("_law_letter", 8)]) (g := gName 8) rfl nd rfl rfl (sw_true rfl rfl rfl (by decide +kernel)) (pi_str (pv 3)) (blkOk_by (own := [("_law_letter", 8)]) (N := ldN) (sc := defScope lDue) (by decide +kernel)) (fun _ _ _ _ _ => (pg_name (i := 8) nd rfl (.inl rfl))) (fun _ _ _ _ _ => pts_one (pt_cmpR op_notIn_sign (pv 8) pe_str rfl)) (fun _ _ _ _ _ => (pv 8)))
          (pss_one (ps_if (PW.pt (pw_or (pt_not (pt_chain op_lt op_lt pe_int (pe_callB call_len_str (by rfl) T.b_len PySem.boot_len (pa_cons (pv 3) pa_nil)) pe_int)) (pw_or (pt_cmpR (op_neD hr.units) (pv 4) (pe_lst pa_nil) (nomark _)) (pw_or1 (pt_cmpR op_in_seq (pv 3) (pe_slice sl_tup (pv 0) po_none (po_some (pv 2))) rfl)))))
            (pss_one (ps_ret (pe_tup (pa_cons pe_str (pa_cons (pv 2) pa_nil)))))
            pss_nil))))
      (pss_cons (ps_for PassesOwn.never rfl (pi_enA (by rfl) T.b_enumerate (pa_cons (pv 1) pa_nil)) (pg_tup (by rfl) (pgs_cons (pg_name (i := 2) nd rfl (.inl rfl)) (pgs_cons (pg_tup (by rfl) (pgs_cons (pg_name (i := 5) nd rfl (.inl rfl)) (pgs_cons (pg_name (i := 6) nd rfl (.inl rfl)) (pgs_cons (pg_name (i := 7) nd rfl (.inl rfl)) pgs_nil)))) pgs_nil)))
        (pss_one (ps_if (PW.pt (pw_or (pt_cmpR op_notIn_seq (pv 5) (pv 0) rfl) (pw_or (pt_cmpR op_notIn_seq (pv 6) (pv 0) rfl) (pw_or (pt_cmpR op_eq (pv 5) (pv 6) (nomark _)) (pw_or1 (pt_cmpR op_lt (pv 7) pe_int (nomark _)))))))
            (pss_one (ps_ret (pe_tup (pa_cons pe_str (pa_cons (pv 2) pa_nil)))))
            pss_nil)))
      (pss_one (ps_ret pe_non)))))), ?_⟩
    refine ⟨_, rfl, _, rfl, W, R, wv, rv, rfl, hw, hrv, lw, lr, fun H1 s1 => ⟨_, rfl, ?_⟩⟩
    have told : ∀ {wd : Str} {i : Int} {G : Hp}, Same H G → dueD W R = some (wd, i) → ∀ t, G t = none → Q (.ref t) (upd G t (.tup [.str wd, .int i])) := fun sG e t nt => kno _ _ e t _ (sG.free nt) (same_upd sG (sG.free nt)) upd_same
    cases hf : formD W R
    · refine iteT ?_
      exact ⟨(by show 2 ≤ sizeLine; decide), fun t nt => told s1 (by unfold dueD; rw [hf]; rfl) t nt⟩
    refine iteF ?_
    obtain ⟨f1, f2⟩ := Bool.and_eq_true_iff.mp hf
    obtain ⟨ws, eW, ews⟩ : ∃ ws, W = .tuple (ws.map PyData.str) ∧ ws = strsOf W := ⟨_, strs_back f1, rfl⟩
    obtain ⟨rs, eR, ers⟩ : ∃ rs, R = .tuple (rs.map ropD) ∧ rs = ropsOf R := ⟨_, rops_back f2, rfl⟩
    rw [eW] at hw
    rw [eR] at hrv
    obtain ⟨a, xs, rfl, ea, hs⟩ := hw.tup
    obtain ⟨b, ys, rfl, eb, hy⟩ := hrv.tup
    have exs := vdA_strs hs
    subst exs
    have li : (itemsD W).length = ws.length := by rw [eW]; exact List.length_map ..
    have hl : ws.length ≤ 2000000 := by
      rw [eW] at lw
      have := lw.len
      rw [List.length_map] at this
      exact this
    have hx : ∀ x ∈ ws, 10 * x.length + 10 ≤ 4000000 := fun x hx => by
      rw [eW] at lw
      exact lw.item (d := .str x) (List.mem_map.mpr ⟨x, hx, rfl⟩)
    have hok : ∀ x ∈ ws, ∀ c ∈ x.cps.toList, c < 0x110000 := fun x hx c hc => by
      rw [eW] at gW
      have g1 : gdA (ws.map PyData.str) = true := gW
      have g2 := gdA_iff.mp g1 (.str x) (List.mem_map.mpr ⟨x, hx, rfl⟩)
      have g3 : x.cps.all (· < 0x110000) = true := g2
      have := Array.all_eq_true'.mp g3 c (by simpa using hc)
      simpa using this
    have lwn : ((ws.map V.str).length : Int) = (ws.length : Int) := by rw [List.length_map]
    have sD : sizeD W = (decide (1 ≤ ws.length) && decide (ws.length ≤ 6)) := by
      unfold sizeD
      rw [li]
    have toldS : ∀ {G : Hp}, Same H G → ¬ (1 ≤ ws.length ∧ ws.length ≤ 6) → ∀ t, G t = none → Q (.ref t) (upd G t (.tup [.str "size", .int 0])) := fun sG z t nt => told sG (by
      unfold dueD
      have : sizeD W = false := by
        rw [sD]
        by_cases h1 : 1 ≤ ws.length
        · have h2 : ¬ ws.length ≤ 6 := fun h2 => z ⟨h1, h2⟩
          rw [decide_eq_false h2, Bool.and_false]
        · rw [decide_eq_false h1]
          rfl
      rw [hf, this]
      rfl) t nt
    have ea1 := s1 _ _ ea
    have eb1 := s1 _ _ eb
    try dsimp only [tNext]
    refine ⟨_, rfl, a, _, rfl, .inr (SqT.of ea1), _, _, rfl, rfl, _, rfl, ?_⟩
    rw [lwn]
    by_cases c1 : (0 : Int) < (ws.length : Int)
    case neg =>
      rw [decide_eq_false c1]
      refine iteF ⟨_, rfl, iteT ?_⟩
      exact ⟨(by show 2 ≤ sizeLine; decide), toldS s1 (by omega)⟩
    rw [decide_eq_true c1]
    refine iteT ⟨_, _, rfl, rfl, _, rfl, ?_⟩
    by_cases c2 : (ws.length : Int) < 7
    case neg =>
      rw [decide_eq_false c2]
      refine iteT ?_
      exact ⟨(by show 2 ≤ sizeLine; decide), toldS s1 (by omega)⟩
    rw [decide_eq_true c2]
    refine iteF ?_
    have sT : sizeD W = true := by
      rw [sD, decide_eq_true (by omega), decide_eq_true (by omega)]
      rfl
    have due1 : dueD W R = match badW ws with
        | some i => some ("walker", (i : Int))
        | none => match badR ws rs with
          | some i => some ("rope", (i : Int))
          | none => none := by
      unfold dueD
      rw [hf, sT, ← ews, ← ers]
      rfl
    try dsimp only [tNext]
    refine ⟨_, rfl, a, _, rfl, .inr ⟨SqT.of ea1, ?_⟩⟩
    refine for_it (walk_enT (xs := ws.map V.str)) (fun t σ G => ∃ v2 v3 v4 v5 v6 v7 v8 : Option V, σ = [some (.ref a), some (.ref b), v2, v3, v4, v5, v6, v7, v8] ∧ Same H G ∧ ∀ j, j < t → wBad ws j = false) ⟨_, _, _, _, _, _, _, rfl, s1, fun j hj => absurd hj (Nat.not_lt_zero _)⟩ (fun t σ G _ ⟨_, _, _, _, _, _, _, _, sG, _⟩ => SqT.of (sG _ _ ea)) ?_ ?_
    · rintro t x σ G G2 ht ⟨v2, v3, v4, v5, v6, v7, v8, rfl, sG, hj⟩ ⟨T0, x0, y0, rfl, nT, rfl, ex, ey⟩
      obtain rfl : V.int (t : Nat) = x0 := Option.some.inj ex
      have ht2 : t < ws.length := by rw [List.length_map] at ht; exact ht
      obtain ⟨x, ewx, hwx⟩ : ∃ x, x = ws.getD t "" ∧ x ∈ ws := ⟨_, rfl, by
        rw [List.getD_eq_getElem?_getD, List.getElem?_eq_getElem ht2]
        exact List.getElem_mem ht2⟩
      have ey2 : y0 = V.str x := by
        have ey : (ws.map V.str)[t]? = some y0 := ey
        rw [List.getElem?_map, List.getElem?_eq_getElem ht2] at ey
        rw [ewx, List.getD_eq_getElem?_getD, List.getElem?_eq_getElem ht2]
        exact (Option.some.inj ey).symm
      subst ey2
      have s2 : Same H (upd G T0 (.tup [.int (t : Nat), V.str x])) := same_upd sG (sG.free nT)
      have eT : (upd G T0 (.tup [.int (t : Nat), V.str x])) T0 = some (.tup [.int (t : Nat), V.str x]) := upd_same
      generalize upd G T0 (.tup [.int (t : Nat), V.str x]) = G3 at s2 eT ⊢
      refine ⟨T0, _, rfl, SqT.of eT, rfl, _, _, rfl, _, _, rfl, rfl, ?_⟩
      -- letters
      have hxl := hx x hwx
      refine ⟨_, rfl, x, rfl, fun D hD => ?_⟩
      refine lc_it (walk_str (z := x)) (fun t2 G4 => G4 D = some (.lst (sgV (oddL (x.cps.toList.take t2)))) ∧ Same G3 G4) ⟨upd_same, same_upd (Same.refl _) hD⟩ (fun _ _ _ _ => True.intro) ?_ ?_
      · rintro t2 y G4 G5 ht3 ⟨e4, s4⟩ ⟨rfl, c, ec, rfl⟩
        refine ⟨rfl, _, rfl, c, alphaT, rfl, rfl, _, rfl, ?_⟩
        rw [alpha_in]
        have ec2 : x.cps.toList[t2]? = some c := by simpa using ec
        have tk : x.cps.toList.take (t2 + 1) = x.cps.toList.take t2 ++ [c] := by
          rw [List.take_add_one, ec2]
          rfl
        have sm : (sgV (oddL (x.cps.toList.take t2))).length < sizeLine := by
          unfold sgV oddL
          rw [List.length_map]
          have z1 := List.length_filter_le (fun c => !okCp c) (x.cps.toList.take t2)
          have z2 : (x.cps.toList.take t2).length ≤ x.cps.toList.length := by
            rw [List.length_take]
            omega
          have z3 : x.cps.toList.length = x.length := rfl
          rw [sizeLine_eq]
          omega
        cases h : okCp c
        · refine iteT ?_
          refine ⟨_, rfl, _, e4, sm, ?_, same_upd s4 hD⟩
          rw [upd_same, tk]
          unfold oddL sgV
          rw [List.filter_append, List.map_append]
          simp [h]
        · refine iteF ⟨?_, s4⟩
          rw [tk]
          unfold oddL at e4 ⊢
          rw [List.filter_append]
          simp [h]
          exact e4
      rintro G4 ⟨e4, s4⟩
      rw [show x.cps.toList.take x.cps.size = x.cps.toList from List.take_of_length_le (by simp)] at e4
      have s24 := s2.trans s4
      try dsimp only [tNext]
      have good : wBad ws t = false → ∀ j, j < t + 1 → wBad ws j = false := fun z j hj2 => by
        by_cases e : j = t
        · rw [e]; exact z
        · exact hj j (by omega)
      have toldW : ∀ {G : Hp}, Same H G → wBad ws t = true → ∀ u, G u = none → Q (.ref u) (upd G u (.tup [.str "walker", .int (t : Int)])) := fun sG z u nu => told sG (by rw [due1, show badW ws = some t from find_hit ht2 hj z]) u nu
      have wb := wBad_is x ewx
      have hx6 : x.length ≤ sizeLine := by
        rw [sizeLine_eq]
        omega
      refine ⟨_, rfl, x, rfl, hx6, _, _, rfl, rfl, _, rfl, ?_⟩
      by_cases c3 : (0 : Int) < (x.length : Int)
      case neg =>
        rw [decide_eq_false c3]
        refine iteF ⟨_, rfl, iteT (iteT ?_)⟩
        have z : wBad ws t = true := by
          rw [wb, decide_eq_false (show ¬ 0 < x.length by omega)]
          rfl
        exact ⟨_, rfl, (by show 2 ≤ sizeLine; decide), toldW s24 z⟩
      rw [decide_eq_true c3]
      refine iteT ⟨_, _, rfl, rfl, _, rfl, ?_⟩
      by_cases c4 : (x.length : Int) < 7
      case neg =>
        rw [decide_eq_false c4]
        refine iteT (iteT ?_)
        have z : wBad ws t = true := by
          rw [wb, decide_eq_false (show ¬ x.length < 7 by omega), Bool.and_false]
          rfl
        exact ⟨_, rfl, (by show 2 ≤ sizeLine; decide), toldW s24 z⟩
      rw [decide_eq_true c4]
      rw [decide_eq_true (show 0 < x.length by omega), decide_eq_true (show x.length < 7 by omega), Bool.and_true, Bool.not_true, Bool.false_or] at wb
      refine iteF ⟨_, rfl, (by show 0 ≤ sizeLine; decide), fun pl npl => ?_⟩
      have s5 : Same H (upd G4 pl (.lst [])) := same_upd s24 (s24.free npl)
      have el : (upd G4 pl (.lst [])) pl = some (.lst []) := upd_same
      have e5 : (upd G4 pl (.lst [])) D = some (.lst (sgV (oddL x.cps.toList))) := by rw [upd_ne (ne_of_none e4 npl)]; exact e4
      generalize upd G4 pl (.lst []) = G5 at s5 el e5 ⊢
      refine ⟨.list (sgD (oddL x.cps.toList)), .list [], .lst (SqL.of e5) (sg_dp _), .lst (SqL.of el) .nil, sg_shaped (fun c hc => hok x hwx c ((List.mem_filter.mp hc).1)), by decide +kernel, _, rfl, ?_⟩
      rw [sg_eqv]
      cases c5 : (oddL x.cps.toList).isEmpty
      · rw [c5] at wb
        refine iteT (iteT ?_)
        exact ⟨_, rfl, (by show 2 ≤ sizeLine; decide), toldW s5 wb⟩
      rw [c5] at wb
      rw [Bool.not_true, Bool.false_or] at wb
      refine iteF ⟨_, rfl, _, rfl, _, rfl, _, rfl, a, _, rfl, SqT.of (s5 _ _ ea), ?_, fun pc npc => ?_⟩
      · rw [HT.sIx_nat]
        rintro ⟨_, h⟩
        rw [List.length_map] at h
        rw [Nat.min_eq_left (by omega)] at h
        omega
      have cutE : cutV (ws.map V.str) none (some (t : Int)) = (ws.take t).map V.str := by
        unfold cutV
        rw [HT.sIx_none, HT.sIx_nat, List.drop_zero, Nat.sub_zero, Nat.min_eq_left (by rw [List.length_map]; omega), List.map_take]
      rw [cutE]
      have s6 : Same H (upd G5 pc (.tup ((ws.take t).map V.str))) := same_upd s5 (s5.free npc)
      refine ⟨pc, _, rfl, .inr (SqT.of upd_same), rfl, flat_strs _, _, rfl, ?_⟩
      rw [inV_strs]
      cases c6 : (ws.take t).contains x
      · rw [c6] at wb
        refine iteF ?_
        exact ⟨_, _, _, _, _, _, _, rfl, s6, good wb⟩
      · rw [c6] at wb
        refine iteT ?_
        exact ⟨_, rfl, (by show 2 ≤ sizeLine; decide), toldW s6 wb⟩
    · rintro σ G ⟨v2, v3, v4, v5, v6, v7, v8, rfl, sG, hj⟩
      rw [List.length_map] at hj
      have bw : badW ws = none := find_no hj
      rw [bw] at due1
      have due2 : dueD W R = match badR ws rs with
          | some i => some ("rope", (i : Int))
          | none => none := due1
      try dsimp only [tNext]
      refine ⟨_, rfl, b, _, rfl, .inr ⟨SqT.of (sG _ _ eb), ?_⟩⟩
      have ly : ys.length = rs.length := by rw [hy.len, List.length_map]
      refine for_it (walk_enT (xs := ys)) (fun t σ G => ∃ v2 v3 v4 v5 v6 v7 v8 : Option V, σ = [some (.ref a), some (.ref b), v2, v3, v4, v5, v6, v7, v8] ∧ Same H G ∧ ∀ j, j < t → rBad ws (rs.getD j ("", "", 0)) = false) ⟨_, _, _, _, _, _, _, rfl, sG, fun j hj => absurd hj (Nat.not_lt_zero _)⟩ (fun t σ G _ ⟨_, _, _, _, _, _, _, _, sG, _⟩ => SqT.of (sG _ _ eb)) ?_ ?_
      · rintro t x σ G G2 ht ⟨v2, v3, v4, v5, v6, v7, v8, rfl, sG, hj⟩ ⟨T0, x0, y0, rfl, nT, rfl, ex, ey⟩
        obtain rfl : V.int (t : Nat) = x0 := Option.some.inj ex
        have ht2 : t < rs.length := by rw [← ly]; exact ht
        obtain ⟨q, r, er, exq, eq⟩ := vdA_rops hy ht2
        obtain rfl : V.ref q = y0 := by
          have ey : ys[t]? = some y0 := ey
          rw [exq] at ey
          exact Option.some.inj ey
        have gr : rs.getD t ("", "", 0) = r := by rw [List.getD_eq_getElem?_getD, er]; rfl
        have s2 : Same H (upd G T0 (.tup [.int (t : Nat), .ref q])) := same_upd sG (sG.free nT)
        have eT : (upd G T0 (.tup [.int (t : Nat), .ref q])) T0 = some (.tup [.int (t : Nat), .ref q]) := upd_same
        generalize upd G T0 (.tup [.int (t : Nat), .ref q]) = G3 at s2 eT ⊢
        have ea3 := s2 _ _ ea
        refine ⟨T0, _, rfl, SqT.of eT, rfl, _, _, rfl, _, _, rfl, ⟨q, _, rfl, SqT.of (s2 _ _ eq), rfl, _, _, rfl, _, _, rfl, _, _, rfl, rfl, rfl, ?_⟩⟩
        have wb : rBad ws (rs.getD t ("", "", 0)) = (!ws.contains r.1 || (!ws.contains r.2.1 || (decide (r.1 = r.2.1) || decide (r.2.2 < 0)))) := by rw [gr]; rfl
        have bad : rBad ws (rs.getD t ("", "", 0)) = true → ∀ u, G3 u = none → Q (.ref u) (upd G3 u (.tup [.str "rope", .int (t : Int)])) := fun z u nu => told s2 (by rw [due2, show badR ws rs = some t from find_hit ht2 hj z]) u nu
        have good : rBad ws (rs.getD t ("", "", 0)) = false → ∀ j, j < t + 1 → rBad ws (rs.getD j ("", "", 0)) = false := fun z j hj2 => by
          by_cases e : j = t
          · rw [e]; exact z
          · exact hj j (by omega)
        refine ⟨_, rfl, _, rfl, a, _, rfl, .inr (SqT.of ea3), rfl, flat_strs _, _, rfl, ?_⟩
        rw [inV_strs]
        show if (!ws.contains r.1) = true then _ else _
        cases c1 : ws.contains r.1
        · rw [c1] at wb
          refine iteT (iteT ?_)
          exact ⟨_, rfl, (by show 2 ≤ sizeLine; decide), bad wb⟩
        rw [c1] at wb
        refine iteF ⟨_, rfl, _, rfl, a, _, rfl, .inr (SqT.of ea3), rfl, flat_strs _, _, rfl, ?_⟩
        rw [inV_strs]
        show if (!ws.contains r.2.1) = true then _ else _
        cases c2 : ws.contains r.2.1
        · rw [c2] at wb
          refine iteT (iteT ?_)
          exact ⟨_, rfl, (by show 2 ≤ sizeLine; decide), bad wb⟩
        rw [c2] at wb
        refine iteF ⟨_, rfl, _, rfl, rfl, _, rfl, ?_⟩
        refine ite2 (fun c3 => ?_) (fun c3 => ?_)
        · have c3 : r.1 = r.2.1 := by simpa using c3
          rw [decide_eq_true c3] at wb
          refine iteT ?_
          exact ⟨_, rfl, (by show 2 ≤ sizeLine; decide), bad wb⟩
        have c3 : ¬ r.1 = r.2.1 := by simpa using c3
        rw [decide_eq_false c3] at wb
        refine ⟨_, rfl, _, _, rfl, rfl, _, rfl, ?_⟩
        by_cases c4 : r.2.2 < 0
        · rw [decide_eq_true c4] at wb
          rw [decide_eq_true c4]
          refine iteT ?_
          exact ⟨_, rfl, (by show 2 ≤ sizeLine; decide), bad wb⟩
        · rw [decide_eq_false c4] at wb
          rw [decide_eq_false c4]
          refine iteF ?_
          exact ⟨_, _, _, _, _, _, _, rfl, s2, good wb⟩
      · rintro σ G ⟨v2, v3, v4, v5, v6, v7, v8, rfl, sG, hj⟩
        rw [ly] at hj
        exact kok (by rw [due2, show badR ws rs = none from find_no hj]) G sG
end
end Tg

namespace Tg
open PySem L2 Ow
abbrev pWW : Stmt := inClass (top 38) 3
abbrev pWR : Stmt := inClass (top 38) 4
abbrev pWL : Stmt := inClass (top 38) 13
abbrev lTold : Stmt := top 49
section
variable {P : Program} {w : World} {K : PySem.W.Frag} {mg : Str → Option Value} {base : Heap} {CW CN : Addr}
def spWW (CW : Addr) : Sp := fun vs H Q _ => ∃ p wv rv, vs = [.ref p] ∧ WebOf CW H p wv rv ∧ Q wv H
def spWR (CW : Addr) : Sp := fun vs H Q _ => ∃ p wv rv, vs = [.ref p] ∧ WebOf CW H p wv rv ∧ Q rv H
def spWL (CW : Addr) : Sp := fun vs H Q _ => ∃ p a xs rv, vs = [.ref p] ∧ WebOf CW H p (.ref a) rv ∧ H a = some (.tup xs) ∧ Q (.int (xs.length : Nat)) H
theorem scWW : FnScope ["self"] ["self"] (defScope pWW) := ⟨rfl, rfl, rfl, by decide +kernel, rfl, by decide +kernel, by decide +kernel⟩
theorem scWR : FnScope ["self"] ["self"] (defScope pWR) := ⟨rfl, rfl, rfl, by decide +kernel, rfl, by decide +kernel, by decide +kernel⟩
theorem scWL : FnScope ["self"] ["self"] (defScope pWL) := ⟨rfl, rfl, rfl, by decide +kernel, rfl, by decide +kernel, by decide +kernel⟩
theorem ok_WW {f : Addr} {fd : FuncData} (F : Fun K "walkers" "Web.walkers" pWW f fd) (T : WebTxt K mg CW) : FnOk P w K mg base CX0 1 f fd ["self"] (spWW CW) := by
  refine F.ok scWW (fun vs H Q E h => ?_) (fun cdv A outer s H vs Q E hr h => ?_)
  · obtain ⟨p, wv, rv, rfl, _⟩ := h
    rfl
  · obtain ⟨p, wv, rv, rfl, ⟨dx, t, r, u, hp⟩, k⟩ := h
    refine ⟨_, (pss_one (ps_ret (pe_fld (pv 0) rfl))), ?_⟩
    exact ⟨_, rfl, p, CW, dx, _, _, rfl, hp, T.cl, T.n1, rfl, k⟩
theorem ok_WR {f : Addr} {fd : FuncData} (F : Fun K "ropes" "Web.ropes" pWR f fd) (T : WebTxt K mg CW) : FnOk P w K mg base CX0 1 f fd ["self"] (spWR CW) := by
  refine F.ok scWR (fun vs H Q E h => ?_) (fun cdv A outer s H vs Q E hr h => ?_)
  · obtain ⟨p, wv, rv, rfl, _⟩ := h
    rfl
  · obtain ⟨p, wv, rv, rfl, ⟨dx, t, r, u, hp⟩, k⟩ := h
    refine ⟨_, (pss_one (ps_ret (pe_fld (pv 0) rfl))), ?_⟩
    exact ⟨_, rfl, p, CW, dx, _, _, rfl, hp, T.cl, T.n2, rfl, k⟩
theorem ok_WL {f : Addr} {fd : FuncData} (F : Fun K "__len__" "Web.__len__" pWL f fd) (T : WebTxt K mg CW) (TP : TxtP mg) : FnOk P w K mg base CX0 1 f fd ["self"] (spWL CW) := by
  refine F.ok scWL (fun vs H Q E h => ?_) (fun cdv A outer s H vs Q E hr h => ?_)
  · obtain ⟨p, a, xs, rv, rfl, _⟩ := h
    rfl
  · obtain ⟨p, a, xs, rv, rfl, ⟨dx, t, r, u, hp⟩, ea, k⟩ := h
    refine ⟨_, (pss_one (ps_ret (pe_callB call_len_seq (by rfl) TP.b_len PySem.boot_len (pa_cons (pe_fld (pv 0) rfl) pa_nil)))), ?_⟩
    exact ⟨_, rfl, p, CW, dx, _, _, rfl, hp, T.cl, T.n1, rfl, a, _, rfl, .inr (SqT.of ea), k⟩
/-- the class Web as the law uses it -/
structure WebC (P : Program) (w : World) (K : PySem.W.Frag) (mg : Str → Option Value) (base : Heap) (CW CN : Addr) : Prop where
  T : WebTxt K mg CW
  mki : ∃ f fd, Mk K CW f ∧ FnOk P w K mg base (L2.CX P w) 4 f fd ["self", "walkers", "ropes"] (spWI CW CN) ∧ Binds K fd ["self", "walkers", "ropes"] []
  gm : mg "Web" = some (.ref CW)
  wp : ∃ p g fd, PropOf K CW "walkers" p g ∧ FnOk P w K mg base CX0 1 g fd ["self"] (spWW CW) ∧ Binds K fd ["self"] []
  rp : ∃ p g fd, PropOf K CW "ropes" p g ∧ FnOk P w K mg base CX0 1 g fd ["self"] (spWR CW) ∧ Binds K fd ["self"] []
  ln : ∃ f fd, FnOk P w K mg base CX0 1 f fd ["self"] (spWL CW) ∧ Binds K fd ["self"] [] ∧ PySem.W.findIn K (.ref CW) "__len__" = some (some (.ref f)) ∧ PySem.W.isFn K (.ref f) = true
/-- NoWeb as it is caught -/
structure NoC (K : PySem.W.Frag) (mg : Str → Option Value) (CN c1 c2 c3 c4 : Addr) : Prop where
  gm : mg "NoWeb" = some (.ref CN)
  eP : PySem.W.exmOne K (.ref CN) (.ref CN) = some true
  xf : XfC K CN
  ex : ExcC K CN
  nw : PySem.W.findIn K (.ref CN) "word" = some none
  na : PySem.W.findIn K (.ref CN) "at" = some none
  g1 : mg "NoGrove" = some (.ref c1)
  g2 : mg "NoMatch" = some (.ref c2)
  g3 : mg "NoText" = some (.ref c3)
  g4 : mg "NoTree" = some (.ref c4)
  ka : PySem.W.kitAny K (.ref CN) [.ref c1, .ref c2, .ref c3, .ref c4] = some false
def spLTold : Sp := fun vs H Q _ => ∃ W R wv rv, vs = [wv, rv] ∧ Vd H W wv ∧ Vd H R rv ∧ Lim W ∧ Lim R ∧
  (dueD W R = none → ∀ p H', H p = none → Same H H' → H' p = some (.lst [wv, rv, .int ((itemsD W).length : Nat)]) → Q (.ref p) H') ∧
  (∀ wd i, dueD W R = some (wd, i) → ∀ p H', H p = none → Same H H' → H' p = some (.tup [.str wd, .int i]) → Q (.ref p) H')
abbrev ltN : List Str := ["_law_walkers", "_law_ropes", "_law_found", "e"]
theorem scLTold : FnScope ltN ["_law_walkers", "_law_ropes"] (defScope lTold) := ⟨rfl, rfl, rfl, by decide +kernel, rfl, by decide +kernel, by decide +kernel⟩
theorem due_form {W R : PyData} (h : dueD W R = none) : formD W R = true := by
  cases e : formD W R
  · unfold dueD at h
    rw [e] at h
    cases h
  · rfl
theorem ok_LTold {f c1 c2 c3 c4 : Addr} {fd : FuncData} (F : Fun K "_law_told" "_law_told" lTold f fd) (T : TxtP mg) (c : WebC P w K mg base CW CN) (N : NoC K mg CN c1 c2 c3 c4) : FnOk P w K mg base CX0 6 f fd ["_law_walkers", "_law_ropes"] spLTold := by
  refine F.ok scLTold (fun vs H Q E h => ?_) (fun cdv A outer s H vs Q E hr h => ?_)
  · obtain ⟨W, R, wv, rv, rfl, _⟩ := h
    rfl
  · obtain ⟨W, R, wv, rv, rfl, hw, hrv, lw, lr, kok, kno⟩ := h
    obtain ⟨TW, ⟨fI, fdI, M, FI, bI⟩, gm, ⟨p1, g1, fd1, P1, F1, b1⟩, ⟨p2, g2, fd2, P2, F2, b2⟩, ⟨f3, fd3, F3, b3, s3, i3⟩⟩ := c
    have nd := scLTold.nd
    refine ⟨_, (pss_cons (ps_try_as (i := 3) rfl rfl nd rfl rfl ⟨rfl, by decide, .inl N.gm⟩ takes0
        (fun W pn xe tk _ => pss_one (ps_set (i := 2) nd rfl (.inl rfl) (pe_makeS M FI (hr.mono (by decide)) (by rfl) gm bI (fun σ => passAt tk σ) (pa_cons (pv 0) (pa_cons (pv 1) pa_nil)))))
        (fun a oe cls d pn hz hf => pss_cons (ps_if (pt_val (pe_callB (call_isET N.ex hz hf) (by rfl) T.b_isinstance (by decide +kernel) (pa_cons (pv 3) (pa_cons (pe_tup (pa_cons (pe_glob (v := .ref c1) (by rfl) N.g1 rfl) (pa_cons (pe_glob (v := .ref c2) (by rfl) N.g2 rfl) (pa_cons (pe_glob (v := .ref c3) (by rfl) N.g3 rfl) (pa_cons (pe_glob (v := .ref c4) (by rfl) N.g4 rfl) pa_nil))))) pa_nil))))
            (pss_one (ps_ret (pe_tup (pa_cons pe_str pa_nil))))
            pss_nil)
          (pss_one (ps_ret (pe_tup (pa_cons (pe_xf N.xf N.nw hz hf (pv 3)) (pa_cons (pe_xf N.xf N.na hz hf (pv 3)) pa_nil)))))))
      (pss_one (ps_ret (pe_lst (pa_cons (pe_prop (pv 2) TW.cl P1 F1 (hr.mono (by decide)) b1 .nil pass0 rfl) (pa_cons (pe_prop (pv 2) TW.cl P2 F2 (hr.mono (by decide)) b2 .nil pass0 rfl) (pa_cons (pe_callB (call_lenOwn F3 (hr.mono (by decide)) b3 pass0 s3 i3) (by rfl) T.b_len PySem.boot_len (pa_cons (pv 2) pa_nil)) pa_nil))))))), ?_⟩
    refine ⟨_, rfl, _, rfl, fun o dx no ndx ne => ?_⟩
    have s1 : Same H (upd (upd H dx (.own o)) o (.ins CW dx [])) := fun b u e => by
      rw [upd_ne (ne_of_none e no), upd_ne (ne_of_none e ndx)]
      exact e
    refine ⟨W, R, wv, rv, o, dx, rfl, upd_same, hw.keep s1.tkept, hrv.keep s1.tkept, lw, lr, fun hd H2 wo kp => ⟨rfl, ?_⟩, fun wd i hd d H2 nd2 s2 ed => ?_⟩
    · have s2 : Same H H2 := fun b u e => kp b u (s1 _ _ e) (ne_of_none e no)
      obtain ⟨dx2, t2, r2, u2, hp2⟩ := id wo
      try dsimp only [tNext]
      refine ⟨_, rfl, o, dx2, _, rfl, hp2, o, wv, rv, rfl, wo, _, rfl, o, dx2, _, rfl, hp2, o, wv, rv, rfl, wo, ?_⟩
      have hf := due_form hd
      obtain ⟨f1, f2⟩ := Bool.and_eq_true_iff.mp hf
      have eW := strs_back f1
      rw [eW] at hw
      obtain ⟨a, xs, rfl, ea, hs⟩ := hw.tup
      have hlen : xs.length = (itemsD W).length := by
        have e2 : (itemsD W).length = ((strsOf W).map PyData.str).length := congrArg (fun d => (itemsD d).length) eW
        rw [hs.len, e2]
      have hsm : xs.length ≤ 4000000 := by
        rw [hs.len]
        rw [eW] at lw
        have := lw.len
        omega
      refine ⟨_, rfl, o, dx2, _, rfl, hp2, o, a, xs, rv, rfl, wo, s2 _ _ ea, xs.length, rfl, hsm, (by show 3 ≤ sizeLine; decide), fun l nl => ?_⟩
      refine kok hd l _ (s2.free nl) (same_upd s2 (s2.free nl)) ?_
      rw [upd_same, hlen]
    · have sH := s1.trans s2
      refine ⟨true, N.eP, fun _ a na => ?_, fun z => nomatch z⟩
      refine ⟨_, rfl, (by show 4 ≤ sizeLine; decide), fun tp ntp => ?_⟩
      have ed2 : (upd H2 tp (.tup [.ref c1, .ref c2, .ref c3, .ref c4])) d = some (.xd (fsW wd i)) := by rw [upd_ne (ne_of_none ed ntp)]; exact ed
      have sH2 : Same H (upd H2 tp (.tup [.ref c1, .ref c2, .ref c3, .ref c4])) := same_upd sH (sH.free ntp)
      refine ⟨rfl, ⟨d, _, rfl, ed2⟩, tp, _, [.ref c1, .ref c2, .ref c3, .ref c4], false, rfl, upd_same, .cons (.own _) (.cons (.own _) (.cons (.own _) (.cons (.own _) .nil))), N.ka, _, rfl, iteF ?_⟩
      try dsimp only [tNext]
      refine ⟨_, rfl, rfl, rfl, d, _, _, rfl, ed2, rfl, _, rfl, rfl, rfl, d, _, _, rfl, ed2, rfl, (by show 2 ≤ sizeLine; decide), fun t nt => ?_⟩
      exact kno wd i hd t _ (sH2.free nt) (same_upd sH2 (sH2.free nt)) upd_same
end
end Tg

namespace Tg
open PySem L2 Ow
abbrev lChanged : Stmt := top 45
theorem kp_tkept {b L : Addr} {H H' : Hp} (k : Kp b L H H') (B : Box b L H) : TupKept H H' := fun a xs e => by
  obtain ⟨gs, now, seed, turn, B⟩ := B
  exact k a _ (ne_of e B.dc (by intro z; cases z)) (ne_of e B.ls (by intro z; cases z)) e
theorem same_kp {b L : Addr} {H H' : Hp} (s : Same H H') : Kp b L H H' := fun a o _ _ e => s a o e
theorem VdA.set {H : Hp} : ∀ {ds : List PyData} {xs : List V} {i : Nat} {d : PyData} {x : V}, VdA H ds xs → Vd H d x → VdA H (ds.set i d) (xs.set i x)
  | [], xs, i, d, x, h, _ => by
    unfold VdA at h
    subst h
    simpa using VdA.nil
  | e :: es, xs, 0, d, x, h, hd => by
    obtain ⟨y, r, ey, h1, h2⟩ := h.uncons
    subst ey
    exact VdA.cons hd h2
  | e :: es, xs, i + 1, d, x, h, hd => by
    obtain ⟨y, r, ey, h1, h2⟩ := h.uncons
    subst ey
    exact VdA.cons h1 (VdA.set h2 hd)
theorem wtA_set : ∀ (ds : List PyData) (i : Nat) (d : PyData), wtA (ds.set i d) ≤ wtA ds + wt d
  | [], i, d => by simp [wtA]
  | e :: es, 0, d => by
    simp [wtA]
    omega
  | e :: es, i + 1, d => by
    have := wtA_set es i d
    simp [wtA]
    omega
theorem set_mem {ds : List PyData} {i : Nat} {d e : PyData} (h : e ∈ ds.set i d) : e ∈ ds ∨ e = d := List.mem_or_eq_of_mem_set h
theorem ixN_at {n j : Nat} (h : j < n) : ixN n (j : Int) = some j := by
  unfold ixN
  rw [if_pos (by omega), if_pos (by omega)]
  rfl
def spChanged (m : Nat) : Sp := fun vs H Q _ => ∃ (b L o : Addr) (d : PyData) (v : V) (ods : List PyData) (ovs : List V) (n S k So : Nat), vs = [.ref b, v, .int (m : Nat), .ref o] ∧ Box b L H ∧ Vd H d v ∧ Good d n S ∧ H o = some (.lst ovs) ∧ o ≠ b ∧ o ≠ L ∧ VdA H ods ovs ∧
  1 ≤ ods.length ∧ ods.length ≤ 100 ∧ (∀ e ∈ ods, Good e k So) ∧ S ≤ 1000000 ∧ ∀ u e H', Vd H' e u → Good e (n + k + m) (3 * S + So + 20) → Box b L H' → Kp b L H H' → Q u H'
abbrev chN : List Str := ["_law_box_here", "_law_thing", "_law_deep", "_law_odd", "_law_form", "_law_at", "_law_other", "_law_some"]
theorem scChanged : FnScope chN ["_law_box_here", "_law_thing", "_law_deep", "_law_odd"] (defScope lChanged) := ⟨rfl, rfl, rfl, by decide +kernel, rfl, by decide +kernel, by decide +kernel⟩
abbrev chP : List Str := ["_law_box_here", "_law_thing", "_law_deep", "_law_odd"]
section
variable {P : Program} {w : World} {K : PySem.W.Frag} {mg : Str → Option Value} {base : Heap}
theorem ok_changed_step {f : Addr} {fd : FuncData} {m : Nat} {sp : Sp} (F : Fun K "_law_changed" "_law_changed" lChanged f fd) (T : TxtP mg) (cTake : Cal P w K mg base 1 "_law_take" ["_law_box_here", "_law_many"] spTake)
    (cChanged : Cal P w K mg base (m + 1) "_law_changed" chP sp) (hsp : ∀ k, m = k + 1 → sp = spChanged k) : FnOk P w K mg base CX0 (m + 2) f fd chP (spChanged m) := by
  refine F.ok scChanged (fun vs H Q E h => ?_) (fun cdv A outer s H vs Q E hr h => ?_)
  · obtain ⟨b, L, o, d, v, ods, ovs, n, S, k, So, rfl, _⟩ := h
    rfl
  · obtain ⟨b, L, o, d, v, ods, ovs, n, S, k, So, rfl, B, hv, gd, eo, ob, oL, ho, o1, o100, og, hS, kk⟩ := h
    have nd := scChanged.nd
    have hol := ho.len
    refine ⟨_, (pss_cons (ps_set (i := 4) nd rfl (.inl rfl) (pe_cal cTake (hr.mono (by omega)) (by rfl) (pa_cons (pv 0) (pa_cons pe_int pa_nil))))
      (pss_cons (ps_if (PW.pt (pw_or (pt_not (pt_val (pe_callB call_isi (by rfl) T.b_isinstance (by decide +kernel) (pa_cons (pv 1) (pa_cons (pe_bltn (v := .ty "tuple") (by rfl) T.b_tuple (by decide +kernel) rfl) pa_nil))))) (pw_or (pt_cmpR op_eq (pe_callB call_len_seq (by rfl) T.b_len PySem.boot_len (pa_cons (pv 1) pa_nil)) pe_int (nomark _)) (pw_or (pt_cmpR op_eq (pv 2) pe_int (nomark _)) (pw_or1 (pt_cmpR op_eq (pv 4) pe_int (nomark _)))))))
        (pss_one (ps_ret (pe_ix ix_list (pv 3) (pe_cal cTake (hr.mono (by omega)) (by rfl) (pa_cons (pv 0) (pa_cons (pe_callB call_len_seq (by rfl) T.b_len PySem.boot_len (pa_cons (pv 3) pa_nil)) pa_nil))) (fun _ _ => rfl))))
        pss_nil)
      (pss_cons (ps_par (i := 5) (j := 6) (by rfl) nd rfl rfl (by decide) rfl rfl (pa_cons (pe_cal cTake (hr.mono (by omega)) (by rfl) (pa_cons (pv 0) (pa_cons (pe_callB call_len_seq (by rfl) T.b_len PySem.boot_len (pa_cons (pv 1) pa_nil)) pa_nil))) (pa_cons (pe_cal cTake (hr.mono (by omega)) (by rfl) (pa_cons (pv 0) (pa_cons (pe_callB call_len_seq (by rfl) T.b_len PySem.boot_len (pa_cons (pv 1) pa_nil)) pa_nil))) pa_nil)) (by rfl))
      (pss_cons (ps_if (pt_cmpR op_eq (pv 4) pe_int (nomark _))
        (pss_one (ps_ret (pe_op op_catA (pe_slice sl_tupA (pv 1) po_none (po_some (pv 5))) (pe_slice sl_tupA (pv 1) (po_some (pe_op op_add (pv 5) pe_int)) po_none))))
        pss_nil)
      (pss_cons (ps_if (pt_cmpR op_eq (pv 4) pe_int (nomark _))
        (pss_one (ps_ret (pe_op op_catA (pe_op op_catA (pe_slice sl_tupA (pv 1) po_none (po_some (pv 5))) (pe_tup (pa_cons (pe_ix ix_tup (pv 1) (pv 6) (fun _ _ => rfl)) pa_nil))) (pe_slice sl_tupA (pv 1) (po_some (pv 5)) po_none))))
        pss_nil)
      (pss_cons (ps_if (pt_cmpR op_eq (pv 4) pe_int (nomark _))
        (pss_cons (ps_set (i := 7) nd rfl (.inl rfl) (pe_callTy call_list_of (by rfl) T.b_list (by decide +kernel) (pa_cons (pv 1) pa_nil)))
          (pss_cons (ps_asg (pe_tup (pa_cons (pe_ix ix_list (pv 7) (pv 6) (fun _ _ => rfl)) (pa_cons (pe_ix ix_list (pv 7) (pv 5) (fun _ _ => rfl)) pa_nil))) (pg_tup (by rfl) (pgs_cons (pg_sub (pv 7) (pv 5) set_list) (pgs_cons (pg_sub (pv 7) (pv 6) set_list) pgs_nil))))
          (pss_one (ps_ret (pe_callTy call_tuple_of (by rfl) T.b_tuple (by decide +kernel) (pa_cons (pv 7) pa_nil))))))
        pss_nil)
      (pss_one (ps_ret (pe_op op_catA (pe_op op_catA (pe_slice sl_tupA (pv 1) po_none (po_some (pv 5))) (pe_tup (pa_cons (pe_cal cChanged (hr.mono (by omega)) (by rfl) (pa_cons (pv 0) (pa_cons (pe_ix ix_tup (pv 1) (pv 5) (fun _ _ => rfl)) (pa_cons (pe_op op_sub (pv 2) pe_int) (pa_cons (pv 3) pa_nil))))) pa_nil))) (pe_slice sl_tupA (pv 1) (po_some (pe_op op_add (pv 5) pe_int)) po_none)))))))))), ?_⟩
    refine ⟨_, rfl, b, L, 8, rfl, by decide, by decide +kernel, B, fun d1 H1 a1 c1 B1 k1 => ?_⟩
    have eo1 := k1 _ _ ob oL eo
    have t1 := kp_tkept k1 B
    have ho1 := ho.keep t1
    have hv1 := hv.keep t1
    try dsimp only [tNext]
    -- an odd one
    have odd : ∀ (d2 : Int) (H2 : Hp), 0 ≤ d2 → d2 < (ovs.length : Int) → Box b L H2 → Kp b L H1 H2 → ∃ x, atI ovs d2 = some x ∧ H2 o = some (.lst ovs) ∧ Q x H2 := by
      intro d2 H2 a2 c2 B2 k2
      obtain ⟨dn, rfl⟩ : ∃ n : Nat, d2 = n := ⟨d2.toNat, by omega⟩
      have hdn : dn < ods.length := by omega
      obtain ⟨e, x, e1, e2, vx⟩ := (ho1.keep (kp_tkept k2 B1)).at_ hdn
      exact ⟨x, atI_nat e2, k2 _ _ ob oL eo1, kk x e H2 vx ((og e (List.mem_of_getElem? e1)).mono (by omega) (by omega)) B2 (k1.trans k2)⟩
    have ol : (1 : Int) ≤ (ovs.length : Int) := by omega
    have ol2 : (ovs.length : Int) ≤ 100 := by omega
    refine seq_rest (fun σ1 G => σ1 = [some (.ref b), some v, some (.int (m : Nat)), some (.ref o), some (.int d1), none, none, none] ∧ G = H1 ∧ isTupD d = true ∧ itemsD d ≠ [] ∧ m ≠ 0) ?_ (fun rest => ?_)
    rotate_left
    · refine ⟨_, rfl, _, .ty "tuple", _, _, _, rfl, .ty _, Vd.ty hv1, k_tup K _, _, rfl, ?_⟩
      cases c2 : isTupD d
      · refine iteT (iteT ?_)
        refine ⟨_, rfl, _, rfl, _, rfl, o, _, rfl, .inl (SqL.of eo1), b, L, _, rfl, by omega, log_small (by omega) (by omega), B1, fun d2 H2 a2 c2 B2 k2 => ?_⟩
        obtain ⟨x, e1, e2, q⟩ := odd d2 H2 a2 c2 B2 k2
        exact ⟨o, _, _, _, rfl, rfl, SqL.of e2, e1, q⟩
      refine iteF ?_
      cases d <;> simp [isTupD] at c2
      rename_i ds
      obtain ⟨a, xs, rfl, ea, hs⟩ := hv1.tup
      refine ⟨_, rfl, a, _, rfl, .inr (SqT.of ea), rfl, _, rfl, ?_⟩
      refine ite2 (fun c3 => ?_) (fun c3 => ?_)
      · refine iteT ?_
        refine ⟨_, rfl, _, rfl, _, rfl, o, _, rfl, .inl (SqL.of eo1), b, L, _, rfl, by omega, log_small (by omega) (by omega), B1, fun d2 H2 a2 c2 B2 k2 => ?_⟩
        obtain ⟨x, e1, e2, q⟩ := odd d2 H2 a2 c2 B2 k2
        exact ⟨o, _, _, _, rfl, rfl, SqL.of e2, e1, q⟩
      have nz : xs.length ≠ 0 := fun z => by
        rw [z] at c3
        simp at c3
      refine ⟨_, rfl, rfl, _, rfl, ?_⟩
      refine ite2 (fun c4 => ?_) (fun c4 => ?_)
      · refine iteT ?_
        refine ⟨_, rfl, _, rfl, _, rfl, o, _, rfl, .inl (SqL.of eo1), b, L, _, rfl, by omega, log_small (by omega) (by omega), B1, fun d2 H2 a2 c2 B2 k2 => ?_⟩
        obtain ⟨x, e1, e2, q⟩ := odd d2 H2 a2 c2 B2 k2
        exact ⟨o, _, _, _, rfl, rfl, SqL.of e2, e1, q⟩
      have mz : m ≠ 0 := fun z => by
        rw [z] at c4
        simp at c4
      refine ⟨_, rfl, rfl, _, rfl, ?_⟩
      refine ite2 (fun c5 => ?_) (fun c5 => ?_)
      · refine ⟨_, rfl, _, rfl, _, rfl, o, _, rfl, .inl (SqL.of eo1), b, L, _, rfl, by omega, log_small (by omega) (by omega), B1, fun d2 H2 a2 c2 B2 k2 => ?_⟩
        obtain ⟨x, e1, e2, q⟩ := odd d2 H2 a2 c2 B2 k2
        exact ⟨o, _, _, _, rfl, rfl, SqL.of e2, e1, q⟩
      refine rest _ _ ⟨rfl, rfl, rfl, fun z => nz ?_, mz⟩
      have z2 : ds = [] := z
      rw [hs.len, z2]
      rfl
    rintro σ1 G ⟨rfl, rfl, c2, cn, cm⟩
    cases d <;> simp [isTupD] at c2
    rename_i ds
    have cn : ds ≠ [] := cn
    obtain ⟨m, rfl⟩ : ∃ j, m = j + 1 := ⟨m - 1, by omega⟩
    have hsp := hsp m rfl
    subst hsp
    have lpos : 0 < ds.length := List.length_pos_iff.mpr cn
    have lbig : ds.length ≤ 500000 := by
      have := gd.lenS
      omega
    obtain ⟨n, rfl⟩ := gd.dpos
    have gi : ∀ e ∈ ds, Good e n S := fun e he => gd.item he
    have gw := gd.wtT
    obtain ⟨a, xs, rfl, ea, hs⟩ := hv1.tup
    have hxl := hs.len
    refine ⟨_, rfl, _, rfl, a, _, rfl, .inr (SqT.of ea), b, L, _, rfl, by omega, ?_, B1, fun d2 H2 a2 c2 B2 k2 => ?_⟩
    · have : (xs.length : Int).natAbs < 2 ^ 20 := by
        have e : (2 : Nat) ^ 20 = 1048576 := by decide
        omega
      exact Nat.lt_of_lt_of_le (PySem.Flt.log2_lt_of (by decide) this) (by decide)
    have t2 := kp_tkept k2 B1
    refine ⟨_, rfl, _, rfl, a, _, rfl, .inr (SqT.of (t2 _ _ ea)), b, L, _, rfl, by omega, ?_, B2, fun d3 H3 a3 c3 B3 k3 => ?_⟩
    · have : (xs.length : Int).natAbs < 2 ^ 20 := by
        have e : (2 : Nat) ^ 20 = 1048576 := by decide
        omega
      exact Nat.lt_of_lt_of_le (PySem.Flt.log2_lt_of (by decide) this) (by decide)
    have t3 := t2.trans (kp_tkept k3 B2)
    have ea3 := t3 _ _ ea
    have hs3 := hs.keep t3
    have hv3 : Vd H3 (.tuple ds) (.ref a) := Vd.ofTup ea3 hs3
    have K3 : Kp b L H H3 := k1.trans (k2.trans k3)
    have eo3 := k3 _ _ ob oL (k2 _ _ ob oL eo1)
    have ho3 := ho1.keep t3
    obtain ⟨i, rfl⟩ : ∃ i : Nat, d2 = i := ⟨d2.toNat, by omega⟩
    obtain ⟨j, rfl⟩ : ∃ i : Nat, d3 = i := ⟨d3.toNat, by omega⟩
    have hi : i < ds.length := by omega
    have hj : j < ds.length := by omega
    obtain ⟨di, xi, edi, exi, vi⟩ := hs3.at_ hi
    obtain ⟨dj, xj, edj, exj, vj⟩ := hs3.at_ hj
    have mi := List.mem_of_getElem? edi
    have mj := List.mem_of_getElem? edj
    have wi := wtA_at edi
    have wj := wtA_mem mj
    have wd := wtA_take_drop ds i
    have pi : ((i : Int) + 1) = ((i + 1 : Nat) : Int) := by omega
    have szl : ∀ z : Nat, z ≤ 2000000 → z ≤ sizeLine := fun z hz => by
      rw [sizeLine_eq]
      omega
    refine ⟨_, _, rfl, ?_⟩
    clear k1 k2 k3 t1 t2 t3 eo eo1 ho ho1 hv hv1 odd B B1 B2 ea hs
    try dsimp only [tNext]
    -- form == 1
    refine ⟨_, rfl, rfl, _, rfl, ?_⟩
    refine ite2 (fun f1 => ?_) (fun f1 => ?_)
    · refine ⟨_, rfl, _, rfl, _, rfl, slA_take (K := K) hv3 (Nat.le_of_lt hi) fun u1 G1 s1 vu1 => ?_⟩
      refine ⟨_, rfl, _, rfl, _, _, rfl, rfl, _, rfl, ?_⟩
      dsimp only [tNoPart]
      refine slA_dropE (K := K) (k := i + 1) (by omega) (hv3.keep s1.tkept) hi fun u2 G2 s2 vu2 => ?_
      refine catA (K := K) (vu1.keep s2.tkept) vu2 (szl _ (by rw [List.length_take, List.length_drop]; omega)) fun u3 G3 s3 vu3 => ?_
      have sx := s1.trans (s2.trans s3)
      refine kk u3 _ G3 vu3 (Good.mono (Good.made (n := n) (S := S) (fun e he => ?_) ?_) (by omega) (by omega)) (B3.same sx) (K3.trans (same_kp sx))
      · rcases List.mem_append.mp he with h | h
        · exact gi e (take_mem h)
        · exact gi e (drop_mem h)
      · rw [wtA_app]
        omega
    try dsimp only [tNext]
    -- form == 2
    refine ⟨_, rfl, rfl, _, rfl, ?_⟩
    refine ite2 (fun f2 => ?_) (fun f2 => ?_)
    · refine ⟨_, rfl, _, rfl, _, rfl, slA_take (K := K) hv3 (Nat.le_of_lt hi) fun u1 G1 s1 vu1 => ?_⟩
      refine ⟨_, rfl, _, rfl, a, _, _, _, rfl, rfl, SqT.of (s1 _ _ ea3), atI_nat exj, (by show 1 ≤ sizeLine; decide), fun t nt => ?_⟩
      have s2 : Same G1 (upd G1 t (.tup [xj])) := same_upd (Same.refl _) nt
      have vt : Vd (upd G1 t (.tup [xj])) (.tuple [dj]) (.ref t) := Vd.ofTup upd_same (VdA.one (vj.keep (s1.trans s2).tkept))
      generalize upd G1 t (.tup [xj]) = G2 at s2 vt ⊢
      refine catA (K := K) (vu1.keep s2.tkept) vt (szl _ (by rw [List.length_take]; show _ + 1 ≤ _; omega)) fun u3 G3 s3 vu3 => ?_
      refine ⟨_, rfl, _, rfl, _, rfl, ?_⟩
      dsimp only [tNoPart]
      refine slA_drop (K := K) (hv3.keep (s1.trans (s2.trans s3)).tkept) (Nat.le_of_lt hi) fun u4 G4 s4 vu4 => ?_
      refine catA (K := K) (vu3.keep s4.tkept) vu4 (szl _ (by rw [List.length_append, List.length_take, List.length_drop]; show _ + 1 + _ ≤ _; omega)) fun u5 G5 s5 vu5 => ?_
      have sx := s1.trans (s2.trans (s3.trans (s4.trans s5)))
      refine kk u5 _ G5 vu5 (Good.mono (Good.made (n := n) (S := 2 * S + 2) (fun e he => Good.mono (?_ : Good e n S) (Nat.le_refl _) (by omega)) ?_) (by omega) (by omega)) (B3.same sx) (K3.trans (same_kp sx))
      · rcases List.mem_append.mp he with h | h
        · rcases List.mem_append.mp h with h | h
          · exact gi e (take_mem h)
          · simp at h
            subst h
            exact gi _ mj
        · exact gi e (drop_mem h)
      · rw [wtA_app, wtA_app, wtA_cons]
        show _ + (wt dj + 2 + 0) + _ + 10 ≤ _
        omega
    try dsimp only [tNext]
    -- form == 3
    refine ⟨_, rfl, rfl, _, rfl, ?_⟩
    refine ite2 (fun f3 => ?_) (fun f3 => ?_)
    · refine ⟨_, rfl, a, _, rfl, .inr (SqT.of ea3), fun p np => ?_⟩
      have s1 : Same H3 (upd H3 p (.lst xs)) := same_upd (Same.refl _) np
      have lp : (upd H3 p (.lst xs)) p = some (.lst xs) := upd_same
      have hs1 := hs3.keep s1.tkept
      obtain ⟨pb, pL⟩ := B3.apart np
      generalize upd H3 p (.lst xs) = G1 at s1 lp hs1 ⊢
      try dsimp only [tNext]
      refine ⟨_, rfl, _, rfl, p, _, _, _, rfl, rfl, SqL.of lp, atI_nat exj, _, rfl, _, rfl, p, _, _, _, rfl, rfl, SqL.of lp, atI_nat exi, (by show 2 ≤ sizeLine; decide), fun t nt => ?_⟩
      have s2 : Same G1 (upd G1 t (.tup [xj, xi])) := same_upd (Same.refl _) nt
      have lt : (upd G1 t (.tup [xj, xi])) t = some (.tup [xj, xi]) := upd_same
      have lp2 := s2 _ _ lp
      have hs2 := hs1.keep s2.tkept
      have vi2 := vi.keep (s1.trans s2).tkept
      have vj2 := vj.keep (s1.trans s2).tkept
      generalize upd G1 t (.tup [xj, xi]) = G2 at s2 lt lp2 hs2 vi2 vj2 ⊢
      have si : ixN xs.length (i : Int) = some i := ixN_at (by omega)
      have sj : ixN (xs.set i xj).length (j : Int) = some j := ixN_at (by rw [List.length_set]; omega)
      refine ⟨t, _, rfl, SqT.of lt, rfl, _, _, rfl, _, rfl, _, rfl, p, xs, _, i, rfl, rfl, lp2, si, _, _, rfl, _, rfl, _, rfl, p, _, _, j, rfl, rfl, upd_same, sj, rfl, ?_⟩
      have npH : H3 p = none := np
      have dpt : ∀ {G : Hp} {ys zs : List V}, G p = some (.lst ys) → TupKept G (upd G p (.lst zs)) := fun e => tkept_lst e
      have tk2 : TupKept G2 (upd (upd G2 p (.lst (xs.set i xj))) p (.lst ((xs.set i xj).set j xi))) := (dpt lp2).trans (dpt upd_same)
      have sz : Same H3 (upd (upd G2 p (.lst (xs.set i xj))) p (.lst ((xs.set i xj).set j xi))) := fun c u e => by
        rw [upd_ne (ne_of_none e npH), upd_ne (ne_of_none e npH)]
        exact s2 _ _ (s1 _ _ e)
      have lpz : (upd (upd G2 p (.lst (xs.set i xj))) p (.lst ((xs.set i xj).set j xi))) p = some (.lst ((xs.set i xj).set j xi)) := upd_same
      have hsz := (VdA.set (i := j) (VdA.set (i := i) hs2 vj2) vi2).keep tk2
      generalize upd (upd G2 p (.lst (xs.set i xj))) p (.lst ((xs.set i xj).set j xi)) = G3 at sz lpz hsz ⊢
      try dsimp only [tNext]
      refine ⟨_, rfl, p, _, rfl, .inl ⟨SqL.of lpz, fun q nq => ?_⟩⟩
      have s4 : Same G3 (upd G3 q (.tup ((xs.set i xj).set j xi))) := same_upd (Same.refl _) nq
      have sx := sz.trans s4
      refine kk (.ref q) (.tuple ((ds.set i dj).set j di)) _ (Vd.ofTup upd_same (hsz.keep s4.tkept)) (Good.mono (Good.made (n := n) (S := 3 * S) (fun e he => Good.mono (?_ : Good e n S) (Nat.le_refl _) (by omega)) ?_) (by omega) (by omega)) (B3.same sx) (K3.trans (same_kp sx))
      · rcases set_mem he with h | rfl
        · rcases set_mem h with h | rfl
          · exact gi e h
          · exact gi _ mj
        · exact gi _ mi
      · have w1 := wtA_set (ds.set i dj) j di
        have w2 := wtA_set ds i dj
        have w3 := wtA_mem mi
        omega
    try dsimp only [tNext]
    -- the item changed
    refine ⟨_, rfl, _, rfl, _, rfl, slA_take (K := K) hv3 (Nat.le_of_lt hi) fun u1 G1 s1 vu1 => ?_⟩
    refine ⟨_, rfl, _, rfl, _, rfl, a, _, _, _, rfl, rfl, SqT.of (s1 _ _ ea3), atI_nat exi, _, rfl, _, _, rfl, rfl, _, rfl, ?_⟩
    refine ⟨b, L, o, di, xi, ods, ovs, n, wt di, k, So, ?_, B3.same s1, vi.keep s1.tkept, ⟨(gi _ mi).gd, (gi _ mi).dp, Nat.le_refl _⟩, s1 _ _ eo3, ob, oL, ho3.keep s1.tkept, o1, o100, og, by omega, fun u e G2 vu gu B5 k5 => ?_⟩
    · show [V.ref b, xi, V.int (((m + 1 : Nat) : Int) - 1), V.ref o] = _
      rw [show ((m + 1 : Nat) : Int) - 1 = (m : Int) from by omega]
    have t5 := kp_tkept k5 (B3.same s1)
    refine ⟨(by show 1 ≤ sizeLine; decide), fun t nt => ?_⟩
    have s2 : Same G2 (upd G2 t (.tup [u])) := same_upd (Same.refl _) nt
    have vt : Vd (upd G2 t (.tup [u])) (.tuple [e]) (.ref t) := Vd.ofTup upd_same (VdA.one (vu.keep s2.tkept))
    have tk := t5.trans s2.tkept
    have B6 := B5.same s2
    have k6 : Kp b L H (upd G2 t (.tup [u])) := (K3.trans (same_kp s1)).trans (k5.trans (same_kp s2))
    generalize upd G2 t (.tup [u]) = G3 at s2 vt tk B6 k6 ⊢
    refine catA (K := K) (vu1.keep tk) vt (szl _ (by rw [List.length_take]; show _ + 1 ≤ _; omega)) fun u3 G4 s4 vu3 => ?_
    refine ⟨_, rfl, _, rfl, _, _, rfl, rfl, _, rfl, ?_⟩
    dsimp only [tNoPart]
    refine slA_dropE (K := K) (k := i + 1) (by omega) (hv3.keep (s1.tkept.trans (tk.trans s4.tkept))) hi fun u4 G5 s5 vu4 => ?_
    refine catA (K := K) (vu3.keep s5.tkept) vu4 (szl _ (by rw [List.length_append, List.length_take, List.length_drop]; show _ + 1 + _ ≤ _; omega)) fun u5 G6 s6 vu5 => ?_
    have sx := s4.trans (s5.trans s6)
    have gw2 := gu.wt
    refine kk u5 _ G6 vu5 (Good.mono (Good.made (n := n + k + m) (S := 3 * S + So + 20) (fun y hy => ?_) ?_) (by omega) (Nat.le_refl _)) (B6.same sx) (k6.trans (same_kp sx))
    · rcases List.mem_append.mp hy with h | h
      · rcases List.mem_append.mp h with h | h
        · exact (gi y (take_mem h)).mono (by omega) (by omega)
        · simp at h
          subst h
          exact gu.mono (Nat.le_refl _) (by omega)
      · exact (gi y (drop_mem h)).mono (by omega) (by omega)
    · rw [wtA_app, wtA_app, wtA_cons]
      show _ + (wt e + 2 + 0) + _ + 10 ≤ _
      omega
end
end Tg

namespace Tg
open PySem L2 Ow
abbrev lSpaced : Stmt := top 50
section
variable {P : Program} {w : World} {K : PySem.W.Frag} {mg : Str → Option Value} {base : Heap}
def spNo : Sp := fun _ _ _ _ => False
theorem ok_no {f : Addr} {fd : FuncData} (F : Fun K "_law_changed" "_law_changed" lChanged f fd) (k : Nat) : FnOk P w K mg base CX0 (k + 1) f fd chP spNo := by
  refine F.ok scChanged (fun vs H Q E h => ?_) (fun cdv A outer s H vs Q E hr h => ?_)
  · exact h.elim
  · exact h.elim
theorem ok_changed {f : Addr} {fd : FuncData} (F : Fun K "_law_changed" "_law_changed" lChanged f fd) (T : TxtP mg) (cTake : Cal P w K mg base 1 "_law_take" ["_law_box_here", "_law_many"] spTake)
    (hm : mg "_law_changed" = some (.ref f)) (hk : PySem.W.keepIn K (.ref f) = true) (hb : Binds K fd chP []) : ∀ n, FnOk P w K mg base CX0 (n + 2) f fd chP (spChanged n)
  | 0 => ok_changed_step F T cTake ⟨f, fd, ok_no F 0, hm, hk, hb⟩ fun _ h => by cases h
  | n + 1 => ok_changed_step F T cTake ⟨f, fd, ok_changed F T cTake hm hk hb n, hm, hk, hb⟩ fun m h => by cases h; rfl
def spSpaced : Sp := fun vs H Q _ => ∃ x : Str, vs = [.str x] ∧ x.length ≤ 1000000 ∧ PyData.strOk x = true ∧ ∀ l ds xs H', H l = none → H' l = some (.lst xs) → Same H H' → VdA H' ds xs → ds.length = 4 → (∀ d ∈ ds, Good d 0 (10 * x.length + 30)) → Q (.ref l) H'
theorem scSpaced : FnScope ["_law_text"] ["_law_text"] (defScope lSpaced) := ⟨rfl, rfl, rfl, by decide +kernel, rfl, by decide +kernel, by decide +kernel⟩
theorem strOk_app {x y : Str} (h1 : PyData.strOk x = true) (h2 : PyData.strOk y = true) : PyData.strOk (x ++ y) = true := by
  have a1 := Array.all_eq_true'.mp (show x.cps.all (· < 0x110000) = true from h1)
  have a2 := Array.all_eq_true'.mp (show y.cps.all (· < 0x110000) = true from h2)
  show (x.cps ++ y.cps).all (· < 0x110000) = true
  rw [Array.all_eq_true']
  intro c hc
  rcases Array.mem_append.mp hc with h | h
  · exact a1 c h
  · exact a2 c h
theorem Good.ofStr {x : Str} (h : PyData.strOk x = true) : Good (.str x) 0 (10 * x.length + 10) := ⟨h, Nat.le_refl _, Nat.le_refl _⟩
theorem ok_Spaced {f : Addr} {fd : FuncData} (F : Fun K "_law_spaced" "_law_spaced" lSpaced f fd) : FnOk P w K mg base CX0 1 f fd ["_law_text"] spSpaced := by
  refine F.ok scSpaced (fun vs H Q E h => ?_) (fun cdv A outer s H vs Q E hr h => ?_)
  · obtain ⟨x, rfl, _⟩ := h
    rfl
  · obtain ⟨x, rfl, hl, hx, k⟩ := h
    refine ⟨_, (pss_one (ps_ret (pe_lst (pa_cons (pe_op op_add_str pe_str (pv 0)) (pa_cons (pe_op op_add_str (pv 0) pe_str) (pa_cons (pe_op op_add_str pe_str (pv 0)) (pa_cons (pe_op op_add_str (pv 0) pe_str) pa_nil))))))), ?_⟩
    have z1 : ∀ y : Str, y.length = 1 → y.length + x.length ≤ sizeLine := fun y h => by
      rw [sizeLine_eq]
      omega
    have z2 : ∀ y : Str, y.length = 1 → x.length + y.length ≤ sizeLine := fun y h => by
      rw [sizeLine_eq]
      omega
    refine ⟨_, rfl, _, _, rfl, rfl, z1 _ (by decide +kernel), _, rfl, _, _, rfl, rfl, z2 _ (by decide +kernel), _, rfl, _, _, rfl, rfl, z1 _ (by decide +kernel), _, rfl, _, _, rfl, rfl, z2 _ (by decide +kernel), (by show 4 ≤ sizeLine; decide), fun l nl => ?_⟩
    refine k l [.str (" " ++ x), .str (x ++ " "), .str ("\n" ++ x), .str (x ++ "\n")] _ _ nl upd_same (same_upd (Same.refl _) nl) (VdA.cons (Vd.mkStr _) (VdA.cons (Vd.mkStr _) (VdA.cons (Vd.mkStr _) (VdA.cons (Vd.mkStr _) VdA.nil)))) rfl ?_
    have g1 : ∀ y : Str, y.length = 1 → PyData.strOk y = true → Good (.str (y ++ x)) 0 (10 * x.length + 30) := fun y h1 h2 => (Good.ofStr (strOk_app h2 hx)).mono (Nat.le_refl _) (by rw [Str.length_append]; omega)
    have g2 : ∀ y : Str, y.length = 1 → PyData.strOk y = true → Good (.str (x ++ y)) 0 (10 * x.length + 30) := fun y h1 h2 => (Good.ofStr (strOk_app hx h2)).mono (Nat.le_refl _) (by rw [Str.length_append]; omega)
    intro d hd
    rcases List.mem_cons.mp hd with rfl | hd
    · exact g1 _ (by decide +kernel) (by decide +kernel)
    rcases List.mem_cons.mp hd with rfl | hd
    · exact g2 _ (by decide +kernel) (by decide +kernel)
    rcases List.mem_cons.mp hd with rfl | hd
    · exact g1 _ (by decide +kernel) (by decide +kernel)
    rcases List.mem_cons.mp hd with rfl | hd
    · exact g2 _ (by decide +kernel) (by decide +kernel)
    cases hd
end
end Tg

namespace Tg
open PySem L2 Ow
abbrev lBent : Stmt := top 51
section
variable {X : Cx}
theorem ix_tupK (K : PySem.W.Frag) (hK : X.K = K := by rfl) : IxR X (rIxT K) := by
  subst hK
  exact ix_tup
theorem op_neDK (K : PySem.W.Frag) (hu : X.A.units + 64 < cLine) (hK : X.K = K := by rfl) : OpR X (compareOp .NotEq) (rNeD K) := by
  subst hK
  exact op_neD hu
end
section
variable {P : Program} {w : World} {K : PySem.W.Frag} {mg : Str → Option Value} {base : Heap}
def spBent : Sp := fun vs H Q _ => ∃ (b L : Addr) (W R : PyData) (wv rv : V) (n S : Nat), vs = [.ref b, wv, rv] ∧ Box b L H ∧ Vd H W wv ∧ Vd H R rv ∧ Good W n S ∧ Good R n S ∧ 2 ≤ n ∧ n ≤ 20 ∧ S ≤ 400000 ∧
  ∀ a W' R' wv' rv' H', H' a = some (.tup [wv', rv']) → Vd H' W' wv' → Vd H' R' rv' → Good W' (2 * n + 4) (7 * S + 500) → Good R' (2 * n + 4) (7 * S + 500) → Box b L H' → Kp b L H H' → Q (.ref a) H'
abbrev lbN : List Str := ["_law_box_here", "_law_walkers", "_law_ropes", "_law_form", "_law_odd", "_law_near", "_law_both", "_law_a", "_law_b", "_law_at", "_law_below", "_law_length", "_law_thing", "_law_letter"]
abbrev lbP : List Str := ["_law_box_here", "_law_walkers", "_law_ropes"]
theorem scBent : FnScope lbN lbP (defScope lBent) := ⟨rfl, rfl, rfl, by decide +kernel, rfl, by decide +kernel, by decide +kernel⟩
/-- a list of values that fit, where it stands -/
structure OddAt (H : Hp) (o : Addr) (ods : List PyData) (k So : Nat) : Prop where
  at_ : ∃ ovs, H o = some (.lst ovs) ∧ VdA H ods ovs
  good : ∀ e ∈ ods, Good e k So
theorem OddAt.same {H H' : Hp} {o : Addr} {ods : List PyData} {k So : Nat} (h : OddAt H o ods k So) (s : Same H H') : OddAt H' o ods k So := by
  obtain ⟨⟨ovs, e, v⟩, g⟩ := h
  exact ⟨⟨ovs, s _ _ e, v.keep s.tkept⟩, g⟩
theorem OddAt.kp {b L : Addr} {H H' : Hp} {o : Addr} {ods : List PyData} {k So : Nat} (h : OddAt H o ods k So) (kk : Kp b L H H') (B : Box b L H) (ob : o ≠ b) (oL : o ≠ L) : OddAt H' o ods k So := by
  obtain ⟨⟨ovs, e, v⟩, g⟩ := h
  exact ⟨⟨ovs, kk _ _ ob oL e, v.keep (kp_tkept kk B)⟩, g⟩
theorem OddAt.mono {H : Hp} {o : Addr} {ods : List PyData} {k So k' So' : Nat} (h : OddAt H o ods k So) (h1 : k ≤ k') (h2 : So ≤ So') : OddAt H o ods k' So' := ⟨h.at_, fun e he => (h.good e he).mono h1 h2⟩
theorem catO {H : Hp} {o p : Addr} {ods es : List PyData} {k So : Nat} {Q : VK} (h : OddAt H o ods k So) (h2 : OddAt H p es k So) (hl : ods.length + es.length ≤ 1000) (q : ∀ r G, H r = none → Same H G → OddAt G r (ods ++ es) k So → Q (.ref r) G) : rCat (.ref o) (.ref p) H Q := by
  obtain ⟨⟨ovs, e, v⟩, g⟩ := h
  obtain ⟨⟨xs, e2, v2⟩, g2⟩ := h2
  refine ⟨o, p, ovs, xs, rfl, rfl, e, e2, ?_, fun r nr => ?_⟩
  · rw [v.len, v2.len]
    rw [sizeLine_eq]
    omega
  · have s := same_upd (o := .lst (ovs ++ xs)) (Same.refl H) nr
    refine q r _ nr s ⟨⟨ovs ++ xs, upd_same, (v.app v2).keep s.tkept⟩, fun x hx => ?_⟩
    rcases List.mem_append.mp hx with h | h
    · exact g x h
    · exact g2 x h
theorem eqv_nil (ds : List PyData) : PyData.eqv (.tuple ds) (.tuple []) = ds.isEmpty := by
  cases ds <;> rfl
theorem eqvL_nil (ds : List PyData) : PyData.eqv (.list ds) (.list []) = ds.isEmpty := by
  cases ds <;> rfl
theorem lits1 : ∀ e ∈ ([.str "a1", .str "a_b", .str "aB", .str "`"] : List PyData), Good e 1 256 := by
  have h : (([.str "a1", .str "a_b", .str "aB", .str "`"] : List PyData).all fun e => gd e && decide (e.depth ≤ 1) && decide (wt e ≤ 256)) = true := by decide +kernel
  intro e he
  have := List.all_eq_true.mp h e he
  simp at this
  exact ⟨this.1.1, this.1.2, this.2⟩
theorem lits2 : ∀ e ∈ ([.str "", .str "A", .str "zzzzzz", .str "zzzzzzz", .int 7, .bool true, .none, .tuple [], .tuple [.str "a"], .tuple [.str "a", .str "b", .int 1], .int (0 - 1)] : List PyData), Good e 1 256 := by
  have h : (([.str "", .str "A", .str "zzzzzz", .str "zzzzzzz", .int 7, .bool true, .none, .tuple [], .tuple [.str "a"], .tuple [.str "a", .str "b", .int 1], .int (0 - 1)] : List PyData).all fun e => gd e && decide (e.depth ≤ 1) && decide (wt e ≤ 256)) = true := by decide +kernel
  intro e he
  have := List.all_eq_true.mp h e he
  simp only [Bool.and_eq_true, decide_eq_true_eq] at this
  exact ⟨this.1.1, this.1.2, this.2⟩
theorem lits3 : ∀ e ∈ ([.int (10 ^ (25 : Int).toNat), .int (0 - 2), .int (0 - 10 ^ (9 : Int).toNat)] : List PyData), Good e 1 256 := by
  have h : (([.int (10 ^ (25 : Int).toNat), .int (0 - 2), .int (0 - 10 ^ (9 : Int).toNat)] : List PyData).all fun e => gd e && decide (e.depth ≤ 1) && decide (wt e ≤ 256)) = true := by decide +kernel
  intro e he
  have := List.all_eq_true.mp h e he
  simp only [Bool.and_eq_true, decide_eq_true_eq] at this
  exact ⟨this.1.1, this.1.2, this.2⟩
theorem lits4 : ∀ e ∈ ([.str "a~", .str "{", .str "a|b", .str "}"] : List PyData), Good e 1 256 := by
  have h : (([.str "a~", .str "{", .str "a|b", .str "}"] : List PyData).all fun e => gd e && decide (e.depth ≤ 1) && decide (wt e ≤ 256)) = true := by decide +kernel
  intro e he
  have := List.all_eq_true.mp h e he
  simp only [Bool.and_eq_true, decide_eq_true_eq] at this
  exact ⟨this.1.1, this.1.2, this.2⟩
theorem shapedL {ds : List PyData} {n S : Nat} (h : ∀ d ∈ ds, Good d n S) (hn : n < 64) : SeqAt.shaped (.list ds) = true := by
  have z := (gdA_show (gdA_iff.mpr fun d hd => (h d hd).gd)).2.2.2
  have y := depthA_le fun d hd => (h d hd).dp
  have : PyData.depthAll ds + 1 ≤ 64 := by omega
  simp [SeqAt.shaped, PyData.canLay0, PyData.depth, z]
  omega
/-- a pair of values where it stands -/
structure PrAt (H : Hp) (a : Addr) (W R : PyData) : Prop where
  at_ : ∃ wv rv, H a = some (.tup [wv, rv]) ∧ Vd H W wv ∧ Vd H R rv
theorem PrAt.keep {H H' : Hp} {a : Addr} {W R : PyData} (h : PrAt H a W R) (s : TupKept H H') : PrAt H' a W R := by
  obtain ⟨⟨wv, rv, e, h1, h2⟩⟩ := h
  exact ⟨⟨wv, rv, s _ _ e, h1.keep s, h2.keep s⟩⟩
theorem PrAt.mk2 {H : Hp} {a : Addr} {W R : PyData} {wv rv : V} (n : H a = none) (h1 : Vd H W wv) (h2 : Vd H R rv) : PrAt (upd H a (.tup [wv, rv])) a W R ∧ Same H (upd H a (.tup [wv, rv])) := by
  have s := same_upd (o := .tup [wv, rv]) (Same.refl H) n
  exact ⟨⟨⟨wv, rv, upd_same, h1.keep s.tkept, h2.keep s.tkept⟩⟩, s⟩
theorem mkT0 {H : Hp} {a : Addr} (n : H a = none) : Vd (upd H a (.tup [])) (.tuple []) (.ref a) ∧ Same H (upd H a (.tup [])) := ⟨Vd.ofTup upd_same VdA.nil, same_upd (Same.refl H) n⟩
theorem good0 : Good (.tuple []) 1 10 := ⟨rfl, by decide, by decide⟩
theorem goodN : Good .none 1 10 := ⟨rfl, by decide, by decide⟩
theorem slG_take {K : PySem.W.Frag} {H : Hp} {ds : List PyData} {v : V} {k : Nat} {Q : VK} (hv : Vd H (.tuple ds) v) (q : ∀ u G, Same H G → Vd G (.tuple (ds.take k)) u → Q u G) : rSlA K v none (some (k : Int)) H Q := by
  by_cases hk : k ≤ ds.length
  · exact slA_take hv hk q
  obtain ⟨a, xs, rfl, ea, hs⟩ := hv.tup
  have hl := hs.len
  refine ⟨a, xs, rfl, SqT.of ea, fun _ => ?_, fun h => ?_⟩
  · refine q _ H (Same.refl _) ?_
    rw [List.take_of_length_le (by omega)]
    exact hv
  · exact absurd ⟨rfl, by rw [HT.sIx_nat, Nat.min_eq_right (by omega)]⟩ h
theorem slG_takeE {K : PySem.W.Frag} {H : Hp} {ds : List PyData} {v : V} {k : Nat} {z : Int} {Q : VK} (hz : z = (k : Int)) (hv : Vd H (.tuple ds) v) (q : ∀ u G, Same H G → Vd G (.tuple (ds.take k)) u → Q u G) : rSlA K v none (some z) H Q := by
  subst hz
  exact slG_take hv q
theorem slG_drop {K : PySem.W.Frag} {H : Hp} {ds : List PyData} {v : V} {k : Nat} {z : Int} {Q : VK} (hz : z = (k : Int)) (hv : Vd H (.tuple ds) v) (q : ∀ u G, Same H G → Vd G (.tuple (ds.drop k)) u → Q u G) : rSlA K v (some z) none H Q := by
  subst hz
  by_cases hk : k ≤ ds.length
  · exact slA_drop hv hk q
  obtain ⟨a, xs, rfl, ea, hs⟩ := hv.tup
  have hl := hs.len
  have cu : cutV xs (some (k : Int)) none = [] := by
    unfold cutV
    rw [HT.sIx_none, HT.sIx_nat, Nat.min_eq_right (by omega), Nat.sub_self, List.take_zero]
  refine ⟨a, xs, rfl, SqT.of ea, fun h => ?_, fun _ p np => ?_⟩
  · rw [HT.sIx_nat, Nat.min_eq_right (by omega)] at h
    refine q _ H (Same.refl _) ?_
    have : ds = [] := List.length_eq_zero_iff.mp (by omega)
    rw [this, List.drop_nil]
    rw [this] at hv
    exact hv
  · rw [cu, List.drop_of_length_le (by omega)] at *
    have s : Same H (upd H p (.tup [])) := fun b o e => by
      rw [upd_ne (ne_of_none e np)]
      exact e
    exact q _ _ s (Vd.ofTup upd_same VdA.nil)
theorem formD_tups {W R : PyData} (h : formD W R = true) : ∃ ds es, W = .tuple ds ∧ R = .tuple es := by
  obtain ⟨f1, f2⟩ := Bool.and_eq_true_iff.mp h
  cases W <;> simp [isTupS] at f1
  cases R <;> simp [ropesD] at f2
  exact ⟨_, _, rfl, rfl⟩
theorem ok_Bent {f : Addr} {fd : FuncData} (F : Fun K "_law_bent" "_law_bent" lBent f fd) (T : TxtP mg) (cTake : Cal P w K mg base 1 "_law_take" ["_law_box_here", "_law_many"] spTake)
    (cSpaced : Cal P w K mg base 1 "_law_spaced" ["_law_text"] spSpaced) (cChanged : Cal P w K mg base 5 "_law_changed" chP (spChanged 3)) (cHasForm : Cal P w K mg base 2 "_law_has_form" ["_law_walkers", "_law_ropes"] spLForm) : FnOk P w K mg base CX0 6 f fd lbP spBent := by
  refine F.ok scBent (fun vs H Q E h => ?_) (fun cdv A outer s H vs Q E hr h => ?_)
  · obtain ⟨b, L, W, R, wv, rv, n, S, rfl, _⟩ := h
    rfl
  · obtain ⟨b, L, W, R, wv, rv, n, S, rfl, B, hw, hrv, gW, gR, n2, n20, hS, kk⟩ := h
    have nd := scBent.nd
    refine ⟨_, (pss_cons (ps_par (i := 3) (j := 4) (by rfl) nd rfl rfl (by decide) rfl rfl (pa_cons (pe_cal cTake (hr.mono (by decide)) (by rfl) (pa_cons (pv 0) (pa_cons pe_int pa_nil))) (pa_cons (pe_lst (pa_cons pe_str (pa_cons pe_str (pa_cons pe_str (pa_cons pe_str pa_nil))))) pa_nil)) (by rfl))
      (pss_cons (ps_set (i := 4) nd rfl (.inl rfl) (pe_op op_cat (pv 4) (pe_lst (pa_cons pe_str (pa_cons pe_str (pa_cons pe_str (pa_cons pe_str (pa_cons pe_int (pa_cons pe_bl (pa_cons pe_non (pa_cons (pe_tup pa_nil) (pa_cons (pe_tup (pa_cons pe_str pa_nil)) (pa_cons (pe_tup (pa_cons pe_str (pa_cons pe_str (pa_cons pe_int pa_nil)))) (pa_cons (pe_op op_sub pe_int pe_int) pa_nil))))))))))))))
      (pss_cons (ps_set (i := 4) nd rfl (.inl rfl) (pe_op op_cat (pv 4) (pe_lst (pa_cons (pe_op op_pow pe_int pe_int) (pa_cons (pe_op op_sub pe_int pe_int) (pa_cons (pe_op op_sub pe_int (pe_op op_pow pe_int pe_int)) pa_nil))))))
      (pss_cons (ps_if (pt_cmpR op_lt (pv 3) pe_int (nomark _))
        (pss_cons (ps_setLc (i := 5) (own := [("_law_thing", 12)]) (g := gName 12) rfl nd rfl rfl (sw_true rfl rfl rfl (by decide +kernel)) (pi_tup (pe_tup (pa_cons (pv 1) (pa_cons (pv 2) pa_nil)))) (blkOk_by (own := [("_law_thing", 12)]) (N := lbN) (sc := defScope lBent) (by decide +kernel)) (fun _ _ _ _ _ => (pg_name (i := 12) nd rfl (.inl rfl))) (fun _ _ _ _ _ => pts_one (PW.pt (pw_and (pt_val (pe_callB (call_isiB K) (by rfl) T.b_isinstance (by decide +kernel) (pa_cons (pv 12) (pa_cons (pe_bltn (v := .ty "tuple") (by rfl) T.b_tuple (by decide +kernel) rfl) pa_nil)))) (pw_and1 (pt_cmpR (op_neDK K hr.units) (pv 12) (pe_tup pa_nil) (nomark _)))))) (fun _ _ _ _ _ => (pe_ix (ix_tupK K) (pv 12) pe_int (fun _ _ => rfl))))
          (pss_cons (ps_set (i := 4) nd rfl (.inl rfl) (pe_op op_cat (pv 4) (pe_lst (pa_cons pe_str (pa_cons pe_str (pa_cons pe_str (pa_cons pe_str pa_nil)))))))
          (pss_cons (ps_if (PW.pt (pw_and (pt_cmpR (op_neD hr.units) (pv 5) (pe_lst pa_nil) (nomark _)) (pw_and1 (pt_val (pe_callB call_isi (by rfl) T.b_isinstance (by decide +kernel) (pa_cons (pe_ix ix_list (pv 5) pe_int (fun _ _ => rfl)) (pa_cons (pe_bltn (v := .ty "str") (by rfl) T.b_str (by decide +kernel) rfl) pa_nil)))))))
            (pss_one (ps_set (i := 4) nd rfl (.inl rfl) (pe_op op_cat (pv 4) (pe_cal cSpaced (hr.mono (by decide)) (by rfl) (pa_cons (pe_ix ix_list (pv 5) pe_int (fun _ _ => rfl)) pa_nil)))))
            pss_nil)
          (pss_cons (ps_set (i := 6) nd rfl (.inl rfl) (pe_cal cChanged (hr.mono (by decide)) (by rfl) (pa_cons (pv 0) (pa_cons (pe_tup (pa_cons (pv 1) (pa_cons (pv 2) pa_nil))) (pa_cons pe_int (pa_cons (pe_op op_cat (pv 4) (pv 5)) pa_nil))))))
          (pss_one (ps_ret (pe_ifExp (PW.pt (pw_and (pt_val (pe_callB call_isi (by rfl) T.b_isinstance (by decide +kernel) (pa_cons (pv 6) (pa_cons (pe_bltn (v := .ty "tuple") (by rfl) T.b_tuple (by decide +kernel) rfl) pa_nil)))) (pw_and1 (pt_cmpR op_eq (pe_callB call_len_seq (by rfl) T.b_len PySem.boot_len (pa_cons (pv 6) pa_nil)) pe_int (nomark _))))) (pv 6) (pe_tup (pa_cons (pv 1) (pa_cons (pv 6) pa_nil))))))))))
        pss_nil)
      (pss_cons (ps_if (PW.pt (pw_or (pt_not (pt_val (pe_cal cHasForm (hr.mono (by decide)) (by rfl) (pa_cons (pv 1) (pa_cons (pv 2) pa_nil))))) (pw_or1 (pt_cmpR (op_eqD hr.units) (pv 1) (pe_tup pa_nil) (nomark _)))))
        (pss_one (ps_ret (pe_ix ix_list (pe_lst (pa_cons (pe_tup (pa_cons (pv 1) (pa_cons (pe_tup pa_nil) pa_nil))) (pa_cons (pe_tup (pa_cons (pe_tup pa_nil) (pa_cons (pe_tup pa_nil) pa_nil))) (pa_cons (pe_tup (pa_cons (pe_tup pa_nil) (pa_cons (pv 2) pa_nil))) (pa_cons (pe_tup (pa_cons (pv 1) (pa_cons pe_non pa_nil))) pa_nil))))) (pe_cal cTake (hr.mono (by decide)) (by rfl) (pa_cons (pv 0) (pa_cons pe_int pa_nil))) (fun _ _ => rfl))))
        pss_nil)
      (pss_cons (ps_par (i := 7) (j := 8) (by rfl) nd rfl rfl (by decide) rfl rfl (pa_cons (pe_ix ix_tup (pv 1) (pe_cal cTake (hr.mono (by decide)) (by rfl) (pa_cons (pv 0) (pa_cons (pe_callB call_len_seq (by rfl) T.b_len PySem.boot_len (pa_cons (pv 1) pa_nil)) pa_nil))) (fun _ _ => rfl)) (pa_cons (pe_ix ix_tup (pv 1) (pe_cal cTake (hr.mono (by decide)) (by rfl) (pa_cons (pv 0) (pa_cons (pe_callB call_len_seq (by rfl) T.b_len PySem.boot_len (pa_cons (pv 1) pa_nil)) pa_nil))) (fun _ _ => rfl)) pa_nil)) (by rfl))
      (pss_cons (ps_par (i := 9) (j := 10) (by rfl) nd rfl rfl (by decide) rfl rfl (pa_cons (pe_cal cTake (hr.mono (by decide)) (by rfl) (pa_cons (pv 0) (pa_cons (pe_op op_add (pe_callB call_len_seq (by rfl) T.b_len PySem.boot_len (pa_cons (pv 2) pa_nil)) pe_int) pa_nil))) (pa_cons (pe_op op_sub (pe_op op_sub pe_int pe_int) (pe_cal cTake (hr.mono (by decide)) (by rfl) (pa_cons (pv 0) (pa_cons pe_int pa_nil)))) pa_nil)) (by rfl))
      (pss_cons (ps_set (i := 11) nd rfl (.inl rfl) (pe_ix ix_list (pe_lst (pa_cons pe_int (pa_cons pe_int (pa_cons (pe_op op_sub pe_int pe_int) (pa_cons (pe_op op_pow pe_int pe_int) (pa_cons pe_bl (pa_cons (pv 10) pa_nil))))))) (pe_cal cTake (hr.mono (by decide)) (by rfl) (pa_cons (pv 0) (pa_cons pe_int pa_nil))) (fun _ _ => rfl)))
      (pss_cons (ps_if (pt_cmpR op_lt (pv 3) pe_int (nomark _))
        (pss_one (ps_ret (pe_tup (pa_cons (pv 1) (pa_cons (pe_op op_catA (pe_op op_catA (pe_slice sl_tupA (pv 2) po_none (po_some (pv 9))) (pe_tup (pa_cons (pe_tup (pa_cons (pv 7) (pa_cons (pv 8) (pa_cons (pv 11) pa_nil)))) pa_nil))) (pe_slice sl_tupA (pv 2) (po_some (pv 9)) po_none)) pa_nil)))))
        pss_nil)
      (pss_cons (ps_if (pt_cmpR op_eq (pv 3) pe_int (nomark _))
        (pss_one (ps_ret (pe_tup (pa_cons (pe_op op_catA (pe_slice sl_tupA (pv 1) po_none (po_some (pv 9))) (pe_slice sl_tupA (pv 1) (po_some (pe_op op_add (pv 9) pe_int)) po_none)) (pa_cons (pv 2) pa_nil)))))
        pss_nil)
      (pss_one (ps_ret (pe_tup (pa_cons (pe_op op_catA (pv 1) (pe_slice sl_tupA (pe_callTy call_tuple_of (by rfl) T.b_tuple (by decide +kernel) (pa_cons (pe_lc (own := [("_law_letter", 13)]) (g := gName 13) rfl nd (pi_str pe_str) (blkOk_by (own := [("_law_letter", 13)]) (N := lbN) (sc := defScope lBent) (by decide +kernel)) (fun _ _ _ _ _ => (pg_name (i := 13) nd rfl (.inl rfl))) (fun _ _ _ _ _ => pts_nil) (fun _ _ _ _ _ => (pe_op op_add_str pe_str (pv 13)))) pa_nil)) po_none (po_some (pe_op op_add pe_int (pe_cal cTake (hr.mono (by decide)) (by rfl) (pa_cons (pv 0) (pa_cons pe_int pa_nil))))))) (pa_cons (pv 2) pa_nil))))))))))))))), ?_⟩
    refine ⟨_, rfl, b, L, 8, rfl, by decide, by decide +kernel, B, fun form H1 a1 c1 B1 k1 => ?_⟩
    refine ⟨(by show 4 ≤ sizeLine; decide), fun l nl => ?_⟩
    have s1 := same_upd (o := .lst [.str "a1", .str "a_b", .str "aB", .str "`"]) (Same.refl H1) nl
    have o1 : OddAt (upd H1 l (.lst [.str "a1", .str "a_b", .str "aB", .str "`"])) l [.str "a1", .str "a_b", .str "aB", .str "`"] 1 256 := ⟨⟨_, upd_same, VdA.cons (Vd.mkStr _) (VdA.cons (Vd.mkStr _) (VdA.cons (Vd.mkStr _) (VdA.cons (Vd.mkStr _) VdA.nil)))⟩, lits1⟩
    refine ⟨_, _, rfl, ?_⟩
    try dsimp only [tNext]
    generalize upd H1 l (.lst [.str "a1", .str "a_b", .str "aB", .str "`"]) = H2 at s1 o1 ⊢
    -- the second row of odd ones
    refine ⟨_, rfl, (by show 0 ≤ sizeLine; decide), fun t1 nt1 => ?_⟩
    have s2 : Same H2 (upd H2 t1 (.tup [])) := same_upd (Same.refl _) nt1
    have v1 : Vd (upd H2 t1 (.tup [])) (.tuple []) (.ref t1) := Vd.ofTup upd_same VdA.nil
    generalize upd H2 t1 (.tup []) = H3 at s2 v1 ⊢
    refine ⟨(by show 1 ≤ sizeLine; decide), fun t2 nt2 => ?_⟩
    have s3 : Same H3 (upd H3 t2 (.tup [.str "a"])) := same_upd (Same.refl _) nt2
    have v2 : Vd (upd H3 t2 (.tup [.str "a"])) (.tuple [.str "a"]) (.ref t2) := Vd.ofTup upd_same (VdA.one (Vd.mkStr _))
    generalize upd H3 t2 (.tup [.str "a"]) = H4 at s3 v2 ⊢
    refine ⟨(by show 3 ≤ sizeLine; decide), fun t3 nt3 => ?_⟩
    have s4 : Same H4 (upd H4 t3 (.tup [.str "a", .str "b", .int 1])) := same_upd (Same.refl _) nt3
    have v3 : Vd (upd H4 t3 (.tup [.str "a", .str "b", .int 1])) (.tuple [.str "a", .str "b", .int 1]) (.ref t3) := Vd.ofTup upd_same (VdA.cons (Vd.mkStr _) (VdA.cons (Vd.mkStr _) (VdA.one (Vd.mkInt _))))
    generalize upd H4 t3 (.tup [.str "a", .str "b", .int 1]) = H5 at s4 v3 ⊢
    refine ⟨_, _, rfl, rfl, (by show 11 ≤ sizeLine; decide), fun p np => ?_⟩
    have o2 : OddAt (upd H5 p (.lst [.str "", .str "A", .str "zzzzzz", .str "zzzzzzz", .int 7, .bl true, .non, .ref t1, .ref t2, .ref t3, .int (0 - 1)])) p [.str "", .str "A", .str "zzzzzz", .str "zzzzzzz", .int 7, .bool true, .none, .tuple [], .tuple [.str "a"], .tuple [.str "a", .str "b", .int 1], .int (0 - 1)] 1 256 := by
      have s5 := same_upd (o := .lst [.str "", .str "A", .str "zzzzzz", .str "zzzzzzz", .int 7, .bl true, .non, .ref t1, .ref t2, .ref t3, .int (0 - 1)]) (Same.refl H5) np
      refine ⟨⟨_, upd_same, ?_⟩, lits2⟩
      exact VdA.cons (Vd.mkStr _) (VdA.cons (Vd.mkStr _) (VdA.cons (Vd.mkStr _) (VdA.cons (Vd.mkStr _) (VdA.cons (Vd.mkInt _) (VdA.cons (Vd.mkBl _) (VdA.cons Vd.mkNon (VdA.cons (v1.keep (s3.trans (s4.trans s5)).tkept) (VdA.cons (v2.keep (s4.trans s5).tkept) (VdA.cons (v3.keep s5.tkept) (VdA.one (Vd.mkInt _)))))))))))
    have s5 := same_upd (o := .lst [.str "", .str "A", .str "zzzzzz", .str "zzzzzzz", .int 7, .bl true, .non, .ref t1, .ref t2, .ref t3, .int (0 - 1)]) (Same.refl H5) np
    have S5 : Same H1 _ := s1.trans (s2.trans (s3.trans (s4.trans s5)))
    have o1 := o1.same (s2.trans (s3.trans (s4.trans s5)))
    clear s1 s2 s3 s4 s5 v1 v2 v3 nt1 nt2 nt3 np nl
    generalize upd H5 p (.lst [.str "", .str "A", .str "zzzzzz", .str "zzzzzzz", .int 7, .bl true, .non, .ref t1, .ref t2, .ref t3, .int (0 - 1)]) = H6 at o1 o2 S5 ⊢
    refine catO o1 o2 (by decide) fun l2 H7 nl2 s7 o3 => ?_
    try dsimp only [tNext]
    -- the third row
    have S7 := S5.trans s7
    clear o1 o2 S5 s7
    refine ⟨_, rfl, _, _, rfl, rfl, ⟨by decide, by decide, by decide⟩, _, _, rfl, rfl, _, _, rfl, rfl, ⟨by decide, by decide, by decide⟩, _, _, rfl, rfl, (by show 3 ≤ sizeLine; decide), fun q nq => ?_⟩
    have o4 : OddAt (upd H7 q (.lst [.int (10 ^ (25 : Int).toNat), .int (0 - 2), .int (0 - 10 ^ (9 : Int).toNat)])) q [.int (10 ^ (25 : Int).toNat), .int (0 - 2), .int (0 - 10 ^ (9 : Int).toNat)] 1 256 :=
      ⟨⟨_, upd_same, VdA.cons (Vd.mkInt _) (VdA.cons (Vd.mkInt _) (VdA.one (Vd.mkInt _)))⟩, lits3⟩
    have s8 := same_upd (o := .lst [.int (10 ^ (25 : Int).toNat), .int (0 - 2), .int (0 - 10 ^ (9 : Int).toNat)]) (Same.refl H7) nq
    have o3 := o3.same s8
    have S8 := S7.trans s8
    clear S7 s8 nq
    generalize upd H7 q (.lst [.int (10 ^ (25 : Int).toNat), .int (0 - 2), .int (0 - 10 ^ (9 : Int).toNat)]) = H8 at o3 o4 S8 ⊢
    refine catO o3 o4 (by decide) fun l3 H9 nl3 s9 o5 => ?_
    have S9 := S8.trans s9
    have fr3 : H1 l3 = none := S8.free nl3
    clear o3 o4 S8 s9 nl2 nl3
    have dlen : (([PyData.str "a1", .str "a_b", .str "aB", .str "`"] ++ [.str "", .str "A", .str "zzzzzz", .str "zzzzzzz", .int 7, .bool true, .none, .tuple [], .tuple [.str "a"], .tuple [.str "a", .str "b", .int 1], .int (0 - 1)]) ++ [.int (10 ^ (25 : Int).toNat), .int (0 - 2), .int (0 - 10 ^ (9 : Int).toNat)] : List PyData).length = 18 := by decide +kernel
    generalize (([PyData.str "a1", .str "a_b", .str "aB", .str "`"] ++ [.str "", .str "A", .str "zzzzzz", .str "zzzzzzz", .int 7, .bool true, .none, .tuple [], .tuple [.str "a"], .tuple [.str "a", .str "b", .int 1], .int (0 - 1)]) ++ [.int (10 ^ (25 : Int).toNat), .int (0 - 2), .int (0 - 10 ^ (9 : Int).toNat)] : List PyData) = ods at o5 dlen
    try dsimp only [tNext]
    have B9 := B1.same S9
    have k9 : Kp b L H H9 := k1.trans (same_kp S9)
    obtain ⟨l3b, l3L⟩ := B1.apart fr3
    have hw9 := (hw.keep (kp_tkept k1 B)).keep S9.tkept
    have hr9 := (hrv.keep (kp_tkept k1 B)).keep S9.tkept
    clear hw hrv B B1 k1 S9 fr3
    -- form < 4
    refine ⟨_, rfl, _, _, rfl, rfl, _, rfl, ?_⟩
    refine ite2 (fun c2 => ?_) (fun c2 => ?_)
    · refine ⟨_, rfl, _, rfl, (by show 2 ≤ sizeLine; decide), fun tp ntp => ⟨tp, rfl, ⟨_, SqT.of upd_same⟩, ?_⟩⟩
      have s10 : Same H9 (upd H9 tp (.tup [wv, rv])) := same_upd (Same.refl _) ntp
      have etp : (upd H9 tp (.tup [wv, rv])) tp = some (.tup [wv, rv]) := upd_same
      generalize upd H9 tp (.tup [wv, rv]) = H10 at s10 etp ⊢
      intro D hD
      have hw10 := hw9.keep s10.tkept
      have hr10 := hr9.keep s10.tkept
      refine lc_tup (K := K) (a := tp) (xs := [wv, rv]) (fun t G => Same H10 G ∧ ∃ acc ds, G D = some (.lst acc) ∧ VdA G ds acc ∧ ds.length ≤ t ∧ ∀ d ∈ ds, Good d (n - 1) S) ⟨same_upd (Same.refl _) hD, [], [], upd_same, VdA.nil, Nat.le_refl _, fun d h => by cases h⟩ (fun t G _ ⟨sG, _⟩ => SqT.of (sG _ _ etp)) ?_ ?_
      · rintro t x G hx ⟨sG, acc, ds, eacc, va, dl, dg⟩
        have tl : t < 2 := (List.getElem?_eq_some_iff.mp hx).1
        obtain ⟨d, hv, gd⟩ : ∃ d, Vd G d x ∧ Good d n S := by
          match t, hx with
          | 0, hx => cases hx; exact ⟨W, hw10.keep sG.tkept, gW⟩
          | 1, hx => cases hx; exact ⟨R, hr10.keep sG.tkept, gR⟩
          | t + 2, hx => simp at hx
        refine ⟨rfl, _, rfl, _, .ty "tuple", _, _, _, rfl, .ty _, Vd.ty hv, k_tup K _, ?_⟩
        refine ⟨_, rfl, ?_⟩
        cases ct : isTupD d
        · exact iteF ⟨sG, acc, ds, eacc, va, by omega, dg⟩
        refine iteT ?_
        cases d <;> simp [isTupD] at ct
        rename_i es
        obtain ⟨a, xs, rfl, ea, hs⟩ := hv.tup
        refine ⟨_, rfl, (by show 0 ≤ sizeLine; decide), fun t0 nt0 => ?_⟩
        have s0 : Same G (upd G t0 (.tup [])) := same_upd (Same.refl _) nt0
        have v0 : Vd (upd G t0 (.tup [])) (.tuple []) (.ref t0) := Vd.ofTup upd_same VdA.nil
        have hv0 := hv.keep s0.tkept
        have va0 := va.keep s0.tkept
        have eacc0 := s0 _ _ eacc
        have ea0 := s0 _ _ ea
        have hs0 := hs.keep s0.tkept
        have sG0 := sG.trans s0
        generalize upd G t0 (.tup []) = G0 at s0 v0 hv0 va0 eacc0 ea0 hs0 sG0 ⊢
        refine ⟨.tuple es, .tuple [], hv0.dp, v0.dp, gd.shaped (by omega), by decide +kernel, ?_⟩
        rw [eqv_nil]
        refine ⟨_, rfl, ?_⟩
        cases es with
        | nil => exact iteF ⟨sG0, acc, ds, eacc0, va0, by omega, dg⟩
        | cons e1 es =>
          refine iteT ?_
          obtain ⟨x1, xr, rfl, vx1, _⟩ := hs0.uncons
          refine ⟨_, rfl, a, _, _, _, rfl, rfl, SqT.of ea0, (atI_nat (j := 0) rfl), acc, eacc0, ?_, same_upd sG0 hD, acc ++ [x1], ds ++ [e1], upd_same, ?_, ?_, ?_⟩
          · rw [va0.len, sizeLine_eq]
            omega
          · exact (va0.app (VdA.one vx1)).keep (tkept_lst eacc0)
          · rw [List.length_append]
            show ds.length + 1 ≤ t + 1
            omega
          · intro d hd
            rcases List.mem_append.mp hd with h | h
            · exact dg d h
            · simp at h
              subst h
              exact gd.items _ List.mem_cons_self
      · rintro H11 ⟨sG, acc, ds, eacc, va, dl, dg⟩
        have dl : ds.length ≤ 2 := dl
        try dsimp only [tNext]
        refine ⟨_, rfl, (by show 4 ≤ sizeLine; decide), fun q nq => ?_⟩
        have s12 := same_upd (o := .lst [.str "a~", .str "{", .str "a|b", .str "}"]) (Same.refl H11) nq
        have o6 : OddAt (upd H11 q (.lst [.str "a~", .str "{", .str "a|b", .str "}"])) q [.str "a~", .str "{", .str "a|b", .str "}"] 1 256 := ⟨⟨_, upd_same, VdA.cons (Vd.mkStr _) (VdA.cons (Vd.mkStr _) (VdA.cons (Vd.mkStr _) (VdA.one (Vd.mkStr _))))⟩, lits4⟩
        have o5 := o5.same (s10.trans (sG.trans s12))
        have oD : OddAt H11 D ds (n - 1) S := ⟨⟨acc, eacc, va⟩, dg⟩
        have oD := oD.same s12
        have S12 := s10.trans (sG.trans s12)
        generalize upd H11 q (.lst [.str "a~", .str "{", .str "a|b", .str "}"]) = H12 at o5 o6 oD S12 ⊢
        refine catO o5 o6 (by rw [dlen]; decide) fun l4 H13 nl4 s13 o7 => ?_
        have oD := oD.same s13
        have S13 := S12.trans s13
        have o7 := o7.mono (k' := n) (So' := S + 400) (by omega) (by omega)
        have o7l : (ods ++ [.str "a~", .str "{", .str "a|b", .str "}"] : List PyData).length = 22 := by rw [List.length_append, dlen]; rfl
        generalize (ods ++ [.str "a~", .str "{", .str "a|b", .str "}"] : List PyData) = od2 at o7 o7l
        have B13 := B9.same S13
        have k13 := k9.trans (same_kp S13)
        obtain ⟨l4b, l4L⟩ := (B9.same S12).apart nl4
        obtain ⟨Db, DL⟩ := (B9.same s10).apart hD
        have hw13 := hw9.keep S13.tkept
        have hr13 := hr9.keep S13.tkept
        clear o5 o6 s10 sG s12 s13 S12 S13 eacc va dg hD ntp etp B9 k9 hw9 hr9 hw10 hr10
        try dsimp only [tNext]
        refine seq_rest (fun σ1 G => ∃ (o : Addr) (od3 : List PyData), σ1 = [some (.ref b), some wv, some rv, some (.int form), some (.ref o), some (.ref D), none, none, none, none, none, none, none, none] ∧ OddAt G o od3 n (S + 400) ∧ 1 ≤ od3.length ∧ od3.length ≤ 26 ∧ o ≠ b ∧ o ≠ L ∧ Same H13 G) ?_ (fun rest => ?_)
        rotate_left
        · refine ⟨_, rfl, (by show 0 ≤ sizeLine; decide), fun e0 ne0 => ?_⟩
          have s14 := same_upd (o := .lst []) (Same.refl H13) ne0
          have le0 : (upd H13 e0 (.lst [])) e0 = some (.lst []) := upd_same
          generalize upd H13 e0 (.lst []) = H14 at s14 le0 ⊢
          obtain ⟨⟨acc, eacc, va⟩, dg⟩ := oD.same s14
          refine ⟨.list ds, .list [], .lst (SqL.of eacc) va.dp, .lst (SqL.of le0) .nil, shapedL dg (by omega), by decide +kernel, ?_⟩
          rw [eqvL_nil]
          refine ⟨_, rfl, ?_⟩
          cases ds with
          | nil => exact iteF (iteF (rest _ _ ⟨l4, od2, rfl, o7.same s14, by omega, by omega, l4b, l4L, s14⟩))
          | cons e1 es =>
            refine iteT ?_
            obtain ⟨x1, xr, rfl, vx1, _⟩ := va.uncons
            refine ⟨_, rfl, D, _, _, _, rfl, rfl, SqL.of eacc, (atI_nat (j := 0) rfl), _, .ty "str", _, _, _, rfl, .ty _, Vd.ty vx1, k_str K _, _, rfl, ?_⟩
            cases cs : isStrD e1
            · exact iteF (rest _ _ ⟨l4, od2, rfl, o7.same s14, by omega, by omega, l4b, l4L, s14⟩)
            refine iteT ?_
            obtain ⟨x, rfl⟩ : ∃ x, e1 = .str x := by
              cases e1 <;> simp [isStrD] at cs
              exact ⟨_, rfl⟩
            have hx := vx1.str
            subst hx
            have gx := dg _ List.mem_cons_self
            have gw : 10 * x.length + 10 ≤ S := gx.wt
            refine ⟨_, rfl, _, rfl, D, _, _, _, rfl, rfl, SqL.of eacc, (atI_nat (j := 0) rfl), x, rfl, by omega, gx.gd, fun lz zs xs G nlz elz sz vz lz4 gz => ?_⟩
            refine catO ((o7.same s14).same sz) (⟨⟨xs, elz, vz⟩, fun d hd => (gz d hd).mono (by omega) (by omega)⟩ : OddAt G lz zs n (S + 400)) (by omega) fun r G2 nr s15 o8 => ?_
            have S15 := s14.trans (sz.trans s15)
            obtain ⟨rb, rL⟩ := (B13.same (s14.trans sz)).apart nr
            exact rest _ _ ⟨r, _, rfl, o8, by rw [List.length_append]; omega, by rw [List.length_append]; omega, rb, rL, S15⟩
        rintro σ1 G ⟨o, od3, rfl, o9, od1, od26, ob, oL, s16⟩
        try dsimp only [tNext]
        refine ⟨_, rfl, _, rfl, _, rfl, (by show 2 ≤ sizeLine; decide), fun tq ntq => ?_⟩
        have s17 : Same G (upd G tq (.tup [wv, rv])) := same_upd (Same.refl _) ntq
        have etq : (upd G tq (.tup [wv, rv])) tq = some (.tup [wv, rv]) := upd_same
        generalize upd G tq (.tup [wv, rv]) = G2 at s17 etq ⊢
        refine ⟨_, rfl, _, rfl, catO (o9.same s17) (((oD.mono (by omega) (by omega)).same s16).same s17) (by omega) fun r G3 nr s18 o10 => ?_⟩
        have S18 := s16.trans (s17.trans s18)
        obtain ⟨rb, rL⟩ := (B13.same (s16.trans s17)).apart nr
        have hw18 := hw13.keep S18.tkept
        have hr18 := hr13.keep S18.tkept
        have k18 := k13.trans (same_kp S18)
        obtain ⟨⟨ovs, er, vr⟩, gr⟩ := o10
        have gwr := gW.wt
        have grr := gR.wt
        refine ⟨b, L, r, .tuple [W, R], .ref tq, _, ovs, n + 1, 2 * S + 14, n, S + 400, rfl, B13.same S18, Vd.ofTup (s18 _ _ etq) (VdA.cons hw18 (VdA.one hr18)), Good.made (fun e he => ?_) ?_, er, rb, rL, vr, by rw [List.length_append]; omega, by rw [List.length_append]; omega, gr, by omega, fun u e H' vu gu Bx kx => ?_⟩
        · rcases List.mem_cons.mp he with rfl | he
          · exact gW.mono (Nat.le_refl _) (by omega)
          · simp at he
            subst he
            exact gR.mono (Nat.le_refl _) (by omega)
        · show wt W + 2 + (wt R + 2 + 0) + 10 ≤ _
          omega
        have tk := kp_tkept kx (B13.same S18)
        have kF := k18.trans kx
        have gu2 := gu.mono (n' := 2 * n + 4) (S' := 7 * S + 500) (by omega) (by omega)
        try dsimp only [tNext]
        refine ⟨_, rfl, _, .ty "tuple", _, _, _, rfl, .ty _, Vd.ty vu, k_tup K _, _, rfl, ?_⟩
        have other : ∀ t, H' t = none → Q (.ref t) (upd H' t (.tup [wv, u])) := fun t nt => by
          have st := same_upd (o := .tup [wv, u]) (Same.refl H') nt
          exact kk t W e wv u _ upd_same ((hw18.keep tk).keep st.tkept) (vu.keep st.tkept) (gW.mono (by omega) (by omega)) gu2 (Bx.same st) (kF.trans (same_kp st))
        cases ct : isTupD e
        · exact iteF ⟨_, rfl, _, rfl, (by show 2 ≤ sizeLine; decide), other⟩
        refine iteT ?_
        cases e <;> simp [isTupD] at ct
        rename_i es
        obtain ⟨a, xs, rfl, ea, hs⟩ := vu.tup
        refine ⟨_, rfl, a, _, rfl, .inr (SqT.of ea), rfl, _, rfl, ?_⟩
        rw [hs.len]
        refine ite2 (fun c3 => ?_) (fun c3 => ?_)
        · have h2 : es.length = 2 := by
            simp at c3
            omega
          obtain ⟨e1, e2, rfl⟩ : ∃ e1 e2, es = [e1, e2] := by
            match es, h2 with
            | [e1, e2], _ => exact ⟨e1, e2, rfl⟩
          obtain ⟨x1, r1, rfl, v1, hs1⟩ := hs.uncons
          obtain ⟨x2, r2, rfl, v2, hs2⟩ := hs1.uncons
          unfold VdA at hs2
          subst hs2
          exact ⟨_, rfl, kk a e1 e2 x1 x2 H' ea v1 v2 ((gu2.items _ List.mem_cons_self).mono (by omega) (Nat.le_refl _)) ((gu2.items _ (List.mem_cons_of_mem _ List.mem_cons_self)).mono (by omega) (Nat.le_refl _)) Bx kF⟩
        · exact ⟨_, rfl, _, rfl, (by show 2 ≤ sizeLine; decide), other⟩
    -- form from 4 on
    try dsimp only [tNext]
    have LW : Lim W := by
      have := gW.wt
      show wt W ≤ 4000000
      omega
    have LR : Lim R := by
      have := gR.wt
      show wt R ≤ 4000000
      omega
    have pr : ∀ {a : Addr} {W' R' : PyData} {G : Hp}, PrAt G a W' R' → Good W' (2 * n + 4) (7 * S + 500) → Good R' (2 * n + 4) (7 * S + 500) → Box b L G → Kp b L H9 G → Q (.ref a) G := fun ⟨⟨wv', rv', e, h1, h2⟩⟩ g1 g2 BB kG => kk _ _ _ wv' rv' _ e h1 h2 g1 g2 BB (k9.trans kG)
    have g0 : Good (.tuple []) (2 * n + 4) (7 * S + 500) := good0.mono (by omega) (by omega)
    have gN : Good .none (2 * n + 4) (7 * S + 500) := goodN.mono (by omega) (by omega)
    have gW4 : Good W (2 * n + 4) (7 * S + 500) := gW.mono (by omega) (by omega)
    have gR4 : Good R (2 * n + 4) (7 * S + 500) := gR.mono (by omega) (by omega)
    have four : ∀ {σ : L2.St} {G : Hp} {D : Ends}, σ[0]? = some (some (.ref b)) → σ[1]? = some (some wv) → σ[2]? = some (some rv) → D.rt = Q → Same H9 G →
        tRet (tOp (rIxL K) (tLst (tCons (tTup (tCons (tVar 1) (tCons (tTup tNil) tNil))) (tCons (tTup (tCons (tTup tNil) (tCons (tTup tNil) tNil))) (tCons (tTup (tCons (tTup tNil) (tCons (tVar 2) tNil))) (tCons (tTup (tCons (tVar 1) (tCons (tC V.non) tNil))) tNil))))) (tCall spTake [] E0 (tCons (tVar 0) (tCons (tC (V.int 4)) tNil)))) D σ G := by
      intro σ G D e0 e1 e2 eD sG
      have hwG := hw9.keep sG.tkept
      have hrG := hr9.keep sG.tkept
      refine ⟨_, e1, (by show 0 ≤ sizeLine; decide), fun z1 n1 => ?_⟩
      obtain ⟨w1, y1⟩ := mkT0 n1
      generalize upd G z1 (.tup []) = J1 at w1 y1 ⊢
      refine ⟨(by show 2 ≤ sizeLine; decide), fun z2 n2 => ?_⟩
      obtain ⟨p2, y2⟩ := PrAt.mk2 n2 (hwG.keep y1.tkept) w1
      generalize upd J1 z2 (.tup [wv, .ref z1]) = J2 at p2 y2 ⊢
      refine ⟨(by show 0 ≤ sizeLine; decide), fun z3 n3 => ?_⟩
      obtain ⟨w3, y3⟩ := mkT0 n3
      generalize upd J2 z3 (.tup []) = J3 at w3 y3 ⊢
      refine ⟨(by show 0 ≤ sizeLine; decide), fun z4 n4 => ?_⟩
      obtain ⟨w4, y4⟩ := mkT0 n4
      generalize upd J3 z4 (.tup []) = J4 at w4 y4 ⊢
      refine ⟨(by show 2 ≤ sizeLine; decide), fun z5 n5 => ?_⟩
      obtain ⟨p5, y5⟩ := PrAt.mk2 n5 (w3.keep y4.tkept) w4
      generalize upd J4 z5 (.tup [.ref z3, .ref z4]) = J5 at p5 y5 ⊢
      refine ⟨(by show 0 ≤ sizeLine; decide), fun z6 n6 => ?_⟩
      obtain ⟨w6, y6⟩ := mkT0 n6
      generalize upd J5 z6 (.tup []) = J6 at w6 y6 ⊢
      have Y6 := y1.trans (y2.trans (y3.trans (y4.trans (y5.trans y6))))
      refine ⟨_, e2, (by show 2 ≤ sizeLine; decide), fun z7 n7 => ?_⟩
      obtain ⟨p7, y7⟩ := PrAt.mk2 n7 w6 (hrG.keep Y6.tkept)
      generalize upd J6 z7 (.tup [.ref z6, rv]) = J7 at p7 y7 ⊢
      refine ⟨_, e1, (by show 2 ≤ sizeLine; decide), fun z8 n8 => ?_⟩
      obtain ⟨p8, y8⟩ := PrAt.mk2 n8 (hwG.keep (Y6.trans y7).tkept) (Vd.mkNon (H := J7))
      generalize upd J7 z8 (.tup [wv, .non]) = J8 at p8 y8 ⊢
      refine ⟨(by show 4 ≤ sizeLine; decide), fun zl nl9 => ?_⟩
      have y9 := same_upd (o := .lst [.ref z2, .ref z5, .ref z7, .ref z8]) (Same.refl J8) nl9
      have el9 : (upd J8 zl (.lst [.ref z2, .ref z5, .ref z7, .ref z8])) zl = some (.lst [.ref z2, .ref z5, .ref z7, .ref z8]) := upd_same
      generalize upd J8 zl (.lst [.ref z2, .ref z5, .ref z7, .ref z8]) = J9 at y9 el9 ⊢
      have q2 := p2.keep (y3.trans (y4.trans (y5.trans (y6.trans (y7.trans (y8.trans y9)))))).tkept
      have q5 := p5.keep (y6.trans (y7.trans (y8.trans y9))).tkept
      have q7 := p7.keep (y8.trans y9).tkept
      have q8 := p8.keep y9.tkept
      have Y9 := sG.trans (Y6.trans (y7.trans (y8.trans y9)))
      have fz : H9 zl = none := (sG.trans (Y6.trans (y7.trans y8))).free nl9
      obtain ⟨zb, zL⟩ := B9.apart fz
      refine ⟨_, e0, b, L, 4, rfl, by decide, by decide +kernel, B9.same Y9, fun d J10 a2 c3 B10 k10 => ?_⟩
      have tk := kp_tkept k10 (B9.same Y9)
      have kG := (same_kp (b := b) (L := L) Y9).trans k10
      have el10 := k10 _ _ zb zL el9
      have cs : d = 0 ∨ d = 1 ∨ d = 2 ∨ d = 3 := by omega
      rcases cs with rfl | rfl | rfl | rfl
      · refine ⟨zl, _, _, _, rfl, rfl, SqL.of el10, (atI_nat (j := 0) rfl), ?_⟩
        rw [eD]
        exact pr (q2.keep tk) gW4 g0 B10 kG
      · refine ⟨zl, _, _, _, rfl, rfl, SqL.of el10, (atI_nat (j := 1) rfl), ?_⟩
        rw [eD]
        exact pr (q5.keep tk) g0 g0 B10 kG
      · refine ⟨zl, _, _, _, rfl, rfl, SqL.of el10, (atI_nat (j := 2) rfl), ?_⟩
        rw [eD]
        exact pr (q7.keep tk) g0 gR4 B10 kG
      · refine ⟨zl, _, _, _, rfl, rfl, SqL.of el10, (atI_nat (j := 3) rfl), ?_⟩
        rw [eD]
        exact pr (q8.keep tk) gW4 gN B10 kG
    refine seq_rest (fun σ1 G => σ1 = [some (.ref b), some wv, some rv, some (.int form), some (.ref l3), none, none, none, none, none, none, none, none, none] ∧ Same H9 G ∧ formD W R = true ∧ itemsD W ≠ []) ?_ (fun rest => ?_)
    rotate_left
    · refine ⟨_, rfl, _, rfl, W, R, wv, rv, rfl, hw9, hr9, LW, LR, fun H2 s2 => ⟨_, rfl, ?_⟩⟩
      cases hf : formD W R
      · exact iteT (four rfl rfl rfl rfl s2)
      refine iteF ?_
      obtain ⟨ds, es, eW, eR⟩ := formD_tups hf
      refine ⟨_, rfl, (by show 0 ≤ sizeLine; decide), fun z0 n0 => ?_⟩
      obtain ⟨w0, y0⟩ := mkT0 n0
      generalize upd H2 z0 (.tup []) = J0 at w0 y0 ⊢
      refine ⟨W, .tuple [], ((hw9.keep s2.tkept).keep y0.tkept).dp, w0.dp, gW.shaped (by omega), by decide +kernel, ?_⟩
      rw [eW, eqv_nil]
      refine ⟨_, rfl, ?_⟩
      cases ds with
      | nil => exact iteT (four rfl rfl rfl rfl (s2.trans y0))
      | cons d ds => exact iteF (rest _ _ ⟨rfl, s2.trans y0, hf, by rw [eW]; exact List.cons_ne_nil _ _⟩)
    rintro σ1 H10 ⟨rfl, s10, hf, hne⟩
    clear four
    obtain ⟨ds, es, rfl, rfl⟩ := formD_tups hf
    have hne : ds ≠ [] := hne
    have lpos : 0 < ds.length := List.length_pos_iff.mpr hne
    have dS := gW.lenS
    have eS := gR.lenS
    have wS : wtA ds + 10 ≤ S := gW.wt
    have rS : wtA es + 10 ≤ S := gR.wt
    obtain ⟨a, xs, rfl, ea, hs⟩ := (hw9.keep s10.tkept).tup
    obtain ⟨c, ys, rfl, ec, hy⟩ := (hr9.keep s10.tkept).tup
    have hxl := hs.len
    have hyl := hy.len
    have B10 := B9.same s10
    have lg : ∀ z : Int, 0 ≤ z → z ≤ 200001 → z.natAbs.log2 < 9000 := fun z h0 h1 => by
      have : z.natAbs < 2 ^ 20 := by
        have e : (2 : Nat) ^ 20 = 1048576 := by decide
        omega
      exact Nat.lt_of_lt_of_le (PySem.Flt.log2_lt_of (by decide) this) (by decide)
    try dsimp only [tNext]
    -- two of the walkers
    refine ⟨_, rfl, _, rfl, _, rfl, a, _, rfl, .inr (SqT.of ea), b, L, _, rfl, by omega, lg _ (by omega) (by omega), B10, fun d1 J1 a2 c3 B11 k11 => ?_⟩
    obtain ⟨i1, rfl⟩ : ∃ i : Nat, d1 = i := ⟨d1.toNat, by omega⟩
    have t11 := kp_tkept k11 B10
    obtain ⟨da, xa, eda, exa, va⟩ := (hs.keep t11).at_ (show i1 < ds.length by omega)
    refine ⟨a, _, _, _, rfl, rfl, SqT.of (t11 _ _ ea), atI_nat exa, _, rfl, _, rfl, _, rfl, a, _, rfl, .inr (SqT.of (t11 _ _ ea)), b, L, _, rfl, by omega, lg _ (by omega) (by omega), B11, fun d2 J2 a4 c4 B12 k12 => ?_⟩
    obtain ⟨i2, rfl⟩ : ∃ i : Nat, d2 = i := ⟨d2.toNat, by omega⟩
    have t12 := t11.trans (kp_tkept k12 B11)
    obtain ⟨db, xb, edb, exb, vb⟩ := (hs.keep t12).at_ (show i2 < ds.length by omega)
    refine ⟨a, _, _, _, rfl, rfl, SqT.of (t12 _ _ ea), atI_nat exb, _, _, rfl, ?_⟩
    try dsimp only [tNext]
    refine ⟨_, rfl, _, rfl, c, _, rfl, .inr (SqT.of (t12 _ _ ec)), _, _, rfl, rfl, b, L, _, rfl, by omega, lg _ (by omega) (by omega), B12, fun at1 J3 a5 c5 B13 k13 => ?_⟩
    obtain ⟨i3, rfl⟩ : ∃ i : Nat, at1 = i := ⟨at1.toNat, by omega⟩
    refine ⟨_, _, rfl, rfl, _, rfl, b, L, 999, rfl, by decide, by decide +kernel, B13, fun d4 J4 a6 c6 B14 k14 => ⟨_, _, rfl, rfl, _, _, rfl, ?_⟩⟩
    try dsimp only [tNext]
    -- the length
    have t14 := t12.trans ((kp_tkept k13 B12).trans (kp_tkept k14 B13))
    have K14 : Kp b L H9 J4 := (same_kp s10).trans (k11.trans (k12.trans (k13.trans k14)))
    have va14 := va.keep ((kp_tkept k12 B11).trans ((kp_tkept k13 B12).trans (kp_tkept k14 B13)))
    have vb14 := vb.keep ((kp_tkept k13 B12).trans (kp_tkept k14 B13))
    have ea14 := t14 _ _ ea
    have ec14 := t14 _ _ ec
    have hs14 := hs.keep t14
    have hy14 := hy.keep t14
    clear t11 t12 k11 k12 k13 k14 va vb ea ec hs hy B10 B11 B12 B13 hw9 hr9
    refine ⟨_, _, rfl, rfl, _, _, rfl, rfl, ⟨by decide, by decide, by decide⟩, _, rfl, (by show 6 ≤ sizeLine; decide), fun zl nz => ?_⟩
    have y1 := same_upd (o := .lst [.int 0, .int 5, .int (0 - 1), .int (10 ^ (20 : Int).toNat), .bl true, .int (0 - 2 - d4)]) (Same.refl J4) nz
    have ez : (upd J4 zl (.lst [.int 0, .int 5, .int (0 - 1), .int (10 ^ (20 : Int).toNat), .bl true, .int (0 - 2 - d4)])) zl = some (.lst [.int 0, .int 5, .int (0 - 1), .int (10 ^ (20 : Int).toNat), .bl true, .int (0 - 2 - d4)]) := upd_same
    generalize upd J4 zl (.lst [.int 0, .int 5, .int (0 - 1), .int (10 ^ (20 : Int).toNat), .bl true, .int (0 - 2 - d4)]) = J5 at y1 ez ⊢
    obtain ⟨zb, zL⟩ := B14.apart nz
    refine ⟨_, rfl, b, L, 6, rfl, by decide, by decide +kernel, B14.same y1, fun d5 J6 a7 c7 B15 k15 => ?_⟩
    have ez6 := k15 _ _ zb zL ez
    have t15 : TupKept J4 J6 := y1.tkept.trans (kp_tkept k15 (B14.same y1))
    have K15 : Kp b L H9 J6 := K14.trans ((same_kp y1).trans k15)
    obtain ⟨x, dx, hx, vx, gx⟩ : ∃ x dx, atI [V.int 0, .int 5, .int (0 - 1), .int (10 ^ (20 : Int).toNat), .bl true, .int (0 - 2 - d4)] d5 = some x ∧ Vd J6 dx x ∧ Good dx 1 200 := by
      have g5 : ∀ e ∈ ([.int 0, .int 5, .int (0 - 1), .int (10 ^ (20 : Int).toNat), .bool true] : List PyData), Good e 1 200 := by
        have h : (([.int 0, .int 5, .int (0 - 1), .int (10 ^ (20 : Int).toNat), .bool true] : List PyData).all fun e => Ow.gd e && decide (e.depth ≤ 1) && decide (wt e ≤ 200)) = true := by decide +kernel
        intro e he
        have := List.all_eq_true.mp h e he
        simp only [Bool.and_eq_true, decide_eq_true_eq] at this
        exact ⟨this.1.1, this.1.2, this.2⟩
      have cs : d5 = 0 ∨ d5 = 1 ∨ d5 = 2 ∨ d5 = 3 ∨ d5 = 4 ∨ d5 = 5 := by omega
      rcases cs with rfl | rfl | rfl | rfl | rfl | rfl
      · exact ⟨_, .int 0, (atI_nat (j := 0) rfl), Vd.mkInt _, g5 _ (by simp)⟩
      · exact ⟨_, .int 5, (atI_nat (j := 1) rfl), Vd.mkInt _, g5 _ (by simp)⟩
      · exact ⟨_, .int (0 - 1), (atI_nat (j := 2) rfl), Vd.mkInt _, g5 _ (by simp)⟩
      · exact ⟨_, .int (10 ^ (20 : Int).toNat), (atI_nat (j := 3) rfl), Vd.mkInt _, g5 _ (by simp)⟩
      · exact ⟨_, .bool true, (atI_nat (j := 4) rfl), Vd.mkBl _, g5 _ (by simp)⟩
      · refine ⟨_, .int (0 - 2 - d4), (atI_nat (j := 5) rfl), Vd.mkInt _, ?_, Nat.zero_le _, Nat.le_refl _⟩
        show decide ((0 - 2 - d4).natAbs.log2 < 100) = true
        rw [decide_eq_true_eq]
        have : (0 - 2 - d4).natAbs < 2 ^ 20 := by
          have e : (2 : Nat) ^ 20 = 1048576 := by decide
          omega
        exact Nat.lt_of_lt_of_le (PySem.Flt.log2_lt_of (by decide) this) (by decide)
    refine ⟨zl, _, _, _, rfl, rfl, SqL.of ez6, hx, ?_⟩
    try dsimp only [tNext]
    have va6 := va14.keep t15
    have vb6 := vb14.keep t15
    have ea6 := t15 _ _ ea14
    have ec6 := t15 _ _ ec14
    have hs6 := hs14.keep t15
    have hy6 := hy14.keep t15
    have hW6 : Vd J6 (.tuple ds) (.ref a) := Vd.ofTup ea6 hs6
    have hR6 : Vd J6 (.tuple es) (.ref c) := Vd.ofTup ec6 hy6
    clear t14 t15 K14 va14 vb14 ea14 ec14 hs14 hy14 y1 ez B14 k15 ez6 nz
    have szl : ∀ z : Nat, z ≤ 2000000 → z ≤ sizeLine := fun z hz => by
      rw [sizeLine_eq]
      omega
    have mda := List.mem_of_getElem? eda
    have mdb := List.mem_of_getElem? edb
    -- form < 6
    refine ⟨_, rfl, _, _, rfl, rfl, _, rfl, ?_⟩
    refine ite2 (fun f1 => ?_) (fun f1 => ?_)
    · refine ⟨_, rfl, _, rfl, _, rfl, _, rfl, slG_take (K := K) hR6 fun u1 G1 s1 vu1 => ?_⟩
      refine ⟨_, rfl, _, rfl, _, rfl, (by show 3 ≤ sizeLine; decide), fun r nr => ?_⟩
      have s2 := same_upd (o := .tup [xa, xb, x]) (Same.refl G1) nr
      have vr : Vd (upd G1 r (.tup [xa, xb, x])) (.tuple [da, db, dx]) (.ref r) := Vd.ofTup upd_same (VdA.cons (va6.keep (s1.trans s2).tkept) (VdA.cons (vb6.keep (s1.trans s2).tkept) (VdA.one (vx.keep (s1.trans s2).tkept))))
      generalize upd G1 r (.tup [xa, xb, x]) = G2 at s2 vr ⊢
      refine ⟨(by show 1 ≤ sizeLine; decide), fun t nt => ?_⟩
      have s3 := same_upd (o := .tup [.ref r]) (Same.refl G2) nt
      have vt : Vd (upd G2 t (.tup [.ref r])) (.tuple [.tuple [da, db, dx]]) (.ref t) := Vd.ofTup upd_same (VdA.one (vr.keep s3.tkept))
      generalize upd G2 t (.tup [.ref r]) = G3 at s3 vt ⊢
      refine catA (K := K) (vu1.keep (s2.trans s3).tkept) vt (szl _ (by rw [List.length_take]; show _ + 1 ≤ _; omega)) fun u3 G4 s4 vu3 => ?_
      refine ⟨_, rfl, _, rfl, _, rfl, ?_⟩
      dsimp only [tNoPart]
      refine slG_drop (K := K) rfl (hR6.keep (s1.trans (s2.trans (s3.trans s4))).tkept) fun u4 G5 s5 vu4 => ?_
      refine catA (K := K) (vu3.keep s5.tkept) vu4 (szl _ (by rw [List.length_append, List.length_take, List.length_drop]; show _ + 1 + _ ≤ _; omega)) fun u5 G6 s6 vu5 => ?_
      have sx := s1.trans (s2.trans (s3.trans (s4.trans (s5.trans s6))))
      refine ⟨(by show 2 ≤ sizeLine; decide), fun o no => ?_⟩
      obtain ⟨po, so⟩ := PrAt.mk2 no (hW6.keep sx.tkept) vu5
      have wd := wtA_take_drop es i3
      have wa := wtA_mem mda
      have wb := wtA_mem mdb
      have wx := gx.wt
      refine pr po gW4 (Good.mono (Good.made (n := n + 1) (S := 4 * S + 300) (fun y hy => ?_) ?_) (by omega) (by omega)) ((B15.same sx).same so) (K15.trans (same_kp (sx.trans so)))
      · rcases List.mem_append.mp hy with h | h
        · rcases List.mem_append.mp h with h | h
          · exact (gR.items y (take_mem h)).mono (by omega) (by omega)
          · simp at h
            subst h
            refine Good.mono (Good.made (n := n) (S := 4 * S + 300) (fun z hz => ?_) ?_) (Nat.le_refl _) (Nat.le_refl _)
            · rcases List.mem_cons.mp hz with rfl | hz
              · exact (gW.items _ mda).mono (by omega) (by omega)
              rcases List.mem_cons.mp hz with rfl | hz
              · exact (gW.items _ mdb).mono (by omega) (by omega)
              simp at hz
              subst hz
              exact gx.mono (by omega) (by omega)
            · show wt da + 2 + (wt db + 2 + (wt dx + 2 + 0)) + 10 ≤ _
              omega
        · exact (gR.items y (drop_mem h)).mono (by omega) (by omega)
      · rw [wtA_app, wtA_app]
        show _ + (wt da + 2 + (wt db + 2 + (wt dx + 2 + 0)) + 10 + 2 + 0) + _ + 10 ≤ _
        omega
    try dsimp only [tNext]
    -- form == 6
    refine ⟨_, rfl, rfl, _, rfl, ?_⟩
    refine ite2 (fun f2 => ?_) (fun f2 => ?_)
    · refine ⟨_, rfl, _, rfl, _, rfl, slG_take (K := K) hW6 fun u1 G1 s1 vu1 => ?_⟩
      refine ⟨_, rfl, _, rfl, _, _, rfl, rfl, _, rfl, ?_⟩
      dsimp only [tNoPart]
      refine slG_drop (K := K) (k := i3 + 1) (by omega) (hW6.keep s1.tkept) fun u2 G2 s2 vu2 => ?_
      refine catA (K := K) (vu1.keep s2.tkept) vu2 (szl _ (by rw [List.length_take, List.length_drop]; omega)) fun u3 G3 s3 vu3 => ?_
      have sx := s1.trans (s2.trans s3)
      refine ⟨_, rfl, (by show 2 ≤ sizeLine; decide), fun o no => ?_⟩
      obtain ⟨po, so⟩ := PrAt.mk2 no vu3 (hR6.keep sx.tkept)
      have w1 := wtA_sub (List.take_sublist i3 ds)
      have w2 := wtA_sub (List.drop_sublist (i3 + 1) ds)
      refine pr po (Good.mono (Good.made (n := n) (S := 3 * S) (fun y hy => ?_) ?_) (by omega) (by omega)) gR4 ((B15.same sx).same so) (K15.trans (same_kp (sx.trans so)))
      · rcases List.mem_append.mp hy with h | h
        · exact (gW.items y (take_mem h)).mono (by omega) (by omega)
        · exact (gW.items y (drop_mem h)).mono (by omega) (by omega)
      · rw [wtA_app]
        omega
    try dsimp only [tNext]
    -- walkers more
    refine ⟨_, rfl, _, rfl, fun D hD => ?_⟩
    have hsz : ("abcdefg" : Str).cps.size = 7 := by decide +kernel
    have hall : ("abcdefg" : Str).cps.all (· < 0x110000) = true := by decide +kernel
    refine lc_it (walk_str (z := "abcdefg")) (fun t G => Same J6 G ∧ ∃ acc fs, G D = some (.lst acc) ∧ VdA G fs acc ∧ fs.length ≤ t ∧ ∀ d ∈ fs, Good d 0 60) ⟨same_upd (Same.refl _) hD, [], [], upd_same, VdA.nil, Nat.le_refl _, fun d h => by cases h⟩ (fun _ _ _ _ => True.intro) ?_ ?_
    · rintro i x G G' hi ⟨sG, acc, fs, eacc, vacc, fl, fg⟩ ⟨rfl, ch, ech, rfl⟩
      have hch : ch ∈ ("abcdefg" : Str).cps := Array.mem_of_getElem? ech
      have h1 := Array.all_eq_true'.mp hall ch hch
      have h2 : PyData.strOk (⟨#[ch]⟩ : Str) = true := by
        show (#[ch]).all (· < 0x110000) = true
        simpa using h1
      have h3 : (⟨#[ch]⟩ : Str).length = 1 := rfl
      have h4 : ("z" : Str).length = 1 := by decide +kernel
      refine ⟨rfl, _, rfl, _, _, rfl, rfl, by rw [h3, h4, sizeLine_eq]; omega, acc, eacc, ?_, same_upd sG hD, acc ++ [.str ("z" ++ ⟨#[ch]⟩)], fs ++ [.str ("z" ++ ⟨#[ch]⟩)], upd_same, ?_, ?_, ?_⟩
      · rw [vacc.len, sizeLine_eq]
        omega
      · exact (vacc.app (VdA.one (Vd.mkStr _))).keep (tkept_lst eacc)
      · rw [List.length_append]
        show fs.length + 1 ≤ i + 1
        omega
      · intro d hd
        rcases List.mem_append.mp hd with h | h
        · exact fg d h
        · simp at h
          subst h
          exact (Good.ofStr (strOk_app (by decide +kernel) h2)).mono (Nat.le_refl _) (by rw [Str.length_append, h3, h4]; omega)
    · rintro G1 ⟨sG, acc, fs, eacc, vacc, fl, fg⟩
      rw [hsz] at fl
      refine ⟨D, _, rfl, .inl ⟨SqL.of eacc, fun q nq => ?_⟩⟩
      have s1 := same_upd (o := .tup acc) (Same.refl G1) nq
      have vq : Vd (upd G1 q (.tup acc)) (.tuple fs) (.ref q) := Vd.ofTup upd_same (vacc.keep s1.tkept)
      generalize upd G1 q (.tup acc) = G2 at s1 vq ⊢
      have S2 := sG.trans s1
      refine ⟨_, rfl, b, L, 7, rfl, by decide, by decide +kernel, B15.same S2, fun d6 G3 a8 c8 B16 k16 => ?_⟩
      have t16 := kp_tkept k16 (B15.same S2)
      refine ⟨_, _, rfl, rfl, _, rfl, ?_⟩
      refine slG_takeE (K := K) (k := (1 + d6).toNat) (by omega) (vq.keep t16) fun u1 G4 s4 vu1 => ?_
      have wt1 : wtA (fs.take (1 + d6).toNat) ≤ 7 * 62 := by
        have h1 := wtA_sub (List.take_sublist (1 + d6).toNat fs)
        have h2 : ∀ gs : List PyData, (∀ d ∈ gs, Good d 0 60) → wtA gs ≤ gs.length * 62 := by
          intro gs
          induction gs with
          | nil => intro _; simp [wtA]
          | cons g gs ih =>
            intro h
            have := ih fun d hd => h d (List.mem_cons_of_mem _ hd)
            have := (h g List.mem_cons_self).wt
            rw [wtA_cons, List.length_cons]
            omega
        have := h2 fs fg
        omega
      have hW7 := ((hW6.keep S2.tkept).keep t16).keep s4.tkept
      have hR7 := ((hR6.keep S2.tkept).keep t16).keep s4.tkept
      refine catA (K := K) hW7 vu1 (szl _ (by rw [List.length_take]; omega)) fun u2 G5 s5 vu2 => ?_
      refine ⟨_, rfl, (by show 2 ≤ sizeLine; decide), fun o no => ?_⟩
      obtain ⟨po, so⟩ := PrAt.mk2 no vu2 (hR7.keep s5.tkept)
      refine pr po (Good.mono (Good.made (n := n) (S := S + 500) (fun y hy => ?_) ?_) (by omega) (by omega)) gR4 (((B16.same s4).same s5).same so) (K15.trans ((same_kp S2).trans (k16.trans (same_kp (s4.trans (s5.trans so))))))
      · rcases List.mem_append.mp hy with h | h
        · exact (gW.items y h).mono (by omega) (by omega)
        · exact (fg y (take_mem h)).mono (by omega) (by omega)
      · rw [wtA_app]
        omega
end
end Tg

namespace Tg
open PySem PySem.Spec PyProof.Rows L2 Ow
abbrev lLaw : Stmt := top 52
def spLaw (K : PySem.W.Frag) : Sp := fun vs H Q _ => ∃ (a : Addr) (ns : List Int), vs = [.ref a] ∧ SqL K H a (ns.map V.int) ∧ ns.length ≤ 63 ∧ ∀ H', Q (.bl true) H'
abbrev lawN : List Str := ["_law_script", "_law_base", "_law_box_here", "_law_good", "_law_turn", "_law_bent_here", "_law_more", "_law_walkers", "_law_ropes", "_law_due_here"]
theorem scLaw : FnScope lawN ["_law_script"] (defScope lLaw) := ⟨rfl, rfl, rfl, by decide +kernel, rfl, by decide +kernel, by decide +kernel⟩
structure Cs (P : Program) (w : World) (K : PySem.W.Frag) (mg : Str → Option Value) (base : Heap) : Prop where
  T : TxtP mg
  b_repr : mg "repr" = none
  cBox : Cal P w K mg base 1 "_law_box" ["_law_script", "_law_base"] (spBox K)
  cTake : Cal P w K mg base 1 "_law_take" ["_law_box_here", "_law_many"] spTake
  cWeb : Cal P w K mg base 4 "_law_web" ["_law_box_here", "_law_most"] spWeb
  cDue : Cal P w K mg base 3 "_law_due" ["_law_walkers", "_law_ropes"] spLDue
  cTold : Cal P w K mg base 6 "_law_told" ["_law_walkers", "_law_ropes"] spLTold
  cBent : Cal P w K mg base 6 "_law_bent" lbP spBent
/-! ### what is told -/
def toldD (W R : PyData) : PyData := match dueD W R with
  | none => .list [W, R, .int ((itemsD W).length : Nat)]
  | some (wd, i) => .tuple [.str wd, .int i]
structure Show (d : PyData) : Prop where
  sh : d.showable = true
  nd : d.hasDict = false
  dp : d.depth ≤ 64
  sz : d.shown.length ≤ sizeLine
theorem showA {ds : List PyData} {n S : Nat} (h : ∀ d ∈ ds, Good d n S) (hn : n < 64) (hw : wtA ds ≤ 10000000) : Show (.list ds) ∧ Show (.tuple ds) := by
  obtain ⟨a1, a2, a3, a4⟩ := gdA_show (gdA_iff.mpr fun d hd => (h d hd).gd)
  have y := depthA_le fun d hd => (h d hd).dp
  refine ⟨⟨a1, a2, ?_, ?_⟩, ⟨a1, a2, ?_, ?_⟩⟩
  · show PyData.depthAll ds + 1 ≤ 64
    omega
  · show (listText (PyData.shownAll ds)).length ≤ sizeLine
    have z := listText_len_le (PyData.shownAll ds)
    rw [sizeLine_eq]
    omega
  · show PyData.depthAll ds + 1 ≤ 64
    omega
  · show (tupleText (PyData.shownAll ds)).length ≤ sizeLine
    have z := tupleText_len_le (PyData.shownAll ds)
    rw [sizeLine_eq]
    omega
theorem goodNat {i : Int} (h0 : 0 ≤ i) (h1 : i < 1000000000) : Good (.int i) 0 200 := by
  refine ⟨?_, Nat.zero_le _, Nat.le_refl _⟩
  show decide (i.natAbs.log2 < 100) = true
  rw [decide_eq_true_eq]
  have : i.natAbs < 2 ^ 30 := by
    have e : (2 : Nat) ^ 30 = 1073741824 := by decide
    omega
  exact Nat.lt_of_lt_of_le (PySem.Flt.log2_lt_of (by decide) this) (by decide)
theorem items_len {d : PyData} (h : Lim d) : (itemsD d).length ≤ 2000000 := by
  cases d <;> first | exact Nat.zero_le _ | skip
  exact h.len
theorem goodW (x : Str) (h : PyData.strOk x = true ∧ x.length ≤ 6) : Good (.str x) 0 100 := ⟨h.1, Nat.le_refl _, by show 10 * x.length + 10 ≤ 100; omega⟩
theorem find_lt {p : Nat → Bool} {n i : Nat} (h : (List.range n).find? p = some i) : i < n := List.mem_range.mp (List.mem_of_find?_eq_some h)
theorem due_fit {W R : PyData} {wd : Str} {i : Int} (lw : Lim W) (lr : Lim R) (h : dueD W R = some (wd, i)) : Good (.str wd) 0 100 ∧ Good (.int i) 0 200 := by
  unfold dueD at h
  have a1 := items_len lw
  have a2 := items_len lr
  have b1 : (strsOf W).length = (itemsD W).length := List.length_map ..
  have b2 : (ropsOf R).length = (itemsD R).length := List.length_map ..
  split at h
  · split at h
    · split at h
      · rename_i j hj
        have := find_lt hj
        cases h
        exact ⟨goodW _ (by decide +kernel), goodNat (by omega) (by omega)⟩
      · split at h
        · rename_i j hj
          have := find_lt hj
          cases h
          exact ⟨goodW _ (by decide +kernel), goodNat (by omega) (by omega)⟩
        · cases h
    · cases h
      exact ⟨goodW _ (by decide +kernel), goodNat (by omega) (by omega)⟩
  · cases h
    exact ⟨goodW _ (by decide +kernel), goodNat (by omega) (by omega)⟩
theorem told_show {W R : PyData} {n S : Nat} (gW : Good W n S) (gR : Good R n S) (hn : n < 64) (hS : S ≤ 4000000) : Show (toldD W R) := by
  have lw : Lim W := Nat.le_trans gW.wt hS
  have lr : Lim R := Nat.le_trans gR.wt hS
  unfold toldD
  have w1 := gW.wt
  have w2 := gR.wt
  have a1 := items_len lw
  cases h : dueD W R with
  | none =>
    refine (showA (n := n) (S := S + 200) (fun d hd => ?_) hn ?_).1
    · rcases List.mem_cons.mp hd with rfl | hd
      · exact gW.mono (Nat.le_refl _) (by omega)
      rcases List.mem_cons.mp hd with rfl | hd
      · exact gR.mono (Nat.le_refl _) (by omega)
      simp at hd
      subst hd
      exact (goodNat (by omega) (by omega)).mono (Nat.zero_le _) (by omega)
    · show wt W + 2 + (wt R + 2 + (200 + 2 + 0)) ≤ _
      omega
  | some p =>
    obtain ⟨wd, i⟩ := p
    obtain ⟨g1, g2⟩ := due_fit lw lr h
    refine (showA (n := 0) (S := 200) (fun d hd => ?_) (by decide) ?_).2
    · rcases List.mem_cons.mp hd with rfl | hd
      · exact g1.mono (Nat.le_refl _) (by omega)
      simp at hd
      subst hd
      exact g2
    · have := g1.wt
      show wt (.str wd) + 2 + (200 + 2 + 0) ≤ _
      omega
/-! ### the drawn web -/
theorem nm_okS {n : List Nat} (h : isNm n = true) : PyData.strOk (sL n) = true := by
  unfold isNm at h
  simp only [Bool.and_eq_true] at h
  have h2 := List.all_eq_true.mp h.2
  show (Array.all _ _) = true
  rw [Array.all_eq_true']
  intro c hc
  have hc2 : c ∈ n := by simpa [sL] using hc
  have h3 := h2 c hc2
  simp at h3
  have : c < 1114112 := by omega
  simpa using this
theorem nm_good {n : List Nat} (h : isNm n = true) : Good (.str (sL n)) 0 70 := by
  have h0 := h
  unfold isNm at h0
  simp only [Bool.and_eq_true, decide_eq_true_eq] at h0
  have e : (sL n).length = n.length := by simp [sL, Str.length]
  exact ⟨nm_okS h, Nat.le_refl _, by show 10 * (sL n).length + 10 ≤ 70; omega⟩
def rpDt (r : Rp) : PyData := .tuple [.str (sL r.2.1), .str (sL r.2.2.1), .int r.2.2.2]
def webW (ws : List (List Nat)) : PyData := .tuple (ws.map fun n => .str (sL n))
def webR (rs : List Rp) : PyData := .tuple (rs.map rpDt)
theorem vdA_map {α : Type} {H : Hp} {f : α → V} {g : α → PyData} : ∀ {l : List α}, (∀ x ∈ l, Vd H (g x) (f x)) → VdA H (l.map g) (l.map f)
  | [], _ => VdA.nil
  | x :: l, h => VdA.cons (h x List.mem_cons_self) (vdA_map fun y hy => h y (List.mem_cons_of_mem _ hy))
theorem wtA_le {S : Nat} : ∀ {ds : List PyData}, (∀ d ∈ ds, wt d ≤ S) → wtA ds ≤ ds.length * (S + 2)
  | [], _ => Nat.zero_le _
  | d :: ds, h => by
    have h1 := h d List.mem_cons_self
    have h2 := wtA_le fun e he => h e (List.mem_cons_of_mem _ he)
    rw [wtA_cons, List.length_cons, Nat.add_mul]
    omega
theorem web_pr {H : Hp} {p : Addr} {ws : List (List Nat)} {rs : List Rp} (h : WebAt H p 6 ws rs) : PrAt H p (webW ws) (webR rs) ∧ Good (webW ws) 2 5000 ∧ Good (webR rs) 2 5000 := by
  obtain ⟨⟨pw, pr, e, ew, er⟩, nm, n1, n2, rn, rp⟩ := h
  have gn : ∀ n ∈ ws, Good (.str (sL n)) 0 70 := fun n hn => nm_good (nm.ok n hn)
  refine ⟨⟨⟨_, _, e, Vd.ofTup ew (vdA_map fun n _ => Vd.mkStr _), Vd.ofTup er (vdA_map fun r hr => ?_)⟩⟩, ?_, ?_⟩
  · exact Vd.ofTup (rp r hr).at_ (VdA.cons (Vd.mkStr _) (VdA.cons (Vd.mkStr _) (VdA.one (Vd.mkInt _))))
  · refine Good.made (n := 1) (fun d hd => ?_) ?_
    · obtain ⟨n, hn, rfl⟩ := List.mem_map.mp hd
      exact (gn n hn).mono (by omega) (by omega)
    · have : wtA (ws.map fun n => PyData.str (sL n)) ≤ (ws.map fun n => PyData.str (sL n)).length * (70 + 2) := wtA_le fun d hd => by
        obtain ⟨n, hn, rfl⟩ := List.mem_map.mp hd
        exact (gn n hn).wt
      rw [List.length_map] at this
      omega
  · have gr : ∀ r ∈ rs, Good (rpDt r) 1 360 := fun r hr => by
      obtain ⟨i, j, hi, hj, _, e1, e2⟩ := (rp r hr).two
      have m : ∀ k, k < ws.length → ws.getD k [] ∈ ws := fun k hk => by
        rw [List.getD_eq_getElem?_getD, List.getElem?_eq_getElem hk]
        exact List.getElem_mem hk
      have g1 := gn _ (m i hi)
      have g2 := gn _ (m j hj)
      rw [← e1] at g1
      rw [← e2] at g2
      have l0 := (rp r hr).l0
      have l1 := (rp r hr).l1
      refine Good.made (n := 0) (fun d hd => ?_) ?_
      · rcases List.mem_cons.mp hd with rfl | hd
        · exact g1.mono (Nat.le_refl _) (by omega)
        rcases List.mem_cons.mp hd with rfl | hd
        · exact g2.mono (Nat.le_refl _) (by omega)
        simp at hd
        subst hd
        exact (goodNat l0 (by omega)).mono (Nat.le_refl _) (by omega)
      · have w1 := g1.wt
        have w2 := g2.wt
        show wt (.str (sL r.2.1)) + 2 + (wt (.str (sL r.2.2.1)) + 2 + (200 + 2 + 0)) + 10 ≤ _
        omega
    refine Good.made (n := 1) (fun d hd => ?_) ?_
    · obtain ⟨r, hr, rfl⟩ := List.mem_map.mp hd
      exact (gr r hr).mono (by omega) (by omega)
    · have : wtA (rs.map rpDt) ≤ (rs.map rpDt).length * (360 + 2) := wtA_le fun d hd => by
        obtain ⟨r, hr, rfl⟩ := List.mem_map.mp hd
        exact (gr r hr).wt
      rw [List.length_map] at this
      omega
/-- depth and bulk after i changes -/
def lvl : Nat → Nat × Nat
  | 0 => (2, 5000)
  | i + 1 => (2 * (lvl i).1 + 4, 7 * (lvl i).2 + 500)
theorem lvl_ok {i : Nat} (h : i < 3) : 2 ≤ (lvl i).1 ∧ (lvl i).1 ≤ 20 ∧ (lvl i).2 ≤ 400000 := by
  match i, h with
  | 0, _ => decide
  | 1, _ => decide
  | 2, _ => decide
theorem lvl_top {i : Nat} (h : i ≤ 3) : (lvl i).1 ≤ 44 ∧ (lvl i).2 ≤ 1743500 := by
  match i, h with
  | 0, _ => decide
  | 1, _ => decide
  | 2, _ => decide
  | 3, _ => decide
end Tg

namespace Tg
open PySem PySem.Spec PyProof.Rows L2 Ow
section
variable {P : Program} {w : World} {K : PySem.W.Frag} {mg : Str → Option Value} {base : Heap}
theorem iteFx {c : Bool} {A B : Prop} (h : c = false) (b : B) : if c = true then A else B := by
  rw [h]
  exact iteF b
theorem ok_law {f : Addr} {fd : FuncData} (F : Fun K "law" "law" lLaw f fd) (c : Cs P w K mg base) : FnOkG P w K mg base CX0 7 f fd ["_law_script"] (spLaw K) := by
  refine okG F scLaw (fun vs H Q E h => ?_) (fun cdv A outer s H vs Q E hg hr h => ?_)
  · obtain ⟨a, ns, rfl, _⟩ := h
    rfl
  · obtain ⟨a, ns, rfl, hS, hlen, k⟩ := h
    obtain ⟨T, b_repr, cBox, cTake, cWeb, cDue, cTold, cBent⟩ := c
    have nd := scLaw.nd
    refine ⟨_, (pss_cons (ps_for PassesOwn.never rfl (pi_range1 (by rfl) T.b_range (pa_cons pe_int pa_nil)) (pg_name (i := 1) nd rfl (.inl rfl))
        (pss_cons (ps_set (i := 2) nd rfl (.inl rfl) (pe_cal cBox (hr.mono (by decide)) (by rfl) (pa_cons (pv 0) (pa_cons (pv 1) pa_nil))))
          (pss_cons (ps_set (i := 3) nd rfl (.inl rfl) (pe_cal cWeb (hr.mono (by decide)) (by rfl) (pa_cons (pv 2) (pa_cons pe_int pa_nil))))
          (pss_one (ps_for PassesOwn.never rfl (pi_range1 (by rfl) T.b_range (pa_cons pe_int pa_nil)) (pg_name (i := 4) nd rfl (.inl rfl))
            (pss_cons (ps_set (i := 5) nd rfl (.inl rfl) (pv 3))
              (pss_cons (ps_for PassesOwn.never rfl (pi_range1 (by rfl) T.b_range (pa_cons (pe_cal cTake (hr.mono (by decide)) (by rfl) (pa_cons (pv 2) (pa_cons pe_int pa_nil))) pa_nil)) (pg_name (i := 6) nd rfl (.inl rfl))
                (pss_one (ps_set (i := 5) nd rfl (.inl rfl) (pe_cal cBent (hr.mono (by decide)) (by rfl) (pa_cons (pv 2) (pa_cons (pe_ix ix_tup (pv 5) pe_int (fun _ _ => rfl)) (pa_cons (pe_ix ix_tup (pv 5) pe_int (fun _ _ => rfl)) pa_nil)))))))
              (pss_one (ps_for PassesOwn.never rfl (pi_tup (pe_tup (pa_cons (pv 5) (pa_cons (pv 3) (pa_cons (pv 5) pa_nil))))) (pg_tup (by rfl) (pgs_cons (pg_name (i := 7) nd rfl (.inl rfl)) (pgs_cons (pg_name (i := 8) nd rfl (.inl rfl)) pgs_nil)))
                (pss_cons (ps_set (i := 9) nd rfl (.inl rfl) (pe_cal cDue (hr.mono (by decide)) (by rfl) (pa_cons (pv 7) (pa_cons (pv 8) pa_nil))))
                  (pss_cons (ps_if (pt_cmpR op_isN (pv 9) pe_non (nomark _))
                    (pss_one (ps_set (i := 9) nd rfl (.inl rfl) (pe_lst (pa_cons (pv 7) (pa_cons (pv 8) (pa_cons (pe_callB call_len_seq (by rfl) T.b_len PySem.boot_len (pa_cons (pv 7) pa_nil)) pa_nil))))))
                    pss_nil)
                  (pss_one (ps_if (pt_cmpR op_ne (pe_callB (call_reprD hg hr) (by rfl) b_repr (by decide +kernel) (pa_cons (pe_cal cTold (hr.mono (by decide)) (by rfl) (pa_cons (pv 7) (pa_cons (pv 8) pa_nil))) pa_nil)) (pe_callB (call_reprD hg hr) (by rfl) b_repr (by decide +kernel) (pa_cons (pv 9) pa_nil)) (nomark _))
                    (pss_one (ps_ret pe_bl))
                    pss_nil)))))))))))))
      (pss_one (ps_ret pe_bl))), ?_⟩
    refine ⟨_, rfl, (by decide), (by decide), for_range (n := 3) (fun i σ H1 => ∃ v1 v2 v3 v4 v5 v6 v7 v8 v9 : Option V, σ = [some (.ref a), v1, v2, v3, v4, v5, v6, v7, v8, v9] ∧ Same H H1)
      ⟨_, _, _, _, _, _, _, _, _, rfl, Same.refl H⟩ ?_ ?_⟩
    · rintro i σ H1 hi ⟨v1, v2, v3, v4, v5, v6, v7, v8, v9, rfl, s1⟩
      refine ⟨_, rfl, _, rfl, a, ns, _, rfl, s1.seq hS, hlen, by omega, by omega, fun b Lb H2 nb nL s2 B2 => ?_⟩
      have s02 : Same H H2 := s1.trans s2
      have nb0 := s1.free nb
      have nL0 := s1.free nL
      try dsimp only [tNext]
      refine ⟨_, rfl, b, Lb, 6, rfl, by decide, by decide, B2, fun p ws rs H3 np wa B3 k3 => ?_⟩
      obtain ⟨pA, gW, gR⟩ := web_pr wa
      have s3 : Same H H3 := s02.kp nb0 nL0 k3
      clear s02 s2 s1 k3 wa np B2
      generalize webW ws = W at pA gW
      generalize webR rs = R at pA gR
      try dsimp only [tNext]
      refine ⟨_, rfl, (by decide), (by decide), for_range (n := 7) (fun i2 σ G => ∃ v4 v5 v6 v7 v8 v9 : Option V, σ = [some (.ref a), some (.int (0 + i)), some (.ref b), some (.ref p), v4, v5, v6, v7, v8, v9] ∧ PrAt G p W R ∧ Box b Lb G ∧ Same H G)
        ⟨_, _, _, _, _, _, rfl, pA, B3, s3⟩ ?_ ?_⟩
      · rintro i2 σ G hi2 ⟨v4, v5, v6, v7, v8, v9, rfl, pG, BG, sG⟩
        refine ⟨_, rfl, ?_⟩
        try dsimp only [tNext]
        refine ⟨_, rfl, b, Lb, 4, rfl, by decide, by decide +kernel, BG, fun d H4 a4 c4 B4 k4 => ?_⟩
        have sH4 := sG.kp nb0 nL0 k4
        have p4 := pG.keep (kp_tkept k4 BG)
        refine ⟨_, rfl, by omega, by omega, ?_⟩
        refine for_range (n := d.toNat) (fun i3 σ G => ∃ (q : Addr) (W' R' : PyData) (u6 u7 u8 u9 : Option V), σ = [some (.ref a), some (.int (0 + i)), some (.ref b), some (.ref p), some (.int (0 + i2)), some (.ref q), u6, u7, u8, u9] ∧ PrAt G q W' R' ∧ Good W' (lvl i3).1 (lvl i3).2 ∧ Good R' (lvl i3).1 (lvl i3).2 ∧ PrAt G p W R ∧ Box b Lb G ∧ Same H G)
          ⟨p, W, R, _, _, _, _, rfl, p4, gW, gR, p4, B4, sH4⟩ ?_ ?_
        · rintro i3 σ G hi3 ⟨q, W', R', u6, u7, u8, u9, rfl, pq, g1, g2, pG, BG, sG⟩
          obtain ⟨⟨wv, rv, e, hw, hv⟩⟩ := pq
          have h3 : i3 < 3 := by omega
          obtain ⟨l1, l2, l3⟩ := lvl_ok h3
          refine ⟨_, rfl, _, rfl, q, _, _, _, rfl, rfl, SqT.of e, (atI_nat (j := 0) rfl), _, rfl, q, _, _, _, rfl, rfl, SqT.of e, (atI_nat (j := 1) rfl), b, Lb, W', R', wv, rv, (lvl i3).1, (lvl i3).2, rfl, BG, hw, hv, g1, g2, l1, l2, l3, fun q2 W2 R2 wv2 rv2 G2 e2 hw2 hr2 g3 g4 B2 k2 => ?_⟩
          exact ⟨q2, W2, R2, _, _, _, _, rfl, ⟨⟨wv2, rv2, e2, hw2, hr2⟩⟩, g3, g4, pG.keep (kp_tkept k2 BG), B2, sG.kp nb0 nL0 k2⟩
        rintro σ H5 ⟨q, W', R', u6, u7, u8, u9, rfl, pq, g1, g2, pG, BG, sG⟩
        obtain ⟨l1, l2⟩ := lvl_top (i := d.toNat) (by omega)
        have g1 := g1.mono l1 l2
        have g2 := g2.mono l1 l2
        try dsimp only [tNext]
        refine ⟨_, rfl, _, rfl, _, rfl, (by show 3 ≤ sizeLine; decide), fun tp ntp => ⟨tp, rfl, ⟨_, SqT.of upd_same⟩, ?_⟩⟩
        have s6 : Same H5 (upd H5 tp (.tup [.ref q, .ref p, .ref q])) := same_upd (Same.refl _) ntp
        have etp : (upd H5 tp (.tup [.ref q, .ref p, .ref q])) tp = some (.tup [.ref q, .ref p, .ref q]) := upd_same
        generalize upd H5 tp (.tup [.ref q, .ref p, .ref q]) = H6 at s6 etp ⊢
        have pq6 := pq.keep s6.tkept
        have pp6 := pG.keep s6.tkept
        have BG6 := BG.same s6
        have sG6 := sG.trans s6
        refine for_tup (K := K) (a := tp) (xs := [.ref q, .ref p, .ref q]) (fun _ σ G => ∃ v7 v8 v9 : Option V, σ = [some (.ref a), some (.int (0 + i)), some (.ref b), some (.ref p), some (.int (0 + i2)), some (.ref q), u6, v7, v8, v9] ∧ Same H6 G)
          ⟨_, _, _, rfl, Same.refl _⟩ (fun _ σ G _ ⟨_, _, _, _, s⟩ => SqT.of (s _ _ etp)) ?_ ?_
        · rintro j v σ G hj ⟨v7, v8, v9, rfl, sx⟩
          obtain ⟨r, X, Y, rfl, pr, gX, gY⟩ : ∃ (r : Addr) (X Y : PyData), v = .ref r ∧ PrAt G r X Y ∧ Good X 44 1743500 ∧ Good Y 44 1743500 := by
            have hq : ∃ (r : Addr) (X Y : PyData), V.ref q = .ref r ∧ PrAt G r X Y ∧ Ow.Good X 44 1743500 ∧ Ow.Good Y 44 1743500 := ⟨q, W', R', rfl, pq6.keep sx.tkept, g1, g2⟩
            match j, hj with
            | 0, hj => cases hj; exact hq
            | 1, hj => cases hj; exact ⟨p, W, R, rfl, pp6.keep sx.tkept, gW.mono (by decide) (by decide), gR.mono (by decide) (by decide)⟩
            | 2, hj => cases hj; exact hq
            | j + 3, hj => simp at hj
          obtain ⟨⟨wv, rv, er, hw, hv⟩⟩ := pr
          have LX : Lim X := Nat.le_trans gX.wt (by decide)
          have LY : Lim Y := Nat.le_trans gY.wt (by decide)
          have shw := told_show gX gY (by decide) (by decide)
          refine ⟨r, _, rfl, SqT.of er, rfl, _, _, rfl, _, _, rfl, rfl, ?_⟩
          try dsimp only
          have fin : ∀ {σ : L2.St} {G2 : Hp} {D : Ends} {l : Addr}, σ[7]? = some (some wv) → σ[8]? = some (some rv) → σ[9]? = some (some (.ref l)) → Same G G2 → (∀ G3, Same G2 G3 → Dp K G3 (.ref l) (toldD X Y)) → (∀ G3, Same G G3 → D.nx σ G3) →
              tIfS (tTest (tOp rNe (tCB (rReprD K) (tCons (tCall spLTold [] E0 (tCons (tVar 7) (tCons (tVar 8) tNil))) tNil)) (tCB (rReprD K) (tCons (tVar 9) tNil)))) (tRet (tC (.bl false))) tNext D σ G2 := by
            intro σ G2 D l e7 e8 e9 sG2 dl kD
            refine ⟨_, e7, _, e8, X, Y, wv, rv, rfl, hw.keep sG2.tkept, hv.keep sG2.tkept, LX, LY, ?_, ?_⟩
            · intro hd p2 G3 n2 t2 e2
              have S3 := sG2.trans t2
              have dd : Dp K G3 (.ref p2) (toldD X Y) := by
                unfold toldD
                rw [hd]
                exact .lst (SqL.of e2) (.cons (hw.keep S3.tkept).dp (.cons (hv.keep S3.tkept).dp (.cons (.int _) .nil)))
              refine ⟨p2, _, rfl, dd, shw.sh, shw.nd, shw.dp, shw.sz, ?_⟩
              refine ⟨_, e9, l, _, rfl, dl _ t2, shw.sh, shw.nd, shw.dp, shw.sz, rfl, _, rfl, iteNS rfl ?_⟩
              exact kD _ S3
            · intro wd e hd p2 G3 n2 t2 e2
              have S3 := sG2.trans t2
              have dd : Dp K G3 (.ref p2) (toldD X Y) := by
                unfold toldD
                rw [hd]
                exact .tup (SqT.of e2) (.cons (.str _) (.cons (.int _) .nil))
              refine ⟨p2, _, rfl, dd, shw.sh, shw.nd, shw.dp, shw.sz, ?_⟩
              refine ⟨_, e9, l, _, rfl, dl _ t2, shw.sh, shw.nd, shw.dp, shw.sz, rfl, _, rfl, iteNS rfl ?_⟩
              exact kD _ S3
          -- what is due
          refine ⟨_, rfl, _, rfl, X, Y, wv, rv, rfl, hw, hv, gX.gd, LX, LY, ?_, ?_⟩
          · intro hd G1 t1
            try dsimp only [tNext]
            refine ⟨_, rfl, rfl, _, rfl, iteT ?_⟩
            obtain ⟨f1, f2⟩ := Bool.and_eq_true_iff.mp (due_form hd)
            obtain ⟨ds, rfl⟩ : ∃ ds, X = .tuple ds := ⟨_, strs_back f1⟩
            obtain ⟨xa, xs, rfl, ea, hs⟩ := (hw.keep t1.tkept).tup
            refine ⟨_, rfl, _, rfl, _, rfl, xa, _, rfl, .inr (SqT.of ea), (by show 3 ≤ sizeLine; decide), fun l nl => ?_⟩
            have s7 := same_upd (o := .lst [.ref xa, rv, .int (xs.length : Nat)]) (Same.refl G1) nl
            have el : (upd G1 l (.lst [.ref xa, rv, .int (xs.length : Nat)])) l = some (.lst [.ref xa, rv, .int (xs.length : Nat)]) := upd_same
            generalize upd G1 l (.lst [.ref xa, rv, .int (xs.length : Nat)]) = G2 at s7 el ⊢
            try dsimp only [tNext]
            refine fin rfl rfl rfl (t1.trans s7) (fun G3 s8 => ?_) (fun G3 s8 => ⟨_, _, _, rfl, sx.trans s8⟩)
            have S3 := (t1.trans s7).trans s8
            have len : xs.length = (itemsD (.tuple ds)).length := hs.len
            unfold toldD
            rw [hd, ← len]
            exact .lst (SqL.of (s8 _ _ el)) (.cons (hw.keep S3.tkept).dp (.cons (hv.keep S3.tkept).dp (.cons (.int _) .nil)))
          · intro wd e hd t G1 nt t1 et
            try dsimp only [tNext]
            refine ⟨_, rfl, rfl, _, rfl, iteFx (decide_eq_false (by intro z; cases z)) ?_⟩
            try dsimp only [tNext]
            refine fin rfl rfl rfl t1 (fun G3 s8 => ?_) (fun G3 s8 => ⟨_, _, _, rfl, sx.trans s8⟩)
            unfold toldD
            rw [hd]
            exact .tup (SqT.of (s8 _ _ et)) (.cons (.str _) (.cons (.int _) .nil))
        · rintro σ G ⟨v7, v8, v9, rfl, sx⟩
          exact ⟨_, _, _, _, _, _, rfl, pp6.keep sx.tkept, BG6.same sx, sG6.trans sx⟩
      · rintro σ G ⟨v4, v5, v6, v7, v8, v9, rfl, pG, BG, sG⟩
        exact ⟨_, _, _, _, _, _, _, _, _, rfl, sG⟩
    · rintro σ H1 ⟨v1, v2, v3, v4, v5, v6, v7, v8, v9, rfl, s1⟩
      exact k H1
end
end Tg

namespace Tg
open PySem PySem.Spec PyProof.Rows L2 Ow
theorem all_mk {P : Program} {w : World} {K : PySem.W.Frag} {h : Heap} {mg : Str → Option Value} {fa CT CN gN E1 E2 E3 E4 C f1 p2 f2 p3 f3 f4 p5 f5 f6 f7 f8 f9 f10 f11 f12 f13 f14 f15 f16 f17 f18 f19 f20 f21 f22 f23 f24 f25 f26 : Addr} {rs2 rs3 rs5 : List Value} {fd1 fd2 fd3 fd4 fd5 fd6 fd7 fd8 fd9 fd10 fd11 fd12 fd13 fd14 fd15 fd16 fd17 fd18 fd19 fd20 fd21 fd22 fd23 fd24 fd25 fd26 fdGN : FuncData} (X : K.In h) (G : h.Ns mainGlobals mg) (hfa : mg "law" = some (.ref fa))
    (aC : PySem.W.nsIn K mainGlobals "Web" = some (some (.ref C)))
    (a1 : PySem.W.findIn K (.ref C) "__init__" = some (some (.ref f1)))
    (i1 : PySem.W.isFn K (.ref f1) = true)
    (F1 : Fun K "__init__" "Web.__init__" pWI f1 fd1)
    (a2 : PySem.W.findIn K (.ref C) "walkers" = some (some (.ref p2)))
    (g2 : PySem.W.specialIn K (.ref p2) "__get__" = some (some (.builtin "property.__get__")))
    (t2 : PySem.W.takesIn K (.ref p2) = some true)
    (r2 : PySem.W.recIn K p2 "property" = some (.ref f2 :: rs2))
    (F2 : Fun K "walkers" "Web.walkers" pWW f2 fd2)
    (a3 : PySem.W.findIn K (.ref C) "ropes" = some (some (.ref p3)))
    (g3 : PySem.W.specialIn K (.ref p3) "__get__" = some (some (.builtin "property.__get__")))
    (t3 : PySem.W.takesIn K (.ref p3) = some true)
    (r3 : PySem.W.recIn K p3 "property" = some (.ref f3 :: rs3))
    (F3 : Fun K "ropes" "Web.ropes" pWR f3 fd3)
    (a4 : PySem.W.findIn K (.ref C) "__len__" = some (some (.ref f4)))
    (i4 : PySem.W.isFn K (.ref f4) = true)
    (F4 : Fun K "__len__" "Web.__len__" pWL f4 fd4)
    (a5 : PySem.W.findCls K (.ref CT) (.type "type") "is_name" = some (.get (.builtin "staticmethod.__get__") (.ref p5) .none (.ref CT)))
    (h5 : PySem.W.findIn K (.ref CT) "is_name" = some (some (.ref p5)))
    (u5 : PySem.W.typeIn K (.ref p5) = some (.type "staticmethod"))
    (g5 : PySem.W.specialIn K (.ref p5) "__get__" = some (some (.builtin "staticmethod.__get__")))
    (t5 : PySem.W.takesIn K (.ref p5) = some false)
    (r5 : PySem.W.recIn K p5 "staticmethod" = some (.ref f5 :: rs5))
    (F5 : Fun K "is_name" "Tree.is_name" pIsName f5 fd5)
    (a6 : PySem.W.nsIn K mainGlobals "is_tuple_of_strings" = some (some (.ref f6)))
    (F6 : Fun K "is_tuple_of_strings" "is_tuple_of_strings" pTuS f6 fd6)
    (a7 : PySem.W.nsIn K mainGlobals "is_rope" = some (some (.ref f7)))
    (F7 : Fun K "is_rope" "is_rope" pRope f7 fd7)
    (a8 : PySem.W.nsIn K mainGlobals "check_form_webs" = some (some (.ref f8)))
    (F8 : Fun K "check_form" "check_form" pForm f8 fd8)
    (a9 : PySem.W.nsIn K mainGlobals "check_walkers" = some (some (.ref f9)))
    (F9 : Fun K "check_walkers" "check_walkers" pWalk f9 fd9)
    (a10 : PySem.W.nsIn K mainGlobals "check_ropes" = some (some (.ref f10)))
    (F10 : Fun K "check_ropes" "check_ropes" pRopes f10 fd10)
    (a11 : PySem.W.nsIn K mainGlobals "is_less" = some (some (.ref f11)))
    (F11 : Fun K "is_less" "is_less" pLess f11 fd11)
    (a12 : PySem.W.nsIn K mainGlobals "ties_of" = some (some (.ref f12)))
    (F12 : Fun K "ties_of" "ties_of" pTies f12 fd12)
    (a13 : PySem.W.nsIn K mainGlobals "reaches_of" = some (some (.ref f13)))
    (F13 : Fun K "reaches_of" "reaches_of" pReach f13 fd13)
    (a14 : PySem.W.nsIn K mainGlobals "_law_box" = some (some (.ref f14)))
    (F14 : Fun K "_law_box" "_law_box" sBox f14 fd14)
    (a15 : PySem.W.nsIn K mainGlobals "_law_take" = some (some (.ref f15)))
    (F15 : Fun K "_law_take" "_law_take" sTake f15 fd15)
    (a16 : PySem.W.nsIn K mainGlobals "_law_mixed" = some (some (.ref f16)))
    (F16 : Fun K "_law_mixed" "_law_mixed" sMixed f16 fd16)
    (a17 : PySem.W.nsIn K mainGlobals "_law_names" = some (some (.ref f17)))
    (F17 : Fun K "_law_names" "_law_names" sNames f17 fd17)
    (a18 : PySem.W.nsIn K mainGlobals "_law_web" = some (some (.ref f18)))
    (F18 : Fun K "_law_web" "_law_web" sWeb_ f18 fd18)
    (a19 : PySem.W.nsIn K mainGlobals "_law_changed" = some (some (.ref f19)))
    (F19 : Fun K "_law_changed" "_law_changed" lChanged f19 fd19)
    (a20 : PySem.W.nsIn K mainGlobals "_law_is_rope" = some (some (.ref f20)))
    (F20 : Fun K "_law_is_rope" "_law_is_rope" lIsRope f20 fd20)
    (a21 : PySem.W.nsIn K mainGlobals "_law_has_form" = some (some (.ref f21)))
    (F21 : Fun K "_law_has_form" "_law_has_form" lForm f21 fd21)
    (a22 : PySem.W.nsIn K mainGlobals "_law_due" = some (some (.ref f22)))
    (F22 : Fun K "_law_due" "_law_due" lDue f22 fd22)
    (a23 : PySem.W.nsIn K mainGlobals "_law_told" = some (some (.ref f23)))
    (F23 : Fun K "_law_told" "_law_told" lTold f23 fd23)
    (a24 : PySem.W.nsIn K mainGlobals "_law_spaced" = some (some (.ref f24)))
    (F24 : Fun K "_law_spaced" "_law_spaced" lSpaced f24 fd24)
    (a25 : PySem.W.nsIn K mainGlobals "_law_bent" = some (some (.ref f25)))
    (F25 : Fun K "_law_bent" "_law_bent" lBent f25 fd25)
    (a26 : PySem.W.nsIn K mainGlobals "law" = some (some (.ref f26)))
    (F26 : Fun K "law" "law" lLaw f26 fd26)
    (GN : Fun K "__init__" "NoWeb.__init__" pINoWeb gN fdGN)
    (pg : PySem.W.plainGet K C Str.empty = true)
    (hd : PySem.W.hasDictIn K C = true)
    (po : PySem.W.plainOver K C = true)
    (sa : PySem.W.findIn K (.ref C) "__setattr__" = some (some (.builtin "object.__setattr__")))
    (mkC : PySem.W.makesIn K C = true)
    (keC : PySem.W.keepIn K (.ref C) = true)
    (na1 : PySem.W.findIn K (.ref C) "_walkers" = some none)
    (na2 : PySem.W.findIn K (.ref C) "_ropes" = some none)
    (na3 : PySem.W.findIn K (.ref C) "ties" = some none)
    (na4 : PySem.W.findIn K (.ref C) "reaches" = some none)
    (na5 : PySem.W.findIn K (.ref C) "_shape" = some none)
    (aT : PySem.W.nsIn K mainGlobals "Tree" = some (some (.ref CT)))
    (rdT : PySem.W.readsIn K CT (.type "type") = true)
    (gaT : PySem.W.specialIn K (.ref CT) "__getattribute__" = some (some (.builtin "type.__getattribute__")))
    (aLN : ∃ t, PySem.W.nsIn K mainGlobals "LONGEST_NAME" = some (some (.int 6 t)))
    (aMW : ∃ t, PySem.W.nsIn K mainGlobals "MOST_WALKERS" = some (some (.int 6 t)))
    (nN : PySem.W.nsIn K mainGlobals "NoWeb" = some (some (.ref CN)))
    (nO1 : PySem.W.nsIn K mainGlobals "NoGrove" = some (some (.ref E1)))
    (nO2 : PySem.W.nsIn K mainGlobals "NoMatch" = some (some (.ref E2)))
    (nO3 : PySem.W.nsIn K mainGlobals "NoText" = some (some (.ref E3)))
    (nO4 : PySem.W.nsIn K mainGlobals "NoTree" = some (some (.ref E4)))
    (kN : PySem.W.keepIn K (.ref CN) = true)
    (LN : Hh.excB K CN = true)
    (saN : PySem.W.findIn K (.ref CN) "__setattr__" = some (some (.builtin "object.__setattr__")))
    (exN : PySem.W.subIn K (.ref CN) (.type "BaseException") = some true)
    (tyN : PySem.W.typeIn K (.ref CN) = some (.type "type"))
    (gaN : PySem.W.findIn K (.ref CN) "__getattribute__" = some (some (.builtin "BaseException.__getattribute__")))
    (ggN : PySem.W.findIn K (.ref CN) "__getattr__" = some none)
    (hdN : PySem.W.hasDictIn K CN = true)
    (hcN : PySem.W.findIn K (.ref CN) "__class__" = some (some (.builtin "object.__class__")))
    (hmN : PySem.W.mroIn K CN (.type "object") = some true)
    (fNw : PySem.W.findIn K (.ref CN) "word" = some none)
    (fNa : PySem.W.findIn K (.ref CN) "at" = some none)
    (iiN : PySem.W.findIn K (.ref CN) "__init__" = some (some (.ref gN)))
    (tiN : PySem.W.typeIn K (.ref gN) = some (.type "function"))
    (hn : PySem.W.specialIn K (.builtin "object.__class__") "__get__" = some (some (.builtin "getset_descriptor.__get__")))
    (ht : PySem.W.takesIn K (.builtin "object.__class__") = some true)
    (suN : PySem.W.subIn K (.ref CN) (.ref CN) = some true)
    (kaN : PySem.W.kitAny K (.ref CN) [.ref E1, .ref E2, .ref E3, .ref E4] = some false)
    (z_isinstance : PySem.W.nsIn K mainGlobals "isinstance" = some none)
    (z_tuple : PySem.W.nsIn K mainGlobals "tuple" = some none)
    (z_str : PySem.W.nsIn K mainGlobals "str" = some none)
    (z_int : PySem.W.nsIn K mainGlobals "int" = some none)
    (z_bool : PySem.W.nsIn K mainGlobals "bool" = some none)
    (z_len : PySem.W.nsIn K mainGlobals "len" = some none)
    (z_all : PySem.W.nsIn K mainGlobals "all" = some none)
    (z_enumerate : PySem.W.nsIn K mainGlobals "enumerate" = some none)
    (z_list : PySem.W.nsIn K mainGlobals "list" = some none)
    (z_range : PySem.W.nsIn K mainGlobals "range" = some none)
    (z_abs : PySem.W.nsIn K mainGlobals "abs" = some none)
    (z_min : PySem.W.nsIn K mainGlobals "min" = some none)
    (z_repr : PySem.W.nsIn K mainGlobals "repr" = some none) :
    ∃ fd : FuncData, (∀ (s : Shared) (v : Value), BindsTo s fd ⟨[v], []⟩ [("_law_script", v)]) ∧ ∀ base : Heap, K.In base → base.Ns mainGlobals mg → FnOkG P w K mg base CX0 7 fa fd ["_law_script"] (spLaw K) := by
  have e := hfa.symm.trans (PySem.W.mg_of X G a26)
  cases e
  have k1 := F1.kp
  have b1 := F1.binds (ps := ["self", "walkers", "ropes"]) fun _ _ _ _ _ _ us hl => match us, hl with | [_, _, _], _ => rfl
  have k2 := F2.kp
  have b2 := F2.binds (ps := ["self"]) fun _ _ _ _ _ _ us hl => match us, hl with | [_], _ => rfl
  have k3 := F3.kp
  have b3 := F3.binds (ps := ["self"]) fun _ _ _ _ _ _ us hl => match us, hl with | [_], _ => rfl
  have k4 := F4.kp
  have b4 := F4.binds (ps := ["self"]) fun _ _ _ _ _ _ us hl => match us, hl with | [_], _ => rfl
  have k5 := F5.kp
  have k6 := F6.kp
  have b6 := F6.binds (ps := ["value"]) fun _ _ _ _ _ _ us hl => match us, hl with | [_], _ => rfl
  have m6 := PySem.W.mg_of X G a6
  have k7 := F7.kp
  have b7 := F7.binds (ps := ["value"]) fun _ _ _ _ _ _ us hl => match us, hl with | [_], _ => rfl
  have m7 := PySem.W.mg_of X G a7
  have k8 := F8.kp
  have b8 := F8.binds (ps := ["walkers", "ropes"]) fun _ _ _ _ _ _ us hl => match us, hl with | [_, _], _ => rfl
  have m8 := PySem.W.mg_of X G a8
  have k9 := F9.kp
  have b9 := F9.binds (ps := ["walkers"]) fun _ _ _ _ _ _ us hl => match us, hl with | [_], _ => rfl
  have m9 := PySem.W.mg_of X G a9
  have k10 := F10.kp
  have b10 := F10.binds (ps := ["walkers", "ropes"]) fun _ _ _ _ _ _ us hl => match us, hl with | [_, _], _ => rfl
  have m10 := PySem.W.mg_of X G a10
  have k11 := F11.kp
  have b11 := F11.binds (ps := ["length", "other"]) fun _ _ _ _ _ _ us hl => match us, hl with | [_, _], _ => rfl
  have m11 := PySem.W.mg_of X G a11
  have k12 := F12.kp
  have b12 := F12.binds (ps := ["walkers", "ropes"]) fun _ _ _ _ _ _ us hl => match us, hl with | [_, _], _ => rfl
  have m12 := PySem.W.mg_of X G a12
  have k13 := F13.kp
  have b13 := F13.binds (ps := ["walkers", "ties"]) fun _ _ _ _ _ _ us hl => match us, hl with | [_, _], _ => rfl
  have m13 := PySem.W.mg_of X G a13
  have k14 := F14.kp
  have b14 := F14.binds (ps := ["_law_script", "_law_base"]) fun _ _ _ _ _ _ us hl => match us, hl with | [_, _], _ => rfl
  have m14 := PySem.W.mg_of X G a14
  have k15 := F15.kp
  have b15 := F15.binds (ps := ["_law_box_here", "_law_many"]) fun _ _ _ _ _ _ us hl => match us, hl with | [_, _], _ => rfl
  have m15 := PySem.W.mg_of X G a15
  have k16 := F16.kp
  have b16 := F16.binds (ps := ["_law_box_here", "_law_items"]) fun _ _ _ _ _ _ us hl => match us, hl with | [_, _], _ => rfl
  have m16 := PySem.W.mg_of X G a16
  have k17 := F17.kp
  have b17 := F17.binds (ps := ["_law_box_here", "_law_many"]) fun _ _ _ _ _ _ us hl => match us, hl with | [_, _], _ => rfl
  have m17 := PySem.W.mg_of X G a17
  have k18 := F18.kp
  have b18 := F18.binds (ps := ["_law_box_here", "_law_most"]) fun _ _ _ _ _ _ us hl => match us, hl with | [_, _], _ => rfl
  have m18 := PySem.W.mg_of X G a18
  have k19 := F19.kp
  have b19 := F19.binds (ps := ["_law_box_here", "_law_thing", "_law_deep", "_law_odd"]) fun _ _ _ _ _ _ us hl => match us, hl with | [_, _, _, _], _ => rfl
  have m19 := PySem.W.mg_of X G a19
  have k20 := F20.kp
  have b20 := F20.binds (ps := ["_law_rope"]) fun _ _ _ _ _ _ us hl => match us, hl with | [_], _ => rfl
  have m20 := PySem.W.mg_of X G a20
  have k21 := F21.kp
  have b21 := F21.binds (ps := ["_law_walkers", "_law_ropes"]) fun _ _ _ _ _ _ us hl => match us, hl with | [_, _], _ => rfl
  have m21 := PySem.W.mg_of X G a21
  have k22 := F22.kp
  have b22 := F22.binds (ps := ["_law_walkers", "_law_ropes"]) fun _ _ _ _ _ _ us hl => match us, hl with | [_, _], _ => rfl
  have m22 := PySem.W.mg_of X G a22
  have k23 := F23.kp
  have b23 := F23.binds (ps := ["_law_walkers", "_law_ropes"]) fun _ _ _ _ _ _ us hl => match us, hl with | [_, _], _ => rfl
  have m23 := PySem.W.mg_of X G a23
  have k24 := F24.kp
  have b24 := F24.binds (ps := ["_law_text"]) fun _ _ _ _ _ _ us hl => match us, hl with | [_], _ => rfl
  have m24 := PySem.W.mg_of X G a24
  have k25 := F25.kp
  have b25 := F25.binds (ps := ["_law_box_here", "_law_walkers", "_law_ropes"]) fun _ _ _ _ _ _ us hl => match us, hl with | [_, _, _], _ => rfl
  have m25 := PySem.W.mg_of X G a25
  have k26 := F26.kp
  have b26 := F26.binds (ps := ["_law_script"]) fun _ _ _ _ _ _ us hl => match us, hl with | [_], _ => rfl
  have n_isinstance := PySem.W.mg_none_of X G z_isinstance
  have n_tuple := PySem.W.mg_none_of X G z_tuple
  have n_str := PySem.W.mg_none_of X G z_str
  have n_int := PySem.W.mg_none_of X G z_int
  have n_bool := PySem.W.mg_none_of X G z_bool
  have n_len := PySem.W.mg_none_of X G z_len
  have n_all := PySem.W.mg_none_of X G z_all
  have n_enumerate := PySem.W.mg_none_of X G z_enumerate
  have n_list := PySem.W.mg_none_of X G z_list
  have n_range := PySem.W.mg_none_of X G z_range
  have n_abs := PySem.W.mg_none_of X G z_abs
  have n_min := PySem.W.mg_none_of X G z_min
  have n_repr := PySem.W.mg_none_of X G z_repr
  have TB : TxtB mg := ⟨n_abs, n_len⟩
  have TM : TxtM mg := ⟨n_list, n_range, n_len⟩
  have TN : TxtN mg := ⟨n_range, n_len, n_int, n_min⟩
  have TW : TxtW mg := ⟨n_range, n_len, n_int, n_tuple⟩
  have TP : TxtP mg := ⟨n_isinstance, n_tuple, n_str, n_int, n_bool, n_len, n_all, n_enumerate, n_list, n_range⟩
  obtain ⟨tk1, aLN⟩ := aLN
  obtain ⟨tk2, aMW⟩ := aMW
  have gLN := PySem.W.mg_of X G aLN
  have gMW := PySem.W.mg_of X G aMW
  have mN := PySem.W.mg_of X G nN
  have bgN := GN.binds (ps := ["self", "word", "at"]) fun _ _ _ _ _ _ us hl => match us, hl with | [_, _, _], _ => rfl
  have b5 := F5.binds (ps := ["value"]) fun _ _ _ _ _ _ us hl => match us, hl with | [_], _ => rfl
  have ON : OexC K CN := ⟨Hh.excB_ok LN, saN, exN, tyN, kN⟩
  have T : WebTxt K mg C := ⟨⟨pg, hd, po, sa⟩, na1, na2, na3, na4, na5⟩
  have M : Mk K C f1 := ⟨mkC, a1, i1, keC⟩
  have NN : NoC K mg CN E1 E2 E3 E4 := ⟨mN, PySem.W.exm_ref exN hdN tyN suN, ⟨gaN, ggN, exN, hdN⟩, ⟨gaN, ggN, exN, hdN, hcN, hn, ht, hmN⟩, fNw, fNa, PySem.W.mg_of X G nO1, PySem.W.mg_of X G nO2, PySem.W.mg_of X G nO3, PySem.W.mg_of X G nO4, kaN⟩
  refine ⟨fd26, fun s v => ?_, fun base _ _ => ?_⟩
  · obtain ⟨⟨oc, od, kV, doc, pm, an, cdv, ct, osl, rfl, _, _⟩, _⟩ := F26
    exact .of_eq rfl
  have RZ : Rz P w K mg base CN gN _ := ⟨ON, iiN, tiN, ok_INoWeb GN ON fNw fNa, bgN, mN⟩
  have NM : NmC P w K mg base := ⟨⟨CT, p5, f5, .type "type", ⟨rdT, gaT⟩, ⟨a5, ⟨_, r5⟩, k5⟩, ((ok_isName F5 TP gLN).raw b5 .nil).imp fun vs H Q E z => (by simpa using z), PySem.W.mg_of X G aT⟩⟩
  have cTuS : Cal P w K mg base 1 "is_tuple_of_strings" ["value"] spTuS := ⟨f6, _, ok_TuS F6 TP, m6, k6, b6⟩
  have cRope : Cal P w K mg base 1 "is_rope" ["value"] spRopeP := ⟨f7, _, ok_RopeP F7 TP, m7, k7, b7⟩
  have cF : CalX P w K mg base 3 "check_form_webs" ["walkers", "ropes"] (spChkF CN) := ⟨⟨f8, _, ok_ChkF F8 TP RZ cTuS cRope, m8, k8, b8⟩⟩
  have cW : CalX P w K mg base 3 "check_walkers" ["walkers"] (spChkW CN) := ⟨⟨f9, _, ok_ChkW F9 TP RZ NM gMW, m9, k9, b9⟩⟩
  have cR : CalX P w K mg base 3 "check_ropes" ["walkers", "ropes"] (spChkR CN) := ⟨⟨f10, _, ok_ChkR F10 TP RZ, m10, k10, b10⟩⟩
  have cLess : Cal P w K mg base 1 "is_less" ["length", "other"] spLess := ⟨f11, _, ok_Less F11, m11, k11, b11⟩
  have cT : Cal P w K mg base 2 "ties_of" ["walkers", "ropes"] spTies := ⟨f12, _, ok_Ties F12 cLess, m12, k12, b12⟩
  have cC : Cal P w K mg base 2 "reaches_of" ["walkers", "ties"] spReach := ⟨f13, _, ok_Reach F13 cLess, m13, k13, b13⟩
  have WC : WebC P w K mg base C CN := { T := T, mki := ⟨f1, _, M, ok_WI F1 T cF cW cR cT cC, b1⟩, gm := PySem.W.mg_of X G aC, wp := ⟨p2, f2, _, ⟨a2, g2, t2, ⟨_, r2⟩⟩, ok_WW F2 T, b2⟩, rp := ⟨p3, f3, _, ⟨a3, g3, t3, ⟨_, r3⟩⟩, ok_WR F3 T, b3⟩, ln := ⟨f4, _, ok_WL F4 T TP, b4, a4, i4⟩ }
  have cTake : Cal P w K mg base 1 "_law_take" ["_law_box_here", "_law_many"] spTake := ⟨f15, _, ok_take F15 TB, m15, k15, b15⟩
  have cMixed : Cal P w K mg base 2 "_law_mixed" ["_law_box_here", "_law_items"] (spMixed K) := ⟨f16, _, ok_mixed F16 TM cTake, m16, k16, b16⟩
  have cNames : Cal P w K mg base 3 "_law_names" ["_law_box_here", "_law_many"] spNames := ⟨f17, _, ok_names F17 TN cTake cMixed, m17, k17, b17⟩
  have cWeb : Cal P w K mg base 4 "_law_web" ["_law_box_here", "_law_most"] spWeb := ⟨f18, _, ok_web F18 TW cTake cNames, m18, k18, b18⟩
  have cChanged : Cal P w K mg base 5 "_law_changed" chP (spChanged 3) := ⟨f19, _, ok_changed F19 TP cTake m19 k19 b19 3, m19, k19, b19⟩
  have cIsRope : Cal P w K mg base 1 "_law_is_rope" ["_law_rope"] spLRope := ⟨f20, _, ok_LRope F20 TP, m20, k20, b20⟩
  have cForm : Cal P w K mg base 2 "_law_has_form" ["_law_walkers", "_law_ropes"] spLForm := ⟨f21, _, ok_LForm F21 TP cIsRope, m21, k21, b21⟩
  have cDue : Cal P w K mg base 3 "_law_due" ["_law_walkers", "_law_ropes"] spLDue := ⟨f22, _, ok_LDue F22 TP cForm, m22, k22, b22⟩
  have cTold : Cal P w K mg base 6 "_law_told" ["_law_walkers", "_law_ropes"] spLTold := ⟨f23, _, ok_LTold F23 TP WC NN, m23, k23, b23⟩
  have cSpaced : Cal P w K mg base 1 "_law_spaced" ["_law_text"] spSpaced := ⟨f24, _, ok_Spaced F24, m24, k24, b24⟩
  have cBent : Cal P w K mg base 6 "_law_bent" lbP spBent := ⟨f25, _, ok_Bent F25 TP cTake cSpaced cChanged cForm, m25, k25, b25⟩
  exact ok_law F26 { T := TP, b_repr := n_repr, cBox := ⟨f14, _, ok_box F14 TB, m14, k14, b14⟩, cTake := cTake, cWeb := cWeb, cDue := cDue, cTold := cTold, cBent := cBent }
theorem facts {P : Program} {w : World} {K : PySem.W.Frag} {h : Heap} {mg : Str → Option Value} {fa : Addr} (X : K.In h) (G : h.Ns mainGlobals mg) (hfa : mg ("law" : Str) = some (.ref fa)) (c : Hh.Says exK dfs K) :
    ∃ fd : FuncData, (∀ (s : Shared) (v : Value), BindsTo s fd ⟨[v], []⟩ [("_law_script", v)]) ∧ ∀ base : Heap, K.In base → base.Ns mainGlobals mg → FnOkG P w K mg base CX0 7 fa fd ["_law_script"] (spLaw K) := by
  have z0 := c.ex_
  obtain ⟨z0, y3⟩ := Bool.and_eq_true_iff.mp z0
  obtain ⟨z0, y2⟩ := Bool.and_eq_true_iff.mp z0
  obtain ⟨z0, y1⟩ := Bool.and_eq_true_iff.mp z0
  have y0 := z0
  obtain ⟨_, F1⟩ := c.fun_ 0 (d := ⟨v_f1, "__init__", "Web.__init__", pWI⟩) rfl
  obtain ⟨_, F2⟩ := c.fun_ 1 (d := ⟨v_f2, "walkers", "Web.walkers", pWW⟩) rfl
  obtain ⟨_, F3⟩ := c.fun_ 2 (d := ⟨v_f3, "ropes", "Web.ropes", pWR⟩) rfl
  obtain ⟨_, F4⟩ := c.fun_ 3 (d := ⟨v_f4, "__len__", "Web.__len__", pWL⟩) rfl
  obtain ⟨_, F5⟩ := c.fun_ 4 (d := ⟨v_f5, "is_name", "Tree.is_name", pIsName⟩) rfl
  obtain ⟨_, F6⟩ := c.fun_ 5 (d := ⟨v_f6, "is_tuple_of_strings", "is_tuple_of_strings", pTuS⟩) rfl
  obtain ⟨_, F7⟩ := c.fun_ 6 (d := ⟨v_f7, "is_rope", "is_rope", pRope⟩) rfl
  obtain ⟨_, F8⟩ := c.fun_ 7 (d := ⟨v_f8, "check_form", "check_form", pForm⟩) rfl
  obtain ⟨_, F9⟩ := c.fun_ 8 (d := ⟨v_f9, "check_walkers", "check_walkers", pWalk⟩) rfl
  obtain ⟨_, F10⟩ := c.fun_ 9 (d := ⟨v_f10, "check_ropes", "check_ropes", pRopes⟩) rfl
  obtain ⟨_, F11⟩ := c.fun_ 10 (d := ⟨v_f11, "is_less", "is_less", pLess⟩) rfl
  obtain ⟨_, F12⟩ := c.fun_ 11 (d := ⟨v_f12, "ties_of", "ties_of", pTies⟩) rfl
  obtain ⟨_, F13⟩ := c.fun_ 12 (d := ⟨v_f13, "reaches_of", "reaches_of", pReach⟩) rfl
  obtain ⟨_, F14⟩ := c.fun_ 13 (d := ⟨v_f14, "_law_box", "_law_box", sBox⟩) rfl
  obtain ⟨_, F15⟩ := c.fun_ 14 (d := ⟨v_f15, "_law_take", "_law_take", sTake⟩) rfl
  obtain ⟨_, F16⟩ := c.fun_ 15 (d := ⟨v_f16, "_law_mixed", "_law_mixed", sMixed⟩) rfl
  obtain ⟨_, F17⟩ := c.fun_ 16 (d := ⟨v_f17, "_law_names", "_law_names", sNames⟩) rfl
  obtain ⟨_, F18⟩ := c.fun_ 17 (d := ⟨v_f18, "_law_web", "_law_web", sWeb_⟩) rfl
  obtain ⟨_, F19⟩ := c.fun_ 18 (d := ⟨v_f19, "_law_changed", "_law_changed", lChanged⟩) rfl
  obtain ⟨_, F20⟩ := c.fun_ 19 (d := ⟨v_f20, "_law_is_rope", "_law_is_rope", lIsRope⟩) rfl
  obtain ⟨_, F21⟩ := c.fun_ 20 (d := ⟨v_f21, "_law_has_form", "_law_has_form", lForm⟩) rfl
  obtain ⟨_, F22⟩ := c.fun_ 21 (d := ⟨v_f22, "_law_due", "_law_due", lDue⟩) rfl
  obtain ⟨_, F23⟩ := c.fun_ 22 (d := ⟨v_f23, "_law_told", "_law_told", lTold⟩) rfl
  obtain ⟨_, F24⟩ := c.fun_ 23 (d := ⟨v_f24, "_law_spaced", "_law_spaced", lSpaced⟩) rfl
  obtain ⟨_, F25⟩ := c.fun_ 24 (d := ⟨v_f25, "_law_bent", "_law_bent", lBent⟩) rfl
  obtain ⟨_, F26⟩ := c.fun_ 25 (d := ⟨v_f26, "law", "law", lLaw⟩) rfl
  obtain ⟨_, GN⟩ := c.fun_ 26 (d := ⟨v_gN, "__init__", "NoWeb.__init__", pINoWeb⟩) rfl
  exact all_mk (CT := v_CT K) (CN := v_CN K) (gN := v_gN K) (E1 := v_E1 K) (E2 := v_E2 K) (E3 := v_E3 K) (E4 := v_E4 K) (C := v_C K) (f1 := v_f1 K) (p2 := v_p2 K) (f2 := v_f2 K) (rs2 := v_rs2 K) (p3 := v_p3 K) (f3 := v_f3 K) (rs3 := v_rs3 K) (f4 := v_f4 K) (p5 := v_p5 K) (f5 := v_f5 K) (rs5 := v_rs5 K) (f6 := v_f6 K) (f7 := v_f7 K) (f8 := v_f8 K) (f9 := v_f9 K) (f10 := v_f10 K) (f11 := v_f11 K) (f12 := v_f12 K) (f13 := v_f13 K) (f14 := v_f14 K) (f15 := v_f15 K) (f16 := v_f16 K) (f17 := v_f17 K) (f18 := v_f18 K) (f19 := v_f19 K) (f20 := v_f20 K) (f21 := v_f21 K) (f22 := v_f22 K) (f23 := v_f23 K) (f24 := v_f24 K) (f25 := v_f25 K) (f26 := v_f26 K) X G hfa (of_decide_eq_true (Hh.nth y0 0 rfl))
    (of_decide_eq_true (Hh.nth y0 1 rfl))
    (Hh.nth y0 2 rfl)
    F1
    (of_decide_eq_true (Hh.nth y0 3 rfl))
    (of_decide_eq_true (Hh.nth y0 4 rfl))
    (of_decide_eq_true (Hh.nth y0 5 rfl))
    (Hh.recB_ok (Hh.nth y0 6 rfl))
    F2
    (of_decide_eq_true (Hh.nth y0 7 rfl))
    (of_decide_eq_true (Hh.nth y0 8 rfl))
    (of_decide_eq_true (Hh.nth y0 9 rfl))
    (Hh.recB_ok (Hh.nth y0 10 rfl))
    F3
    (of_decide_eq_true (Hh.nth y0 11 rfl))
    (Hh.nth y0 12 rfl)
    F4
    (Hh.getB_ok (Hh.nth y0 13 rfl))
    (of_decide_eq_true (Hh.nth y0 14 rfl))
    (of_decide_eq_true (Hh.nth y0 15 rfl))
    (of_decide_eq_true (Hh.nth y0 16 rfl))
    (of_decide_eq_true (Hh.nth y0 17 rfl))
    (Hh.recB_ok (Hh.nth y0 18 rfl))
    F5
    (of_decide_eq_true (Hh.nth y0 19 rfl))
    F6
    (of_decide_eq_true (Hh.nth y0 20 rfl))
    F7
    (of_decide_eq_true (Hh.nth y0 21 rfl))
    F8
    (of_decide_eq_true (Hh.nth y0 22 rfl))
    F9
    (of_decide_eq_true (Hh.nth y0 23 rfl))
    F10
    (of_decide_eq_true (Hh.nth y0 24 rfl))
    F11
    (of_decide_eq_true (Hh.nth y0 25 rfl))
    F12
    (of_decide_eq_true (Hh.nth y0 26 rfl))
    F13
    (of_decide_eq_true (Hh.nth y0 27 rfl))
    F14
    (of_decide_eq_true (Hh.nth y0 28 rfl))
    F15
    (of_decide_eq_true (Hh.nth y0 29 rfl))
    F16
    (of_decide_eq_true (Hh.nth y1 0 rfl))
    F17
    (of_decide_eq_true (Hh.nth y1 1 rfl))
    F18
    (of_decide_eq_true (Hh.nth y1 2 rfl))
    F19
    (of_decide_eq_true (Hh.nth y1 3 rfl))
    F20
    (of_decide_eq_true (Hh.nth y1 4 rfl))
    F21
    (of_decide_eq_true (Hh.nth y1 5 rfl))
    F22
    (of_decide_eq_true (Hh.nth y1 6 rfl))
    F23
    (of_decide_eq_true (Hh.nth y1 7 rfl))
    F24
    (of_decide_eq_true (Hh.nth y1 8 rfl))
    F25
    (of_decide_eq_true (Hh.nth y1 9 rfl))
    F26
    GN
    (Hh.nth y1 10 rfl)
    (Hh.nth y1 11 rfl)
    (Hh.nth y1 12 rfl)
    (of_decide_eq_true (Hh.nth y1 13 rfl))
    (Hh.nth y1 14 rfl)
    (Hh.nth y1 15 rfl)
    (of_decide_eq_true (Hh.nth y1 16 rfl))
    (of_decide_eq_true (Hh.nth y1 17 rfl))
    (of_decide_eq_true (Hh.nth y1 18 rfl))
    (of_decide_eq_true (Hh.nth y1 19 rfl))
    (of_decide_eq_true (Hh.nth y1 20 rfl))
    (of_decide_eq_true (Hh.nth y1 21 rfl))
    (Hh.nth y1 22 rfl)
    (of_decide_eq_true (Hh.nth y1 23 rfl))
    (Hh.intAt_ok (Hh.nth y1 24 rfl))
    (Hh.intAt_ok (Hh.nth y1 25 rfl))
    (of_decide_eq_true (Hh.nth y1 26 rfl))
    (of_decide_eq_true (Hh.nth y1 27 rfl))
    (of_decide_eq_true (Hh.nth y1 28 rfl))
    (of_decide_eq_true (Hh.nth y1 29 rfl))
    (of_decide_eq_true (Hh.nth y2 0 rfl))
    (Hh.nth y2 1 rfl)
    (Hh.nth y2 2 rfl)
    (of_decide_eq_true (Hh.nth y2 3 rfl))
    (of_decide_eq_true (Hh.nth y2 4 rfl))
    (of_decide_eq_true (Hh.nth y2 5 rfl))
    (of_decide_eq_true (Hh.nth y2 6 rfl))
    (of_decide_eq_true (Hh.nth y2 7 rfl))
    (Hh.nth y2 8 rfl)
    (of_decide_eq_true (Hh.nth y2 9 rfl))
    (of_decide_eq_true (Hh.nth y2 10 rfl))
    (of_decide_eq_true (Hh.nth y2 11 rfl))
    (of_decide_eq_true (Hh.nth y2 12 rfl))
    (of_decide_eq_true (Hh.nth y2 13 rfl))
    (of_decide_eq_true (Hh.nth y2 14 rfl))
    (of_decide_eq_true (Hh.nth y2 15 rfl))
    (of_decide_eq_true (Hh.nth y2 16 rfl))
    (of_decide_eq_true (Hh.nth y2 17 rfl))
    (of_decide_eq_true (Hh.nth y2 18 rfl))
    (of_decide_eq_true (Hh.nth y2 19 rfl))
    (of_decide_eq_true (Hh.nth y2 20 rfl))
    (of_decide_eq_true (Hh.nth y2 21 rfl))
    (of_decide_eq_true (Hh.nth y2 22 rfl))
    (of_decide_eq_true (Hh.nth y2 23 rfl))
    (of_decide_eq_true (Hh.nth y2 24 rfl))
    (of_decide_eq_true (Hh.nth y2 25 rfl))
    (of_decide_eq_true (Hh.nth y2 26 rfl))
    (of_decide_eq_true (Hh.nth y2 27 rfl))
    (of_decide_eq_true (Hh.nth y2 28 rfl))
    (of_decide_eq_true (Hh.nth y2 29 rfl))
    (of_decide_eq_true (Hh.nth y3 0 rfl))
    (of_decide_eq_true (Hh.nth y3 1 rfl))
end Tg
open PySem PySem.W PySem.Calls PyProof.Rows
set_option maxRecDepth 100000 in
set_option maxHeartbeats 0 in
theorem PySem.Challenge.cw_towgrove_k19_values_that_are_webs_holds : PySem.Challenge.rw_towgrove_k19_values_that_are_webs.Holds := by
  w_on; o_law
  refine HandSHeadRun.head_any (r := OpenLaw.row PySem.Challenge.rw_towgrove_k19_values_that_are_webs) (q := view (OpenLaw.row PySem.Challenge.rw_towgrove_k19_values_that_are_webs).prog [52]) (H := Tg.hk) (ob := Hh.ob Tg.adrs Tg.exK Tg.dfs) (M := 9000) (loose := Tg.names) (d := HandSHeadRun.topDef (OpenLaw.row PySem.Challenge.rw_towgrove_k19_values_that_are_webs).prog 52) (kwd := []) Hh.ob_eq
    (by kernel_rfl) (fun s => by kernel_rfl) Tg.run (by kernel_rfl) (by kernel_rfl) (by kernel_rfl) (by rfl) (by first | assumption | decide +kernel) (by decide +kernel) ⟨rfl, rfl, rfl, rfl, rfl, by decide +kernel⟩ ?hw ?hc
  case hw => w_witness2
  case hc =>
    refine Ow.walk_GE (l := PySem.Challenge.rw_towgrove_k19_values_that_are_webs) (n := 63) (k := 7) (x := "_law_script") rfl (by decide) (by kernel_rfl) ⟨rfl, by decide, by decide⟩ ?F
    intro w mg fa h Y G hmg0
    obtain ⟨K, KX, c⟩ := Y
    have hmg : mg ("law" : PySem.Str) = some (.ref fa) := by
      have e : (HandSHeadRun.topDef (OpenLaw.row PySem.Challenge.rw_towgrove_k19_values_that_are_webs).prog 52).name = ("law" : PySem.Str) := by kernel_rfl
      rw [← e]
      exact hmg0
    obtain ⟨fd, hb, hF⟩ := Tg.facts (P := (PySem.Challenge.rw_towgrove_k19_values_that_are_webs).prog) (w := w) KX G hmg c
    exact ⟨K, fd, Tg.spLaw K, KX, hb, fun H a ns hl hS => ⟨a, ns, rfl, hS, hl, fun _ => rfl⟩, hF⟩
#print axioms PySem.Challenge.cw_towgrove_k19_values_that_are_webs_holds

