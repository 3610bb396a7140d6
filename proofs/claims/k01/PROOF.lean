import PyProof.Rows.All
import Wide.All
import OpenK.AllK
import Wide.FinOn
import HandS.ForMost
import PyProof.ReprRoads
import HandS.Wide
import HandS.Style
import HandS.ExcInit
import HandS.ExcField
import HandS.ExcIs
import HandS.MakeKw
import HandS.MakeKwOnly
import KE.KExcIs
import PyProof.InstStoreFacts
import PyProof.ReprLen
import HandS.Walk
import KE.RegKIsAll
import PySem.Challenge.RW_towgrove_k01_errors_and_their_attributes
set_option Elab.async false
set_option linter.all false
set_option maxRecDepth 100000
set_option maxHeartbeats 4000000
/-! promises of defs where no repr is under way, and repr of lists and tuples -/
namespace Ow
open PySem PySem.Spec PyProof.Rows L2
/-- a promise that may use that nothing around is showing itself -/
structure FnOkG (P : Program) (w : World) (K : PySem.W.Frag) (mg : Str → Option Value) (base : Heap) (CX : CXT) (k : Nat) (f : Addr) (fd : FuncData) (ps : List Str) (sp : Sp) : Prop where
  len : ∀ us H Q E, sp us H Q E → us.length = ps.length
  go : ∀ (A : Around) (out : List Env) (s : Shared) (H : Hp) (ar : Args) (us : List Value) (vs : List V) (Q : VK) (E : XK), A.guards = some [] → Room k A → Env0 P w K mg base A out s H → BindsTo s fd ar (ps.zip us) → Vals vs us →
    sp vs H Q E → codeAny (model P w) A (.call (.ref f) ar) (CR CX out P w H s Q E) s
section
variable {P : Program} {w : World} {K : PySem.W.Frag} {mg : Str → Option Value} {base : Heap}
theorem FnOkG.of {CX : CXT} {k : Nat} {f : Addr} {fd : FuncData} {ps : List Str} {sp : Sp} (F : FnOk P w K mg base CX k f fd ps sp) : FnOkG P w K mg base CX k f fd ps sp :=
  ⟨F.len, fun A out s H ar us vs Q E _ hr e0 hb r h => F.run A out s H ar us vs Q E hr e0 hb r h⟩
theorem okG {x qual : Str} {st : Stmt} {f : Addr} {fd : FuncData} {N ps : List Str} {k : Nat} {sp : Sp} (F : Fun K x qual st f fd) (S : FnScope N ps (defScope st)) (len : ∀ vs H Q E, sp vs H Q E → vs.length = ps.length)
    (hbody : ∀ (cdv : Value) (A : Around) (outer : List Env) (s : Shared) (H : Hp) (vs : List V) (Q : VK) (E : XK), A.guards = some [] → Room k (A.deeper (envOfC qual (defScope st) s.heap.objs.size f cdv)) → sp vs H Q E →
      ∃ t, PSs (cxOf CX0 P w K mg base N qual (defScope st) f cdv A outer s H E).nox (defBody st) t ∧ t { nx := fun _ H' => Q .non H', rt := Q } (start N vs) H) : FnOkG P w K mg base CX0 (k + 1) f fd ps sp := by
  refine ⟨len, fun A out s H ar us vs Q E hg hr e0 hb r hsp => ?_⟩
  obtain ⟨oc, od, kV, doc, pm, an, cdv, ct, osl, rfl, lk, hcd⟩ := F.ex
  have hl := len _ _ _ _ hsp
  have KX : K.In s.heap := e0.mod.kin.keeps fun b o e => (e0.bs b o e).1
  have lim : s.heap.NoLimit := e0.mod.nolimit.keeps fun b o e => (e0.bs b o e).1
  refine codeAny_call_function hr.depth (KX _ _ lk) rfl S.co S.gen rfl (PySem.W.codeRec_of KX hcd) (hb _ _ _ _ ?_)
  refine wpAny_newFunctionEnv_cells S.kind (fun y hy => ?_) fun env he s1 x => ?_
  · rcases S.par y.1 (List.of_mem_zip hy).1 with q | q
    · exact .inl q
    · exact .inr ⟨q, PySem.W.cellsFrom_some _ _ _ (.inl q)⟩
  subst he
  refine ⟨lim.keeps x.toInCall.keep, codeAny_func ?_⟩
  obtain ⟨t, ht, hq⟩ := hbody cdv A out s H vs Q E hg (hr.deeper _) hsp
  have I := inv_start (CX := CX0) (P := P) (w := w) (K := K) (mg := mg) (base := base) (E := E) S hr.hd e0 hl r x
  refine wpAny_mono (ht.nox.run [] s1 (start N vs) H _ I hq) (fun fl s' hs => ?_) fun e s' hs => hs
  cases fl with
  | ret u =>
    obtain ⟨v, σ', H', J, rv, q⟩ := hs
    exact ⟨v, H', J.os, J.bare, J.base, J.hok, rv, q⟩
  | next =>
    obtain ⟨σ', H', J, q⟩ := hs
    exact ⟨.non, H', J.os, J.bare, J.base, J.hok, rfl, q⟩
  | brk => exact hs.choose_spec.choose_spec.2.elim
  | cont => exact hs.choose_spec.choose_spec.2.elim
section
variable {X : Cx} {CX : CXT} {k : Nat} {f : Addr} {fd : FuncData} {ps : List Str} {sp : Sp} {dvs : List V} {ds : List Value} {E : XK} {x : Str} {p pos : Pos} {e : Expr} {es : List Expr} {t : TA}
theorem run_G {pins : List (Addr × Obj)} {σ : L2.St} {H : Hp} {s : Shared} {Q : VK} {us : List Value} {vs : List V} (hg : X.A.guards = some []) (F : FnOkG X.prog X.w X.K X.mg X.base CX k f fd ps sp) (hr : Room k X.A) (hb : Binds X.K fd ps ds) (hd : Vals dvs ds)
    (hx : Passes CX X E) (I : Inv X pins σ H s) (r : Vals vs us) (h : sp (vs ++ dvs) H Q E) : wpAny (model X.prog X.w) X.A (call (.ref f) us) (EP X pins σ Q) X.xe s := by
  have r2 : Vals (vs ++ dvs) (us ++ ds) := r.append hd
  have hl := (F.len _ _ _ _ h).symm.trans r2.length
  refine wpAny_call (codeAny_mono (F.go X.A X.stack s H ⟨us, []⟩ _ _ Q E hg hr I.env0 (hb s us I.kIn hl.symm) r2 h) fun res s' hq => ?_)
  cases res with
  | error er => exact hx pins σ H s er s' I hq
  | ok fl => cases fl <;> first | exact I.after hq | exact False.elim hq
theorem pe_callG (hg : X.A.guards = some []) (F : FnOkG X.prog X.w X.K X.mg X.base CX k f fd ps sp) (hr : Room k X.A) (gl : Gl X x) (hm : X.mg x = some (.ref f)) (hk : PySem.W.keepIn X.K (.ref f) = true) (hb : Binds X.K fd ps ds) (hd : Vals dvs ds)
    (hx : Passes CX X E) (ha : PA X (e :: es) t) (hdb : (x == ("__debug__" : Str)) = false := by decide) (he : starEach (e :: es) X.env = (false, eval e X.env) :: starEach es X.env := by rfl)
    (hpl : (backTo pos (starEach es X.env)).any (·.1) = false := by rfl) : PE X (.Call (.Name x p) (e :: es) [] pos) (tCall sp dvs E t) := by
  refine ⟨fun pins s σ H Q I h => wpAny_Call_Name_kw (ld_glob I gl hm ?_ hdb)⟩
  refine PySem.W.callWith_K (h₀ := X.base) I.ok.mod.kin hk (thn (ha.run pos pins s σ H _ I h) fun us s1 z => ?_) he hpl
  obtain ⟨vs, H1, I1, r, q⟩ := z
  exact ⟨I1.kIn, run_G hg F hr hb hd hx I1 r q⟩
/-- repr of a list or tuple of plain data -/
def rReprD (K : PySem.W.Frag) : List V → Hp → VK → Prop := fun xs H Q => ∃ a d, xs = [.ref a] ∧ Dp K H (.ref a) d ∧ d.showable = true ∧ d.hasDict = false ∧ d.depth ≤ 64 ∧ d.shown.length ≤ sizeLine ∧ Q (.str d.shown) H
theorem call_reprD (hg : X.A.guards = some []) (hr : Room k X.A) : CallR X (.builtin "repr") (rReprD X.K) := by
  intro pins s σ H xs us Q I r h
  obtain ⟨a, d, rfl, D, sh, nd, dp, sz, q⟩ := h
  cases r with
  | cons r1 rn =>
    cases rn
    cases (show _ = Value.ref a from r1)
    obtain ⟨as, R⟩ := D.reads I d _ _ rfl
    have hu := hr.un
    refine repr_of_reads' R sh (fun z => by rw [nd] at z; cases z) hg (by omega) (fun _ _ z => z) (fun h' u tk hk => ?_) sz
    exact ⟨.str d.shown, H, I.kept hk, ⟨u, rfl⟩, q⟩
end
end
end Ow

namespace Tg
open PySem L2 Ow
/-! ### the box of draws -/
def kvsB (L : Addr) (now seed turn : Int) : List (Key × V) := [(.inr "great", .ref L), (.inr "now", .int now), (.inr "seed", .int seed), (.inr "turn", .int turn)]
theorem n_great_now : ¬ ((.inr "great" : Key) = .inr "now") := by decide +kernel
theorem n_great_seed : ¬ ((.inr "great" : Key) = .inr "seed") := by decide +kernel
theorem n_great_turn : ¬ ((.inr "great" : Key) = .inr "turn") := by decide +kernel
theorem n_now_great : ¬ ((.inr "now" : Key) = .inr "great") := by decide +kernel
theorem n_now_seed : ¬ ((.inr "now" : Key) = .inr "seed") := by decide +kernel
theorem n_now_turn : ¬ ((.inr "now" : Key) = .inr "turn") := by decide +kernel
theorem n_seed_great : ¬ ((.inr "seed" : Key) = .inr "great") := by decide +kernel
theorem n_seed_now : ¬ ((.inr "seed" : Key) = .inr "now") := by decide +kernel
theorem n_seed_turn : ¬ ((.inr "seed" : Key) = .inr "turn") := by decide +kernel
theorem n_turn_great : ¬ ((.inr "turn" : Key) = .inr "great") := by decide +kernel
theorem n_turn_now : ¬ ((.inr "turn" : Key) = .inr "now") := by decide +kernel
theorem n_turn_seed : ¬ ((.inr "turn" : Key) = .inr "seed") := by decide +kernel
theorem vB_great (L : Addr) (now seed turn : Int) : valV (kvsB L now seed turn) (.inr "great" : Key) = some (.ref L) := by
  unfold kvsB
  rw [valV_pos rfl]
theorem vB_now (L : Addr) (now seed turn : Int) : valV (kvsB L now seed turn) (.inr "now" : Key) = some (.int now) := by
  unfold kvsB
  rw [valV_neg n_great_now, valV_pos rfl]
theorem vB_seed (L : Addr) (now seed turn : Int) : valV (kvsB L now seed turn) (.inr "seed" : Key) = some (.int seed) := by
  unfold kvsB
  rw [valV_neg n_great_seed, valV_neg n_now_seed, valV_pos rfl]
theorem vB_turn (L : Addr) (now seed turn : Int) : valV (kvsB L now seed turn) (.inr "turn" : Key) = some (.int turn) := by
  unfold kvsB
  rw [valV_neg n_great_turn, valV_neg n_now_turn, valV_neg n_seed_turn, valV_pos rfl]
theorem pB_now (L : Addr) (now seed turn z : Int) : putK (kvsB L now seed turn) (.inr "now" : Key) (.int z) = kvsB L z seed turn := by
  have e1 : ¬ ((.inr "great" : Key) = .inr "now") := by decide +kernel
  have e2 : ¬ ((.inr "seed" : Key) = .inr "now") := by decide +kernel
  have e3 : ¬ ((.inr "turn" : Key) = .inr "now") := by decide +kernel
  unfold kvsB putK
  simp [e1, e2, e3]
theorem pB_seed (L : Addr) (now seed turn z : Int) : putK (kvsB L now seed turn) (.inr "seed" : Key) (.int z) = kvsB L now z turn := by
  have e1 : ¬ ((.inr "great" : Key) = .inr "seed") := by decide +kernel
  have e2 : ¬ ((.inr "now" : Key) = .inr "seed") := by decide +kernel
  have e3 : ¬ ((.inr "turn" : Key) = .inr "seed") := by decide +kernel
  unfold kvsB putK
  simp [e1, e2, e3]
theorem pB_turn (L : Addr) (now seed turn z : Int) : putK (kvsB L now seed turn) (.inr "turn" : Key) (.int z) = kvsB L now seed z := by
  have e1 : ¬ ((.inr "great" : Key) = .inr "turn") := by decide +kernel
  have e2 : ¬ ((.inr "now" : Key) = .inr "turn") := by decide +kernel
  have e3 : ¬ ((.inr "seed" : Key) = .inr "turn") := by decide +kernel
  unfold kvsB putK
  simp [e1, e2, e3]
theorem z_great_now : ¬ (("great" : Str) = "now") := by decide +kernel
theorem z_great_seed : ¬ (("great" : Str) = "seed") := by decide +kernel
theorem z_great_turn : ¬ (("great" : Str) = "turn") := by decide +kernel
theorem z_now_great : ¬ (("now" : Str) = "great") := by decide +kernel
theorem z_now_seed : ¬ (("now" : Str) = "seed") := by decide +kernel
theorem z_now_turn : ¬ (("now" : Str) = "turn") := by decide +kernel
theorem z_seed_great : ¬ (("seed" : Str) = "great") := by decide +kernel
theorem z_seed_now : ¬ (("seed" : Str) = "now") := by decide +kernel
theorem z_seed_turn : ¬ (("seed" : Str) = "turn") := by decide +kernel
theorem z_turn_great : ¬ (("turn" : Str) = "great") := by decide +kernel
theorem z_turn_now : ¬ (("turn" : Str) = "now") := by decide +kernel
theorem z_turn_seed : ¬ (("turn" : Str) = "seed") := by decide +kernel
theorem merge_kvsB (L : Addr) (now seed turn : Int) : mergeK [] (kvsB L now seed turn) = kvsB L now seed turn := by
  unfold kvsB mergeK
  simp [putK, z_great_now, z_great_seed, z_great_turn, z_now_seed, z_now_turn, z_seed_turn]
/-- the box at b, its great cells at L -/
structure BoxAt (H : Hp) (b L : Addr) (gs : List Int) (now seed turn : Int) : Prop where
  dc : H b = some (.dK (kvsB L now seed turn))
  ls : H L = some (.lst (gs.map V.int))
  now0 : 0 ≤ now
  seed0 : 0 ≤ seed
  seed1 : seed ≤ 2147483648
  pos : ∀ g ∈ gs, 0 ≤ g
def Box (b L : Addr) (H : Hp) : Prop := ∃ gs now seed turn, BoxAt H b L gs now seed turn
/-- all but the box stands as it stood -/
def Kp (b L : Addr) (H H' : Hp) : Prop := ∀ a o, a ≠ b → a ≠ L → H a = some o → H' a = some o
theorem Kp.refl (b L : Addr) (H : Hp) : Kp b L H H := fun _ _ _ _ h => h
theorem Kp.trans {b L : Addr} {H H1 H2 : Hp} (x : Kp b L H H1) (y : Kp b L H1 H2) : Kp b L H H2 := fun a o n1 n2 h => y a o n1 n2 (x a o n1 n2 h)
theorem BoxAt.ne {H : Hp} {b L : Addr} {gs : List Int} {now seed turn : Int} (B : BoxAt H b L gs now seed turn) : b ≠ L := ne_of B.dc B.ls (by intro z; cases z)
theorem BoxAt.put {H : Hp} {b L : Addr} {gs : List Int} {now seed turn now' seed' turn' : Int} (B : BoxAt H b L gs now seed turn) (h0 : 0 ≤ now') (h1 : 0 ≤ seed') (h2 : seed' ≤ 2147483648) :
    BoxAt (upd H b (.dK (kvsB L now' seed' turn'))) b L gs now' seed' turn' ∧ Kp b L H (upd H b (.dK (kvsB L now' seed' turn'))) :=
  ⟨⟨upd_same, by rw [upd_ne B.ne.symm]; exact B.ls, h0, h1, h2, B.pos⟩, fun a o n1 _ h => by rw [upd_ne n1]; exact h⟩
theorem BoxAt.pop {H : Hp} {b L : Addr} {gs : List Int} {now seed turn : Int} (B : BoxAt H b L gs now seed turn) :
    BoxAt (upd H L (.lst (gs.map V.int).dropLast)) b L gs.dropLast now seed turn ∧ Kp b L H (upd H L (.lst (gs.map V.int).dropLast)) :=
  ⟨⟨by rw [upd_ne B.ne]; exact B.dc, by rw [upd_same, List.map_dropLast], B.now0, B.seed0, B.seed1, fun g h => B.pos g (List.dropLast_subset _ h)⟩, fun a o _ n2 h => by rw [upd_ne n2]; exact h⟩

theorem dget_of {H : Hp} {a : Addr} {kvs : List (Key × V)} {k : Key} {v : V} (e : H a = some (.dK kvs)) (h : valV kvs k = some v) : DGet H a (kV k) (some v) := by
  rw [← h]
  exact DGet.k e
theorem dput_of {H : Hp} {a : Addr} {kvs kvs' : List (Key × V)} {k : Key} {v : V} (e : H a = some (.dK kvs)) (h : putK kvs k v = kvs') (hl : kvs.length < sizeLine) : DPut H a (kV k) v (upd H a (.dK kvs')) := by
  rw [← h]
  exact DPut.k e hl
section
variable {H : Hp} {b L : Addr} {gs : List Int} {now seed turn : Int}
theorem kvsB_len : (kvsB L now seed turn).length < sizeLine := by
  show 4 < sizeLine
  decide
theorem BoxAt.ggreat (B : BoxAt H b L gs now seed turn) : DGet H b (.str "great") (some (.ref L)) := dget_of (k := .inr "great") B.dc (vB_great _ _ _ _)
theorem BoxAt.gnow (B : BoxAt H b L gs now seed turn) : DGet H b (.str "now") (some (.int now)) := dget_of (k := .inr "now") B.dc (vB_now _ _ _ _)
theorem BoxAt.gseed (B : BoxAt H b L gs now seed turn) : DGet H b (.str "seed") (some (.int seed)) := dget_of (k := .inr "seed") B.dc (vB_seed _ _ _ _)
theorem BoxAt.gturn (B : BoxAt H b L gs now seed turn) : DGet H b (.str "turn") (some (.int turn)) := dget_of (k := .inr "turn") B.dc (vB_turn _ _ _ _)
theorem BoxAt.pnow (B : BoxAt H b L gs now seed turn) (z : Int) : DPut H b (.str "now") (.int z) (upd H b (.dK (kvsB L z seed turn))) := dput_of (k := .inr "now") B.dc (pB_now _ _ _ _ _) kvsB_len
theorem BoxAt.pseed (B : BoxAt H b L gs now seed turn) (z : Int) : DPut H b (.str "seed") (.int z) (upd H b (.dK (kvsB L now z turn))) := dput_of (k := .inr "seed") B.dc (pB_seed _ _ _ _ _) kvsB_len
theorem BoxAt.pturn (B : BoxAt H b L gs now seed turn) (z : Int) : DPut H b (.str "turn") (.int z) (upd H b (.dK (kvsB L now seed z))) := dput_of (k := .inr "turn") B.dc (pB_turn _ _ _ _ _) kvsB_len
end
/-- what follows is shown once, for all ways of what stands ahead -/
theorem seq_rest {t u : TS} {D : Ends} {σ : St} {H : Hp} (W : St → Hp → Prop) (h2 : ∀ σ' H', W σ' H' → u D σ' H') (h1 : (∀ σ' H', W σ' H' → u D σ' H') → t { D with nx := u D } σ H) : tSeq t u D σ H := h1 h2
theorem pos_lit {j : Int} (h : 0 < j) : 0 < j := h
/-! ### a draw -/
def spTake : Sp := fun vs H Q _ => ∃ (b L : Addr) (m : Int), vs = [.ref b, .int m] ∧ 0 < m ∧ m.natAbs.log2 < 9000 ∧ Box b L H ∧
  ∀ (d : Int) (H' : Hp), 0 ≤ d → d < m → Box b L H' → Kp b L H H' → Q (.int d) H'
/-! ### the promise of the box's maker -/
def spBox (K : PySem.W.Frag) : Sp := fun vs H Q _ => ∃ (a : Addr) (ns : List Int) (e : Int), vs = [.ref a, .int e] ∧ SqL K H a (ns.map V.int) ∧ ns.length ≤ 63 ∧ 0 ≤ e ∧ e ≤ 1000 ∧
  ∀ (b L : Addr) (H' : Hp), H b = none → H L = none → Same H H' → Box b L H' → Q (.ref b) H'
theorem cut_ints (ns : List Int) (lo hi : Option Int) : ∃ ms : List Int, cutV (ns.map V.int) lo hi = ms.map V.int ∧ ms.length ≤ ns.length := by
  refine ⟨(ns.drop (HT.sIx (ns.map V.int).length 0 lo)).take (HT.sIx (ns.map V.int).length (ns.map V.int).length hi - HT.sIx (ns.map V.int).length 0 lo), ?_, ?_⟩
  · unfold cutV
    rw [List.map_take, List.map_drop]
  · rw [List.length_take, List.length_drop]
    omega
theorem ints_at {ns : List Int} {i : Nat} {y : V} (h : (ns.map V.int)[i]? = some y) : ∃ z, ns[i]? = some z ∧ y = V.int z := by
  rw [List.getElem?_map] at h
  cases e : ns[i]? with
  | none => rw [e] at h; cases h
  | some z => rw [e] at h; exact ⟨z, rfl, (Option.some.inj h).symm⟩
theorem same_upd {H H' : Hp} {p : Addr} {o : HO} (s : Same H H') (n : H p = none) : Same H (upd H' p o) := fun b u e => by
  rw [upd_ne (ne_of_none e n)]
  exact s b u e

/-! ### a def that is called by its name -/
structure Cal (P : Program) (w : World) (K : PySem.W.Frag) (mg : Str → Option Value) (base : Heap) (k : Nat) (x : Str) (ps : List Str) (sp : Sp) : Prop where
  ex : ∃ f fd, FnOk P w K mg base CX0 k f fd ps sp ∧ mg x = some (.ref f) ∧ PySem.W.keepIn K (.ref f) = true ∧ Binds K fd ps []
structure CalG (P : Program) (w : World) (K : PySem.W.Frag) (mg : Str → Option Value) (base : Heap) (k : Nat) (x : Str) (ps : List Str) (sp : Sp) : Prop where
  ex : ∃ f fd, FnOkG P w K mg base CX0 k f fd ps sp ∧ mg x = some (.ref f) ∧ PySem.W.keepIn K (.ref f) = true ∧ Binds K fd ps []
section
variable {X : Cx} {k j : Nat} {x : Str} {ps : List Str} {sp : Sp} {p pos : Pos} {e : Expr} {es : List Expr} {t : TA}
theorem pe_cal (c : Cal X.prog X.w X.K X.mg X.base k x ps sp) (hr : Room k X.A) (hg : Gl X x) (ha : PA X (e :: es) t) (hdb : (x == ("__debug__" : Str)) = false := by decide)
    (he : starEach (e :: es) X.env = (false, eval e X.env) :: starEach es X.env := by rfl) (hpl : (backTo pos (starEach es X.env)).any (·.1) = false := by rfl) :
    PE X (.Call (.Name x p) (e :: es) [] pos) (tCall sp [] E0 t) := by
  obtain ⟨f, fd, F, hm, hk, hb⟩ := c.ex
  exact pe_call F hr hg hm hk hb .nil pass0 ha hdb he hpl
theorem pe_calG (c : CalG X.prog X.w X.K X.mg X.base k x ps sp) (gd : X.A.guards = some []) (hr : Room k X.A) (hg : Gl X x) (ha : PA X (e :: es) t) (hdb : (x == ("__debug__" : Str)) = false := by decide)
    (he : starEach (e :: es) X.env = (false, eval e X.env) :: starEach es X.env := by rfl) (hpl : (backTo pos (starEach es X.env)).any (·.1) = false := by rfl) :
    PE X (.Call (.Name x p) (e :: es) [] pos) (tCall sp [] E0 t) := by
  obtain ⟨f, fd, F, hm, hk, hb⟩ := c.ex
  exact pe_callG gd F hr hg hm hk hb .nil pass0 ha hdb he hpl
end
end Tg

/-! the end of a law whose own def may show lists: nothing around it is showing itself -/
namespace Ow
open PySem PySem.Spec PyProof.Rows L2
section
variable {P : Program} {w : World} {K : PySem.W.Frag} {mg mb : Str → Option Value}
/-- the call, from one abstract heap H that tracks nothing but the script at a -/
theorem call_from {k : Nat} {fa a : Addr} {fd : FuncData} {x : Str} {sp : Sp} {s1 : Shared} {H : Hp} {oa : Obj} {es : Array Value} {ep : Nat} (ea : s1.heap.get? a = some oa) (da : oa.data = .seq es ep)
    (kIn : K.In s1.heap) (ns : s1.heap.Ns mainGlobals mg) (nb : s1.heap.Ns builtinsNs mb) (bb : ∀ y : Str, y ≠ "__name__" → mb y = bootBuiltins y) (lim : s1.heap.NoLimit) (hg : s1.gens = #[]) (hr : Room k callerA)
    (F : ∀ base : Heap, K.In base → base.Ns mainGlobals mg → FnOkG P w K mg base CX0 k fa fd [x] sp) (hbind : ∀ (s : Shared) (u : Value), BindsTo s fd ⟨[u], []⟩ [(x, u)])
    (only : Only H) (hok : HOk P w H s1.heap) (alone : ∀ b, H b ≠ none → b = a) (noK : H a ≠ none → K.lookup a = none) (hsp : sp [.ref a] H (fun v _ => v = .bl true) fun _ _ _ => False) :
    codeAny (model P w) callerA (.call (.ref fa) ⟨[.ref a], []⟩) (fun r s' => r = .ok (.ret (.bool true)) ∧ OldK s1.heap s'.heap ∧ s'.os = s1.os ∧ AllBare s'.gens) s1 := by
  have free : ∀ b, b ≠ a → H b = none := fun b hb => by
    cases q : H b with
    | none => rfl
    | some u => exact absurd (alone b (by simp [q])) hb
  have unseq : ∀ {b : Addr} {m : Str → Option Value}, s1.heap.Ns b m → b ≠ a := fun {b m} ⟨o, is, ip, e, d, _⟩ z => by
    subst z
    cases ea.symm.trans e
    cases da.symm.trans d
  have same : ∀ {b : Addr} {m : Str → Option Value}, s1.heap.Ns b m → (hidT s1.heap H).Ns b m := fun {b m} z => by
    have hb := unseq z
    obtain ⟨o, is, ip, e, r⟩ := z
    exact ⟨o, is, ip, hidT_get e (free b hb), r⟩
  have kB : K.In (hidT s1.heap H) := fun b o e => by
    refine hidT_get (kIn b o e) ?_
    by_cases hb : b = a
    · cases q : H b with
      | none => rfl
      | some u => subst hb; rw [noK (by simp [q])] at e; cases e
    · exact free b hb
  have limB : (hidT s1.heap H).NoLimit := by
    obtain ⟨mc, h1, h2⟩ := lim
    exact ⟨mc, same h1, h2⟩
  have md : Mod K mg (hidT s1.heap H) := { kin := kB, glob := same ns, blt := ⟨mb, same nb, bb⟩, nolimit := limB }
  have e0 : Env0 P w K mg (hidT s1.heap H) callerA [] s1 H :=
    { frames := rfl, mod := md, bs := fun b o e => of_hidT e, bsz := Nat.le_of_eq (hidT_size _ _), funs := trivial, frf := fun b hb => (List.not_mem_nil hb).elim, hok := hok, bare := .of_eq hg }
  have run := (F _ kB (same ns)).go callerA [] s1 H ⟨[.ref a], []⟩ [.ref a] [.ref a] _ _ rfl hr e0 (hbind s1 (.ref a)) (.cons rfl .nil) hsp
  refine codeAny_mono run fun r s' h => ?_
  match r, h with
  | .error e, h => exact h.elim
  | .ok .next, h => exact h.elim
  | .ok .brk, h => exact h.elim
  | .ok .cont, h => exact h.elim
  | .ok (.ret u), ⟨v, H', os, bare, un, hok', rv, q⟩ =>
    cases (show v = .bl true from q)
    cases (show u = Value.bool true from rv)
    refine ⟨rfl, OldK.of_keep fun b o e => ?_, os, bare⟩
    rcases only b with z | ⟨ob, xs, z⟩
    · exact un.keep b o e z (fun y => (List.not_mem_nil y).elim) List.not_mem_nil
    · obtain ⟨e1, _⟩ := hok b _ z
      obtain ⟨e2, _⟩ := hok' b _ (un.frzs b ob _ z)
      cases e.symm.trans e1
      exact e2
theorem call_G {k : Nat} {fa a : Addr} {fd : FuncData} {x : Str} {sp : Sp} {s1 : Shared} {vs : List Value} {ns : List Int} (kIn : K.In s1.heap) (hn : s1.heap.Ns mainGlobals mg) (nb : s1.heap.Ns builtinsNs mb)
    (bb : ∀ y : Str, y ≠ "__name__" → mb y = bootBuiltins y) (lim : s1.heap.NoLimit) (hg : s1.gens = #[]) (ha : s1.heap.get? a = some { cls := .type "list", data := .seq vs.toArray }) (hi : IntsAre vs ns) (hl : ns.length ≤ sizeLine) (hr : Room k callerA)
    (F : ∀ base : Heap, K.In base → base.Ns mainGlobals mg → FnOkG P w K mg base CX0 k fa fd [x] sp) (hbind : ∀ (s : Shared) (u : Value), BindsTo s fd ⟨[u], []⟩ [(x, u)])
    (hsp : ∀ H : Hp, Only H → SqL K H a (ns.map V.int) → sp [.ref a] H (fun v _ => v = .bl true) fun _ _ _ => False) :
    codeAny (model P w) callerA (.call (.ref fa) ⟨[.ref a], []⟩) (fun r s' => r = .ok (.ret (.bool true)) ∧ OldK s1.heap s'.heap ∧ s'.os = s1.os ∧ AllBare s'.gens) s1 := by
  have rv := vals_ints hi
  cases hk : K.lookup a with
  | some o =>
    cases ha.symm.trans (kIn a o hk)
    have on : Only (fun _ => none) := fun _ => .inl rfl
    exact call_from ha rfl kIn hn nb bb lim hg hr F hbind on (fun b u z => nomatch z) (fun b z => absurd rfl z) (fun z => absurd rfl z) (hsp _ on (.inr ⟨_, vs.toArray, _, hk, rfl, rfl, rfl, by rw [List.size_toArray, hi.length]; exact hl, by simpa using rv⟩))
  | none =>
    let H : Hp := upd (fun _ => none) a (.frz { cls := .type "list", data := .seq vs.toArray } (.lst (ns.map V.int)))
    have at_ : H a = some (.frz { cls := .type "list", data := .seq vs.toArray } (.lst (ns.map V.int))) := upd_same
    have off : ∀ b, b ≠ a → H b = none := fun b hb => upd_ne hb
    have on : Only H := fun b => by
      by_cases hb : b = a
      · subst hb; exact .inr ⟨_, _, at_⟩
      · exact .inl (off b hb)
    refine call_from ha rfl kIn hn nb bb lim hg hr F hbind on (fun b u z => ?_) (fun b z => ?_) (fun _ => hk) (hsp _ on (.inl (.inr ⟨_, at_⟩)))
    · by_cases hb : b = a
      · subst hb
        cases at_.symm.trans z
        exact ⟨ha, by rw [List.length_map]; exact hl, vs, _, rv, ha⟩
      · cases (off b hb).symm.trans z
    · by_cases hb : b = a
      · exact hb
      · exact absurd (off b hb) z
end
theorem walk_G {l : PySem.W.OpenLaw} {n k : Nat} {q : Program} {loose : List Str} {XP : (Str → Option Value) → Heap → Prop} {YP : World → Heap → Prop} {d : DefRec} {K : Params → PySem.W.Frag} {sp : World → Sp} {x : Str}
    (hn : l.most = some n) (hn2 : n ≤ sizeLine) (hdf : d.params.defaults = []) (hr : Room k callerA) (hY : ∀ (w : World) (h : Heap), YP w h → (K w.params).In h)
    (F : ∀ (w : World) (mg : Str → Option Value) (fa : Addr) (h : Heap), (K w.params).In h → h.Ns mainGlobals mg → mg d.name = some (.ref fa) →
      ∃ fd : FuncData, (∀ (s : Shared) (u : Value), BindsTo s fd ⟨[u], []⟩ [(x, u)]) ∧ ∀ base : Heap, (K w.params).In base → base.Ns mainGlobals mg → FnOkG l.prog w (K w.params) mg base CX0 k fa fd [x] (sp w))
    (hsp : ∀ (w : World) (H : Hp) (a : Addr) (ns : List Int), ns.length ≤ n → SqL (K w.params) H a (ns.map V.int) → sp w [.ref a] H (fun v _ => v = .bl true) fun _ _ _ => False) :
    PySem.W.WalkO q loose XP YP l.row.toRowW d [] (fun f vs => PySem.call f vs) := by
  refine Att.attach_call hn hdf fun w s0 s1 mg mb fa o pm cd doc a vs ns G Y ho hd hcd hmg hobj hints hlen hg => ?_
  have kx := hY w _ Y
  obtain ⟨fd, hb, hF⟩ := F w mg fa _ kx G.T.g hmg
  exact call_G kx G.T.g G.T.b G.T.builtins G.T.nolimit hg hobj hints (Nat.le_trans hlen hn2) hr hF hb fun H _ hS => hsp w H a ns hlen hS
end Ow

/-! an exception class of the program over any base whose maker is known: made by a call, with or without keywords -/
namespace Ow
open PySem PySem.W PySem.Calls PyProof.Rows PySem.HandSPX Builtin
/-- what of the classes above is asked for -/
structure Tail (B : String) (bm : List Value) : Prop where
  base : bm.contains (.type B) = true
  nA : bm.contains (.type "AttributeError") = false
  nN : bm.contains (.type "NameError") = false
section
variable {M : Model} {prog : Program} {w : World} {A : Around} {E : Value → Shared → Prop} {R : Result → Shared → Prop} {hp : Heap} {gs : Array GenState} {dr : Drawn} {tk : Nat} {os : OsState} {nm q : Str} {C N : Addr} {bs bm bmB : List Value} {hd ab : Bool}
  {sn : List Str} {sub : List Value} {col : Option Bool} {dd : Option Addr} {k0 k1 k2 k3 k5 : Option Value} {B ni ii : String}
theorem ex_check (F : ExcBaseFacts B ni ii bmB) (T : Tail B bm) {us : List Value} {kw : List (Str × Value)} {Q : Unit → Shared → Prop} (ho : hp.get? C = some (excClassObj nm q C N bs bm hd sn sub ab col dd k0 k1 k2 k3 k5 ni))
    (fin : Q () ⟨hp, gs, dr, tk, os⟩) : wpAny M A (checkBuiltinCall ni ⟨.ref C :: us, kw⟩) Q E ⟨hp, gs, dr, tk, os⟩ := by
  have yes : (Value.ref C :: bm).contains (.type B) = true := by rw [List.contains_cons, T.base, Bool.or_true]
  have star := F.noStar
  simp only [checkBuiltinCall, F.newKind, F.newSplit, F.newRow]
  repeat (first | (refine wpAny_loadPart_at ho ?_) | (refine wpAny_isSubtype_exc ho ?_; rw [yes]) | (refine wpAny_staticBase_exc ho ?_) | (refine wpAny_madeBy_exc ho ?_) | (simp only [bne_self_eq_false, Bool.false_eq_true, if_false]) | wp_step)
  exact fin
theorem ex_new (F : ExcBaseFacts B ni ii bmB) (T : Tail B bm) {us : List Value} {kw : List (Str × Value)} (ho : hp.get? C = some (excClassObj nm q C N bs bm hd sn sub ab col dd k0 k1 k2 k3 k5 ni)) (hl : us.length ≤ sizeLine)
    (fin : R (.ok (.ret (.ref (hp.objs.size + 1)))) ⟨(hp.push (W.kdv_tup us)).push (excO C hp.objs.size), gs, dr, tk, os⟩) :
    codeAny (model prog w) A (.builtin ni ⟨.ref C :: us, kw⟩) R ⟨hp, gs, dr, tk, os⟩ := by
  have ends := F.ends
  have yes : (Value.ref C :: bm).contains (.type B) = true := by rw [List.contains_cons, T.base, Bool.or_true]
  have noA : (Value.ref C :: bm).contains (.type "AttributeError") = false := by rw [List.contains_cons, T.nA]; rfl
  have noN : (Value.ref C :: bm).contains (.type "NameError") = false := by rw [List.contains_cons, T.nN]; rfl
  refine codeAny_builtinAt F.entry ?_
  unfold Builtin.«BaseException.__new__»
  refine PySem.wpAt_bind ?_
  show PySem.wpAt _ _ _ (stack >>= _) _ _ _
  refine PySem.wpAt_bind (PySem.wpAt_stack fun pp below => PySem.wpAt_of_wpAny ?_)
  wp_walk
  refine PySem.wpAt_of_wpAny ?_
  rw [F.owner]
  repeat (first | (with_reducible refine wpAny_madeHere_exc F.canon ho ?_) | (with_reducible refine wpAny_loadPart_at ho ?_) | (with_reducible refine wpAny_isSubtype_exc ho ?_; first | rw [yes] | rw [noA] | rw [noN]) | wp_step)
  show R _ _
  rw [Heap.size_push]
  exact fin
theorem ex_tcall (F : ExcBaseFacts B ni ii bmB) (T : Tail B bm) {us : List Value} {kw : List (Str × Value)} {vI : Value} {Q : PySem.Fin → Shared → Prop} (ho : hp.get? C = some (excClassObj nm q C N bs bm hd sn sub ab col dd k0 k1 k2 k3 k5 ni))
    (look : W.Looks (model prog w) hp (typeLookup (.ref C) "__init__") (some vI)) (own : ∀ e, W.Looks (model prog w) hp (bindSpecial vI e) (vI, [e])) (hl : us.length ≤ sizeLine)
    (ini : codeAny (model prog w) A (.call vI ⟨.ref (hp.objs.size + 1) :: us, kw⟩)
      (fun r s' => match r with | .ok (.ret v) => v = .none ∧ Q (.done (.ret (.ref (hp.objs.size + 1)))) s' | .ok _ => False | .error e => E e s') ⟨(hp.push (W.kdv_tup us)).push (excO C hp.objs.size), gs, dr, tk, os⟩) :
    wpAny (model prog w) A (Builtin.«type.__call__» ⟨.ref C :: us, kw⟩) Q E ⟨hp, gs, dr, tk, os⟩ := by
  repeat (first | (with_reducible refine wpAny_loadPart_at ho ?_) | (with_reducible refine wpAny_madeBy_exc ho ?_) | wp_step)
  refine codeAny_call_builtin_code (Code.quiet_builtin _ F.quiet) (ex_check F T ho ?_)
  refine ex_new F T ho hl ?_
  show wpAny _ _ _ _ _ _
  have kp : ∀ b o, hp.get? b = some o → ((hp.push (W.kdv_tup us)).push (excO C hp.objs.size)).get? b = some o := fun b o z => Heap.get?_push_of_some _ (Heap.get?_push_of_some _ z)
  have ho1 := kp _ _ ho
  have he : ((hp.push (W.kdv_tup us)).push (excO C hp.objs.size)).get? (hp.objs.size + 1) = some (excO C hp.objs.size) := by heap_get
  have self : (Value.ref C :: bm).contains (.ref C) = true := by simp
  have l1 := look.keeps kp
  have o1 := (own (.ref (hp.objs.size + 1))).keeps kp
  unfold isInstance
  repeat (first | (with_reducible refine wpAny_loadPart_at he ?_) | (with_reducible refine wpAny_isSubtype_exc ho1 ?_; rw [self]) | wp_step)
  show wpAny _ _ (typeLookup (.ref C) _) _ _ _
  refine l1.at ?_
  refine wpAny_holding (wpAny_bind (o1.at ?_))
  refine wpAny_bind (wpAny_call (codeAny_mono ini fun r s' z => ?_))
  rcases r with e | (v | _ | _ | _) <;> first | exact z | exact z.elim | skip
  obtain ⟨rfl, z⟩ := z
  first | exact wpAny_pure (wpAny_pure z) | (wp_walk; exact z)
theorem ex_tcheck {us : List Value} {kw : List (Str × Value)} {Q : Unit → Shared → Prop} (ho : hp.get? C = some (excClassObj nm q C N bs bm hd sn sub ab col dd k0 k1 k2 k3 k5 ni)) (fin : Q () ⟨hp, gs, dr, tk, os⟩) :
    wpAny M A (checkBuiltinCall "type.__call__" ⟨.ref C :: us, kw⟩) Q E ⟨hp, gs, dr, tk, os⟩ := by
  have a3 := tc_sub
  have ty : (⟨hp, gs, dr, tk, os⟩ : Shared).TypeIs (.ref C) "type" := ⟨_, ho, rfl⟩
  simp only [checkBuiltinCall, tc_kind, tc_split]
  repeat (any_goals (first | assumption | (with_reducible refine wpAny_loadPart_at ho ?_) | (with_reducible refine wpAny_onRaise ?_) | (with_reducible refine wpAny_map ?_) | wp_step))
theorem ex_call (F : ExcBaseFacts B ni ii bmB) (T : Tail B bm) {us : List Value} {kw : List (Str × Value)} {vI : Value} (ho : hp.get? C = some (excClassObj nm q C N bs bm hd sn sub ab col dd k0 k1 k2 k3 k5 ni))
    (look : W.Looks (model prog w) hp (typeLookup (.ref C) "__init__") (some vI)) (own : ∀ e, W.Looks (model prog w) hp (bindSpecial vI e) (vI, [e])) (hl : us.length ≤ sizeLine)
    (ini : codeAny (model prog w) (A.under (.builtin "type.__call__" ⟨.ref C :: us, kw⟩)) (.call vI ⟨.ref (hp.objs.size + 1) :: us, kw⟩) (W.InitBack (hp.objs.size + 1) R) ⟨(hp.push (W.kdv_tup us)).push (excO C hp.objs.size), gs, dr, tk, os⟩) :
    codeAny (model prog w) A (.call (.ref C) ⟨us, kw⟩) R ⟨hp, gs, dr, tk, os⟩ := by
  have a1 := tc_lookup
  have a2 := tc_bind (.ref C)
  have ty : (⟨hp, gs, dr, tk, os⟩ : Shared).TypeIs (.ref C) "type" := ⟨_, ho, rfl⟩
  refine codeAny_of_tree ?_
  show wpAny _ _ (callAny (.ref C) _) _ _ _
  repeat (any_goals (first | assumption | (with_reducible refine wpAny_loadPart_at ho ?_) | wp_step))
  refine ⟨rfl, ?_⟩
  refine codeAny_call_builtin_at (Code.quiet_builtin _ (by decide +kernel)) entry_typeCall ?_
  refine ex_tcheck ho ?_
  refine ex_tcall F T ho look own hl ?_
  refine codeAny_mono ini fun r s' z => ?_
  rcases r with e | (v | _ | _ | _) <;> exact z
end
end Ow

/-! exceptions of own classes as values: made by a call, their fields stored and read, isinstance -/
namespace Ow
open PySem PySem.Spec PyProof.Rows L2
/-- an own exception class, whatever its base -/
structure OexB (K : PySem.W.Frag) (C : Addr) : Prop where
  cls : ∃ B ni ii bmB nm q N bs bm sn sub ab col dd k0 k1 k2 k3 k5, ExcBaseFacts B ni ii bmB ∧ K.lookup C = some (excClassObj nm q C N bs bm true sn sub ab col dd k0 k1 k2 k3 k5 ni) ∧ Tail B bm ∧
    (∀ v, PySem.refuseLoop v "__setattr__" (.ref C :: bm) = pure ()) ∧ (Value.ref C :: bm).contains (.type "object") = true
  sa : PySem.W.findIn K (.ref C) "__setattr__" = some (some (.builtin "object.__setattr__"))
  kC : PySem.W.keepIn K (.ref C) = true
/-- its own __init__ -/
structure OIni (K : PySem.W.Frag) (C fI : Addr) : Prop where
  iC : PySem.W.findIn K (.ref C) "__init__" = some (some (.ref fI))
  tI : PySem.W.typeIn K (.ref fI) = some (.type "function")
def tEx (C : Addr) (sp : Sp) (E : XK) (t : TA) : TE := fun σ H Q => t σ H fun vs H1 => vs.length ≤ 1000 ∧ ∀ a, H1 a = none → sp (.ref a :: vs) (upd H1 a (exo a C none)) (fun v H2 => v = .non ∧ Q (.ref a) H2) E
def tExK (C : Addr) (m : Nat) (sp : Sp) (gV : List V → List V → List V) (E : XK) (tk : TA) : TE := fun σ H Q => tk σ H fun zs H1 => zs.length = m ∧ ∀ a, H1 a = none → sp (gV [.ref a] zs) (upd H1 a (exo a C none)) (fun v H2 => v = .non ∧ Q (.ref a) H2) E
section
variable {X : Cx} {CX : CXT} {k n : Nat} {fI C : Addr} {fd : FuncData} {ps ks : List Str} {sp : Sp} {E : XK} {x : Str} {p pos : Pos} {e : Expr} {es : List Expr} {kws : List Keyword} {t tk : TA} {g : List Value → List Value → List Value} {gV : List V → List V → List V}
theorem ex_laid {pins : List (Addr × Obj)} {σ : L2.St} {H : Hp} {s : Shared} {us : List Value} (I : Inv X pins σ H s) :
    Inv X pins σ (upd H (s.heap.objs.size + 1) (exo (s.heap.objs.size + 1) C none)) { s with heap := (s.heap.push (PySem.W.kdv_tup us)).push (PySem.HandSPX.excO C s.heap.objs.size) } := by
  obtain ⟨hp, gs, dr, tk, os⟩ := s
  have he : ((hp.push (PySem.W.kdv_tup us)).push (PySem.HandSPX.excO C hp.objs.size)).get? (hp.objs.size + 1) = some (PySem.HandSPX.excO C hp.objs.size) := by heap_get
  exact I.laid (t' := tk) (a := hp.objs.size + 1) (o := exo (hp.objs.size + 1) C none) (fun b o e => Heap.get?_push_of_some _ (Heap.get?_push_of_some _ e)) (Nat.le_succ _) (exo_ok he)
theorem run_ex {pins : List (Addr × Obj)} {σ : L2.St} {H : Hp} {s : Shared} {Q : VK} {us : List Value} {vs : List V} (T : OexB X.K C) (O : OIni X.K C fI) (F : FnOk X.prog X.w X.K X.mg X.base CX k fI fd ps sp) (hr : Room (k + 1) X.A) (hb : Binds X.K fd ps [])
    (hx : Passes CX X E) (I : Inv X pins σ H s) (r : Vals vs us) (hl : vs.length ≤ 1000)
    (h : ∀ a, H a = none → sp (.ref a :: vs) (upd H a (exo a C none)) (fun v H2 => v = .non ∧ Q (.ref a) H2) E) :
    wpAny (model X.prog X.w) X.A (call (.ref C) us) (EP X pins σ Q) X.xe s := by
  obtain ⟨B, ni, ii, bmB, nm, q, N, bs, bm, sn, sub, ab, col, dd, k0, k1, k2, k3, k5, FB, hC, hT, _, _⟩ := T.cls
  have hq := h (s.heap.objs.size + 1) (I.hok.fresh (Nat.le_succ _))
  have I2 := ex_laid (C := C) (us := us) I
  have r1 : Vals (V.ref (s.heap.objs.size + 1) :: vs) (Value.ref (s.heap.objs.size + 1) :: us) := .cons rfl r
  have e1 : (Value.ref (s.heap.objs.size + 1) :: us).length = ps.length := by
    have z := r1.length
    rw [F.len _ _ _ _ hq] at z
    exact z.symm
  have e2 : us.length ≤ sizeLine := by
    rw [← r.length, sizeLine_eq]
    omega
  obtain ⟨hp, gs, dr, tk, os⟩ := s
  have r2 : Vals (V.ref (hp.objs.size + 1) :: vs) ((Value.ref (hp.objs.size + 1) :: us) ++ []) := by rw [List.append_nil]; exact r1
  have bt := hb _ (Value.ref (hp.objs.size + 1) :: us) I2.kIn (by rw [List.append_nil]; exact e1)
  refine wpAny_call (ex_call FB hT (I.kIn _ _ hC) (PySem.W.looks_findIn I.kIn O.iC) (fun self => PySem.W.bind_fn I.kIn self O.tI) e2
    (codeAny_mono (F.run _ X.stack _ _ ⟨Value.ref (hp.objs.size + 1) :: us, []⟩ ((Value.ref (hp.objs.size + 1) :: us) ++ []) _ _ E (hr.make C us []) (I2.env0.make C us []) bt r2 hq) fun r s' hq' => ?_))
  cases r with
  | error e => exact hx pins σ _ _ e s' I2 hq'
  | ok fl =>
    cases fl with
    | ret u =>
      obtain ⟨v, H', I3, rv, ev, q3⟩ := I2.after hq'
      subst ev
      exact ⟨rv, ⟨V.ref (hp.objs.size + 1), H', I3, rfl, q3⟩⟩
    | next => exact False.elim hq'
    | brk => exact False.elim hq'
    | cont => exact False.elim hq'
theorem run_exK {pins : List (Addr × Obj)} {σ : L2.St} {H : Hp} {s : Shared} {Q : VK} {ws : List Value} {zs : List V} (T : OexB X.K C) (O : OIni X.K C fI) (F : FnOk X.prog X.w X.K X.mg X.base CX k fI fd ps sp) (hr : Room (k + 1) X.A) (hb : KBn X.K fd ps 1 ks g gV)
    (hx : Passes CX X E) (I : Inv X pins σ H s) (r : Vals zs ws) (hl : zs.length = ks.length)
    (h : ∀ a, H a = none → sp (gV [.ref a] zs) (upd H a (exo a C none)) (fun v H2 => v = .non ∧ Q (.ref a) H2) E) :
    wpAny (model X.prog X.w) X.A (call (.ref C) [] (ks.zip ws)) (EP X pins σ Q) X.xe s := by
  obtain ⟨B, ni, ii, bmB, nm, q, N, bs, bm, sn, sub, ab, col, dd, k0, k1, k2, k3, k5, FB, hC, hT, _, _⟩ := T.cls
  have hq := h (s.heap.objs.size + 1) (I.hok.fresh (Nat.le_succ _))
  have I2 := ex_laid (C := C) (us := []) I
  have r1 : Vals [V.ref (s.heap.objs.size + 1)] [Value.ref (s.heap.objs.size + 1)] := .cons rfl .nil
  have r2 := hb.rel r1 r
  have e2 : ws.length = ks.length := r.length.symm.trans hl
  obtain ⟨hp, gs, dr, tk, os⟩ := s
  refine wpAny_call (ex_call FB hT (I.kIn _ _ hC) (PySem.W.looks_findIn I.kIn O.iC) (fun self => PySem.W.bind_fn I.kIn self O.tI) (Nat.zero_le _)
    (codeAny_mono (F.run _ X.stack _ _ ⟨[Value.ref (hp.objs.size + 1)], ks.zip ws⟩ (g [Value.ref (hp.objs.size + 1)] ws) _ _ E (hr.make C [] (ks.zip ws)) (I2.env0.make C [] (ks.zip ws)) (hb.to _ [Value.ref (hp.objs.size + 1)] ws I2.kIn rfl e2) r2 hq) fun r s' hq' => ?_))
  cases r with
  | error e => exact hx pins σ _ _ e s' I2 hq'
  | ok fl =>
    cases fl with
    | ret u =>
      obtain ⟨v, H', I3, rv, ev, q3⟩ := I2.after hq'
      subst ev
      exact ⟨rv, ⟨V.ref (hp.objs.size + 1), H', I3, rfl, q3⟩⟩
    | next => exact False.elim hq'
    | brk => exact False.elim hq'
    | cont => exact False.elim hq'
/-- C(e, ..) -/
theorem pe_ex (T : OexB X.K C) (O : OIni X.K C fI) (F : FnOk X.prog X.w X.K X.mg X.base CX k fI fd ps sp) (hr : Room (k + 1) X.A) (hg : Gl X x) (hm : X.mg x = some (.ref C)) (hb : Binds X.K fd ps []) (hx : Passes CX X E) (ha : PA X (e :: es) t)
    (hdb : (x == ("__debug__" : Str)) = false := by decide) (he : starEach (e :: es) X.env = (false, eval e X.env) :: starEach es X.env := by rfl) (hpl : (backTo pos (starEach es X.env)).any (·.1) = false := by rfl) :
    PE X (.Call (.Name x p) (e :: es) [] pos) (tEx C sp E t) := by
  refine ⟨fun pins s σ H Q I h => ?_⟩
  refine wpAny_Call_Name_kw (ld_glob I hg hm ?_ hdb)
  refine PySem.W.callWith_K (h₀ := X.base) I.ok.mod.kin T.kC (thn (ha.run pos pins s σ H _ I h) fun us s1 ⟨vs, H1, I1, r, hl, q⟩ => ⟨I1.kIn, ?_⟩) he hpl
  exact run_ex T O F hr hb hx I1 r hl q
/-- C(k = e, ..) -/
theorem pe_exK (T : OexB X.K C) (O : OIni X.K C fI) (F : FnOk X.prog X.w X.K X.mg X.base CX k fI fd ps sp) (hr : Room (k + 1) X.A) (hg : Gl X x) (hm : X.mg x = some (.ref C)) (hb : KBn X.K fd ps 1 ks g gV) (hx : Passes CX X E) (hkw : PK X kws tk)
    (hall : (backToKw pos (keywordEach kws X.env)).all (·.1.isSome) = true := by rfl) (hks : (backToKw pos (keywordEach kws X.env)).filterMap (·.1) = ks := by rfl) (hdb : (x == ("__debug__" : Str)) = false := by decide)
    (hpl : ((backTo pos (starEach [] X.env)).any (·.1) || (backToKw pos (keywordEach kws X.env)).any (·.1.isNone)) = false := by rfl) : PE X (.Call (.Name x p) [] kws pos) (tExK C ks.length sp gV E tk) := by
  refine ⟨fun pins s σ H Q I h => ?_⟩
  refine wpAny_Call_Name_kw (ld_glob I hg hm ?_ hdb)
  refine PySem.W.callWith_KW0 (h₀ := X.base) (first := []) I.ok.mod.kin T.kC hall ?_ hpl
  refine thn (hkw.run pos pins s σ H _ I h) fun ws s2 ⟨zs, H2, I2, rz, l2, q2⟩ => ⟨I2.kIn, ?_⟩
  rw [hks]
  exact run_exK T O F hr hb hx I2 rz l2 q2
end
end Ow

namespace Ow
open PySem PySem.W PySem.Calls PyProof.Rows PySem.HandSPX Builtin Builtin.ObjectAttr
section
variable {prog : Program} {w : World} {A : Around} {R : Result → Shared → Prop} {hp : Heap} {gs : Array GenState} {dr : Drawn} {tk : Nat} {os : OsState}
/-- the first field of an exception of any own class -/
theorem osa_first {K : W.Frag} {nm : Str} {tk0 : Tok} {y : Value} {a C : Addr} {fs : Array Value} {cd : ClassData} (X : K.In hp) (hx : hp.get? a = some { cls := .ref C, data := .fields fs }) (hcd : W.clsIn K C = some cd)
    (pass : ∀ v, PySem.refuseLoop v "__setattr__" cd.mro = pure ()) (hob : cd.mro.contains (.type "object") = true) (hh : cd.hasDict = true) (free : W.findIn K (.ref C) nm = some none)
    (fin : ∀ h' t' dx, (∀ b o, b ≠ a → hp.get? b = some o → h'.get? b = some o) → hp.objs.size ≤ dx → dx ≠ a → h'.get? a = some { cls := .ref C, dict := some dx, data := .fields fs } → h'.Ns1 dx (fun z => if z = nm then some y else none) → R (.ok (.ret .none)) ⟨h', gs, dr, t', os⟩) :
    codeAny (model prog w) A (.call (.builtin "object.__setattr__") ⟨[.ref a, .str nm tk0, y], []⟩) R ⟨hp, gs, dr, tk, os⟩ := by
  have J : W.InstAt hp a { cls := .ref C, data := .fields fs } C none := ⟨hx, rfl, rfl, trivial⟩
  have so := F.store_object
  have ne : cd.mro.isEmpty = false := by
    cases e : cd.mro with
    | nil => rw [e] at hob; cases hob
    | cons _ _ => rfl
  have apart : a ≠ hp.objs.size := Nat.ne_of_lt (Heap.lt_size hx)
  have isO : W.Looks (model prog w) hp (isInstance (.ref a) (.type "object")) true := J.type.andThen (W.looks_mroIn X (by unfold W.mroIn; rw [hcd, Option.bind_some, if_neg (by rw [ne]; decide), hob]))
  refine codeAny_call_builtin so.slot.plain so.entry (@W.check_slot (model prog w) _ _ ⟨hp, gs, dr, tk, os⟩ "object.__setattr__" "object" "__setattr__" (.ref a) [.str nm tk0, y] [] _ so.kind so.split isO (so.args (.ref a) (.str nm tk0) y) ?_)
  have m1 : W.Looks (model prog w) hp (mroOf (.ref C)) cd.mro := (W.looks_clsIn X hcd).andThen .now
  have m2 : W.Looks (model prog w) hp (storeTaker? none) none := .now
  have m3 : W.Looks (model prog w) hp (classData C) cd := W.looks_clsIn X hcd
  rw [W.osa_eq, refuse_eq]
  refine wpAny_bind (wpAny_bind (J.type.at (wpAny_bind (m1.at ?_))))
  rw [pass]
  refine wpAny_pure (wpAny_bind (J.type.at (wpAny_bind ((W.looks_findIn X free).at (wpAny_bind (m2.at ?_))))))
  show wpAny _ _ (storeInOwnDict (.ref a) (.ref C) (.str nm tk0) nm y false) _ _ _
  obtain ⟨cn, bs, mro, ns, qn, hd, sn, sb, ab, col, del⟩ := cd
  dsimp only at hh
  subst hh
  unfold storeInOwnDict ownDictForStores
  repeat (first | (with_reducible refine store_in_new ?_ ?_) | (with_reducible refine wpAny_loadPart_at hx ?_) | (with_reducible refine m3.at ?_) | wp_step)
  · exact ⟨_, #[], _, (Heap.get?_update_ne _ _ _ _ apart.symm).trans (Heap.get?_push_at rfl rfl), rfl, fun z hz => absurd hz (by simp), fun _ => rfl⟩
  · intro h' t' dn ds
    have ha1 : (hp.push { cls := .type "dict", data := .dict #[] }).get? a = some { cls := .ref C, data := .fields fs } := Heap.get?_push_of_some _ hx
    refine fin h' t' hp.objs.size (fun b o nb z => ?_) (Nat.le_refl _) apart.symm ?_ dn
    · exact (ds.2 b (Nat.ne_of_lt (Heap.lt_size z))).trans ((Heap.get?_update_ne _ _ _ _ nb).trans (Heap.get?_push_of_some _ z))
    · exact (ds.2 a apart).trans (Heap.get?_update_self _ ha1 rfl)
end
end Ow
namespace Ow
open PySem PySem.Spec PyProof.Rows L2
theorem OexC.b {K : PySem.W.Frag} {C : Addr} (T : OexC K C) : OexB K C := by
  obtain ⟨nm, q, N, bs, bm, sn, sub, ab, col, dd, k0, k1, k2, k3, k5, hC, hbm⟩ := T.cls
  have cont : ∀ Y : String, bm.contains (.type Y) = PySem.HandSPX.veTail.contains (.type Y) := fun Y => PySem.HandSPX.refsVE_contains Y bm hbm
  refine ⟨⟨_, _, _, _, nm, q, N, bs, bm, sn, sub, ab, col, dd, k0, k1, k2, k3, k5, F.excBase_ValueError, hC, ⟨(cont _).trans (by decide +kernel), (cont _).trans (by decide +kernel), (cont _).trans (by decide +kernel)⟩, fun v => ?_, ?_⟩, T.sa, T.kC⟩
  · exact PySem.HandSPX.refsVE_pass v _ (show PySem.HandSPX.refsVE (.ref C :: bm) = true from hbm)
  · rw [List.contains_cons, cont, show PySem.HandSPX.veTail.contains (.type "object") = true from by decide +kernel, Bool.or_true]
/-- over KeyError -/
abbrev keTail : List Value := [.type "KeyError", .type "LookupError", .type "Exception", .type "BaseException", .type "object"]
theorem ke_pass (v : Value) : PySem.refuseLoop v "__setattr__" keTail = pure () := by kernel_rfl
theorem OexB.key {K : PySem.W.Frag} {C : Addr} {nm q N bs sn sub ab col dd k0 k1 k2 k3 k5} (hC : K.lookup C = some (excClassObj nm q C N bs keTail true sn sub ab col dd k0 k1 k2 k3 k5 "LookupError.__new__"))
    (sa : PySem.W.findIn K (.ref C) "__setattr__" = some (some (.builtin "object.__setattr__"))) (kC : PySem.W.keepIn K (.ref C) = true) : OexB K C := by
  refine ⟨⟨_, _, _, _, nm, q, N, bs, keTail, sn, sub, ab, col, dd, k0, k1, k2, k3, k5, F.excBase_LookupError, hC, ⟨by decide +kernel, by decide +kernel, by decide +kernel⟩, fun v => ?_, ?_⟩, sa, kC⟩
  · rw [PySem.refuseLoop_ref]
    exact ke_pass v
  · rw [List.contains_cons, show keTail.contains (.type "object") = true from by decide +kernel, Bool.or_true]
section
variable {X : Cx} {CX : CXT} {pins : List (Addr × Obj)} {σ : L2.St} {H : Hp} {s : Shared} {a C : Addr} {f : Str} {y : V} {u : Value} {Q : Unit → Shared → Prop} {E : Value → Shared → Prop} {A : Around}
theorem exs_first (T : OexB X.K C) (I : Inv X pins σ H s) (e : H a = some (exo a C none)) (free : PySem.W.findIn X.K (.ref C) f = some none) (ry : RelV y u)
    (fin : ∀ dx s', H dx = none → dx ≠ a → Inv X pins σ (upd (upd H dx (exd dx [(f, y)])) a (exo a C (some dx))) s' → Q () s') : wpAny (model X.prog X.w) A (setAttr (.ref a) f u) Q E s := by
  obtain ⟨B, ni, ii, bmB, nm, q, N, bs, bm, sn, sub, ab, col, dd, k0, k1, k2, k3, k5, FB, hC, hT, pass, hob⟩ := T.cls
  have hcl : PySem.W.clsIn X.K C = some { name := nm, bases := bs, mro := .ref C :: bm, ns := N, qualname := q, hasDict := true, slotNames := sn, subclasses := sub, abstract := ab, collection := col, hasDel := false } := by unfold PySem.W.clsIn; rw [hC] <;> rfl
  obtain ⟨t1, ho⟩ := exo_at I.hok e
  obtain ⟨hp, gs, dr, tk, os⟩ := s
  refine PySem.W.set_plain I.kIn (ox := { cls := .ref C, dict := none, data := .fields #[.ref t1, .none, .none, .none, .bool false, .none] }) (od := none) ⟨ho, rfl, rfl, trivial⟩ T.sa ?_
  refine osa_first I.kIn ho hcl pass hob rfl free (fun h' t' dx kp le ne ha hns => ?_)
  have hnd : H dx = none := I.hok.fresh le
  have n1 : ∀ {b : Addr} {o : Obj}, hp.get? b = some o → b ≠ dx := fun {b o} z => Nat.ne_of_lt (Nat.lt_of_lt_of_le (Heap.lt_size z) le)
  have n2 : ∀ {b : Addr}, H b = none → b ≠ a := fun {b} z1 z2 => by
    rw [z2, e] at z1
    cases z1
  have U : Un X.fs [] H (upd (upd H dx (exd dx [(f, y)])) a (exo a C (some dx))) hp h' := {
    keep := fun b o z m _ _ => kp b o (n2 m) z
    slot := fun b o z m _ _ => ⟨o.slots, kp b o (n2 m) z⟩
    free := fun b o z m _ => by
      rw [upd_ne (n2 m), upd_ne (n1 z)]
      exact m
    there := fun b o z _ => by
      by_cases hb : b = a
      · exact ⟨_, by rw [hb]; exact ha⟩
      · exact ⟨o, kp b o hb z⟩
    tups := fun b xs z => by
      rw [upd_ne (at_ne e z exo_tup), upd_ne (ne_of_none z hnd)]
      exact z
    frzs := fun b o v z => by
      rw [upd_ne (at_ne e z exo_frz), upd_ne (ne_of_none z hnd)]
      exact z
    tbls := fun b ps z => ⟨#[], by rw [upd_ne (at_ne e z exo_tbl), upd_ne (ne_of_none z hnd), z]; simp⟩ }
  refine fin dx _ hnd ne (I.un (t' := t') U fun b o z => ?_)
  by_cases hb : b = a
  · subst hb
    rw [upd_same] at z
    cases z
    exact exo_ok ha
  · rw [upd_ne hb] at z
    by_cases hd : b = dx
    · subst hd
      rw [upd_same] at z
      cases z
      exact exd_ok hns (relO_put (fs := []) ry fun g => True.intro)
    · rw [upd_ne hd] at z
      exact (I.hok b o z).stay (fun c v hc l => kp c v (by
          rcases hc with hc | hc
          · rw [hc]
            exact hb
          · exact at_ne e hc exo_own) l)
        (fun c hc => by rw [upd_ne (at_ne e hc exo_own), upd_ne (ne_of_none hc hnd)]; exact hc) (fun c xs hc => by rw [upd_ne (at_ne e hc exo_tup), upd_ne (ne_of_none hc hnd)]; exact hc)
/-- self.f = e, the first field, any base -/
def tExn (K : PySem.W.Frag) (f : Str) (to te : TE) : TS := fun D σ H => te σ H fun y H1 => to σ H1 fun x H2 => ∃ a C : Addr, x = .ref a ∧ OexB K C ∧ PySem.W.findIn K (.ref C) f = some none ∧ H2 a = some (exo a C none) ∧
  ∀ dx, H2 dx = none → dx ≠ a → D.nx σ (upd (upd H2 dx (exd dx [(f, y)])) a (exo a C (some dx)))
theorem ps_exn {o e : Expr} {to te : TE} {p' pos : Pos} (ho : PE X o to) (he : PE X e te) (hs : swapsWith e (some (.Attribute o f p')) pos.line X.env = pure false := by rfl) : PS X (.Assign [.Attribute o f p'] e pos) (tExn X.K f to te) := by
  refine ⟨fun pins s σ H D I h => ?_⟩
  refine plainObj_wpAny_Assign_Attribute (thn (he.run pins s σ H _ I h) fun v s1 ⟨y, H1, I1, r1, q1⟩ => thn (ho.run pins s1 σ H1 _ I1 q1) fun u s2 ⟨x, H2, I2, r2, a, C, ex, T, hno, ea, q⟩ => ?_) hs
  subst ex
  obtain rfl : u = Value.ref a := r2
  exact exs_first T I2 ea hno r1 fun dx s' n ne J => ⟨σ, _, J, q dx n ne⟩
/-- e.f, e an exception -/
def tXv (K : PySem.W.Frag) (f : Str) (te : TE) : TE := fun σ H Q => te σ H fun x H1 => ∃ (a C d : Addr) (fs : List (Str × V)) (v : V), x = .ref a ∧ XfC K C ∧ PySem.W.findIn K (.ref C) f = some none ∧ H1 a = some (exo a C (some d)) ∧ H1 d = some (exd d fs) ∧ fs.lookup f = some v ∧ Q v H1
theorem pe_xv {e : Expr} {te : TE} {pos : Pos} (he : PE X e te) (hb : attributeBase e f X.env (eval e X.env) = eval e X.env := by rfl) : PE X (.Attribute e f pos) (tXv X.K f te) := by
  refine ⟨fun pins s σ H Q I h => ?_⟩
  refine attr_of hb (thn (he.run pins s σ H _ I h) fun u s1 hh => ?_)
  obtain ⟨x, H1, I1, rx, a, C, d, fs, v, ex, T, hno, ea, ed, l, q⟩ := hh
  subst ex
  obtain rfl : u = Value.ref a := rx
  obtain ⟨t1, ha⟩ := exo_at I1.hok ea
  obtain ⟨mA, hns, hr⟩ := exd_at I1.hok ed
  obtain ⟨od, hod, hl⟩ := lookIn_ns hns
  obtain ⟨u, hu, ru⟩ := RelO.some_of (v := v) (o := mA f) (by rw [← l]; exact hr f)
  have J : PySem.W.InstAt s1.heap a _ C (some od) := ⟨ha, rfl, rfl, hod⟩
  exact HandSPX.exc_get I1.kIn J T.ga T.gg T.exC (PySem.W.findObj_own T.hdC hno rfl (by rw [hl, hu])) (handed_of ru) ⟨v, H1, I1.tok _, ru, q⟩
/-- isinstance(e, c), e an exception -/
def rIsX (K : PySem.W.Frag) : List V → Hp → VK → Prop := fun xs H Q => ∃ (a C : Addr) (c : V) (cv : Value) (b : Bool), xs = [.ref a, c] ∧ ExcC K C ∧ (H a = some (exo a C none) ∨ ∃ d fs, H a = some (exo a C (some d)) ∧ H d = some (exd d fs)) ∧
  (∀ u, RelV c u → u = cv) ∧ PySem.W.kitOne K (.ref C) cv = some b ∧ Q (.bl b) H
theorem call_isX : CallR X (.builtin "isinstance") (rIsX X.K) := by
  intro pins s σ H xs us Q I r h
  obtain ⟨a, C, c, cv, b, rfl, T, hz, hcv, e, q⟩ := h
  cases r with
  | cons rx rr =>
    cases rr with
    | cons rt rr =>
      cases rr
      cases rx
      have ec := hcv _ rt
      subst ec
      have isC : (PySem.W.clsIn X.K C).isSome = true := by
        obtain ⟨cd, hc, _⟩ := PySem.W.any_some T.hd
        rw [hc]
        rfl
      have J : ∃ ox od, PySem.W.InstAt s.heap a ox C od := by
        rcases hz with ea | ⟨d, fs, ea, ed⟩
        · obtain ⟨t1, ha⟩ := exo_at I.hok ea
          exact ⟨_, none, ha, rfl, rfl, trivial⟩
        · obtain ⟨t1, ha⟩ := exo_at I.hok ea
          obtain ⟨mA, hns, _⟩ := exd_at I.hok ed
          obtain ⟨od, hod, _⟩ := lookIn_ns hns
          exact ⟨_, some od, ha, rfl, rfl, hod⟩
      obtain ⟨ox, od, J⟩ := J
      exact PySem.W.kia_one (PySem.W.kitx_exc isC T.hg T.hk T.hs T.ha T.hn T.ht T.hm) I.kIn J e (fun z => nomatch z) fun tk => ⟨.bl b, H, I.kept (t' := tk) fun _ _ z => z, rfl, q⟩
/-- C(), no __init__ of its own -/
def tEx0 (C : Addr) : TE := fun σ H Q => ∀ a, H a = none → Q (.ref a) (upd H a (exo a C none))
theorem pe_ex0 {x : Str} {p pos : Pos} (T : OexC X.K C) (iV : PySem.W.findIn X.K (.ref C) "__init__" = some (some (.builtin "ValueError.__init__"))) (hg : Gl X x) (hm : X.mg x = some (.ref C)) (hdb : (x == ("__debug__" : Str)) = false := by decide) :
    PE X (.Call (.Name x p) [] [] pos) (tEx0 C) := by
  refine ⟨fun pins s σ H Q I h => ?_⟩
  refine wpAny_Call_Name_kw (ld_glob I hg hm ?_ hdb)
  refine PySem.W.callWith_K0 (first := []) I.kIn T.kC ?_
  obtain ⟨nm, q, N, bs, bm, sn, sub, ab, col, dd, k0, k1, k2, k3, k5, hC, hbm⟩ := T.cls
  have cont : ∀ Y : String, bm.contains (.type Y) = PySem.HandSPX.veTail.contains (.type Y) := fun Y => PySem.HandSPX.refsVE_contains Y bm hbm
  have hT : Tail "ValueError" bm := ⟨(cont _).trans (by decide +kernel), (cont _).trans (by decide +kernel), (cont _).trans (by decide +kernel)⟩
  have I2 := ex_laid (C := C) (us := []) I
  have q1 := h (s.heap.objs.size + 1) (I.hok.fresh (Nat.le_succ _))
  obtain ⟨hp, gs, dr, tk, os⟩ := s
  have kp : ∀ b o, hp.get? b = some o → ((hp.push (PySem.W.kdv_tup [])).push (PySem.HandSPX.excO C hp.objs.size)).get? b = some o := fun b o z => Heap.get?_push_of_some _ (Heap.get?_push_of_some _ z)
  have he : ((hp.push (PySem.W.kdv_tup [])).push (PySem.HandSPX.excO C hp.objs.size)).get? (hp.objs.size + 1) = some (PySem.HandSPX.excO C hp.objs.size) := by heap_get
  have at_ : upd H (hp.objs.size + 1) (exo (hp.objs.size + 1) C none) (hp.objs.size + 1) = some (exo (hp.objs.size + 1) C none) := upd_same
  refine wpAny_call (ex_call F.excBase_ValueError hT (I.kIn _ _ hC) (PySem.W.looks_findIn I.kIn iV) (fun self => .of_pure (F.excBase_ValueError.init.bind self)) (Nat.zero_le _) ?_)
  refine PySem.HandSPX.init_base F.excBase_ValueError cont (kp _ _ (I.kIn _ _ hC)) he (Nat.zero_le _) fun h' t1 keep hx => ⟨rfl, ?_⟩
  have J := I2.write (t' := tk) (x := hp.objs.size + 1) (e := hp.objs.size + 1) (o := exo (hp.objs.size + 1) C none) (by rw [at_]; exact True.intro) (.inl rfl) keep ⟨_, hx⟩ (exo_ok hx)
  have same : upd (upd H (hp.objs.size + 1) (exo (hp.objs.size + 1) C none)) (hp.objs.size + 1) (exo (hp.objs.size + 1) C none) = upd H (hp.objs.size + 1) (exo (hp.objs.size + 1) C none) := by
    funext b
    by_cases hb : b = hp.objs.size + 1
    · rw [hb, upd_same, upd_same]
    · rw [upd_ne hb]
  rw [same] at J
  exact ⟨.ref (hp.objs.size + 1), _, J, rfl, q1⟩
end
end Ow

namespace Tg
open PySem L2 Ow
def top (i : Nat) : Stmt := PySem.Challenge.pw_towgrove_k01_errors_and_their_attributes.main.body.getD i (.Pass ⟨0, 0, 0, 0⟩)
abbrev sBox : Stmt := top 16
abbrev sValue : Stmt := top 17
abbrev sTake : Stmt := top 18
abbrev sPlaced : Stmt := top 19
abbrev sNamed : Stmt := top 20
abbrev sFields : Stmt := top 21
abbrev sClasses : Stmt := top 22
abbrev sLaw : Stmt := top 23
/-- an exception at a with these fields -/
def ExAt (C : Addr) (H : Hp) (a : Addr) (fs : List (Str × V)) : Prop := ∃ d, H a = some (exo a C (some d)) ∧ H d = some (exd d fs)
/-- its __init__: one field; two fields -/
def spI1 (C : Addr) (f : Str) : Sp := fun vs H Q _ => ∃ (a : Addr) (x : V), vs = [.ref a, x] ∧ H a = some (exo a C none) ∧ ∀ H', (∀ b o, b ≠ a → H b = some o → H' b = some o) → ExAt C H' a [(f, x)] → Q .non H'
def spI2 (C : Addr) (f g : Str) : Sp := fun vs H Q _ => ∃ (a : Addr) (x y : V), vs = [.ref a, x, y] ∧ H a = some (exo a C none) ∧ ∀ H', (∀ b o, b ≠ a → H b = some o → H' b = some o) → ExAt C H' a [(g, y), (f, x)] → Q .non H'

section
variable {P : Program} {w : World} {K : PySem.W.Frag} {mg : Str → Option Value} {base : Heap} {C : Addr}
theorem keep1 {H : Hp} {a d : Addr} {o1 o2 : HO} (ha : H a = some o1) (nd : H d = none) {u v : HO} : ∀ b o, b ≠ a → H b = some o → (upd (upd H d u) a v) b = some o := fun b o nb e => by
  rw [upd_ne nb, upd_ne (ne_of_none e nd)]
  exact e
abbrev sINoTree : Stmt := inClass (top 4) 0
theorem scNoTree : FnScope ["self", "word", "at"] ["self", "word", "at"] (defScope sINoTree) := ⟨rfl, rfl, rfl, by decide +kernel, rfl, by decide +kernel, by decide +kernel⟩
theorem ok_NoTree {f : Addr} {fd : FuncData} (F : Fun K "__init__" "NoTree.__init__" sINoTree f fd) (T : OexC K C) (n1 : PySem.W.findIn K (.ref C) "word" = some none) (n2 : PySem.W.findIn K (.ref C) "at" = some none) : FnOk P w K mg base CX0 1 f fd ["self", "word", "at"] (spI2 C "word" "at") := by
  refine F.ok scNoTree (fun vs H Q E h => ?_) (fun cdv A outer s H vs Q E hr h => ?_)
  · obtain ⟨a, x, y, rfl, _⟩ := h
    rfl
  · obtain ⟨a, x, y, rfl, ea, k⟩ := h
    refine ⟨_, pss_cons (ps_exn (pv 0) (pv 1)) (pss_one (ps_ost (pv 0) (pv 2))), ?_⟩
    refine ⟨_, rfl, _, rfl, a, C, rfl, OexC.b T, n1, ea, fun d hd ne => ?_⟩
    have e1 : (upd (upd H d (exd d [("word", x)])) a (exo a C (some d))) a = some (exo a C (some d)) := upd_same
    have e2 : (upd (upd H d (exd d [("word", x)])) a (exo a C (some d))) d = some (exd d [("word", x)]) := by rw [upd_ne ne, upd_same]
    refine ⟨_, rfl, _, rfl, a, C, rfl, T, n2, .inr ⟨d, _, e1, e2, (by show 1 ≤ 900; decide), ?_⟩⟩
    refine k _ (fun b o nb e => ?_) ⟨d, by rw [upd_ne ne.symm]; exact e1, upd_same⟩
    rw [upd_ne (ne_of_none e hd)]
    exact keep1 ea hd (o2 := exd d []) b o nb e
abbrev sINoGrove : Stmt := inClass (top 5) 0
theorem scNoGrove : FnScope ["self", "one", "other"] ["self", "one", "other"] (defScope sINoGrove) := ⟨rfl, rfl, rfl, by decide +kernel, rfl, by decide +kernel, by decide +kernel⟩
theorem ok_NoGrove {f : Addr} {fd : FuncData} (F : Fun K "__init__" "NoGrove.__init__" sINoGrove f fd) (T : OexC K C) (n1 : PySem.W.findIn K (.ref C) "one" = some none) (n2 : PySem.W.findIn K (.ref C) "other" = some none) : FnOk P w K mg base CX0 1 f fd ["self", "one", "other"] (spI2 C "one" "other") := by
  refine F.ok scNoGrove (fun vs H Q E h => ?_) (fun cdv A outer s H vs Q E hr h => ?_)
  · obtain ⟨a, x, y, rfl, _⟩ := h
    rfl
  · obtain ⟨a, x, y, rfl, ea, k⟩ := h
    refine ⟨_, pss_cons (ps_exn (pv 0) (pv 1)) (pss_one (ps_ost (pv 0) (pv 2))), ?_⟩
    refine ⟨_, rfl, _, rfl, a, C, rfl, OexC.b T, n1, ea, fun d hd ne => ?_⟩
    have e1 : (upd (upd H d (exd d [("one", x)])) a (exo a C (some d))) a = some (exo a C (some d)) := upd_same
    have e2 : (upd (upd H d (exd d [("one", x)])) a (exo a C (some d))) d = some (exd d [("one", x)]) := by rw [upd_ne ne, upd_same]
    refine ⟨_, rfl, _, rfl, a, C, rfl, T, n2, .inr ⟨d, _, e1, e2, (by show 1 ≤ 900; decide), ?_⟩⟩
    refine k _ (fun b o nb e => ?_) ⟨d, by rw [upd_ne ne.symm]; exact e1, upd_same⟩
    rw [upd_ne (ne_of_none e hd)]
    exact keep1 ea hd (o2 := exd d []) b o nb e
abbrev sINoWeb : Stmt := inClass (top 6) 0
theorem scNoWeb : FnScope ["self", "word", "at"] ["self", "word", "at"] (defScope sINoWeb) := ⟨rfl, rfl, rfl, by decide +kernel, rfl, by decide +kernel, by decide +kernel⟩
theorem ok_NoWeb {f : Addr} {fd : FuncData} (F : Fun K "__init__" "NoWeb.__init__" sINoWeb f fd) (T : OexC K C) (n1 : PySem.W.findIn K (.ref C) "word" = some none) (n2 : PySem.W.findIn K (.ref C) "at" = some none) : FnOk P w K mg base CX0 1 f fd ["self", "word", "at"] (spI2 C "word" "at") := by
  refine F.ok scNoWeb (fun vs H Q E h => ?_) (fun cdv A outer s H vs Q E hr h => ?_)
  · obtain ⟨a, x, y, rfl, _⟩ := h
    rfl
  · obtain ⟨a, x, y, rfl, ea, k⟩ := h
    refine ⟨_, pss_cons (ps_exn (pv 0) (pv 1)) (pss_one (ps_ost (pv 0) (pv 2))), ?_⟩
    refine ⟨_, rfl, _, rfl, a, C, rfl, OexC.b T, n1, ea, fun d hd ne => ?_⟩
    have e1 : (upd (upd H d (exd d [("word", x)])) a (exo a C (some d))) a = some (exo a C (some d)) := upd_same
    have e2 : (upd (upd H d (exd d [("word", x)])) a (exo a C (some d))) d = some (exd d [("word", x)]) := by rw [upd_ne ne, upd_same]
    refine ⟨_, rfl, _, rfl, a, C, rfl, T, n2, .inr ⟨d, _, e1, e2, (by show 1 ≤ 900; decide), ?_⟩⟩
    refine k _ (fun b o nb e => ?_) ⟨d, by rw [upd_ne ne.symm]; exact e1, upd_same⟩
    rw [upd_ne (ne_of_none e hd)]
    exact keep1 ea hd (o2 := exd d []) b o nb e
abbrev sINoText : Stmt := inClass (top 7) 0
theorem scNoText : FnScope ["self", "row"] ["self", "row"] (defScope sINoText) := ⟨rfl, rfl, rfl, by decide +kernel, rfl, by decide +kernel, by decide +kernel⟩
theorem ok_NoText {f : Addr} {fd : FuncData} (F : Fun K "__init__" "NoText.__init__" sINoText f fd) (T : OexB K C) (n1 : PySem.W.findIn K (.ref C) "row" = some none) : FnOk P w K mg base CX0 1 f fd ["self", "row"] (spI1 C "row") := by
  refine F.ok scNoText (fun vs H Q E h => ?_) (fun cdv A outer s H vs Q E hr h => ?_)
  · obtain ⟨a, x, rfl, _⟩ := h
    rfl
  · obtain ⟨a, x, rfl, ea, k⟩ := h
    refine ⟨_, pss_one (ps_exn (pv 0) (pv 1)), ?_⟩
    refine ⟨_, rfl, _, rfl, a, C, rfl, T, n1, ea, fun d hd ne => ?_⟩
    exact k _ (keep1 ea hd (o2 := exd d [])) ⟨d, upd_same, by rw [upd_ne ne, upd_same]⟩
abbrev sINoStanding : Stmt := inClass (top 8) 0
theorem scNoStanding : FnScope ["self", "word", "at"] ["self", "word", "at"] (defScope sINoStanding) := ⟨rfl, rfl, rfl, by decide +kernel, rfl, by decide +kernel, by decide +kernel⟩
theorem ok_NoStanding {f : Addr} {fd : FuncData} (F : Fun K "__init__" "NoStanding.__init__" sINoStanding f fd) (T : OexC K C) (n1 : PySem.W.findIn K (.ref C) "word" = some none) (n2 : PySem.W.findIn K (.ref C) "at" = some none) : FnOk P w K mg base CX0 1 f fd ["self", "word", "at"] (spI2 C "word" "at") := by
  refine F.ok scNoStanding (fun vs H Q E h => ?_) (fun cdv A outer s H vs Q E hr h => ?_)
  · obtain ⟨a, x, y, rfl, _⟩ := h
    rfl
  · obtain ⟨a, x, y, rfl, ea, k⟩ := h
    refine ⟨_, pss_cons (ps_exn (pv 0) (pv 1)) (pss_one (ps_ost (pv 0) (pv 2))), ?_⟩
    refine ⟨_, rfl, _, rfl, a, C, rfl, OexC.b T, n1, ea, fun d hd ne => ?_⟩
    have e1 : (upd (upd H d (exd d [("word", x)])) a (exo a C (some d))) a = some (exo a C (some d)) := upd_same
    have e2 : (upd (upd H d (exd d [("word", x)])) a (exo a C (some d))) d = some (exd d [("word", x)]) := by rw [upd_ne ne, upd_same]
    refine ⟨_, rfl, _, rfl, a, C, rfl, T, n2, .inr ⟨d, _, e1, e2, (by show 1 ≤ 900; decide), ?_⟩⟩
    refine k _ (fun b o nb e => ?_) ⟨d, by rw [upd_ne ne.symm]; exact e1, upd_same⟩
    rw [upd_ne (ne_of_none e hd)]
    exact keep1 ea hd (o2 := exd d []) b o nb e
abbrev sINoMatch : Stmt := inClass (top 9) 0
theorem scNoMatch : FnScope ["self", "word"] ["self", "word"] (defScope sINoMatch) := ⟨rfl, rfl, rfl, by decide +kernel, rfl, by decide +kernel, by decide +kernel⟩
theorem ok_NoMatch {f : Addr} {fd : FuncData} (F : Fun K "__init__" "NoMatch.__init__" sINoMatch f fd) (T : OexB K C) (n1 : PySem.W.findIn K (.ref C) "word" = some none) : FnOk P w K mg base CX0 1 f fd ["self", "word"] (spI1 C "word") := by
  refine F.ok scNoMatch (fun vs H Q E h => ?_) (fun cdv A outer s H vs Q E hr h => ?_)
  · obtain ⟨a, x, rfl, _⟩ := h
    rfl
  · obtain ⟨a, x, rfl, ea, k⟩ := h
    refine ⟨_, pss_one (ps_exn (pv 0) (pv 1)), ?_⟩
    refine ⟨_, rfl, _, rfl, a, C, rfl, T, n1, ea, fun d hd ne => ?_⟩
    exact k _ (keep1 ea hd (o2 := exd d [])) ⟨d, upd_same, by rw [upd_ne ne, upd_same]⟩
abbrev sIBroken : Stmt := inClass (top 10) 0
theorem scBroken : FnScope ["self", "at"] ["self", "at"] (defScope sIBroken) := ⟨rfl, rfl, rfl, by decide +kernel, rfl, by decide +kernel, by decide +kernel⟩
theorem ok_Broken {f : Addr} {fd : FuncData} (F : Fun K "__init__" "Broken.__init__" sIBroken f fd) (T : OexB K C) (n1 : PySem.W.findIn K (.ref C) "at" = some none) : FnOk P w K mg base CX0 1 f fd ["self", "at"] (spI1 C "at") := by
  refine F.ok scBroken (fun vs H Q E h => ?_) (fun cdv A outer s H vs Q E hr h => ?_)
  · obtain ⟨a, x, rfl, _⟩ := h
    rfl
  · obtain ⟨a, x, rfl, ea, k⟩ := h
    refine ⟨_, pss_one (ps_exn (pv 0) (pv 1)), ?_⟩
    refine ⟨_, rfl, _, rfl, a, C, rfl, T, n1, ea, fun d hd ne => ?_⟩
    exact k _ (keep1 ea hd (o2 := exd d [])) ⟨d, upd_same, by rw [upd_ne ne, upd_same]⟩
abbrev sINoPlace : Stmt := inClass (top 13) 0
theorem scNoPlace : FnScope ["self", "place"] ["self", "place"] (defScope sINoPlace) := ⟨rfl, rfl, rfl, by decide +kernel, rfl, by decide +kernel, by decide +kernel⟩
theorem ok_NoPlace {f : Addr} {fd : FuncData} (F : Fun K "__init__" "NoPlace.__init__" sINoPlace f fd) (T : OexB K C) (n1 : PySem.W.findIn K (.ref C) "place" = some none) : FnOk P w K mg base CX0 1 f fd ["self", "place"] (spI1 C "place") := by
  refine F.ok scNoPlace (fun vs H Q E h => ?_) (fun cdv A outer s H vs Q E hr h => ?_)
  · obtain ⟨a, x, rfl, _⟩ := h
    rfl
  · obtain ⟨a, x, rfl, ea, k⟩ := h
    refine ⟨_, pss_one (ps_exn (pv 0) (pv 1)), ?_⟩
    refine ⟨_, rfl, _, rfl, a, C, rfl, T, n1, ea, fun d hd ne => ?_⟩
    exact k _ (keep1 ea hd (o2 := exd d [])) ⟨d, upd_same, by rw [upd_ne ne, upd_same]⟩
abbrev sINoWalker : Stmt := inClass (top 14) 0
theorem scNoWalker : FnScope ["self", "walker"] ["self", "walker"] (defScope sINoWalker) := ⟨rfl, rfl, rfl, by decide +kernel, rfl, by decide +kernel, by decide +kernel⟩
theorem ok_NoWalker {f : Addr} {fd : FuncData} (F : Fun K "__init__" "NoWalker.__init__" sINoWalker f fd) (T : OexB K C) (n1 : PySem.W.findIn K (.ref C) "walker" = some none) : FnOk P w K mg base CX0 1 f fd ["self", "walker"] (spI1 C "walker") := by
  refine F.ok scNoWalker (fun vs H Q E h => ?_) (fun cdv A outer s H vs Q E hr h => ?_)
  · obtain ⟨a, x, rfl, _⟩ := h
    rfl
  · obtain ⟨a, x, rfl, ea, k⟩ := h
    refine ⟨_, pss_one (ps_exn (pv 0) (pv 1)), ?_⟩
    refine ⟨_, rfl, _, rfl, a, C, rfl, T, n1, ea, fun d hd ne => ?_⟩
    exact k _ (keep1 ea hd (o2 := exd d [])) ⟨d, upd_same, by rw [upd_ne ne, upd_same]⟩
end
end Tg

namespace Tg
open PySem L2 Ow
structure TxtB (mg : Str → Option Value) : Prop where
  abs : mg "abs" = none
  len : mg "len" = none
section
variable {P : Program} {w : World} {K : PySem.W.Frag} {mg : Str → Option Value} {base : Heap}
theorem scTake : FnScope ["_law_box_here", "_law_many", "_law_digit", "_law_mixed"] ["_law_box_here", "_law_many"] (defScope sTake) := ⟨rfl, rfl, rfl, by decide +kernel, rfl, by decide +kernel, by decide +kernel⟩
theorem ok_take {f : Addr} {fd : FuncData} (F : Fun K "_law_take" "_law_take" sTake f fd) (T : TxtB mg) : FnOk P w K mg base CX0 1 f fd ["_law_box_here", "_law_many"] spTake := by
  refine F.ok scTake (fun vs H Q E h => ?_) (fun cdv A outer s H vs Q E hr h => ?_)
  · obtain ⟨b, L, m, rfl, _⟩ := h
    rfl
  · obtain ⟨b, L, m, rfl, m0, m9, ⟨gs, now, seed, turn, B⟩, k⟩ := h
    have hu := hu_of hr
    have nd := scTake.nd
    refine ⟨_, pss_cons (ps_if (PW.pt (pw_and (pt_cmpR op_eq (pe_dget hu (pv 0) pe_str (fun _ _ => rfl)) pe_int (nomark _)) (pw_and1 (pt_cmpR op_gt (pe_callB call_len_seq (by rfl) T.len PySem.boot_len (pa_cons (pe_dget hu (pv 0) pe_str (fun _ _ => rfl)) pa_nil)) pe_int (nomark _)))))
        (pss_one (ps_dput hu (pv 0) pe_str (pe_bm0 PySem.F.plainAttrs_list PySem.F.slot_list_pop PySem.F.type_list_pop mt_pop (pe_dget hu (pv 0) pe_str (fun _ _ => rfl))) rfl)) pss_nil)
      (pss_cons (ps_if (pt_cmpR op_gt (pe_dget hu (pv 0) pe_str (fun _ _ => rfl)) pe_int (nomark _))
        (pss_cons (ps_set (i := 2) nd rfl (.inl rfl) (pe_op op_mod (pe_dget hu (pv 0) pe_str (fun _ _ => rfl)) (pv 1)))
        (pss_cons (ps_dput hu (pv 0) pe_str (pe_op op_fdivW (pe_dget hu (pv 0) pe_str (fun _ _ => rfl)) (pv 1)) rfl)
        (pss_one (ps_ret (pv 2))))) pss_nil)
      (pss_cons (ps_dput hu (pv 0) pe_str (pe_op op_add (pe_dget hu (pv 0) pe_str (fun _ _ => rfl)) pe_int) rfl)
      (pss_cons (ps_set (i := 3) nd rfl (.inl rfl) (pe_op op_mod (pe_op op_mul (pe_op op_mod (pe_op op_add (pe_dget hu (pv 0) pe_str (fun _ _ => rfl)) (pe_op op_mul pe_int (pe_dget hu (pv 0) pe_str (fun _ _ => rfl)))) pe_int) pe_int) pe_int))
      (pss_cons (ps_dput hu (pv 0) pe_str (pe_op op_add (pe_op op_mod (pe_op op_add (pv 3) (pe_op op_mul pe_int (pe_dget hu (pv 0) pe_str (fun _ _ => rfl)))) pe_int) pe_int) rfl)
      (pss_one (ps_ret (pe_op op_mod (pe_op op_fdiv (pe_op op_add (pe_op op_mul (pv 3) pe_int) (pe_dget hu (pv 0) pe_str (fun _ _ => rfl))) pe_int) (pv 1)))))))), ?_⟩
    refine seq_rest (fun σ1 H1 => σ1 = [some (.ref b), some (.int m), none, none] ∧ Kp b L H H1 ∧ ∃ gs now seed turn, BoxAt H1 b L gs now seed turn) ?_ (fun rest => ?_)
    · rintro σ1 H1 ⟨rfl, k1, gs, now, seed, turn, B⟩
      refine ⟨_, rfl, b, _, rfl, B.gnow, _, _, rfl, rfl, _, rfl, ?_⟩
      refine ite2 (fun hn => ?_) (fun hn => ?_)
      · have hn0 : 0 < now := of_decide_eq_true hn
        refine ⟨_, rfl, b, _, rfl, B.gnow, _, rfl, _, _, rfl, rfl, m0, ?_⟩
        refine ⟨_, rfl, b, _, rfl, B.gnow, _, rfl, _, _, rfl, rfl, ⟨m0, m9⟩, _, rfl, b, _, rfl, B.pnow _, ?_⟩
        obtain ⟨B2, k2⟩ := B.put (turn' := turn) (Int.ediv_nonneg B.now0 (Int.le_of_lt m0)) B.seed0 B.seed1
        refine ⟨_, rfl, ?_⟩
        exact k _ _ (Int.emod_nonneg _ (by omega)) (Int.emod_lt_of_pos _ m0) ⟨_, _, _, _, B2⟩ (k1.trans k2)
      · refine ⟨_, rfl, b, _, rfl, B.gturn, _, _, rfl, rfl, _, rfl, b, _, rfl, B.pturn _, ?_⟩
        obtain ⟨B2, k2⟩ := B.put (turn' := turn + 1) B.now0 B.seed0 B.seed1
        have c1 := B.seed0
        have c2 := B.seed1
        refine ⟨_, rfl, b, _, rfl, B2.gseed, _, rfl, b, _, rfl, B2.gturn, _, _, rfl, rfl, .inl (by omega), _, _, rfl, rfl, _, _, rfl, rfl, pos_lit (by decide), _, _, rfl, rfl, .inr (by omega), _, _, rfl, rfl, pos_lit (by decide), ?_⟩
        generalize (seed + 69623 * (turn + 1)) % 2147483647 * 16807 = z0
        refine ⟨_, rfl, _, rfl, b, _, rfl, B2.gseed, _, _, rfl, rfl, .inl (by omega), _, _, rfl, rfl, _, _, rfl, rfl, pos_lit (by decide), _, _, rfl, rfl, _, rfl, b, _, rfl, B2.pseed _, ?_⟩
        obtain ⟨B3, k3⟩ := B2.put (now' := now) (turn' := turn + 1) (seed' := (z0 % 2147483647 + 3 * seed) % 2147483629 + 1) B.now0 (by omega) (by omega)
        refine ⟨_, rfl, _, _, rfl, rfl, .inr (by omega), _, rfl, b, _, rfl, B3.gseed, _, _, rfl, rfl, _, _, rfl, rfl, ⟨by decide, by decide⟩, _, rfl, _, _, rfl, rfl, m0, ?_⟩
        exact k _ _ (Int.emod_nonneg _ (by omega)) (Int.emod_lt_of_pos _ m0) ⟨_, _, _, _, B3⟩ ((k1.trans k2).trans k3)
    · refine ⟨_, rfl, b, _, rfl, B.gnow, rfl, _, rfl, ?_⟩
      refine ite2 (fun hn => ?_) (fun hn => ?_)
      · refine ⟨_, rfl, b, _, rfl, B.ggreat, _, _, rfl, .inl (SqL.of B.ls), _, _, rfl, rfl, _, rfl, ?_⟩
        refine ite2 (fun hg => ?_) (fun hg => ?_)
        · have hg0 : 0 < (gs.map V.int).length := by
            have := of_decide_eq_true hg
            omega
          have hlast : (gs.map V.int)[(gs.map V.int).length - 1]? = some (V.int (gs.getLast (by intro e; simp [e] at hg0))) := by
            simp [List.getLast_eq_getElem]
          obtain ⟨B2, k2⟩ := B.pop
          refine ⟨_, rfl, b, _, rfl, B.ggreat, .inl ⟨rfl, _, SqL.of B.ls⟩, L, _, _, rfl, rfl, B.ls, hlast, _, rfl, b, _, rfl, B2.pnow _, ?_⟩
          obtain ⟨B3, k3⟩ := B2.put (turn' := turn) (B.pos _ (List.getLast_mem _)) B.seed0 B.seed1
          exact rest _ _ ⟨rfl, k2.trans k3, _, _, _, _, B3⟩
        · exact rest _ _ ⟨rfl, Kp.refl _ _ _, _, _, _, _, B⟩
      · refine iteF ?_
        exact rest _ _ ⟨rfl, Kp.refl _ _ _, _, _, _, _, B⟩
theorem scBox : FnScope ["_law_script", "_law_base", "_law_seed", "_law_cell", "_law_great"] ["_law_script", "_law_base"] (defScope sBox) := ⟨rfl, rfl, rfl, by decide +kernel, rfl, by decide +kernel, by decide +kernel⟩
theorem ok_box {f : Addr} {fd : FuncData} (F : Fun K "_law_box" "_law_box" sBox f fd) (T : TxtB mg) : FnOk P w K mg base CX0 1 f fd ["_law_script", "_law_base"] (spBox K) := by
  refine F.ok scBox (fun vs H Q E h => ?_) (fun cdv A outer s H vs Q E hr h => ?_)
  · obtain ⟨a, ns, e, rfl, _⟩ := h
    rfl
  · obtain ⟨a, ns, e, rfl, hS, hl, e0, e1, k⟩ := h
    have nd := scBox.nd
    refine ⟨_, pss_cons (ps_set (i := 2) nd rfl (.inl rfl) (pe_op op_add pe_int (pe_op op_mul pe_int (pv 1))))
      (pss_cons (ps_for PassesOwn.never rfl (pi_list (pe_slice sl_list (pv 0) po_none (po_some pe_int))) (pg_name (i := 3) nd rfl (.inl rfl))
        (pss_one (ps_set (i := 2) nd rfl (.inl rfl) (pe_op op_mod (pe_op op_add (pe_op op_add (pe_op op_mul (pv 2) pe_int) (pe_op op_mod (pe_callB call_abs (by rfl) T.abs (by decide +kernel) (pa_cons (pv 3) pa_nil)) pe_int)) pe_int) pe_int))))
      (pss_cons (ps_setLc (i := 4) (own := [("_law_cell", 3)]) (g := gName 3) rfl nd rfl rfl (sw_true rfl rfl rfl (by decide +kernel)) (pi_list (pe_slice sl_list (pv 0) (po_some (pv 1)) (po_some pe_int)))
        (blkOk_by (own := [("_law_cell", 3)]) (N := ["_law_script", "_law_base", "_law_seed", "_law_cell", "_law_great"]) (sc := defScope sBox) (by decide +kernel)) (fun _ _ _ _ _ => pg_name (i := 3) nd rfl (.inl rfl))
        (fun _ _ _ _ _ => pts_one (pt_cmpR op_ge (pe_callB call_abs (by rfl) T.abs (by decide +kernel) (pa_cons (pv 3) pa_nil)) (pe_op op_pow pe_int pe_int) (nomark _)))
        (fun _ _ _ _ _ => pe_callB call_abs (by rfl) T.abs (by decide +kernel) (pa_cons (pv 3) pa_nil)))
      (pss_one (ps_ret (pe_disp (pps_cons pe_str (pe_revL (pv 4)) (pps_cons pe_str pe_int (pps_cons pe_str (pe_op op_add (pv 2) pe_int) (pps_cons pe_str pe_int pps_nil)))) (by rfl) (by rfl) (fun z => by cases z) (by decide)))))), ?_⟩
    refine ⟨_, rfl, _, _, rfl, rfl, .inl (by decide), _, _, rfl, rfl, ?_⟩
    refine ⟨_, rfl, _, rfl, a, _, rfl, hS, fun p hp => ?_⟩
    obtain ⟨ms, em, hm⟩ := cut_ints ns none (some 50)
    rw [em]
    refine ⟨p, rfl, ⟨_, SqL.of upd_same⟩, ?_⟩
    refine for_list (K := K) (a := p) (xs := ms.map V.int) (fun i σ H2 => ∃ (sd : Int) (c : Option V), σ = [some (.ref a), some (.int e), some (.int sd), c, none] ∧ Same (upd H p (.lst (ms.map V.int))) H2 ∧ 0 ≤ sd ∧ sd < 2147483648)
      ⟨_, none, rfl, Same.refl _, by omega, by omega⟩ (fun i σ H2 _ ⟨_, _, _, s2, _⟩ => SqL.of (s2 _ _ upd_same)) ?_ ?_
    · rintro i y σ H2 hi ⟨sd, c, rfl, s2, b0, b1⟩
      obtain ⟨z, hz, rfl⟩ := ints_at hi
      refine ⟨_, rfl, _, _, rfl, rfl, .inr (by decide), _, rfl, _, rfl, _, _, rfl, rfl, pos_lit (by decide), _, _, rfl, rfl, _, _, rfl, rfl, _, _, rfl, rfl, pos_lit (by decide), ?_⟩
      exact ⟨_, some (.int z), rfl, s2, Int.emod_nonneg _ (by decide), Int.lt_trans (Int.emod_lt_of_pos _ (by decide)) (by decide)⟩
    · rintro σ H2 ⟨sd, c, rfl, s2, b0, b1⟩
      have s3 : Same H H2 := (same_upd (Same.refl H) hp).trans s2
      refine ⟨_, rfl, _, rfl, _, rfl, _, rfl, a, _, rfl, s3.seq hS, fun p2 hp2 => ?_⟩
      obtain ⟨ms2, em2, hm2⟩ := cut_ints ns (some e) (some 50)
      rw [em2]
      refine ⟨p2, rfl, ⟨_, SqL.of upd_same⟩, fun D hD => ?_⟩
      have n2 : D ≠ p2 := fun z => by rw [z, upd_same] at hD; cases hD
      have hD2 : H2 D = none := by rw [upd_ne n2] at hD; exact hD
      refine lc_list (K := K) (a := p2) (xs := ms2.map V.int) (fun i H3 => ∃ gs : List Int, H3 D = some (.lst (gs.map V.int)) ∧ gs.length ≤ i ∧ (∀ g ∈ gs, 0 ≤ g) ∧ Same H H3 ∧ H3 p2 = some (.lst (ms2.map V.int)))
        ⟨[], upd_same, Nat.le_refl _, (fun g hg => nomatch hg), same_upd (same_upd s3 (s3.free hp2)) (s3.free hD2), by rw [upd_ne n2.symm, upd_same]⟩ (fun i H3 _ ⟨_, _, _, _, _, e3⟩ => SqL.of e3) ?_ ?_
      · rintro i y H3 hi ⟨gs, g1, g2, g3, g4, g5⟩
        obtain ⟨z, hz, rfl⟩ := ints_at hi
        have hi2 : i < ms2.length := (List.getElem?_eq_some_iff.mp hz).1
        refine ⟨rfl, _, rfl, _, rfl, _, _, rfl, rfl, ⟨by decide, by decide, by decide⟩, _, _, rfl, rfl, _, rfl, ?_⟩
        refine ite2 (fun hz0 => ?_) (fun hz0 => ?_)
        · refine ⟨_, rfl, _, rfl, _, g1, small1000 (by rw [List.length_map]; omega), gs ++ [if z < 0 then -z else z], ?_, ?_, ?_, same_upd g4 (s3.free hD2), ?_⟩
          · rw [upd_same, List.map_append]
            rfl
          · rw [List.length_append]
            exact Nat.succ_le_succ g2
          · intro g hg
            rcases List.mem_append.mp hg with h | h
            · exact g3 g h
            · have e := List.mem_singleton.mp h
              rw [e]
              split <;> omega
          · rw [upd_ne n2.symm]
            exact g5
        · exact ⟨gs, g1, Nat.le_succ_of_le g2, g3, g4, g5⟩
      · rintro H3 ⟨gs, g1, g2, g3, g4, g5⟩
        intro p3 hp3
        have n3 : D ≠ p3 := ne_of_none g1 hp3
        refine ⟨_, rfl, D, _, rfl, SqL.of (by rw [upd_ne n3]; exact g1), fun q hq => ?_⟩
        have n4 : q ≠ p3 := fun z => by rw [z, upd_same] at hq; cases hq
        have hq3 : H3 q = none := by rw [upd_ne n4] at hq; exact hq
        refine ⟨_, rfl, _, _, rfl, rfl, ?_⟩
        refine ⟨by rw [upd_ne n4.symm, upd_same], kvsB q 0 (sd + 1) 0, rfl, (by show 4 ≤ 15; decide), ?_⟩
        rw [merge_kvsB]
        refine k p3 q _ (g4.free hp3) (g4.free hq3) (same_upd (same_upd (same_upd g4 (g4.free hp3)) (g4.free hq3)) (g4.free hp3)) ⟨gs.reverse, 0, sd + 1, 0, upd_same, ?_, by omega, by omega, by omega, fun g hg => g3 g (List.mem_reverse.mp hg)⟩
        rw [upd_ne n4, upd_same, List.map_reverse]
end
end Tg

namespace Tg
open PySem L2 Ow
theorem Kp.new {b L p : Addr} {H H' : Hp} {o : HO} (k : Kp b L H H') (n : H p = none) : Kp b L H (upd H' p o) := fun a u n1 n2 h => by
  rw [upd_ne (ne_of_none h n)]
  exact k a u n1 n2 h
theorem Box.new {b L p : Addr} {H : Hp} {o : HO} (B : Box b L H) (n : H p = none) : Box b L (upd H p o) := by
  obtain ⟨gs, now, seed, turn, B⟩ := B
  exact ⟨gs, now, seed, turn, by rw [upd_ne (ne_of_none B.dc n)]; exact B.dc, by rw [upd_ne (ne_of_none B.ls n)]; exact B.ls, B.now0, B.seed0, B.seed1, B.pos⟩
theorem Box.apart {b L p : Addr} {H : Hp} (B : Box b L H) (n : H p = none) : p ≠ b ∧ p ≠ L := by
  obtain ⟨gs, now, seed, turn, B⟩ := B
  exact ⟨(ne_of_none B.dc n).symm, (ne_of_none B.ls n).symm⟩
theorem Box.put {b L p : Addr} {H : Hp} {o : HO} (B : Box b L H) (n1 : p ≠ b) (n2 : p ≠ L) : Box b L (upd H p o) := by
  obtain ⟨gs, now, seed, turn, B⟩ := B
  exact ⟨gs, now, seed, turn, by rw [upd_ne n1.symm]; exact B.dc, by rw [upd_ne n2.symm]; exact B.ls, B.now0, B.seed0, B.seed1, B.pos⟩
theorem Box.same {b L : Addr} {H H' : Hp} (B : Box b L H) (s : Same H H') : Box b L H' := by
  obtain ⟨gs, now, seed, turn, B⟩ := B
  exact ⟨gs, now, seed, turn, s _ _ B.dc, s _ _ B.ls, B.now0, B.seed0, B.seed1, B.pos⟩
theorem _root_.L2.Same.kp {b L : Addr} {H H1 H2 : Hp} (s : Same H H1) (nb : H b = none) (nL : H L = none) (k : Kp b L H1 H2) : Same H H2 := fun a o e => k a o (ne_of_none e nb) (ne_of_none e nL) (s a o e)
/-! ### any value: scalars, and tuples of them -/
inductive Sc : V → PyData → Prop
  | non : Sc .non .none
  | bl (b : Bool) : Sc (.bl b) (.bool b)
  | int (i : Int) : i.natAbs.log2 < 1900 → Sc (.int i) (.int i)
  | str (x : Str) : (reprText x).length ≤ 4000 → Sc (.str x) (.str x)
def Td (H : Hp) : Nat → V → PyData → Prop
  | 0, v, d => Sc v d
  | n + 1, v, d => Sc v d ∨ ∃ (a : Addr) (xs : List V) (ds : List PyData), v = .ref a ∧ d = .tuple ds ∧ H a = some (.tup xs) ∧ xs.length = ds.length ∧ ds.length ≤ 3 ∧ ∀ p ∈ xs.zip ds, Td H n p.1 p.2
def TupKeep (H H' : Hp) : Prop := ∀ a xs, H a = some (.tup xs) → H' a = some (.tup xs)
theorem _root_.L2.Same.tk {H H' : Hp} (s : Same H H') : TupKeep H H' := fun a xs e => s a _ e
theorem Kp.tk {b L : Addr} {H H' : Hp} (k : Kp b L H H') (B : Box b L H) : TupKeep H H' := fun a xs e => by
  obtain ⟨gs, now, seed, turn, B⟩ := B
  exact k a _ (ne_of e B.dc (by intro z; cases z)) (ne_of e B.ls (by intro z; cases z)) e
theorem Td.keep {H H' : Hp} (s : TupKeep H H') : ∀ {n : Nat} {v : V} {d : PyData}, Td H n v d → Td H' n v d
  | 0, _, _, h => h
  | n + 1, _, _, h => by
    rcases h with h | ⟨a, xs, ds, e1, e2, ea, hl, h3, hz⟩
    · exact .inl h
    · exact .inr ⟨a, xs, ds, e1, e2, s _ _ ea, hl, h3, fun p hp => Td.keep s (hz p hp)⟩
theorem Td.sc {H : Hp} {v : V} {d : PyData} (h : Sc v d) : ∀ n, Td H n v d
  | 0 => h
  | _ + 1 => .inl h
theorem Sc.dp {K : PySem.W.Frag} {H : Hp} {v : V} {d : PyData} (h : Sc v d) : Dp K H v d := by
  cases h with
  | non => exact .non
  | bl b => exact .bl b
  | int i _ => exact .int i
  | str x _ => exact .str x
theorem dpAll_zip {K : PySem.W.Frag} {H : Hp} : ∀ {xs : List V} {ds : List PyData}, xs.length = ds.length → (∀ p ∈ xs.zip ds, Dp K H p.1 p.2) → DpAll K H xs ds
  | [], [], _, _ => .nil
  | x :: xs, d :: ds, hl, h => .cons (h (x, d) (by simp)) (dpAll_zip (Nat.succ.inj hl) fun p hp => h p (by simp only [List.zip_cons_cons]; exact List.mem_cons_of_mem _ hp))
theorem Td.dp {K : PySem.W.Frag} {H : Hp} : ∀ {n : Nat} {v : V} {d : PyData}, Td H n v d → Dp K H v d
  | 0, _, _, h => Sc.dp h
  | n + 1, _, _, h => by
    rcases h with h | ⟨a, xs, ds, rfl, rfl, ea, hl, h3, hz⟩
    · exact Sc.dp h
    · exact .tup (SqT.of ea) (dpAll_zip hl fun p hp => Td.dp (hz p hp))
def bulk : Nat → Nat
  | 0 => 4000
  | n + 1 => 3 * bulk n + 4100
structure Fit (m k : Nat) (d : PyData) : Prop where
  sh : d.showable = true
  nd : d.hasDict = false
  dp : d.depth ≤ m
  sz : d.shown.length ≤ k
theorem Sc.fit {v : V} {d : PyData} (h : Sc v d) : Fit 0 4000 d := by
  cases h with
  | non => exact ⟨rfl, rfl, Nat.le_refl _, by decide +kernel⟩
  | bl b => cases b <;> exact ⟨rfl, rfl, Nat.le_refl _, by decide +kernel⟩
  | int i hi =>
    refine ⟨?_, rfl, Nat.le_refl _, ?_⟩
    · simp [PyData.showable]
      omega
    · have e := int_text_length_le (k := 1920) (by decide) (Nat.lt_trans hi (by decide))
      show (Str.ofString (toString i)).length ≤ 4000
      rw [ofString_length]
      omega
  | str x hx => exact ⟨rfl, rfl, Nat.le_refl _, hx⟩
theorem Fit.mono {m m' k k' : Nat} {d : PyData} (h : Fit m k d) (h1 : m ≤ m') (h2 : k ≤ k') : Fit m' k' d := ⟨h.sh, h.nd, Nat.le_trans h.dp h1, Nat.le_trans h.sz h2⟩
theorem fit_all {m k : Nat} : ∀ {ds : List PyData}, (∀ d ∈ ds, Fit m k d) → PyData.showableAll ds = true ∧ PyData.hasDictAll ds = false ∧ PyData.depthAll ds ≤ m ∧ ((PyData.shownAll ds).map (·.length)).sum ≤ k * ds.length ∧ (PyData.shownAll ds).length = ds.length
  | [], _ => ⟨rfl, rfl, Nat.zero_le _, by simp [PyData.shownAll], rfl⟩
  | d :: ds, h => by
    obtain ⟨h1, h2, h3, h4, h5⟩ := fit_all (ds := ds) fun x hx => h x (List.mem_cons_of_mem _ hx)
    obtain ⟨s1, s2, s3, s4⟩ := h d List.mem_cons_self
    refine ⟨?_, ?_, ?_, ?_, ?_⟩
    · simp [PyData.showableAll, s1, h1]
    · simp [PyData.hasDictAll, s2, h2]
    · simp [PyData.depthAll]; omega
    · simp [PyData.shownAll, Nat.mul_succ]; omega
    · simp [PyData.shownAll, h5]
theorem mem_zip {α β : Type} : ∀ {xs : List α} {ds : List β} {d : β}, xs.length = ds.length → d ∈ ds → ∃ p ∈ xs.zip ds, p.2 = d
  | _ :: xs, e :: ds, d, hl, h => by
    rcases List.mem_cons.mp h with rfl | h
    · exact ⟨_, by simp only [List.zip_cons_cons]; exact List.mem_cons_self, rfl⟩
    · obtain ⟨p, hp, e2⟩ := mem_zip (Nat.succ.inj hl) h
      exact ⟨p, by simp only [List.zip_cons_cons]; exact List.mem_cons_of_mem _ hp, e2⟩
  | [], [], _, _, h => by cases h
theorem Td.fit {H : Hp} : ∀ {n : Nat} {v : V} {d : PyData}, Td H n v d → Fit n (bulk n) d
  | 0, _, _, h => Sc.fit h
  | n + 1, _, _, h => by
    rcases h with h | ⟨a, xs, ds, rfl, rfl, ea, hl, h3, hz⟩
    · exact (Sc.fit h).mono (Nat.zero_le _) (by show 4000 ≤ 3 * bulk n + 4100; omega)
    · obtain ⟨h1, h2, h4, h5, h6⟩ := fit_all (m := n) (k := bulk n) (ds := ds) fun d hd => by
        obtain ⟨p, hp, rfl⟩ := mem_zip hl hd
        exact Td.fit (hz p hp)
      refine ⟨h1, h2, ?_, ?_⟩
      · show PyData.depthAll ds + 1 ≤ n + 1
        omega
      · show (tupleText (PyData.shownAll ds)).length ≤ 3 * bulk n + 4100
        have z := tupleText_len_le (PyData.shownAll ds)
        have : bulk n * ds.length ≤ bulk n * 3 := Nat.mul_le_mul_left _ h3
        omega
end Tg

namespace Tg
open PySem L2 Ow
structure TxtV (mg : Str → Option Value) : Prop where
  b_tuple : mg "tuple" = none
  b_range : mg "range" = none
def spValue (n : Nat) : Sp := fun vs H Q _ => ∃ b L, vs = [.ref b, .int (n : Nat)] ∧ Box b L H ∧ ∀ v d H', Td H' n v d → Box b L H' → Kp b L H H' → Q v H'
abbrev vN : List Str := ["_law_box_here", "_law_deep", "_law_form", "_law_k"]
theorem scValue : FnScope vN ["_law_box_here", "_law_deep"] (defScope sValue) := ⟨rfl, rfl, rfl, by decide +kernel, rfl, by decide +kernel, by decide +kernel⟩
theorem TupKeep.put {H : Hp} {D : Addr} {xs : List V} {o : HO} (e : H D = some (.lst xs)) : TupKeep H (upd H D o) := fun a ys ea => by
  rw [upd_ne (ne_of ea e (by intro z; cases z))]
  exact ea
theorem TupKeep.new {H : Hp} {D : Addr} {o : HO} (e : H D = none) : TupKeep H (upd H D o) := fun a ys ea => by
  rw [upd_ne (ne_of_none ea e)]
  exact ea
theorem TupKeep.trans {H H1 H2 : Hp} (x : TupKeep H H1) (y : TupKeep H1 H2) : TupKeep H H2 := fun a xs e => y a xs (x a xs e)
theorem Kp.new2 {b L p : Addr} {H H' : Hp} {o : HO} (k : Kp b L H H') (n : H' p = none) : Kp b L H (upd H' p o) := fun a u n1 n2 h => by
  rw [upd_ne (ne_of_none (k a u n1 n2 h) n)]
  exact k a u n1 n2 h
theorem small99 {d : Int} (h0 : 0 ≤ d) (h1 : d < 99) : d.natAbs.log2 < 1900 := by
  have : d.natAbs < 2 ^ 7 := by
    have e : (2 : Nat) ^ 7 = 128 := by decide
    omega
  exact Nat.lt_of_lt_of_le (PySem.Flt.log2_lt_of (by decide) this) (by decide)
section
variable {P : Program} {w : World} {K : PySem.W.Frag} {mg : Str → Option Value} {base : Heap} {C : Addr}
theorem ok_value_step {f : Addr} {fd : FuncData} {n : Nat} {sp : Sp} (F : Fun K "_law_value" "_law_value" sValue f fd) (T : TxtV mg) (cTake : Cal P w K mg base 1 "_law_take" ["_law_box_here", "_law_many"] spTake)
    (cValue : Cal P w K mg base (n + 1) "_law_value" ["_law_box_here", "_law_deep"] sp) (hsp : ∀ m, n = m + 1 → sp = spValue m) : FnOk P w K mg base CX0 (n + 2) f fd ["_law_box_here", "_law_deep"] (spValue n) := by
  refine F.ok scValue (fun vs H Q E h => ?_) (fun cdv A outer s H vs Q E hr h => ?_)
  · obtain ⟨b, L, rfl, _⟩ := h
    rfl
  · obtain ⟨b, L, rfl, B, k⟩ := h
    have nd := scValue.nd
    refine ⟨_, (pss_cons (ps_set (i := 2) nd rfl (.inl rfl) (pe_cal cTake (hr.mono (by omega)) (by rfl) (pa_cons (pv 0) (pa_cons pe_int pa_nil))))
      (pss_cons (ps_if (PW.pt (pw_and (pt_cmpR op_lt (pv 2) pe_int (nomark _)) (pw_and1 (pt_cmpR op_gt (pv 1) pe_int (nomark _)))))
        (pss_one (ps_ret (pe_callTy call_tuple_of (by rfl) T.b_tuple (by decide +kernel) (pa_cons (pe_lc (own := [("_law_k", 3)]) (g := gName 3) rfl nd (pi_range1 (by rfl) T.b_range (pa_cons (pe_cal cTake (hr.mono (by omega)) (by rfl) (pa_cons (pv 0) (pa_cons pe_int pa_nil))) pa_nil)) (blkOk_by (own := [("_law_k", 3)]) (N := vN) (sc := defScope sValue) (by decide +kernel)) (fun _ _ _ _ _ => (pg_name (i := 3) nd rfl (.inl rfl))) (fun _ _ _ _ _ => pts_nil) (fun _ _ _ _ _ => (pe_cal cValue (hr.mono (by omega)) (by rfl) (pa_cons (pv 0) (pa_cons (pe_op op_sub (pv 1) pe_int) pa_nil))))) pa_nil))))
        pss_nil)
      (pss_cons (ps_if (pt_cmpR op_lt (pv 2) pe_int (nomark _))
        (pss_one (ps_ret (pe_ix ix_list (pe_lst (pa_cons pe_str (pa_cons pe_str (pa_cons pe_str (pa_cons pe_str (pa_cons pe_str (pa_cons pe_str pa_nil))))))) (pe_cal cTake (hr.mono (by omega)) (by rfl) (pa_cons (pv 0) (pa_cons pe_int pa_nil))) (fun _ _ => rfl))))
        pss_nil)
      (pss_cons (ps_if (pt_cmpR op_lt (pv 2) pe_int (nomark _))
        (pss_one (ps_ret (pe_ix ix_list (pe_lst (pa_cons pe_int (pa_cons pe_int (pa_cons (pe_op op_sub pe_int pe_int) (pa_cons (pe_cal cTake (hr.mono (by omega)) (by rfl) (pa_cons (pv 0) (pa_cons pe_int pa_nil))) (pa_cons (pe_op op_pow pe_int pe_int) (pa_cons (pe_op op_sub pe_int (pe_op op_pow pe_int pe_int)) pa_nil))))))) (pe_cal cTake (hr.mono (by omega)) (by rfl) (pa_cons (pv 0) (pa_cons pe_int pa_nil))) (fun _ _ => rfl))))
        pss_nil)
      (pss_one (ps_ret (pe_ix ix_list (pe_lst (pa_cons pe_bl (pa_cons pe_bl (pa_cons pe_non pa_nil)))) (pe_cal cTake (hr.mono (by omega)) (by rfl) (pa_cons (pv 0) (pa_cons pe_int pa_nil))) (fun _ _ => rfl)))))))), ?_⟩
    refine ⟨_, rfl, b, L, 9, rfl, by decide, by decide +kernel, B, fun d1 H1 a1 c1 B1 k1 => ?_⟩
    try dsimp only [tNext]
    refine seq_rest (fun σ1 H2 => σ1 = [some (.ref b), some (.int (n : Nat)), some (.int d1), none] ∧ H2 = H1) ?_ (fun rest => ?_)
    rotate_left
    · refine ⟨_, rfl, _, _, rfl, rfl, _, rfl, ?_⟩
      refine ite2 (fun _ => ?_) (fun _ => iteF (rest _ _ ⟨rfl, rfl⟩))
      refine ⟨_, rfl, _, _, rfl, rfl, _, rfl, ?_⟩
      refine ite2 (fun hn => ?_) (fun _ => rest _ _ ⟨rfl, rfl⟩)
      have hn0 : 0 < (n : Int) := of_decide_eq_true hn
      obtain ⟨m, rfl⟩ : ∃ m, n = m + 1 := ⟨n - 1, by omega⟩
      have hsp := hsp m rfl
      subst hsp
      refine ⟨_, rfl, b, L, 4, rfl, by decide, by decide +kernel, B1, fun d2 H2 a2 c2 B2 k2 => ?_⟩
      have kk := k1.trans k2
      refine ⟨_, rfl, (by omega), (by omega), fun D hD => ?_⟩
      obtain ⟨n1, n2⟩ := B2.apart hD
      refine lc_range (n := d2.toNat) (fun t H3 => ∃ (acc : List V) (ds : List PyData), H3 D = some (.lst acc) ∧ acc.length = t ∧ ds.length = t ∧ (∀ p ∈ acc.zip ds, Td H3 m p.1 p.2) ∧ Box b L H3 ∧ Kp b L H H3)
        ⟨[], [], upd_same, rfl, rfl, (fun _ h => by simp at h), B2.new hD, ?_⟩ ?_ ?_
      · exact fun a o x y e => by
          have z := kk a o x y e
          rw [upd_ne (ne_of_none z hD)]
          exact z
      · rintro t H3 ht ⟨acc, ds, e1, l1, l2, hz, B3, k3⟩
        refine ⟨rfl, _, rfl, _, rfl, _, _, rfl, rfl, b, L, by congr 2; simp, B3, fun v d H4 td B4 k4 => ⟨acc, k4 D _ n1 n2 e1, small1000 (by omega), acc ++ [v], ds ++ [d], upd_same, by simp [l1], by simp [l2], fun p hp => ?_, B4.put n1 n2, ?_⟩⟩
        · rw [List.zip_append (by omega)] at hp
          rcases List.mem_append.mp hp with h | h
          · exact Td.keep ((k4.tk B3).trans (TupKeep.put (k4 D _ n1 n2 e1))) (hz p h)
          · simp at h
            subst h
            exact Td.keep (TupKeep.put (k4 D _ n1 n2 e1)) td
        · intro a o x y e
          have hDn : a ≠ D := fun z => by
            have := kk a o x y e
            rw [z, hD] at this
            cases this
          rw [upd_ne hDn]
          exact k4 a o x y (k3 a o x y e)
      · rintro H3 ⟨acc, ds, e1, l1, l2, hz, B3, k3⟩
        refine ⟨D, acc, rfl, .inl ⟨SqL.of e1, fun l hl => ?_⟩⟩
        have td : Td (upd H3 l (.tup acc)) (m + 1) (.ref l) (.tuple ds) := .inr ⟨l, acc, ds, rfl, rfl, upd_same, by omega, by omega, fun p hp => Td.keep (TupKeep.new hl) (hz p hp)⟩
        exact k _ _ _ td (B3.new hl) (Kp.new2 k3 hl)
    rintro σ1 H2 ⟨rfl, rfl⟩
    have leaf : ∀ (v : V) (d : PyData) (H' : Hp), Sc v d → Box b L H' → Kp b L H H' → Q v H' := fun v d H' sc B' k' => k v d H' (Td.sc sc n) B' k'
    try dsimp only [tNext]
    -- a text
    refine ⟨_, rfl, _, _, rfl, rfl, _, rfl, ?_⟩
    refine ite2 (fun _ => ?_) (fun _ => ?_)
    · refine ⟨(by show 6 ≤ sizeLine; decide), fun p hp => ?_⟩
      obtain ⟨np1, np2⟩ := B1.apart hp
      refine ⟨_, rfl, b, L, 6, rfl, by decide, by decide +kernel, B1.new hp, fun d4 H4 a4 c4 B4 k4 => ?_⟩
      have hl := k4 p _ np1 np2 upd_same
      have kk : Kp b L H H4 := (Kp.new2 k1 hp).trans k4
      rcases (by omega : d4 = 0 ∨ d4 = 1 ∨ d4 = 2 ∨ d4 = 3 ∨ d4 = 4 ∨ d4 = 5) with rfl | rfl | rfl | rfl | rfl | rfl
      · exact ⟨p, _, _, _, rfl, rfl, SqL.of hl, atI_nat (j := 0) rfl, leaf _ _ H4 (.str _ (by decide +kernel)) B4 kk⟩
      · exact ⟨p, _, _, _, rfl, rfl, SqL.of hl, atI_nat (j := 1) rfl, leaf _ _ H4 (.str _ (by decide +kernel)) B4 kk⟩
      · exact ⟨p, _, _, _, rfl, rfl, SqL.of hl, atI_nat (j := 2) rfl, leaf _ _ H4 (.str _ (by decide +kernel)) B4 kk⟩
      · exact ⟨p, _, _, _, rfl, rfl, SqL.of hl, atI_nat (j := 3) rfl, leaf _ _ H4 (.str _ (by decide +kernel)) B4 kk⟩
      · exact ⟨p, _, _, _, rfl, rfl, SqL.of hl, atI_nat (j := 4) rfl, leaf _ _ H4 (.str _ (by decide +kernel)) B4 kk⟩
      · exact ⟨p, _, _, _, rfl, rfl, SqL.of hl, atI_nat (j := 5) rfl, leaf _ _ H4 (.str _ (by decide +kernel)) B4 kk⟩
    -- a number
    try dsimp only [tNext]
    refine ⟨_, rfl, _, _, rfl, rfl, _, rfl, ?_⟩
    refine ite2 (fun _ => ?_) (fun _ => ?_)
    · refine ⟨_, _, rfl, rfl, _, rfl, b, L, 99, rfl, by decide, by decide +kernel, B1, fun d3 H3 a3 c3 B3 k3 => ?_⟩
      refine ⟨_, _, rfl, rfl, ⟨by decide, by decide, by decide⟩, _, _, rfl, rfl, ⟨by decide, by decide, by decide⟩, _, _, rfl, rfl, (by show 6 ≤ sizeLine; decide), fun p hp => ?_⟩
      obtain ⟨np1, np2⟩ := B3.apart hp
      refine ⟨_, rfl, b, L, 6, rfl, by decide, by decide +kernel, B3.new hp, fun d4 H4 a4 c4 B4 k4 => ?_⟩
      have hl := k4 p _ np1 np2 upd_same
      have kk : Kp b L H H4 := (Kp.new2 (k1.trans k3) hp).trans k4
      rcases (by omega : d4 = 0 ∨ d4 = 1 ∨ d4 = 2 ∨ d4 = 3 ∨ d4 = 4 ∨ d4 = 5) with rfl | rfl | rfl | rfl | rfl | rfl
      · exact ⟨p, _, _, _, rfl, rfl, SqL.of hl, atI_nat (j := 0) rfl, leaf _ _ H4 (.int _ (by decide +kernel)) B4 kk⟩
      · exact ⟨p, _, _, _, rfl, rfl, SqL.of hl, atI_nat (j := 1) rfl, leaf _ _ H4 (.int _ (by decide +kernel)) B4 kk⟩
      · exact ⟨p, _, _, _, rfl, rfl, SqL.of hl, atI_nat (j := 2) rfl, leaf _ _ H4 (.int _ (by decide +kernel)) B4 kk⟩
      · exact ⟨p, _, _, _, rfl, rfl, SqL.of hl, atI_nat (j := 3) rfl, leaf _ _ H4 (.int _ (small99 a3 c3)) B4 kk⟩
      · exact ⟨p, _, _, _, rfl, rfl, SqL.of hl, atI_nat (j := 4) rfl, leaf _ _ H4 (.int _ (by decide +kernel)) B4 kk⟩
      · exact ⟨p, _, _, _, rfl, rfl, SqL.of hl, atI_nat (j := 5) rfl, leaf _ _ H4 (.int _ (by decide +kernel)) B4 kk⟩
    -- True, False, None
    try dsimp only [tNext]
    refine ⟨(by show 3 ≤ sizeLine; decide), fun p hp => ?_⟩
    obtain ⟨np1, np2⟩ := B1.apart hp
    refine ⟨_, rfl, b, L, 3, rfl, by decide, by decide +kernel, B1.new hp, fun d4 H4 a4 c4 B4 k4 => ?_⟩
    have hl := k4 p _ np1 np2 upd_same
    have kk : Kp b L H H4 := (Kp.new2 k1 hp).trans k4
    rcases (by omega : d4 = 0 ∨ d4 = 1 ∨ d4 = 2) with rfl | rfl | rfl
    · exact ⟨p, _, _, _, rfl, rfl, SqL.of hl, atI_nat (j := 0) rfl, leaf _ _ H4 (.bl _) B4 kk⟩
    · exact ⟨p, _, _, _, rfl, rfl, SqL.of hl, atI_nat (j := 1) rfl, leaf _ _ H4 (.bl _) B4 kk⟩
    · exact ⟨p, _, _, _, rfl, rfl, SqL.of hl, atI_nat (j := 2) rfl, leaf _ _ H4 .non B4 kk⟩
/-- nothing is promised -/
def spNo : Sp := fun _ _ _ _ => False
theorem ok_no {f : Addr} {fd : FuncData} (F : Fun K "_law_value" "_law_value" sValue f fd) (k : Nat) : FnOk P w K mg base CX0 (k + 1) f fd ["_law_box_here", "_law_deep"] spNo := by
  refine F.ok scValue (fun vs H Q E h => ?_) (fun cdv A outer s H vs Q E hr h => ?_)
  · exact h.elim
  · exact h.elim
theorem ok_value {f : Addr} {fd : FuncData} (F : Fun K "_law_value" "_law_value" sValue f fd) (T : TxtV mg) (cTake : Cal P w K mg base 1 "_law_take" ["_law_box_here", "_law_many"] spTake)
    (hm : mg "_law_value" = some (.ref f)) (hk : PySem.W.keepIn K (.ref f) = true) (hb : Binds K fd ["_law_box_here", "_law_deep"] []) : ∀ n, FnOk P w K mg base CX0 (n + 2) f fd ["_law_box_here", "_law_deep"] (spValue n)
  | 0 => ok_value_step F T cTake ⟨f, fd, ok_no F 0, hm, hk, hb⟩ fun _ h => by cases h
  | n + 1 => ok_value_step F T cTake ⟨f, fd, ok_value F T cTake hm hk hb n, hm, hk, hb⟩ fun m h => by cases h; rfl
end
end Tg

namespace Tg
open PySem L2 Ow
theorem vals_app {vs zs : List V} {us ws : List Value} (r : Vals vs us) (z : Vals zs ws) : Vals (vs ++ zs) (us ++ ws) := r.append z
theorem vals_rev {zs : List V} {ws : List Value} (z : Vals zs ws) : Vals zs.reverse ws.reverse := by
  induction z with
  | nil => exact .nil
  | cons a _ ih =>
    rw [List.reverse_cons, List.reverse_cons]
    exact ih.append (.cons a .nil)
/-- an own error: two fields, one field, none -/
structure Cls2 (P : Program) (w : World) (K : PySem.W.Frag) (mg : Str → Option Value) (base : Heap) (x f g : Str) (C : Addr) : Prop where
  T : OexC K C
  O : ∃ fI fd, OIni K C fI ∧ FnOk P w K mg base CX0 1 fI fd ["self", f, g] (spI2 C f g) ∧ Binds K fd ["self", f, g] [] ∧ KBn K fd ["self", f, g] 1 [g, f] (fun us ws => us ++ ws.reverse) (fun vs zs => vs ++ zs.reverse)
  gC : mg x = some (.ref C)
  X : XfC K C
  nf : PySem.W.findIn K (.ref C) f = some none
  ng : PySem.W.findIn K (.ref C) g = some none
structure Cls1 (P : Program) (w : World) (K : PySem.W.Frag) (mg : Str → Option Value) (base : Heap) (x f : Str) (C : Addr) : Prop where
  T : OexB K C
  O : ∃ fI fd, OIni K C fI ∧ FnOk P w K mg base CX0 1 fI fd ["self", f] (spI1 C f) ∧ Binds K fd ["self", f] [] ∧ KBn K fd ["self", f] 1 [f] (fun us ws => us ++ ws) (fun vs zs => vs ++ zs)
  gC : mg x = some (.ref C)
  X : XfC K C
  nf : PySem.W.findIn K (.ref C) f = some none
structure Cls0 (K : PySem.W.Frag) (mg : Str → Option Value) (x : Str) (C : Addr) : Prop where
  T : OexC K C
  iV : PySem.W.findIn K (.ref C) "__init__" = some (some (.builtin "ValueError.__init__"))
  gC : mg x = some (.ref C)
theorem kb2 {K : PySem.W.Frag} {fd : FuncData} {f g : Str} (h : ∀ us ws : List Value, us.length = 1 → ws.length = 2 → bindArgs fd ⟨us, [g, f].zip ws⟩ = pure ((["self", f, g] : List Str).zip (us ++ ws.reverse))) :
    KBn K fd ["self", f, g] 1 [g, f] (fun us ws => us ++ ws.reverse) (fun vs zs => vs ++ zs.reverse) :=
  ⟨fun s us ws _ h1 h2 => .of_eq (h us ws h1 h2), fun r z => vals_app r (vals_rev z)⟩
theorem kb1 {K : PySem.W.Frag} {fd : FuncData} {f : Str} (h : ∀ us ws : List Value, us.length = 1 → ws.length = 1 → bindArgs fd ⟨us, [f].zip ws⟩ = pure ((["self", f] : List Str).zip (us ++ ws))) :
    KBn K fd ["self", f] 1 [f] (fun us ws => us ++ ws) (fun vs zs => vs ++ zs) :=
  ⟨fun s us ws _ h1 h2 => .of_eq (h us ws h1 h2), fun r z => vals_app r z⟩
theorem same_of {H H' : Hp} {a : Addr} {u : HO} (ha : H a = none) (kp : ∀ b o, b ≠ a → (upd H a u) b = some o → H' b = some o) : Same H H' := fun b o e => kp b o (ne_of_none e ha) (by rw [upd_ne (ne_of_none e ha)]; exact e)
theorem ExAt.same {C : Addr} {H H' : Hp} {a : Addr} {fs : List (Str × V)} (h : ExAt C H a fs) (s : Same H H') : ExAt C H' a fs := by
  obtain ⟨d, h1, h2⟩ := h
  exact ⟨d, s _ _ h1, s _ _ h2⟩
/-- the eleven errors -/
structure Errs (P : Program) (w : World) (K : PySem.W.Frag) (mg : Str → Option Value) (base : Heap) (C : Nat → Addr) : Prop where
  c0 : Cls2 P w K mg base "NoTree" "word" "at" (C 0)
  c1 : Cls2 P w K mg base "NoGrove" "one" "other" (C 1)
  c2 : Cls2 P w K mg base "NoWeb" "word" "at" (C 2)
  c3 : Cls1 P w K mg base "NoText" "row" (C 3)
  c4 : Cls2 P w K mg base "NoStanding" "word" "at" (C 4)
  c5 : Cls1 P w K mg base "NoMatch" "word" (C 5)
  c6 : Cls1 P w K mg base "Broken" "at" (C 6)
  c7 : Cls0 K mg "Unexplained" (C 7)
  c8 : Cls0 K mg "NoCommand" (C 8)
  c9 : Cls1 P w K mg base "NoPlace" "place" (C 9)
  c10 : Cls1 P w K mg base "NoWalker" "walker" (C 10)
/-- what they hold -/
def flds (x y : V) : Nat → List (Str × V)
  | 0 => [("at", y), ("word", x)]
  | 1 => [("other", y), ("one", x)]
  | 2 => [("at", y), ("word", x)]
  | 3 => [("row", x)]
  | 4 => [("at", y), ("word", x)]
  | 5 => [("word", x)]
  | 6 => [("at", x)]
  | 9 => [("place", x)]
  | _ => [("walker", x)]
structure ErrsAt (C : Nat → Addr) (H : Hp) (x y : V) (a : Nat → Addr) : Prop where
  fl : ∀ i, i ≤ 10 → i ≠ 7 → i ≠ 8 → ExAt (C i) H (a i) (flds x y i)
  e7 : H (a 7) = some (exo (a 7) (C 7) none)
  e8 : H (a 8) = some (exo (a 8) (C 8) none)
def refs11 (a : Nat → Addr) : List V := [.ref (a 0), .ref (a 1), .ref (a 2), .ref (a 3), .ref (a 4), .ref (a 5), .ref (a 6), .ref (a 7), .ref (a 8), .ref (a 9), .ref (a 10)]
theorem ErrsAt.same {C : Nat → Addr} {H H' : Hp} {x y : V} {a : Nat → Addr} (h : ErrsAt C H x y a) (s : Same H H') : ErrsAt C H' x y a := ⟨fun i h0 h7 h8 => (h.fl i h0 h7 h8).same s, s _ _ h.e7, s _ _ h.e8⟩
def spErrs (C : Nat → Addr) : Sp := fun vs H Q _ => ∃ x y, vs = [x, y] ∧ ∀ (p : Addr) (a : Nat → Addr) (H' : Hp), H p = none → Same H H' → H' p = some (.lst (refs11 a)) → ErrsAt C H' x y a → Q (.ref p) H'
def pick11 (b : Fin 11 → Addr) (i : Nat) : Addr := if h : i < 11 then b ⟨i, h⟩ else b 0
def of11 (a0 a1 a2 a3 a4 a5 a6 a7 a8 a9 a10 : Addr) : Nat → Addr
  | 0 => a0 | 1 => a1 | 2 => a2 | 3 => a3 | 4 => a4 | 5 => a5 | 6 => a6 | 7 => a7 | 8 => a8 | 9 => a9 | _ => a10
theorem errs_mk {C : Nat → Addr} {H : Hp} {x y : V} {a0 a1 a2 a3 a4 a5 a6 a7 a8 a9 a10 : Addr} (h0 : ExAt (C 0) H a0 [("at", y), ("word", x)]) (h1 : ExAt (C 1) H a1 [("other", y), ("one", x)]) (h2 : ExAt (C 2) H a2 [("at", y), ("word", x)])
    (h3 : ExAt (C 3) H a3 [("row", x)]) (h4 : ExAt (C 4) H a4 [("at", y), ("word", x)]) (h5 : ExAt (C 5) H a5 [("word", x)]) (h6 : ExAt (C 6) H a6 [("at", x)]) (h7 : H a7 = some (exo a7 (C 7) none)) (h8 : H a8 = some (exo a8 (C 8) none))
    (h9 : ExAt (C 9) H a9 [("place", x)]) (h10 : ExAt (C 10) H a10 [("walker", x)]) : ErrsAt C H x y (of11 a0 a1 a2 a3 a4 a5 a6 a7 a8 a9 a10) := by
  refine ⟨fun i hi n7 n8 => ?_, h7, h8⟩
  match i, hi with
  | 0, _ => exact h0
  | 1, _ => exact h1
  | 2, _ => exact h2
  | 3, _ => exact h3
  | 4, _ => exact h4
  | 5, _ => exact h5
  | 6, _ => exact h6
  | 7, _ => exact absurd rfl n7
  | 8, _ => exact absurd rfl n8
  | 9, _ => exact h9
  | 10, _ => exact h10
  | (j + 11), h => omega
end Tg

namespace Tg
open PySem L2 Ow
section
variable {P : Program} {w : World} {K : PySem.W.Frag} {mg : Str → Option Value} {base : Heap} {C : Nat → Addr}
abbrev nplaced : List Str := ["_law_x", "_law_y", "_law_found"]
theorem scplaced : FnScope nplaced ["_law_x", "_law_y"] (defScope sPlaced) := ⟨rfl, rfl, rfl, by decide +kernel, rfl, by decide +kernel, by decide +kernel⟩
theorem ok_placed {f : Addr} {fd : FuncData} (F : Fun K "_law_placed" "_law_placed" sPlaced f fd) (c : Errs P w K mg base C) : FnOk P w K mg base CX0 3 f fd ["_law_x", "_law_y"] (spErrs C) := by
  refine F.ok scplaced (fun vs H Q E h => ?_) (fun cdv A outer s H vs Q E hr h => ?_)
  · obtain ⟨x, y, rfl, _⟩ := h
    rfl
  · obtain ⟨x, y, rfl, k⟩ := h
    have nd := scplaced.nd
    obtain ⟨fI0, fd0, O0, F0, b0, kb0⟩ := c.c0.O
    obtain ⟨fI1, fd1, O1, F1, b1, kb1⟩ := c.c1.O
    obtain ⟨fI2, fd2, O2, F2, b2, kb2⟩ := c.c2.O
    obtain ⟨fI3, fd3, O3, F3, b3, kb3⟩ := c.c3.O
    obtain ⟨fI4, fd4, O4, F4, b4, kb4⟩ := c.c4.O
    obtain ⟨fI5, fd5, O5, F5, b5, kb5⟩ := c.c5.O
    obtain ⟨fI6, fd6, O6, F6, b6, kb6⟩ := c.c6.O
    obtain ⟨fI9, fd9, O9, F9, b9, kb9⟩ := c.c9.O
    obtain ⟨fI10, fd10, O10, F10, b10, kb10⟩ := c.c10.O
    refine ⟨_, (pss_cons (ps_set (i := 2) nd rfl (.inl rfl) (pe_lst (pa_cons (pe_ex (OexC.b c.c0.T) O0 F0 (hr.mono (by decide)) (by rfl) c.c0.gC b0 pass0 (pa_cons (pv 0) (pa_cons (pv 1) pa_nil))) (pa_cons (pe_ex (OexC.b c.c1.T) O1 F1 (hr.mono (by decide)) (by rfl) c.c1.gC b1 pass0 (pa_cons (pv 0) (pa_cons (pv 1) pa_nil))) (pa_cons (pe_ex (OexC.b c.c2.T) O2 F2 (hr.mono (by decide)) (by rfl) c.c2.gC b2 pass0 (pa_cons (pv 0) (pa_cons (pv 1) pa_nil))) (pa_cons (pe_ex c.c3.T O3 F3 (hr.mono (by decide)) (by rfl) c.c3.gC b3 pass0 (pa_cons (pv 0) pa_nil)) (pa_cons (pe_ex (OexC.b c.c4.T) O4 F4 (hr.mono (by decide)) (by rfl) c.c4.gC b4 pass0 (pa_cons (pv 0) (pa_cons (pv 1) pa_nil))) (pa_cons (pe_ex c.c5.T O5 F5 (hr.mono (by decide)) (by rfl) c.c5.gC b5 pass0 (pa_cons (pv 0) pa_nil)) (pa_cons (pe_ex c.c6.T O6 F6 (hr.mono (by decide)) (by rfl) c.c6.gC b6 pass0 (pa_cons (pv 0) pa_nil)) pa_nil))))))))) (pss_one (ps_ret (pe_op op_cat (pv 2) (pe_lst (pa_cons (pe_ex0 c.c7.T c.c7.iV (by rfl) c.c7.gC) (pa_cons (pe_ex0 c.c8.T c.c8.iV (by rfl) c.c8.gC) (pa_cons (pe_ex c.c9.T O9 F9 (hr.mono (by decide)) (by rfl) c.c9.gC b9 pass0 (pa_cons (pv 0) pa_nil)) (pa_cons (pe_ex c.c10.T O10 F10 (hr.mono (by decide)) (by rfl) c.c10.gC b10 pass0 (pa_cons (pv 0) pa_nil)) pa_nil))))))))), ?_⟩
    have S := Same.refl H
    refine ⟨_, rfl, _, rfl, (by show 2 ≤ 1000; decide), fun a0 n0 => ⟨a0, x, y, rfl, upd_same, fun H0 k0 e0 => ⟨rfl, ?_⟩⟩⟩
    have s0 := same_of n0 k0
    have S := Same.trans S s0
    refine ⟨_, rfl, _, rfl, (by show 2 ≤ 1000; decide), fun a1 n1 => ⟨a1, x, y, rfl, upd_same, fun H1 k1 e1 => ⟨rfl, ?_⟩⟩⟩
    have s1 := same_of n1 k1
    have e0 := ExAt.same e0 s1
    have S := Same.trans S s1
    refine ⟨_, rfl, _, rfl, (by show 2 ≤ 1000; decide), fun a2 n2 => ⟨a2, x, y, rfl, upd_same, fun H2 k2 e2 => ⟨rfl, ?_⟩⟩⟩
    have s2 := same_of n2 k2
    have e0 := ExAt.same e0 s2
    have e1 := ExAt.same e1 s2
    have S := Same.trans S s2
    refine ⟨_, rfl, (by show 1 ≤ 1000; decide), fun a3 n3 => ⟨a3, x, rfl, upd_same, fun H3 k3 e3 => ⟨rfl, ?_⟩⟩⟩
    have s3 := same_of n3 k3
    have e0 := ExAt.same e0 s3
    have e1 := ExAt.same e1 s3
    have e2 := ExAt.same e2 s3
    have S := Same.trans S s3
    refine ⟨_, rfl, _, rfl, (by show 2 ≤ 1000; decide), fun a4 n4 => ⟨a4, x, y, rfl, upd_same, fun H4 k4 e4 => ⟨rfl, ?_⟩⟩⟩
    have s4 := same_of n4 k4
    have e0 := ExAt.same e0 s4
    have e1 := ExAt.same e1 s4
    have e2 := ExAt.same e2 s4
    have e3 := ExAt.same e3 s4
    have S := Same.trans S s4
    refine ⟨_, rfl, (by show 1 ≤ 1000; decide), fun a5 n5 => ⟨a5, x, rfl, upd_same, fun H5 k5 e5 => ⟨rfl, ?_⟩⟩⟩
    have s5 := same_of n5 k5
    have e0 := ExAt.same e0 s5
    have e1 := ExAt.same e1 s5
    have e2 := ExAt.same e2 s5
    have e3 := ExAt.same e3 s5
    have e4 := ExAt.same e4 s5
    have S := Same.trans S s5
    refine ⟨_, rfl, (by show 1 ≤ 1000; decide), fun a6 n6 => ⟨a6, x, rfl, upd_same, fun H6 k6 e6 => ⟨rfl, ?_⟩⟩⟩
    have s6 := same_of n6 k6
    have e0 := ExAt.same e0 s6
    have e1 := ExAt.same e1 s6
    have e2 := ExAt.same e2 s6
    have e3 := ExAt.same e3 s6
    have e4 := ExAt.same e4 s6
    have e5 := ExAt.same e5 s6
    have S := Same.trans S s6
    refine ⟨(by show 7 ≤ sizeLine; decide), fun p np => ?_⟩
    have sp : Same H6 (upd H6 p (.lst [V.ref a0, V.ref a1, V.ref a2, V.ref a3, V.ref a4, V.ref a5, V.ref a6])) := same_upd (Same.refl _) np
    have e0 := ExAt.same e0 sp
    have e1 := ExAt.same e1 sp
    have e2 := ExAt.same e2 sp
    have e3 := ExAt.same e3 sp
    have e4 := ExAt.same e4 sp
    have e5 := ExAt.same e5 sp
    have e6 := ExAt.same e6 sp
    have S := Same.trans S sp
    have lp : (upd H6 p (.lst [V.ref a0, V.ref a1, V.ref a2, V.ref a3, V.ref a4, V.ref a5, V.ref a6])) p = some (.lst [V.ref a0, V.ref a1, V.ref a2, V.ref a3, V.ref a4, V.ref a5, V.ref a6]) := upd_same
    generalize upd H6 p (.lst [V.ref a0, V.ref a1, V.ref a2, V.ref a3, V.ref a4, V.ref a5, V.ref a6]) = Hp at e0 e1 e2 e3 e4 e5 e6 S sp lp ⊢
    try dsimp only
    refine ⟨_, rfl, fun a7 n7 => ?_⟩
    have s7 : Same Hp (upd Hp a7 (exo a7 (C 7) none)) := same_upd (Same.refl _) n7
    have e0 := ExAt.same e0 s7
    have e1 := ExAt.same e1 s7
    have e2 := ExAt.same e2 s7
    have e3 := ExAt.same e3 s7
    have e4 := ExAt.same e4 s7
    have e5 := ExAt.same e5 s7
    have e6 := ExAt.same e6 s7
    have lp := s7 _ _ lp
    have S := Same.trans S s7
    have e7 : (upd Hp a7 (exo a7 (C 7) none)) a7 = some (exo a7 (C 7) none) := upd_same
    generalize upd Hp a7 (exo a7 (C 7) none) = H7 at e0 e1 e2 e3 e4 e5 e6 lp S s7 e7 ⊢
    refine fun a8 n8 => ?_
    have s8 : Same H7 (upd H7 a8 (exo a8 (C 8) none)) := same_upd (Same.refl _) n8
    have e0 := ExAt.same e0 s8
    have e1 := ExAt.same e1 s8
    have e2 := ExAt.same e2 s8
    have e3 := ExAt.same e3 s8
    have e4 := ExAt.same e4 s8
    have e5 := ExAt.same e5 s8
    have e6 := ExAt.same e6 s8
    have lp := s8 _ _ lp
    have e7 := s8 _ _ e7
    have S := Same.trans S s8
    have e8 : (upd H7 a8 (exo a8 (C 8) none)) a8 = some (exo a8 (C 8) none) := upd_same
    generalize upd H7 a8 (exo a8 (C 8) none) = H8 at e0 e1 e2 e3 e4 e5 e6 lp e7 S s8 e8 ⊢
    refine ⟨_, rfl, (by show 1 ≤ 1000; decide), fun a9 n9 => ⟨a9, x, rfl, upd_same, fun H9 k9 e9 => ⟨rfl, ?_⟩⟩⟩
    have s9 := same_of n9 k9
    have e0 := ExAt.same e0 s9
    have e1 := ExAt.same e1 s9
    have e2 := ExAt.same e2 s9
    have e3 := ExAt.same e3 s9
    have e4 := ExAt.same e4 s9
    have e5 := ExAt.same e5 s9
    have e6 := ExAt.same e6 s9
    have lp := s9 _ _ lp
    have e7 := s9 _ _ e7
    have e8 := s9 _ _ e8
    have S := Same.trans S s9
    refine ⟨_, rfl, (by show 1 ≤ 1000; decide), fun a10 n10 => ⟨a10, x, rfl, upd_same, fun H10 k10 e10 => ⟨rfl, ?_⟩⟩⟩
    have s10 := same_of n10 k10
    have e0 := ExAt.same e0 s10
    have e1 := ExAt.same e1 s10
    have e2 := ExAt.same e2 s10
    have e3 := ExAt.same e3 s10
    have e4 := ExAt.same e4 s10
    have e5 := ExAt.same e5 s10
    have e6 := ExAt.same e6 s10
    have lp := s10 _ _ lp
    have e7 := s10 _ _ e7
    have e8 := s10 _ _ e8
    have e9 := ExAt.same e9 s10
    have S := Same.trans S s10
    refine ⟨(by show 4 ≤ sizeLine; decide), fun q nq => ?_⟩
    have sq : Same H10 (upd H10 q (.lst [V.ref a7, V.ref a8, V.ref a9, V.ref a10])) := same_upd (Same.refl _) nq
    have e0 := ExAt.same e0 sq
    have e1 := ExAt.same e1 sq
    have e2 := ExAt.same e2 sq
    have e3 := ExAt.same e3 sq
    have e4 := ExAt.same e4 sq
    have e5 := ExAt.same e5 sq
    have e6 := ExAt.same e6 sq
    have lp := sq _ _ lp
    have e7 := sq _ _ e7
    have e8 := sq _ _ e8
    have e9 := ExAt.same e9 sq
    have e10 := ExAt.same e10 sq
    have S := Same.trans S sq
    have lq : (upd H10 q (.lst [V.ref a7, V.ref a8, V.ref a9, V.ref a10])) q = some (.lst [V.ref a7, V.ref a8, V.ref a9, V.ref a10]) := upd_same
    generalize upd H10 q (.lst [V.ref a7, V.ref a8, V.ref a9, V.ref a10]) = Hq at e0 e1 e2 e3 e4 e5 e6 lp e7 e8 e9 e10 S sq lq ⊢
    have Sp0 := S
    refine ⟨p, q, _, _, rfl, rfl, lp, lq, (by show 7 + 4 ≤ sizeLine; decide), fun r nr => ?_⟩
    have sr : Same Hq (upd Hq r (.lst ([V.ref a0, V.ref a1, V.ref a2, V.ref a3, V.ref a4, V.ref a5, V.ref a6] ++ [V.ref a7, V.ref a8, V.ref a9, V.ref a10]))) := same_upd (Same.refl _) nr
    have e0 := ExAt.same e0 sr
    have e1 := ExAt.same e1 sr
    have e2 := ExAt.same e2 sr
    have e3 := ExAt.same e3 sr
    have e4 := ExAt.same e4 sr
    have e5 := ExAt.same e5 sr
    have e6 := ExAt.same e6 sr
    have lp := sr _ _ lp
    have e7 := sr _ _ e7
    have e8 := sr _ _ e8
    have e9 := ExAt.same e9 sr
    have e10 := ExAt.same e10 sr
    have lq := sr _ _ lq
    have S := Same.trans S sr
    have lr : (upd Hq r (.lst ([V.ref a0, V.ref a1, V.ref a2, V.ref a3, V.ref a4, V.ref a5, V.ref a6] ++ [V.ref a7, V.ref a8, V.ref a9, V.ref a10]))) r = some (.lst ([V.ref a0, V.ref a1, V.ref a2, V.ref a3, V.ref a4, V.ref a5, V.ref a6] ++ [V.ref a7, V.ref a8, V.ref a9, V.ref a10])) := upd_same
    generalize upd Hq r (.lst ([V.ref a0, V.ref a1, V.ref a2, V.ref a3, V.ref a4, V.ref a5, V.ref a6] ++ [V.ref a7, V.ref a8, V.ref a9, V.ref a10])) = Hr at e0 e1 e2 e3 e4 e5 e6 lp e7 e8 e9 e10 lq S sr lr ⊢
    exact k r (of11 a0 a1 a2 a3 a4 a5 a6 a7 a8 a9 a10) _ (Sp0.free nr) S lr (errs_mk e0 e1 e2 e3 e4 e5 e6 e7 e8 e9 e10)
abbrev nnamed : List Str := ["_law_x", "_law_y", "_law_found"]
theorem scnamed : FnScope nnamed ["_law_x", "_law_y"] (defScope sNamed) := ⟨rfl, rfl, rfl, by decide +kernel, rfl, by decide +kernel, by decide +kernel⟩
theorem ok_named {f : Addr} {fd : FuncData} (F : Fun K "_law_named" "_law_named" sNamed f fd) (c : Errs P w K mg base C) : FnOk P w K mg base CX0 3 f fd ["_law_x", "_law_y"] (spErrs C) := by
  refine F.ok scnamed (fun vs H Q E h => ?_) (fun cdv A outer s H vs Q E hr h => ?_)
  · obtain ⟨x, y, rfl, _⟩ := h
    rfl
  · obtain ⟨x, y, rfl, k⟩ := h
    have nd := scnamed.nd
    obtain ⟨fI0, fd0, O0, F0, b0, kb0⟩ := c.c0.O
    obtain ⟨fI1, fd1, O1, F1, b1, kb1⟩ := c.c1.O
    obtain ⟨fI2, fd2, O2, F2, b2, kb2⟩ := c.c2.O
    obtain ⟨fI3, fd3, O3, F3, b3, kb3⟩ := c.c3.O
    obtain ⟨fI4, fd4, O4, F4, b4, kb4⟩ := c.c4.O
    obtain ⟨fI5, fd5, O5, F5, b5, kb5⟩ := c.c5.O
    obtain ⟨fI6, fd6, O6, F6, b6, kb6⟩ := c.c6.O
    obtain ⟨fI9, fd9, O9, F9, b9, kb9⟩ := c.c9.O
    obtain ⟨fI10, fd10, O10, F10, b10, kb10⟩ := c.c10.O
    refine ⟨_, (pss_cons (ps_set (i := 2) nd rfl (.inl rfl) (pe_lst (pa_cons (pe_exK (OexC.b c.c0.T) O0 F0 (hr.mono (by decide)) (by rfl) c.c0.gC kb0 pass0 (pk_cons (pv 1) (pk_cons (pv 0) pk_nil))) (pa_cons (pe_exK (OexC.b c.c1.T) O1 F1 (hr.mono (by decide)) (by rfl) c.c1.gC kb1 pass0 (pk_cons (pv 1) (pk_cons (pv 0) pk_nil))) (pa_cons (pe_exK (OexC.b c.c2.T) O2 F2 (hr.mono (by decide)) (by rfl) c.c2.gC kb2 pass0 (pk_cons (pv 1) (pk_cons (pv 0) pk_nil))) (pa_cons (pe_exK c.c3.T O3 F3 (hr.mono (by decide)) (by rfl) c.c3.gC kb3 pass0 (pk_cons (pv 0) pk_nil)) pa_nil)))))) (pss_cons (ps_set (i := 2) nd rfl (.inl rfl) (pe_op op_cat (pv 2) (pe_lst (pa_cons (pe_exK (OexC.b c.c4.T) O4 F4 (hr.mono (by decide)) (by rfl) c.c4.gC kb4 pass0 (pk_cons (pv 1) (pk_cons (pv 0) pk_nil))) (pa_cons (pe_exK c.c5.T O5 F5 (hr.mono (by decide)) (by rfl) c.c5.gC kb5 pass0 (pk_cons (pv 0) pk_nil)) (pa_cons (pe_exK c.c6.T O6 F6 (hr.mono (by decide)) (by rfl) c.c6.gC kb6 pass0 (pk_cons (pv 0) pk_nil)) (pa_cons (pe_ex0 c.c7.T c.c7.iV (by rfl) c.c7.gC) (pa_cons (pe_ex0 c.c8.T c.c8.iV (by rfl) c.c8.gC) pa_nil)))))))) (pss_one (ps_ret (pe_op op_cat (pv 2) (pe_lst (pa_cons (pe_exK c.c9.T O9 F9 (hr.mono (by decide)) (by rfl) c.c9.gC kb9 pass0 (pk_cons (pv 0) pk_nil)) (pa_cons (pe_exK c.c10.T O10 F10 (hr.mono (by decide)) (by rfl) c.c10.gC kb10 pass0 (pk_cons (pv 0) pk_nil)) pa_nil)))))))), ?_⟩
    have S := Same.refl H
    refine ⟨_, rfl, _, rfl, rfl, fun a0 n0 => ⟨a0, x, y, rfl, upd_same, fun H0 k0 e0 => ⟨rfl, ?_⟩⟩⟩
    have s0 := same_of n0 k0
    have S := Same.trans S s0
    refine ⟨_, rfl, _, rfl, rfl, fun a1 n1 => ⟨a1, x, y, rfl, upd_same, fun H1 k1 e1 => ⟨rfl, ?_⟩⟩⟩
    have s1 := same_of n1 k1
    have e0 := ExAt.same e0 s1
    have S := Same.trans S s1
    refine ⟨_, rfl, _, rfl, rfl, fun a2 n2 => ⟨a2, x, y, rfl, upd_same, fun H2 k2 e2 => ⟨rfl, ?_⟩⟩⟩
    have s2 := same_of n2 k2
    have e0 := ExAt.same e0 s2
    have e1 := ExAt.same e1 s2
    have S := Same.trans S s2
    refine ⟨_, rfl, rfl, fun a3 n3 => ⟨a3, x, rfl, upd_same, fun H3 k3 e3 => ⟨rfl, ?_⟩⟩⟩
    have s3 := same_of n3 k3
    have e0 := ExAt.same e0 s3
    have e1 := ExAt.same e1 s3
    have e2 := ExAt.same e2 s3
    have S := Same.trans S s3
    refine ⟨(by show 4 ≤ sizeLine; decide), fun p np => ?_⟩
    have sp : Same H3 (upd H3 p (.lst [V.ref a0, V.ref a1, V.ref a2, V.ref a3])) := same_upd (Same.refl _) np
    have e0 := ExAt.same e0 sp
    have e1 := ExAt.same e1 sp
    have e2 := ExAt.same e2 sp
    have e3 := ExAt.same e3 sp
    have S := Same.trans S sp
    have lp : (upd H3 p (.lst [V.ref a0, V.ref a1, V.ref a2, V.ref a3])) p = some (.lst [V.ref a0, V.ref a1, V.ref a2, V.ref a3]) := upd_same
    generalize upd H3 p (.lst [V.ref a0, V.ref a1, V.ref a2, V.ref a3]) = Hp at e0 e1 e2 e3 S sp lp ⊢
    try dsimp only
    refine ⟨_, rfl, _, rfl, _, rfl, rfl, fun a4 n4 => ⟨a4, x, y, rfl, upd_same, fun H4 k4 e4 => ⟨rfl, ?_⟩⟩⟩
    have s4 := same_of n4 k4
    have e0 := ExAt.same e0 s4
    have e1 := ExAt.same e1 s4
    have e2 := ExAt.same e2 s4
    have e3 := ExAt.same e3 s4
    have lp := s4 _ _ lp
    have S := Same.trans S s4
    refine ⟨_, rfl, rfl, fun a5 n5 => ⟨a5, x, rfl, upd_same, fun H5 k5 e5 => ⟨rfl, ?_⟩⟩⟩
    have s5 := same_of n5 k5
    have e0 := ExAt.same e0 s5
    have e1 := ExAt.same e1 s5
    have e2 := ExAt.same e2 s5
    have e3 := ExAt.same e3 s5
    have lp := s5 _ _ lp
    have e4 := ExAt.same e4 s5
    have S := Same.trans S s5
    refine ⟨_, rfl, rfl, fun a6 n6 => ⟨a6, x, rfl, upd_same, fun H6 k6 e6 => ⟨rfl, ?_⟩⟩⟩
    have s6 := same_of n6 k6
    have e0 := ExAt.same e0 s6
    have e1 := ExAt.same e1 s6
    have e2 := ExAt.same e2 s6
    have e3 := ExAt.same e3 s6
    have lp := s6 _ _ lp
    have e4 := ExAt.same e4 s6
    have e5 := ExAt.same e5 s6
    have S := Same.trans S s6
    refine fun a7 n7 => ?_
    have s7 : Same H6 (upd H6 a7 (exo a7 (C 7) none)) := same_upd (Same.refl _) n7
    have e0 := ExAt.same e0 s7
    have e1 := ExAt.same e1 s7
    have e2 := ExAt.same e2 s7
    have e3 := ExAt.same e3 s7
    have lp := s7 _ _ lp
    have e4 := ExAt.same e4 s7
    have e5 := ExAt.same e5 s7
    have e6 := ExAt.same e6 s7
    have S := Same.trans S s7
    have e7 : (upd H6 a7 (exo a7 (C 7) none)) a7 = some (exo a7 (C 7) none) := upd_same
    generalize upd H6 a7 (exo a7 (C 7) none) = H7 at e0 e1 e2 e3 lp e4 e5 e6 S s7 e7 ⊢
    refine fun a8 n8 => ?_
    have s8 : Same H7 (upd H7 a8 (exo a8 (C 8) none)) := same_upd (Same.refl _) n8
    have e0 := ExAt.same e0 s8
    have e1 := ExAt.same e1 s8
    have e2 := ExAt.same e2 s8
    have e3 := ExAt.same e3 s8
    have lp := s8 _ _ lp
    have e4 := ExAt.same e4 s8
    have e5 := ExAt.same e5 s8
    have e6 := ExAt.same e6 s8
    have e7 := s8 _ _ e7
    have S := Same.trans S s8
    have e8 : (upd H7 a8 (exo a8 (C 8) none)) a8 = some (exo a8 (C 8) none) := upd_same
    generalize upd H7 a8 (exo a8 (C 8) none) = H8 at e0 e1 e2 e3 lp e4 e5 e6 e7 S s8 e8 ⊢
    refine ⟨(by show 5 ≤ sizeLine; decide), fun q nq => ?_⟩
    have sq : Same H8 (upd H8 q (.lst [V.ref a4, V.ref a5, V.ref a6, V.ref a7, V.ref a8])) := same_upd (Same.refl _) nq
    have e0 := ExAt.same e0 sq
    have e1 := ExAt.same e1 sq
    have e2 := ExAt.same e2 sq
    have e3 := ExAt.same e3 sq
    have lp := sq _ _ lp
    have e4 := ExAt.same e4 sq
    have e5 := ExAt.same e5 sq
    have e6 := ExAt.same e6 sq
    have e7 := sq _ _ e7
    have e8 := sq _ _ e8
    have S := Same.trans S sq
    have lq : (upd H8 q (.lst [V.ref a4, V.ref a5, V.ref a6, V.ref a7, V.ref a8])) q = some (.lst [V.ref a4, V.ref a5, V.ref a6, V.ref a7, V.ref a8]) := upd_same
    generalize upd H8 q (.lst [V.ref a4, V.ref a5, V.ref a6, V.ref a7, V.ref a8]) = Hq at e0 e1 e2 e3 lp e4 e5 e6 e7 e8 S sq lq ⊢
    refine ⟨p, q, _, _, rfl, rfl, lp, lq, (by show 4 + 5 ≤ sizeLine; decide), fun t nt => ?_⟩
    have st : Same Hq (upd Hq t (.lst ([V.ref a0, V.ref a1, V.ref a2, V.ref a3] ++ [V.ref a4, V.ref a5, V.ref a6, V.ref a7, V.ref a8]))) := same_upd (Same.refl _) nt
    have e0 := ExAt.same e0 st
    have e1 := ExAt.same e1 st
    have e2 := ExAt.same e2 st
    have e3 := ExAt.same e3 st
    have lp := st _ _ lp
    have e4 := ExAt.same e4 st
    have e5 := ExAt.same e5 st
    have e6 := ExAt.same e6 st
    have e7 := st _ _ e7
    have e8 := st _ _ e8
    have lq := st _ _ lq
    have S := Same.trans S st
    have lt : (upd Hq t (.lst ([V.ref a0, V.ref a1, V.ref a2, V.ref a3] ++ [V.ref a4, V.ref a5, V.ref a6, V.ref a7, V.ref a8]))) t = some (.lst ([V.ref a0, V.ref a1, V.ref a2, V.ref a3] ++ [V.ref a4, V.ref a5, V.ref a6, V.ref a7, V.ref a8])) := upd_same
    generalize upd Hq t (.lst ([V.ref a0, V.ref a1, V.ref a2, V.ref a3] ++ [V.ref a4, V.ref a5, V.ref a6, V.ref a7, V.ref a8])) = Ht at e0 e1 e2 e3 lp e4 e5 e6 e7 e8 lq S st lt ⊢
    try dsimp only
    refine ⟨_, rfl, _, rfl, rfl, fun a9 n9 => ⟨a9, x, rfl, upd_same, fun H9 k9 e9 => ⟨rfl, ?_⟩⟩⟩
    have s9 := same_of n9 k9
    have e0 := ExAt.same e0 s9
    have e1 := ExAt.same e1 s9
    have e2 := ExAt.same e2 s9
    have e3 := ExAt.same e3 s9
    have lp := s9 _ _ lp
    have e4 := ExAt.same e4 s9
    have e5 := ExAt.same e5 s9
    have e6 := ExAt.same e6 s9
    have e7 := s9 _ _ e7
    have e8 := s9 _ _ e8
    have lq := s9 _ _ lq
    have lt := s9 _ _ lt
    have S := Same.trans S s9
    refine ⟨_, rfl, rfl, fun a10 n10 => ⟨a10, x, rfl, upd_same, fun H10 k10 e10 => ⟨rfl, ?_⟩⟩⟩
    have s10 := same_of n10 k10
    have e0 := ExAt.same e0 s10
    have e1 := ExAt.same e1 s10
    have e2 := ExAt.same e2 s10
    have e3 := ExAt.same e3 s10
    have lp := s10 _ _ lp
    have e4 := ExAt.same e4 s10
    have e5 := ExAt.same e5 s10
    have e6 := ExAt.same e6 s10
    have e7 := s10 _ _ e7
    have e8 := s10 _ _ e8
    have lq := s10 _ _ lq
    have lt := s10 _ _ lt
    have e9 := ExAt.same e9 s10
    have S := Same.trans S s10
    refine ⟨(by show 2 ≤ sizeLine; decide), fun u nu => ?_⟩
    have su : Same H10 (upd H10 u (.lst [V.ref a9, V.ref a10])) := same_upd (Same.refl _) nu
    have e0 := ExAt.same e0 su
    have e1 := ExAt.same e1 su
    have e2 := ExAt.same e2 su
    have e3 := ExAt.same e3 su
    have lp := su _ _ lp
    have e4 := ExAt.same e4 su
    have e5 := ExAt.same e5 su
    have e6 := ExAt.same e6 su
    have e7 := su _ _ e7
    have e8 := su _ _ e8
    have lq := su _ _ lq
    have lt := su _ _ lt
    have e9 := ExAt.same e9 su
    have e10 := ExAt.same e10 su
    have S := Same.trans S su
    have lu : (upd H10 u (.lst [V.ref a9, V.ref a10])) u = some (.lst [V.ref a9, V.ref a10]) := upd_same
    generalize upd H10 u (.lst [V.ref a9, V.ref a10]) = Hu at e0 e1 e2 e3 lp e4 e5 e6 e7 e8 lq lt e9 e10 S su lu ⊢
    have Sp0 := S
    refine ⟨t, u, _, _, rfl, rfl, lt, lu, (by show 9 + 2 ≤ sizeLine; decide), fun r nr => ?_⟩
    have sr : Same Hu (upd Hu r (.lst (([V.ref a0, V.ref a1, V.ref a2, V.ref a3] ++ [V.ref a4, V.ref a5, V.ref a6, V.ref a7, V.ref a8]) ++ [V.ref a9, V.ref a10]))) := same_upd (Same.refl _) nr
    have e0 := ExAt.same e0 sr
    have e1 := ExAt.same e1 sr
    have e2 := ExAt.same e2 sr
    have e3 := ExAt.same e3 sr
    have lp := sr _ _ lp
    have e4 := ExAt.same e4 sr
    have e5 := ExAt.same e5 sr
    have e6 := ExAt.same e6 sr
    have e7 := sr _ _ e7
    have e8 := sr _ _ e8
    have lq := sr _ _ lq
    have lt := sr _ _ lt
    have e9 := ExAt.same e9 sr
    have e10 := ExAt.same e10 sr
    have lu := sr _ _ lu
    have S := Same.trans S sr
    have lr : (upd Hu r (.lst (([V.ref a0, V.ref a1, V.ref a2, V.ref a3] ++ [V.ref a4, V.ref a5, V.ref a6, V.ref a7, V.ref a8]) ++ [V.ref a9, V.ref a10]))) r = some (.lst (([V.ref a0, V.ref a1, V.ref a2, V.ref a3] ++ [V.ref a4, V.ref a5, V.ref a6, V.ref a7, V.ref a8]) ++ [V.ref a9, V.ref a10])) := upd_same
    generalize upd Hu r (.lst (([V.ref a0, V.ref a1, V.ref a2, V.ref a3] ++ [V.ref a4, V.ref a5, V.ref a6, V.ref a7, V.ref a8]) ++ [V.ref a9, V.ref a10])) = Hr at e0 e1 e2 e3 lp e4 e5 e6 e7 e8 lq lt e9 e10 lu S sr lr ⊢
    exact k r (of11 a0 a1 a2 a3 a4 a5 a6 a7 a8 a9 a10) _ (Sp0.free nr) S lr (errs_mk e0 e1 e2 e3 e4 e5 e6 e7 e8 e9 e10)
end
end Tg

namespace Tg
open PySem L2 Ow
def spFields (K : PySem.W.Frag) (C : Nat → Addr) : Sp := fun vs H Q _ => ∃ (l : Addr) (a : Nat → Addr) (x y : V), vs = [.ref l] ∧ H l = some (.lst (refs11 a)) ∧ ErrsAt C H x y a ∧ ∀ p H', H p = none → Same H H' → H' p = some (.lst [x, y, x, y, x, y, x, x, y, x, x, x, x]) → Q (.ref p) H'
abbrev fN : List Str := ["_law_some", "_law_found"]
theorem scFields : FnScope fN ["_law_some"] (defScope sFields) := ⟨rfl, rfl, rfl, by decide +kernel, rfl, by decide +kernel, by decide +kernel⟩
def isb (i j : Nat) : Bool := if j ≤ 10 then decide (i = j) else if j = 11 then decide (i < 4) else if j = 12 then decide (3 < i) && decide (i < 9) else decide (i < 9)
structure Kits (K : PySem.W.Frag) (C : Nat → Addr) : Prop where
  kr : ∀ i, i ≤ 10 → ∀ j, j ≤ 13 → PySem.W.kitOne K (.ref (C i)) (.ref (C j)) = some (isb i j)
  kv : ∀ i, i ≤ 10 → PySem.W.kitOne K (.ref (C i)) (.type "ValueError") = some (decide (i < 9))
  kk : ∀ i, i ≤ 10 → PySem.W.kitOne K (.ref (C i)) (.type "KeyError") = some (decide (8 < i))
  ec : ∀ i, i ≤ 10 → ExcC K (C i)
structure TxtC (mg : Str → Option Value) (C : Nat → Addr) : Prop where
  b_isinstance : mg "isinstance" = none
  vE : mg "ValueError" = none
  kE : mg "KeyError" = none
  gB : mg "BuildError" = some (.ref (C 11))
  gU : mg "UseError" = some (.ref (C 12))
  gT : mg "TowError" = some (.ref (C 13))
def AtX (C : Addr) (H : Hp) (a : Addr) : Prop := H a = some (exo a C none) ∨ ∃ d fs, H a = some (exo a C (some d)) ∧ H d = some (exd d fs)
theorem AtX.same {C : Addr} {H H' : Hp} {a : Addr} (h : AtX C H a) (s : Same H H') : AtX C H' a := by
  rcases h with h | ⟨d, fs, h1, h2⟩
  · exact .inl (s _ _ h)
  · exact .inr ⟨d, fs, s _ _ h1, s _ _ h2⟩
def isl (i : Nat) : List Bool := [isb i 0, isb i 1, isb i 2, isb i 3, isb i 4, isb i 5, isb i 6, isb i 7, isb i 8, isb i 9, isb i 10, isb i 11, isb i 12, isb i 13, decide (i < 9), decide (8 < i)]
def spClasses (C : Nat → Addr) : Sp := fun vs H Q _ => ∃ (a : Addr) (i : Nat), vs = [.ref a] ∧ i ≤ 10 ∧ AtX (C i) H a ∧ ∀ p H', H p = none → Same H H' → H' p = some (.lst ((isl i).map V.bl)) → Q (.ref p) H'
abbrev cN : List Str := ["_law_e", "_law_found"]
theorem scClasses : FnScope cN ["_law_e"] (defScope sClasses) := ⟨rfl, rfl, rfl, by decide +kernel, rfl, by decide +kernel, by decide +kernel⟩
section
variable {P : Program} {w : World} {K : PySem.W.Frag} {mg : Str → Option Value} {base : Heap} {C : Nat → Addr}
theorem ok_fields {f : Addr} {fd : FuncData} (F : Fun K "_law_fields" "_law_fields" sFields f fd) (c : Errs P w K mg base C) : FnOk P w K mg base CX0 1 f fd ["_law_some"] (spFields K C) := by
  refine F.ok scFields (fun vs H Q E h => ?_) (fun cdv A outer s H vs Q E hr h => ?_)
  · obtain ⟨l, a, x, y, rfl, _⟩ := h
    rfl
  · obtain ⟨l, a, x, y, rfl, hl, E0, k⟩ := h
    have nd := scFields.nd
    refine ⟨_, (pss_cons (ps_set (i := 1) nd rfl (.inl rfl) (pe_lst (pa_cons (pe_xv (pe_ix ix_list (pv 0) pe_int (fun _ _ => rfl))) (pa_cons (pe_xv (pe_ix ix_list (pv 0) pe_int (fun _ _ => rfl))) (pa_cons (pe_xv (pe_ix ix_list (pv 0) pe_int (fun _ _ => rfl))) (pa_cons (pe_xv (pe_ix ix_list (pv 0) pe_int (fun _ _ => rfl))) (pa_cons (pe_xv (pe_ix ix_list (pv 0) pe_int (fun _ _ => rfl))) (pa_cons (pe_xv (pe_ix ix_list (pv 0) pe_int (fun _ _ => rfl))) (pa_cons (pe_xv (pe_ix ix_list (pv 0) pe_int (fun _ _ => rfl))) pa_nil))))))))) (pss_one (ps_ret (pe_op op_cat (pv 1) (pe_lst (pa_cons (pe_xv (pe_ix ix_list (pv 0) pe_int (fun _ _ => rfl))) (pa_cons (pe_xv (pe_ix ix_list (pv 0) pe_int (fun _ _ => rfl))) (pa_cons (pe_xv (pe_ix ix_list (pv 0) pe_int (fun _ _ => rfl))) (pa_cons (pe_xv (pe_ix ix_list (pv 0) pe_int (fun _ _ => rfl))) (pa_cons (pe_xv (pe_ix ix_list (pv 0) pe_int (fun _ _ => rfl))) (pa_cons (pe_xv (pe_ix ix_list (pv 0) pe_int (fun _ _ => rfl))) pa_nil))))))))))), ?_⟩
    obtain ⟨d0, h0, g0⟩ := E0.fl 0 (by decide) (by decide) (by decide)
    obtain ⟨d1, h1, g1⟩ := E0.fl 1 (by decide) (by decide) (by decide)
    obtain ⟨d2, h2, g2⟩ := E0.fl 2 (by decide) (by decide) (by decide)
    obtain ⟨d3, h3, g3⟩ := E0.fl 3 (by decide) (by decide) (by decide)
    obtain ⟨d4, h4, g4⟩ := E0.fl 4 (by decide) (by decide) (by decide)
    obtain ⟨d5, h5, g5⟩ := E0.fl 5 (by decide) (by decide) (by decide)
    obtain ⟨d6, h6, g6⟩ := E0.fl 6 (by decide) (by decide) (by decide)
    obtain ⟨d9, h9, g9⟩ := E0.fl 9 (by decide) (by decide) (by decide)
    obtain ⟨d10, h10, g10⟩ := E0.fl 10 (by decide) (by decide) (by decide)
    refine ⟨_, rfl, l, _, _, _, rfl, rfl, SqL.of hl, atI_nat (j := 0) rfl, a 0, C 0, d0, flds x y 0, x, rfl, c.c0.X, c.c0.nf, h0, g0, rfl, _, rfl, l, _, _, _, rfl, rfl, SqL.of hl, atI_nat (j := 0) rfl, a 0, C 0, d0, flds x y 0, y, rfl, c.c0.X, c.c0.ng, h0, g0, rfl, _, rfl, l, _, _, _, rfl, rfl, SqL.of hl, atI_nat (j := 1) rfl, a 1, C 1, d1, flds x y 1, x, rfl, c.c1.X, c.c1.nf, h1, g1, rfl, _, rfl, l, _, _, _, rfl, rfl, SqL.of hl, atI_nat (j := 1) rfl, a 1, C 1, d1, flds x y 1, y, rfl, c.c1.X, c.c1.ng, h1, g1, rfl, _, rfl, l, _, _, _, rfl, rfl, SqL.of hl, atI_nat (j := 2) rfl, a 2, C 2, d2, flds x y 2, x, rfl, c.c2.X, c.c2.nf, h2, g2, rfl, _, rfl, l, _, _, _, rfl, rfl, SqL.of hl, atI_nat (j := 2) rfl, a 2, C 2, d2, flds x y 2, y, rfl, c.c2.X, c.c2.ng, h2, g2, rfl, _, rfl, l, _, _, _, rfl, rfl, SqL.of hl, atI_nat (j := 3) rfl, a 3, C 3, d3, flds x y 3, x, rfl, c.c3.X, c.c3.nf, h3, g3, rfl, (by show 7 ≤ sizeLine; decide), fun p np => ?_⟩
    have s1 : Same H (upd H p (.lst [x, y, x, y, x, y, x])) := same_upd (Same.refl _) np
    have lp : (upd H p (.lst [x, y, x, y, x, y, x])) p = some (.lst [x, y, x, y, x, y, x]) := upd_same
    have hl1 := s1 _ _ hl
    have kh0 := s1 _ _ h0
    have kg0 := s1 _ _ g0
    have kh1 := s1 _ _ h1
    have kg1 := s1 _ _ g1
    have kh2 := s1 _ _ h2
    have kg2 := s1 _ _ g2
    have kh3 := s1 _ _ h3
    have kg3 := s1 _ _ g3
    have kh4 := s1 _ _ h4
    have kg4 := s1 _ _ g4
    have kh5 := s1 _ _ h5
    have kg5 := s1 _ _ g5
    have kh6 := s1 _ _ h6
    have kg6 := s1 _ _ g6
    have kh9 := s1 _ _ h9
    have kg9 := s1 _ _ g9
    have kh10 := s1 _ _ h10
    have kg10 := s1 _ _ g10
    generalize upd H p (.lst [x, y, x, y, x, y, x]) = H1 at s1 lp hl1 kh0 kg0 kh1 kg1 kh2 kg2 kh3 kg3 kh4 kg4 kh5 kg5 kh6 kg6 kh9 kg9 kh10 kg10 ⊢
    try dsimp only
    refine ⟨_, rfl, _, rfl, l, _, _, _, rfl, rfl, SqL.of hl1, atI_nat (j := 4) rfl, a 4, C 4, d4, flds x y 4, x, rfl, c.c4.X, c.c4.nf, kh4, kg4, rfl, _, rfl, l, _, _, _, rfl, rfl, SqL.of hl1, atI_nat (j := 4) rfl, a 4, C 4, d4, flds x y 4, y, rfl, c.c4.X, c.c4.ng, kh4, kg4, rfl, _, rfl, l, _, _, _, rfl, rfl, SqL.of hl1, atI_nat (j := 5) rfl, a 5, C 5, d5, flds x y 5, x, rfl, c.c5.X, c.c5.nf, kh5, kg5, rfl, _, rfl, l, _, _, _, rfl, rfl, SqL.of hl1, atI_nat (j := 6) rfl, a 6, C 6, d6, flds x y 6, x, rfl, c.c6.X, c.c6.nf, kh6, kg6, rfl, _, rfl, l, _, _, _, rfl, rfl, SqL.of hl1, atI_nat (j := 9) rfl, a 9, C 9, d9, flds x y 9, x, rfl, c.c9.X, c.c9.nf, kh9, kg9, rfl, _, rfl, l, _, _, _, rfl, rfl, SqL.of hl1, atI_nat (j := 10) rfl, a 10, C 10, d10, flds x y 10, x, rfl, c.c10.X, c.c10.nf, kh10, kg10, rfl, (by show 6 ≤ sizeLine; decide), fun q nq => ?_⟩
    have s2 : Same H1 (upd H1 q (.lst [x, y, x, x, x, x])) := same_upd (Same.refl _) nq
    refine ⟨p, q, _, _, rfl, rfl, s2 _ _ lp, upd_same, (by show 7 + 6 ≤ sizeLine; decide), fun r nr => ?_⟩
    have s3 := s1.trans s2
    exact k r _ (s3.free nr) (same_upd s3 (s3.free nr)) upd_same
theorem ok_classes {f : Addr} {fd : FuncData} (F : Fun K "_law_classes" "_law_classes" sClasses f fd) (c : Errs P w K mg base C) (Z : Kits K C) (T : TxtC mg C) : FnOk P w K mg base CX0 1 f fd ["_law_e"] (spClasses C) := by
  refine F.ok scClasses (fun vs H Q E h => ?_) (fun cdv A outer s H vs Q E hr h => ?_)
  · obtain ⟨a, i, rfl, _⟩ := h
    rfl
  · obtain ⟨a, i, rfl, hi, at0, k⟩ := h
    have nd := scClasses.nd
    refine ⟨_, (pss_cons (ps_set (i := 1) nd rfl (.inl rfl) (pe_lst (pa_cons (pe_callB call_isX (by rfl) T.b_isinstance (by decide +kernel) (pa_cons (pv 0) (pa_cons (pe_glob (v := .ref (C 0)) (by rfl) c.c0.gC rfl) pa_nil))) (pa_cons (pe_callB call_isX (by rfl) T.b_isinstance (by decide +kernel) (pa_cons (pv 0) (pa_cons (pe_glob (v := .ref (C 1)) (by rfl) c.c1.gC rfl) pa_nil))) (pa_cons (pe_callB call_isX (by rfl) T.b_isinstance (by decide +kernel) (pa_cons (pv 0) (pa_cons (pe_glob (v := .ref (C 2)) (by rfl) c.c2.gC rfl) pa_nil))) (pa_cons (pe_callB call_isX (by rfl) T.b_isinstance (by decide +kernel) (pa_cons (pv 0) (pa_cons (pe_glob (v := .ref (C 3)) (by rfl) c.c3.gC rfl) pa_nil))) pa_nil)))))) (pss_cons (ps_set (i := 1) nd rfl (.inl rfl) (pe_op op_cat (pv 1) (pe_lst (pa_cons (pe_callB call_isX (by rfl) T.b_isinstance (by decide +kernel) (pa_cons (pv 0) (pa_cons (pe_glob (v := .ref (C 4)) (by rfl) c.c4.gC rfl) pa_nil))) (pa_cons (pe_callB call_isX (by rfl) T.b_isinstance (by decide +kernel) (pa_cons (pv 0) (pa_cons (pe_glob (v := .ref (C 5)) (by rfl) c.c5.gC rfl) pa_nil))) (pa_cons (pe_callB call_isX (by rfl) T.b_isinstance (by decide +kernel) (pa_cons (pv 0) (pa_cons (pe_glob (v := .ref (C 6)) (by rfl) c.c6.gC rfl) pa_nil))) pa_nil)))))) (pss_cons (ps_set (i := 1) nd rfl (.inl rfl) (pe_op op_cat (pv 1) (pe_lst (pa_cons (pe_callB call_isX (by rfl) T.b_isinstance (by decide +kernel) (pa_cons (pv 0) (pa_cons (pe_glob (v := .ref (C 7)) (by rfl) c.c7.gC rfl) pa_nil))) (pa_cons (pe_callB call_isX (by rfl) T.b_isinstance (by decide +kernel) (pa_cons (pv 0) (pa_cons (pe_glob (v := .ref (C 8)) (by rfl) c.c8.gC rfl) pa_nil))) (pa_cons (pe_callB call_isX (by rfl) T.b_isinstance (by decide +kernel) (pa_cons (pv 0) (pa_cons (pe_glob (v := .ref (C 9)) (by rfl) c.c9.gC rfl) pa_nil))) pa_nil)))))) (pss_cons (ps_set (i := 1) nd rfl (.inl rfl) (pe_op op_cat (pv 1) (pe_lst (pa_cons (pe_callB call_isX (by rfl) T.b_isinstance (by decide +kernel) (pa_cons (pv 0) (pa_cons (pe_glob (v := .ref (C 10)) (by rfl) c.c10.gC rfl) pa_nil))) (pa_cons (pe_callB call_isX (by rfl) T.b_isinstance (by decide +kernel) (pa_cons (pv 0) (pa_cons (pe_glob (v := .ref (C 11)) (by rfl) T.gB rfl) pa_nil))) (pa_cons (pe_callB call_isX (by rfl) T.b_isinstance (by decide +kernel) (pa_cons (pv 0) (pa_cons (pe_glob (v := .ref (C 12)) (by rfl) T.gU rfl) pa_nil))) pa_nil)))))) (pss_one (ps_ret (pe_op op_cat (pv 1) (pe_lst (pa_cons (pe_callB call_isX (by rfl) T.b_isinstance (by decide +kernel) (pa_cons (pv 0) (pa_cons (pe_glob (v := .ref (C 13)) (by rfl) T.gT rfl) pa_nil))) (pa_cons (pe_callB call_isX (by rfl) T.b_isinstance (by decide +kernel) (pa_cons (pv 0) (pa_cons (pe_bltn (v := .ty "ValueError") (by rfl) T.vE (by decide +kernel) rfl) pa_nil))) (pa_cons (pe_callB call_isX (by rfl) T.b_isinstance (by decide +kernel) (pa_cons (pv 0) (pa_cons (pe_bltn (v := .ty "KeyError") (by rfl) T.kE (by decide +kernel) rfl) pa_nil))) pa_nil))))))))))), ?_⟩
    have S := Same.refl H
    try dsimp only
    refine ⟨_, rfl, a, C i, .ref (C 0), .ref (C 0), isb i 0, rfl, Z.ec i hi, at0, (fun u r => r), Z.kr i hi 0 (by decide), _, rfl, a, C i, .ref (C 1), .ref (C 1), isb i 1, rfl, Z.ec i hi, at0, (fun u r => r), Z.kr i hi 1 (by decide), _, rfl, a, C i, .ref (C 2), .ref (C 2), isb i 2, rfl, Z.ec i hi, at0, (fun u r => r), Z.kr i hi 2 (by decide), _, rfl, a, C i, .ref (C 3), .ref (C 3), isb i 3, rfl, Z.ec i hi, at0, (fun u r => r), Z.kr i hi 3 (by decide), (by show 4 ≤ sizeLine; decide), fun p0 n0 => ?_⟩
    have sp0 : Same H (upd H p0 (.lst [V.bl (isb i 0), V.bl (isb i 1), V.bl (isb i 2), V.bl (isb i 3)])) := same_upd (Same.refl _) n0
    have S := Same.trans S sp0
    have at1 := AtX.same at0 sp0
    have lp0 : (upd H p0 (.lst [V.bl (isb i 0), V.bl (isb i 1), V.bl (isb i 2), V.bl (isb i 3)])) p0 = some (.lst [V.bl (isb i 0), V.bl (isb i 1), V.bl (isb i 2), V.bl (isb i 3)]) := upd_same
    generalize upd H p0 (.lst [V.bl (isb i 0), V.bl (isb i 1), V.bl (isb i 2), V.bl (isb i 3)]) = Hp0 at sp0 S at1 lp0  ⊢
    try dsimp only
    refine ⟨_, rfl, _, rfl, a, C i, .ref (C 4), .ref (C 4), isb i 4, rfl, Z.ec i hi, at1, (fun u r => r), Z.kr i hi 4 (by decide), _, rfl, a, C i, .ref (C 5), .ref (C 5), isb i 5, rfl, Z.ec i hi, at1, (fun u r => r), Z.kr i hi 5 (by decide), _, rfl, a, C i, .ref (C 6), .ref (C 6), isb i 6, rfl, Z.ec i hi, at1, (fun u r => r), Z.kr i hi 6 (by decide), (by show 3 ≤ sizeLine; decide), fun p1 n1 => ?_⟩
    have sp1 : Same Hp0 (upd Hp0 p1 (.lst [V.bl (isb i 4), V.bl (isb i 5), V.bl (isb i 6)])) := same_upd (Same.refl _) n1
    have lp0 := sp1 _ _ lp0
    have S := Same.trans S sp1
    have at2 := AtX.same at1 sp1
    have lp1 : (upd Hp0 p1 (.lst [V.bl (isb i 4), V.bl (isb i 5), V.bl (isb i 6)])) p1 = some (.lst [V.bl (isb i 4), V.bl (isb i 5), V.bl (isb i 6)]) := upd_same
    generalize upd Hp0 p1 (.lst [V.bl (isb i 4), V.bl (isb i 5), V.bl (isb i 6)]) = Hp1 at sp1 S at2 lp1 lp0 ⊢
    refine ⟨p0, p1, _, _, rfl, rfl, lp0, lp1, (by show 4 + 3 ≤ sizeLine; decide), fun q1 nq1 => ?_⟩
    have sq1 : Same Hp1 (upd Hp1 q1 (.lst ([V.bl (isb i 0), V.bl (isb i 1), V.bl (isb i 2), V.bl (isb i 3)] ++ [V.bl (isb i 4), V.bl (isb i 5), V.bl (isb i 6)]))) := same_upd (Same.refl _) nq1
    have S := Same.trans S sq1
    have at3 := AtX.same at2 sq1
    have lq1 : (upd Hp1 q1 (.lst ([V.bl (isb i 0), V.bl (isb i 1), V.bl (isb i 2), V.bl (isb i 3)] ++ [V.bl (isb i 4), V.bl (isb i 5), V.bl (isb i 6)]))) q1 = some (.lst ([V.bl (isb i 0), V.bl (isb i 1), V.bl (isb i 2), V.bl (isb i 3)] ++ [V.bl (isb i 4), V.bl (isb i 5), V.bl (isb i 6)])) := upd_same
    generalize upd Hp1 q1 (.lst ([V.bl (isb i 0), V.bl (isb i 1), V.bl (isb i 2), V.bl (isb i 3)] ++ [V.bl (isb i 4), V.bl (isb i 5), V.bl (isb i 6)])) = Hq1 at sq1 S at3 lq1  ⊢
    try dsimp only
    refine ⟨_, rfl, _, rfl, a, C i, .ref (C 7), .ref (C 7), isb i 7, rfl, Z.ec i hi, at3, (fun u r => r), Z.kr i hi 7 (by decide), _, rfl, a, C i, .ref (C 8), .ref (C 8), isb i 8, rfl, Z.ec i hi, at3, (fun u r => r), Z.kr i hi 8 (by decide), _, rfl, a, C i, .ref (C 9), .ref (C 9), isb i 9, rfl, Z.ec i hi, at3, (fun u r => r), Z.kr i hi 9 (by decide), (by show 3 ≤ sizeLine; decide), fun p2 n2 => ?_⟩
    have sp2 : Same Hq1 (upd Hq1 p2 (.lst [V.bl (isb i 7), V.bl (isb i 8), V.bl (isb i 9)])) := same_upd (Same.refl _) n2
    have lq1 := sp2 _ _ lq1
    have S := Same.trans S sp2
    have at4 := AtX.same at3 sp2
    have lp2 : (upd Hq1 p2 (.lst [V.bl (isb i 7), V.bl (isb i 8), V.bl (isb i 9)])) p2 = some (.lst [V.bl (isb i 7), V.bl (isb i 8), V.bl (isb i 9)]) := upd_same
    generalize upd Hq1 p2 (.lst [V.bl (isb i 7), V.bl (isb i 8), V.bl (isb i 9)]) = Hp2 at sp2 S at4 lp2 lq1 ⊢
    refine ⟨q1, p2, _, _, rfl, rfl, lq1, lp2, (by show 7 + 3 ≤ sizeLine; decide), fun q2 nq2 => ?_⟩
    have sq2 : Same Hp2 (upd Hp2 q2 (.lst (([V.bl (isb i 0), V.bl (isb i 1), V.bl (isb i 2), V.bl (isb i 3)] ++ [V.bl (isb i 4), V.bl (isb i 5), V.bl (isb i 6)]) ++ [V.bl (isb i 7), V.bl (isb i 8), V.bl (isb i 9)]))) := same_upd (Same.refl _) nq2
    have S := Same.trans S sq2
    have at5 := AtX.same at4 sq2
    have lq2 : (upd Hp2 q2 (.lst (([V.bl (isb i 0), V.bl (isb i 1), V.bl (isb i 2), V.bl (isb i 3)] ++ [V.bl (isb i 4), V.bl (isb i 5), V.bl (isb i 6)]) ++ [V.bl (isb i 7), V.bl (isb i 8), V.bl (isb i 9)]))) q2 = some (.lst (([V.bl (isb i 0), V.bl (isb i 1), V.bl (isb i 2), V.bl (isb i 3)] ++ [V.bl (isb i 4), V.bl (isb i 5), V.bl (isb i 6)]) ++ [V.bl (isb i 7), V.bl (isb i 8), V.bl (isb i 9)])) := upd_same
    generalize upd Hp2 q2 (.lst (([V.bl (isb i 0), V.bl (isb i 1), V.bl (isb i 2), V.bl (isb i 3)] ++ [V.bl (isb i 4), V.bl (isb i 5), V.bl (isb i 6)]) ++ [V.bl (isb i 7), V.bl (isb i 8), V.bl (isb i 9)])) = Hq2 at sq2 S at5 lq2  ⊢
    try dsimp only
    refine ⟨_, rfl, _, rfl, a, C i, .ref (C 10), .ref (C 10), isb i 10, rfl, Z.ec i hi, at5, (fun u r => r), Z.kr i hi 10 (by decide), _, rfl, a, C i, .ref (C 11), .ref (C 11), isb i 11, rfl, Z.ec i hi, at5, (fun u r => r), Z.kr i hi 11 (by decide), _, rfl, a, C i, .ref (C 12), .ref (C 12), isb i 12, rfl, Z.ec i hi, at5, (fun u r => r), Z.kr i hi 12 (by decide), (by show 3 ≤ sizeLine; decide), fun p3 n3 => ?_⟩
    have sp3 : Same Hq2 (upd Hq2 p3 (.lst [V.bl (isb i 10), V.bl (isb i 11), V.bl (isb i 12)])) := same_upd (Same.refl _) n3
    have lq2 := sp3 _ _ lq2
    have S := Same.trans S sp3
    have at6 := AtX.same at5 sp3
    have lp3 : (upd Hq2 p3 (.lst [V.bl (isb i 10), V.bl (isb i 11), V.bl (isb i 12)])) p3 = some (.lst [V.bl (isb i 10), V.bl (isb i 11), V.bl (isb i 12)]) := upd_same
    generalize upd Hq2 p3 (.lst [V.bl (isb i 10), V.bl (isb i 11), V.bl (isb i 12)]) = Hp3 at sp3 S at6 lp3 lq2 ⊢
    refine ⟨q2, p3, _, _, rfl, rfl, lq2, lp3, (by show 10 + 3 ≤ sizeLine; decide), fun q3 nq3 => ?_⟩
    have sq3 : Same Hp3 (upd Hp3 q3 (.lst ((([V.bl (isb i 0), V.bl (isb i 1), V.bl (isb i 2), V.bl (isb i 3)] ++ [V.bl (isb i 4), V.bl (isb i 5), V.bl (isb i 6)]) ++ [V.bl (isb i 7), V.bl (isb i 8), V.bl (isb i 9)]) ++ [V.bl (isb i 10), V.bl (isb i 11), V.bl (isb i 12)]))) := same_upd (Same.refl _) nq3
    have S := Same.trans S sq3
    have at7 := AtX.same at6 sq3
    have lq3 : (upd Hp3 q3 (.lst ((([V.bl (isb i 0), V.bl (isb i 1), V.bl (isb i 2), V.bl (isb i 3)] ++ [V.bl (isb i 4), V.bl (isb i 5), V.bl (isb i 6)]) ++ [V.bl (isb i 7), V.bl (isb i 8), V.bl (isb i 9)]) ++ [V.bl (isb i 10), V.bl (isb i 11), V.bl (isb i 12)]))) q3 = some (.lst ((([V.bl (isb i 0), V.bl (isb i 1), V.bl (isb i 2), V.bl (isb i 3)] ++ [V.bl (isb i 4), V.bl (isb i 5), V.bl (isb i 6)]) ++ [V.bl (isb i 7), V.bl (isb i 8), V.bl (isb i 9)]) ++ [V.bl (isb i 10), V.bl (isb i 11), V.bl (isb i 12)])) := upd_same
    generalize upd Hp3 q3 (.lst ((([V.bl (isb i 0), V.bl (isb i 1), V.bl (isb i 2), V.bl (isb i 3)] ++ [V.bl (isb i 4), V.bl (isb i 5), V.bl (isb i 6)]) ++ [V.bl (isb i 7), V.bl (isb i 8), V.bl (isb i 9)]) ++ [V.bl (isb i 10), V.bl (isb i 11), V.bl (isb i 12)])) = Hq3 at sq3 S at7 lq3  ⊢
    try dsimp only
    refine ⟨_, rfl, _, rfl, a, C i, .ref (C 13), .ref (C 13), isb i 13, rfl, Z.ec i hi, at7, (fun u r => r), Z.kr i hi 13 (by decide), _, rfl, a, C i, .ty "ValueError", .type "ValueError", _, rfl, Z.ec i hi, at7, (fun u r => r), Z.kv i hi, _, rfl, a, C i, .ty "KeyError", .type "KeyError", _, rfl, Z.ec i hi, at7, (fun u r => r), Z.kk i hi, (by show 3 ≤ sizeLine; decide), fun p4 n4 => ?_⟩
    have sp4 : Same Hq3 (upd Hq3 p4 (.lst [V.bl (isb i 13), V.bl (decide (i < 9)), V.bl (decide (8 < i))])) := same_upd (Same.refl _) n4
    have lq3 := sp4 _ _ lq3
    have S := Same.trans S sp4
    have at8 := AtX.same at7 sp4
    have lp4 : (upd Hq3 p4 (.lst [V.bl (isb i 13), V.bl (decide (i < 9)), V.bl (decide (8 < i))])) p4 = some (.lst [V.bl (isb i 13), V.bl (decide (i < 9)), V.bl (decide (8 < i))]) := upd_same
    generalize upd Hq3 p4 (.lst [V.bl (isb i 13), V.bl (decide (i < 9)), V.bl (decide (8 < i))]) = Hp4 at sp4 S at8 lp4 lq3 ⊢
    have S0 := S
    refine ⟨q3, p4, _, _, rfl, rfl, lq3, lp4, (by show 13 + 3 ≤ sizeLine; decide), fun q4 nq4 => ?_⟩
    have sq4 : Same Hp4 (upd Hp4 q4 (.lst (((([V.bl (isb i 0), V.bl (isb i 1), V.bl (isb i 2), V.bl (isb i 3)] ++ [V.bl (isb i 4), V.bl (isb i 5), V.bl (isb i 6)]) ++ [V.bl (isb i 7), V.bl (isb i 8), V.bl (isb i 9)]) ++ [V.bl (isb i 10), V.bl (isb i 11), V.bl (isb i 12)]) ++ [V.bl (isb i 13), V.bl (decide (i < 9)), V.bl (decide (8 < i))]))) := same_upd (Same.refl _) nq4
    have S := Same.trans S sq4
    have at9 := AtX.same at8 sq4
    have lq4 : (upd Hp4 q4 (.lst (((([V.bl (isb i 0), V.bl (isb i 1), V.bl (isb i 2), V.bl (isb i 3)] ++ [V.bl (isb i 4), V.bl (isb i 5), V.bl (isb i 6)]) ++ [V.bl (isb i 7), V.bl (isb i 8), V.bl (isb i 9)]) ++ [V.bl (isb i 10), V.bl (isb i 11), V.bl (isb i 12)]) ++ [V.bl (isb i 13), V.bl (decide (i < 9)), V.bl (decide (8 < i))]))) q4 = some (.lst (((([V.bl (isb i 0), V.bl (isb i 1), V.bl (isb i 2), V.bl (isb i 3)] ++ [V.bl (isb i 4), V.bl (isb i 5), V.bl (isb i 6)]) ++ [V.bl (isb i 7), V.bl (isb i 8), V.bl (isb i 9)]) ++ [V.bl (isb i 10), V.bl (isb i 11), V.bl (isb i 12)]) ++ [V.bl (isb i 13), V.bl (decide (i < 9)), V.bl (decide (8 < i))])) := upd_same
    generalize upd Hp4 q4 (.lst (((([V.bl (isb i 0), V.bl (isb i 1), V.bl (isb i 2), V.bl (isb i 3)] ++ [V.bl (isb i 4), V.bl (isb i 5), V.bl (isb i 6)]) ++ [V.bl (isb i 7), V.bl (isb i 8), V.bl (isb i 9)]) ++ [V.bl (isb i 10), V.bl (isb i 11), V.bl (isb i 12)]) ++ [V.bl (isb i 13), V.bl (decide (i < 9)), V.bl (decide (8 < i))])) = Hq4 at sq4 S at9 lq4  ⊢
    exact k q4 _ (S0.free nq4) S lq4
end
end Tg

namespace Tg
open PySem L2 Ow
theorem dpAll_bl {K : PySem.W.Frag} {H : Hp} : ∀ bs : List Bool, DpAll K H (bs.map V.bl) (bs.map PyData.bool)
  | [] => .nil
  | b :: bs => .cons (.bl b) (dpAll_bl bs)
def dueB (i : Nat) : List Bool := (List.range 11).map (fun j => decide (j = i)) ++ [decide ((i : Int) < 4), decide ((3 : Int) < i) && decide ((i : Int) < 9), decide ((i : Int) < 9), decide ((i : Int) < 9), decide ((8 : Int) < i)]
theorem due_isl : ∀ i, i ≤ 10 → dueB i = isl i := fun i h => by
  have z : ∀ i : Fin 11, dueB i = isl i := by decide +kernel
  exact z ⟨i, by omega⟩
theorem isl_shaped : ∀ i, i ≤ 10 → SeqAt.shaped (.list ((isl i).map PyData.bool)) = true := fun i h => by
  have z : ∀ i : Fin 11, SeqAt.shaped (.list ((isl i).map PyData.bool)) = true := by decide +kernel
  exact z ⟨i, by omega⟩
theorem isl_eqv : ∀ i, i ≤ 10 → PyData.eqv (.list ((isl i).map PyData.bool)) (.list ((isl i).map PyData.bool)) = true := fun i h => by
  have z : ∀ i : Fin 11, PyData.eqv (.list ((isl i).map PyData.bool)) (.list ((isl i).map PyData.bool)) = true := by decide +kernel
  exact z ⟨i, by omega⟩
theorem refs_at (a : Nat → Addr) : ∀ i y, (refs11 a)[i]? = some y → i ≤ 10 ∧ y = .ref (a i)
  | 0, y, h => by cases h; exact ⟨by omega, rfl⟩
  | 1, y, h => by cases h; exact ⟨by omega, rfl⟩
  | 2, y, h => by cases h; exact ⟨by omega, rfl⟩
  | 3, y, h => by cases h; exact ⟨by omega, rfl⟩
  | 4, y, h => by cases h; exact ⟨by omega, rfl⟩
  | 5, y, h => by cases h; exact ⟨by omega, rfl⟩
  | 6, y, h => by cases h; exact ⟨by omega, rfl⟩
  | 7, y, h => by cases h; exact ⟨by omega, rfl⟩
  | 8, y, h => by cases h; exact ⟨by omega, rfl⟩
  | 9, y, h => by cases h; exact ⟨by omega, rfl⟩
  | 10, y, h => by cases h; exact ⟨by omega, rfl⟩
  | (j + 11), y, h => by simp [refs11] at h
theorem ErrsAt.atx {C : Nat → Addr} {H : Hp} {x y : V} {a : Nat → Addr} (h : ErrsAt C H x y a) {i : Nat} (hi : i ≤ 10) : AtX (C i) H (a i) := by
  by_cases h7 : i = 7
  · subst h7; exact .inl h.e7
  · by_cases h8 : i = 8
    · subst h8; exact .inl h.e8
    · obtain ⟨d, h1, h2⟩ := h.fl i hi h7 h8
      exact .inr ⟨d, _, h1, h2⟩
theorem iteT' {c : Bool} {A B : Prop} (h : c = true) (a : A) : if c = true then A else B := by rw [if_pos h]; exact a
theorem iteF' {c : Bool} {A B : Prop} (h : c = false) (b : B) : if c = true then A else B := by rw [h]; exact iteF b
theorem dec_spot {t i : Nat} : decide (V.int (0 + (t : Int)) = V.int (i : Int)) = decide (t = i) := by
  by_cases h : t = i
  · subst h
    simp
  · have h2 : ¬ ((t : Int) = i) := by omega
    simp [h, h2]
/-- a list that can be shown -/
structure Shw (ds : List PyData) : Prop where
  sh : (PyData.list ds).showable = true
  nd : (PyData.list ds).hasDict = false
  dp : (PyData.list ds).depth ≤ 64
  sz : (PyData.list ds).shown.length ≤ sizeLine
theorem shw {ds : List PyData} (h : ∀ d ∈ ds, Fit 3 (bulk 3) d) (hl : ds.length ≤ 13) : Shw ds := by
  obtain ⟨h1, h2, h3, h4, h5⟩ := fit_all h
  have z := listText_len_le (PyData.shownAll ds)
  have e : bulk 3 = 161300 := by decide
  refine ⟨h1, h2, ?_, ?_⟩
  · show PyData.depthAll ds + 1 ≤ 64
    omega
  · show (listText (PyData.shownAll ds)).length ≤ sizeLine
    rw [sizeLine_eq]
    rw [e] at h4
    omega
structure TxtL (mg : Str → Option Value) : Prop where
  b_range : mg "range" = none
  b_repr : mg "repr" = none
  b_enumerate : mg "enumerate" = none
def spLaw (K : PySem.W.Frag) : Sp := fun vs H Q _ => ∃ (a : Addr) (ns : List Int), vs = [.ref a] ∧ SqL K H a (ns.map V.int) ∧ ns.length ≤ 63 ∧ ∀ H', Q (.bl true) H'
abbrev lawN : List Str := ["_law_script", "_law_base", "_law_box_here", "_law_x", "_law_y", "_law_due", "_law_some", "_law_k", "_law_e", "_law_above", "_law_spot"]
theorem scLaw : FnScope lawN ["_law_script"] (defScope sLaw) := ⟨rfl, rfl, rfl, by decide +kernel, rfl, by decide +kernel, by decide +kernel⟩
structure Cs (P : Program) (w : World) (K : PySem.W.Frag) (mg : Str → Option Value) (base : Heap) (C : Nat → Addr) : Prop where
  T : TxtL mg
  cBox : Cal P w K mg base 1 "_law_box" ["_law_script", "_law_base"] (spBox K)
  cValue : Cal P w K mg base 5 "_law_value" ["_law_box_here", "_law_deep"] (spValue 3)
  cPlaced : Cal P w K mg base 3 "_law_placed" ["_law_x", "_law_y"] (spErrs C)
  cNamed : Cal P w K mg base 3 "_law_named" ["_law_x", "_law_y"] (spErrs C)
  cFields : Cal P w K mg base 1 "_law_fields" ["_law_some"] (spFields K C)
  cClasses : Cal P w K mg base 1 "_law_classes" ["_law_e"] (spClasses C)
section
variable {P : Program} {w : World} {K : PySem.W.Frag} {mg : Str → Option Value} {base : Heap} {C : Nat → Addr}
theorem ok_law {f : Addr} {fd : FuncData} (F : Fun K "law" "law" sLaw f fd) (c : Cs P w K mg base C) : FnOkG P w K mg base CX0 6 f fd ["_law_script"] (spLaw K) := by
  refine okG F scLaw (fun vs H Q E h => ?_) (fun cdv A outer s H vs Q E hg hr h => ?_)
  · obtain ⟨a, ns, rfl, _⟩ := h
    rfl
  · obtain ⟨a, ns, rfl, hS, hlen, k⟩ := h
    obtain ⟨T, cBox, cValue, cPlaced, cNamed, cFields, cClasses⟩ := c
    have nd := scLaw.nd
    refine ⟨_, (pss_cons (ps_for PassesOwn.never rfl (pi_range1 (by rfl) T.b_range (pa_cons pe_int pa_nil)) (pg_name (i := 1) nd rfl (.inl rfl))
        (pss_cons (ps_set (i := 2) nd rfl (.inl rfl) (pe_cal cBox (hr.mono (by decide)) (by rfl) (pa_cons (pv 0) (pa_cons (pv 1) pa_nil))))
          (pss_cons (ps_par (i := 3) (j := 4) (by rfl) nd rfl rfl (by decide) rfl rfl (pa_cons (pe_cal cValue (hr.mono (by decide)) (by rfl) (pa_cons (pv 2) (pa_cons pe_int pa_nil))) (pa_cons (pe_cal cValue (hr.mono (by decide)) (by rfl) (pa_cons (pv 2) (pa_cons pe_int pa_nil))) pa_nil)) (by rfl))
          (pss_cons (ps_set (i := 5) nd rfl (.inl rfl) (pe_lst (pa_cons (pv 3) (pa_cons (pv 4) (pa_cons (pv 3) (pa_cons (pv 4) (pa_cons (pv 3) (pa_cons (pv 4) (pa_cons (pv 3) (pa_cons (pv 3) (pa_cons (pv 4) (pa_cons (pv 3) (pa_cons (pv 3) (pa_cons (pv 3) (pa_cons (pv 3) pa_nil)))))))))))))))
          (pss_one (ps_for PassesOwn.never rfl (pi_tup (pe_tup (pa_cons (pe_cal cPlaced (hr.mono (by decide)) (by rfl) (pa_cons (pv 3) (pa_cons (pv 4) pa_nil))) (pa_cons (pe_cal cNamed (hr.mono (by decide)) (by rfl) (pa_cons (pv 3) (pa_cons (pv 4) pa_nil))) pa_nil)))) (pg_name (i := 6) nd rfl (.inl rfl))
            (pss_cons (ps_if (pt_cmpR op_ne (pe_callB (call_reprD hg hr) (by rfl) T.b_repr (by decide +kernel) (pa_cons (pe_cal cFields (hr.mono (by decide)) (by rfl) (pa_cons (pv 6) pa_nil)) pa_nil)) (pe_callB (call_reprD hg hr) (by rfl) T.b_repr (by decide +kernel) (pa_cons (pv 5) pa_nil)) (nomark _))
                (pss_one (ps_ret pe_bl))
                pss_nil)
              (pss_one (ps_for PassesOwn.never rfl (pi_enum (by rfl) T.b_enumerate (pa_cons (pv 6) pa_nil)) (pg_tup (by rfl) (pgs_cons (pg_name (i := 7) nd rfl (.inr rfl)) (pgs_cons (pg_name (i := 8) nd rfl (.inl rfl)) pgs_nil)))
                (pss_cons (ps_set (i := 9) nd rfl (.inl rfl) (pe_lst (pa_cons (pe_cmpR op_lt (pv 7) pe_int (nomark _)) (pa_cons (pe_chain op_lt op_lt pe_int (pv 7) pe_int) (pa_cons (pe_cmpR op_lt (pv 7) pe_int (nomark _)) (pa_cons (pe_cmpR op_lt (pv 7) pe_int (nomark _)) (pa_cons (pe_cmpR op_gt (pv 7) pe_int (nomark _)) pa_nil)))))))
                  (pss_one (ps_if (pt_cmpR (op_neD hr.units) (pe_cal cClasses (hr.mono (by decide)) (by rfl) (pa_cons (pv 8) pa_nil)) (pe_op op_cat (pe_lc (own := [("_law_spot", 10)]) (g := gName 10) rfl nd (pi_range1 (by rfl) T.b_range (pa_cons pe_int pa_nil)) (blkOk_by (own := [("_law_spot", 10)]) (N := lawN) (sc := defScope sLaw) (by decide +kernel)) (fun _ _ _ _ _ => (pg_name (i := 10) nd rfl (.inl rfl))) (fun _ _ _ _ _ => pts_nil) (fun _ _ _ _ _ => (pe_cmpR op_eq (pv 10) (pv 7) (nomark _)))) (pv 9)) (nomark _))
                    (pss_one (ps_ret pe_bl))
                    pss_nil))))))))))))
      (pss_one (ps_ret pe_bl))), ?_⟩
    refine ⟨_, rfl, (by decide), (by decide), for_range (n := 4) (fun i σ H1 => ∃ v1 v2 v3 v4 v5 v6 v7 v8 v9 v10 : Option V, σ = [some (.ref a), v1, v2, v3, v4, v5, v6, v7, v8, v9, v10] ∧ Same H H1)
      ⟨_, _, _, _, _, _, _, _, _, _, rfl, Same.refl H⟩ ?_ ?_⟩
    · rintro i σ H1 hi ⟨v1, v2, v3, v4, v5, v6, v7, v8, v9, v10, rfl, s1⟩
      refine ⟨_, rfl, _, rfl, a, ns, _, rfl, s1.seq hS, hlen, by omega, by omega, fun b Lb H2 nb nL s2 B2 => ?_⟩
      have S : Same H H2 := s1.trans s2
      have nb0 := s1.free nb
      have nL0 := s1.free nL
      -- x, y
      refine ⟨_, rfl, b, Lb, rfl, B2, fun x dx H3 tx B3 k3 => ?_⟩
      refine ⟨_, rfl, b, Lb, rfl, B3, fun y dy H4 ty B4 k4 => ?_⟩
      have S : Same H H4 := S.kp nb0 nL0 (k3.trans k4)
      have tx : Td H4 3 x dx := Td.keep (k4.tk B3) tx
      refine ⟨_, _, rfl, ?_⟩
      try dsimp only
      -- due
      refine ⟨_, rfl, _, rfl, _, rfl, _, rfl, _, rfl, _, rfl, _, rfl, _, rfl, _, rfl, _, rfl, _, rfl, _, rfl, _, rfl, (by show 13 ≤ sizeLine; decide), fun du ndu => ?_⟩
      have s5 : Same H4 (upd H4 du (.lst [x, y, x, y, x, y, x, x, y, x, x, x, x])) := same_upd (Same.refl _) ndu
      have ldu : (upd H4 du (.lst [x, y, x, y, x, y, x, x, y, x, x, x, x])) du = some (.lst [x, y, x, y, x, y, x, x, y, x, x, x, x]) := upd_same
      have S := S.trans s5
      have tx := Td.keep s5.tk tx
      have ty := Td.keep s5.tk ty
      generalize upd H4 du (.lst [x, y, x, y, x, y, x, x, y, x, x, x, x]) = H5 at ldu S tx ty ⊢
      clear s5 ndu k4 k3 B4 B3 B2 s2 s1
      try dsimp only [tNext]
      -- for some in (placed, named)
      refine ⟨_, rfl, _, rfl, x, y, rfl, fun p1 a1 H6 n6 s6 l6 E6 => ?_⟩
      refine ⟨_, rfl, _, rfl, x, y, rfl, fun p2 a2 H7 n7 s7 l7 E7 => ⟨(by show 2 ≤ sizeLine; decide), fun t ht => ?_⟩⟩
      refine ⟨t, rfl, ⟨_, SqT.of upd_same⟩, ?_⟩
      have s8 : Same H7 (upd H7 t (.tup [.ref p1, .ref p2])) := same_upd (Same.refl _) ht
      have S := S.trans (s6.trans (s7.trans s8))
      have tx := Td.keep (s6.trans (s7.trans s8)).tk tx
      have ty := Td.keep (s6.trans (s7.trans s8)).tk ty
      have ldu := (s6.trans (s7.trans s8)) _ _ ldu
      have facts : ∀ v ∈ [V.ref p1, .ref p2], ∃ (p : Addr) (e : Nat → Addr), v = .ref p ∧ (upd H7 t (.tup [.ref p1, .ref p2])) p = some (.lst (refs11 e)) ∧ ErrsAt C (upd H7 t (.tup [.ref p1, .ref p2])) x y e := by
        intro v hv
        simp at hv
        rcases hv with rfl | rfl
        · exact ⟨p1, a1, rfl, (s7.trans s8) _ _ l6, E6.same (s7.trans s8)⟩
        · exact ⟨p2, a2, rfl, s8 _ _ l7, E7.same s8⟩
      have lt : (upd H7 t (.tup [.ref p1, .ref p2])) t = some (.tup [.ref p1, .ref p2]) := upd_same
      generalize upd H7 t (.tup [.ref p1, .ref p2]) = G at S tx ty ldu facts lt ⊢
      clear s8 s7 s6 l6 l7 E6 E7 n6 n7 ht
      refine for_tup (K := K) (a := t) (xs := [.ref p1, .ref p2]) (fun _ σ H1 => ∃ v6 v7 v8 v9 v10 : Option V, σ = [some (.ref a), some (.int (0 + i)), some (.ref b), some x, some y, some (.ref du), v6, v7, v8, v9, v10] ∧ Same G H1)
        ⟨_, _, _, _, _, rfl, Same.refl _⟩ (fun _ σ H1 _ ⟨_, _, _, _, _, _, s⟩ => SqT.of (s _ _ lt)) ?_ ?_
      · rintro j v σ H1 hj ⟨v6, v7, v8, v9, v10, rfl, s1⟩
        obtain ⟨p, er, rfl, lp0, E0⟩ := facts v (List.mem_of_getElem? hj)
        have lp := s1 _ _ lp0
        have E1 := E0.same s1
        -- repr(fields(some)) != repr(due)
        refine ⟨_, rfl, p, er, x, y, rfl, lp, E1, fun fp Hf nf sf lf => ?_⟩
        have sF := s1.trans sf
        have tx1 := Td.keep sF.tk tx
        have ty1 := Td.keep sF.tk ty
        have ld1 := sF _ _ ldu
        have all : DpAll K Hf [x, y, x, y, x, y, x, x, y, x, x, x, x] [dx, dy, dx, dy, dx, dy, dx, dx, dy, dx, dx, dx, dx] :=
          .cons tx1.dp (.cons ty1.dp (.cons tx1.dp (.cons ty1.dp (.cons tx1.dp (.cons ty1.dp (.cons tx1.dp (.cons tx1.dp (.cons ty1.dp (.cons tx1.dp (.cons tx1.dp (.cons tx1.dp (.cons tx1.dp .nil))))))))))))
        have sw : Shw [dx, dy, dx, dy, dx, dy, dx, dx, dy, dx, dx, dx, dx] := shw (fun d hd => by
          have hd2 : d = dx ∨ d = dy := by
            simp at hd
            rcases hd with h | h | h | h | h | h | h | h | h <;> simp [h]
          rcases hd2 with rfl | rfl
          · exact tx1.fit
          · exact ty1.fit) (by show 13 ≤ 13; decide)
        refine ⟨fp, _, rfl, .lst (SqL.of lf) all, sw.sh, sw.nd, sw.dp, sw.sz, ?_⟩
        refine ⟨_, rfl, du, _, rfl, .lst (SqL.of ld1) all, sw.sh, sw.nd, sw.dp, sw.sz, rfl, _, rfl, iteNS rfl ?_⟩
        have lp1 := sf _ _ lp
        have E2 := E1.same sf
        clear lp E1 lf nf
        try dsimp only [tNext]
        -- for k, e in enumerate(some)
        refine ⟨_, rfl, p, _, rfl, SqL.of lp1, ?_⟩
        refine for_it (walk_enum (K := K) (a := p) (xs := refs11 er)) (fun _ σ H1 => ∃ v7 v8 v9 v10 : Option V, σ = [some (.ref a), some (.int (0 + i)), some (.ref b), some x, some y, some (.ref du), some (.ref p), v7, v8, v9, v10] ∧ Same Hf H1)
          ⟨_, _, _, _, rfl, Same.refl _⟩ (fun _ σ H1 _ ⟨_, _, _, _, _, s⟩ => SqL.of (s _ _ lp1)) ?_ ?_
        · rintro q v σ H1 H0 hq ⟨v7, v8, v9, v10, rfl, s1⟩ ⟨T0, w1, w2, rfl, hT, rfl, ex, ey⟩
          cases ex
          obtain ⟨hq10, rfl⟩ := refs_at er q w2 ey
          have sA : Same Hf (upd H1 T0 (.tup [.int (q : Nat), .ref (er q)])) := s1.trans (same_upd (Same.refl _) hT)
          refine ⟨T0, _, rfl, SqT.of upd_same, rfl, _, _, rfl, _, _, rfl, rfl, ?_⟩
          generalize upd H1 T0 (.tup [.int (q : Nat), .ref (er q)]) = G1 at sA ⊢
          by_cases c0 : 3 < q
          · refine ⟨_, rfl, _, _, rfl, rfl, ?_⟩
            refine ⟨_, rfl, _, _, rfl, rfl, _, rfl, ?_⟩
            refine iteT' (decide_eq_true (by omega)) ⟨_, _, rfl, rfl, ?_⟩
            refine ⟨_, rfl, _, _, rfl, rfl, _, rfl, _, _, rfl, rfl, _, rfl, _, _, rfl, rfl, (by show 5 ≤ sizeLine; decide), fun ab nab => ?_⟩
            have lab : (upd G1 ab (.lst [V.bl (decide ((q : Int) < 4)), V.bl (decide ((q : Int) < 9)), V.bl (decide ((q : Int) < 9)), V.bl (decide ((q : Int) < 9)), V.bl (decide ((8 : Int) < q))])) ab = some (.lst [V.bl (decide ((q : Int) < 4)), V.bl (decide ((q : Int) < 9)), V.bl (decide ((q : Int) < 9)), V.bl (decide ((q : Int) < 9)), V.bl (decide ((8 : Int) < q))]) := upd_same
            have sB : Same Hf (upd G1 ab (.lst [V.bl (decide ((q : Int) < 4)), V.bl (decide ((q : Int) < 9)), V.bl (decide ((q : Int) < 9)), V.bl (decide ((q : Int) < 9)), V.bl (decide ((8 : Int) < q))])) := sA.trans (same_upd (Same.refl _) nab)
            try dsimp only [tNext]
            refine ⟨_, rfl, er q, q, rfl, hq10, (E2.same sB).atx hq10, fun cp Hc nc sc lc => ?_⟩
            have sC := sB.trans sc
            have lab1 := sc _ _ lab
            refine ⟨_, rfl, (by decide), (by decide), fun D hD => ?_⟩
            refine lc_range (n := 11) (fun t H1 => H1 D = some (.lst ((List.range t).map fun j => V.bl (decide (j = q)))) ∧ Same Hc H1) ⟨upd_same, same_upd (Same.refl _) hD⟩ ?_ ?_
            · rintro t H1 ht ⟨e1, s3⟩
              refine ⟨rfl, _, rfl, _, rfl, rfl, _, e1, small1000 (by rw [List.length_map, List.length_range]; omega), ?_, same_upd s3 hD⟩
              rw [upd_same, List.range_succ, List.map_append, dec_spot]
              rfl
            · rintro H9 ⟨e1, s3⟩
              refine ⟨_, rfl, D, ab, _, _, rfl, rfl, e1, s3 _ _ lab1, (by rw [List.length_map, List.length_range]; show 11 + 5 ≤ sizeLine; decide), fun r nr => ?_⟩
              have sD := sC.trans s3
              have eqL : ((List.range 11).map fun j => V.bl (decide (j = q))) ++ [V.bl (decide ((q : Int) < 4)), V.bl (decide ((q : Int) < 9)), V.bl (decide ((q : Int) < 9)), V.bl (decide ((q : Int) < 9)), V.bl (decide ((8 : Int) < q))] = (isl q).map V.bl := by
                rw [← due_isl q hq10]
                have c3 : decide ((3 : Int) < q) = true := decide_eq_true (by omega)
                unfold dueB
                rw [c3, List.map_append, List.map_map]
                rfl
              rw [eqL]
              have s10 : Same H9 (upd H9 r (.lst ((isl q).map V.bl))) := same_upd (Same.refl _) nr
              refine ⟨_, _, .lst (SqL.of (s10 _ _ (s3 _ _ lc))) (dpAll_bl _), .lst (SqL.of upd_same) (dpAll_bl _), isl_shaped q hq10, isl_shaped q hq10, _, rfl, ?_⟩
              rw [isl_eqv q hq10]
              exact iteF ⟨_, _, _, _, rfl, sD.trans s10⟩
          · refine ⟨_, rfl, _, _, rfl, rfl, ?_⟩
            refine ⟨_, rfl, _, _, rfl, rfl, _, rfl, ?_⟩
            refine iteF' (decide_eq_false (by omega)) ?_
            refine ⟨_, rfl, _, _, rfl, rfl, _, rfl, _, _, rfl, rfl, _, rfl, _, _, rfl, rfl, (by show 5 ≤ sizeLine; decide), fun ab nab => ?_⟩
            have lab : (upd G1 ab (.lst [V.bl (decide ((q : Int) < 4)), V.bl (false), V.bl (decide ((q : Int) < 9)), V.bl (decide ((q : Int) < 9)), V.bl (decide ((8 : Int) < q))])) ab = some (.lst [V.bl (decide ((q : Int) < 4)), V.bl (false), V.bl (decide ((q : Int) < 9)), V.bl (decide ((q : Int) < 9)), V.bl (decide ((8 : Int) < q))]) := upd_same
            have sB : Same Hf (upd G1 ab (.lst [V.bl (decide ((q : Int) < 4)), V.bl (false), V.bl (decide ((q : Int) < 9)), V.bl (decide ((q : Int) < 9)), V.bl (decide ((8 : Int) < q))])) := sA.trans (same_upd (Same.refl _) nab)
            try dsimp only [tNext]
            refine ⟨_, rfl, er q, q, rfl, hq10, (E2.same sB).atx hq10, fun cp Hc nc sc lc => ?_⟩
            have sC := sB.trans sc
            have lab1 := sc _ _ lab
            refine ⟨_, rfl, (by decide), (by decide), fun D hD => ?_⟩
            refine lc_range (n := 11) (fun t H1 => H1 D = some (.lst ((List.range t).map fun j => V.bl (decide (j = q)))) ∧ Same Hc H1) ⟨upd_same, same_upd (Same.refl _) hD⟩ ?_ ?_
            · rintro t H1 ht ⟨e1, s3⟩
              refine ⟨rfl, _, rfl, _, rfl, rfl, _, e1, small1000 (by rw [List.length_map, List.length_range]; omega), ?_, same_upd s3 hD⟩
              rw [upd_same, List.range_succ, List.map_append, dec_spot]
              rfl
            · rintro H9 ⟨e1, s3⟩
              refine ⟨_, rfl, D, ab, _, _, rfl, rfl, e1, s3 _ _ lab1, (by rw [List.length_map, List.length_range]; show 11 + 5 ≤ sizeLine; decide), fun r nr => ?_⟩
              have sD := sC.trans s3
              have eqL : ((List.range 11).map fun j => V.bl (decide (j = q))) ++ [V.bl (decide ((q : Int) < 4)), V.bl (false), V.bl (decide ((q : Int) < 9)), V.bl (decide ((q : Int) < 9)), V.bl (decide ((8 : Int) < q))] = (isl q).map V.bl := by
                rw [← due_isl q hq10]
                have c3 : decide ((3 : Int) < q) = false := decide_eq_false (by omega)
                unfold dueB
                rw [c3, List.map_append, List.map_map]
                rfl
              rw [eqL]
              have s10 : Same H9 (upd H9 r (.lst ((isl q).map V.bl))) := same_upd (Same.refl _) nr
              refine ⟨_, _, .lst (SqL.of (s10 _ _ (s3 _ _ lc))) (dpAll_bl _), .lst (SqL.of upd_same) (dpAll_bl _), isl_shaped q hq10, isl_shaped q hq10, _, rfl, ?_⟩
              rw [isl_eqv q hq10]
              exact iteF ⟨_, _, _, _, rfl, sD.trans s10⟩
        · rintro σ H1 ⟨v7, v8, v9, v10, rfl, s2⟩
          exact ⟨_, _, _, _, _, rfl, sF.trans s2⟩
      · rintro σ H1 ⟨v6, v7, v8, v9, v10, rfl, s1⟩
        exact ⟨_, _, _, _, _, _, _, _, _, _, rfl, S.trans s1⟩
    · rintro σ H1 ⟨v1, v2, v3, v4, v5, v6, v7, v8, v9, v10, rfl, s1⟩
      exact k H1
end
end Tg

namespace Tg
open PySem L2 Ow
def of14 (a0 a1 a2 a3 a4 a5 a6 a7 a8 a9 a10 a11 a12 a13 : Addr) : Nat → Addr
  | 0 => a0 | 1 => a1 | 2 => a2 | 3 => a3 | 4 => a4 | 5 => a5 | 6 => a6 | 7 => a7 | 8 => a8 | 9 => a9 | 10 => a10 | 11 => a11 | 12 => a12 | _ => a13
theorem all_mk {l : PySem.W.OpenLaw} {w : World} {K : PySem.W.Frag} {h : Heap} {mg : Str → Option Value} {fa f1 f2 f3 f4 f5 f6 f7 f8  : Addr}  {C0 C1 C2 C3 C4 C5 C6 C7 C8 C9 C10 C11 C12 C13 N0 g0 N1 g1 N2 g2 N3 g3 N4 g4 N5 g5 N6 g6 N7 N8 N9 g9 N10 g10 : Addr} {dd0 odg0 ang0 dd1 odg1 ang1 dd2 odg2 ang2 dd3 odg3 ang3 dd4 odg4 ang4 dd5 odg5 ang5 dd6 odg6 ang6 dd7 dd8 dd9 odg9 ang9 dd10 odg10 ang10 : Option Addr} {slg0 slg1 slg2 slg3 slg4 slg5 slg6 slg9 slg10 : Array (Option Value)} {ocg0 kVg0 dcg0 pmg0 cdg0 ctg0 ocg1 kVg1 dcg1 pmg1 cdg1 ctg1 ocg2 kVg2 dcg2 pmg2 cdg2 ctg2 ocg3 kVg3 dcg3 pmg3 cdg3 ctg3 ocg4 kVg4 dcg4 pmg4 cdg4 ctg4 ocg5 kVg5 dcg5 pmg5 cdg5 ctg5 ocg6 kVg6 dcg6 pmg6 cdg6 ctg6 ocg9 kVg9 dcg9 pmg9 cdg9 ctg9 ocg10 kVg10 dcg10 pmg10 cdg10 ctg10 : Value} {nm0 q0 nm1 q1 nm2 q2 nm3 q3 nm4 q4 nm5 q5 nm6 q6 nm7 q7 nm8 q8 nm9 q9 nm10 q10 : Str} {bs0 sub0 bm0 bs1 sub1 bm1 bs2 sub2 bm2 bs3 sub3 bm3 bs4 sub4 bm4 bs5 sub5 bm5 bs6 sub6 bm6 bs7 sub7 bm7 bs8 sub8 bm8 bs9 sub9 bs10 sub10 : List Value} {ab0 ab1 ab2 ab3 ab4 ab5 ab6 ab7 ab8 ab9 ab10 : Bool} {col0 col1 col2 col3 col4 col5 col6 col7 col8 col9 col10 : Option Bool} {sn0 sn1 sn2 sn3 sn4 sn5 sn6 sn7 sn8 sn9 sn10 : List Str} {k0_0 k1_0 k2_0 k3_0 k5_0 k0_1 k1_1 k2_1 k3_1 k5_1 k0_2 k1_2 k2_2 k3_2 k5_2 k0_3 k1_3 k2_3 k3_3 k5_3 k0_4 k1_4 k2_4 k3_4 k5_4 k0_5 k1_5 k2_5 k3_5 k5_5 k0_6 k1_6 k2_6 k3_6 k5_6 k0_7 k1_7 k2_7 k3_7 k5_7 k0_8 k1_8 k2_8 k3_8 k5_8 k0_9 k1_9 k2_9 k3_9 k5_9 k0_10 k1_10 k2_10 k3_10 k5_10 : Option Value} (X : K.In h) (G : h.Ns mainGlobals mg) (hfa : mg "law" = some (.ref fa))
    {od1 an1 od2 an2 od3 an3 od4 an4 od5 an5 od6 an6 od7 an7 od8 an8 : Option Addr} {sl1 sl2 sl3 sl4 sl5 sl6 sl7 sl8 : Array (Option Value)} {oc1 kV1 dc1 pm1 cd1 ct1 oc2 kV2 dc2 pm2 cd2 ct2 oc3 kV3 dc3 pm3 cd3 ct3 oc4 kV4 dc4 pm4 cd4 ct4 oc5 kV5 dc5 pm5 cd5 ct5 oc6 kV6 dc6 pm6 cd6 ct6 oc7 kV7 dc7 pm7 cd7 ct7 oc8 kV8 dc8 pm8 cd8 ct8 : Value}
    (a1 : PySem.W.nsIn K mainGlobals "_law_box" = some (some (.ref f1)))
    (l1 : K.lookup f1 = some ⟨oc1, od1, .func (PySem.W.fnOf "_law_box" "_law_box" (defArgs sBox) (defBody sBox) (defScope sBox) .none kV1 dc1 pm1 an1 cd1 ct1), sl1⟩)
    (c1 : PySem.W.codeIn K cd1 "_law_box" = true)
    (k1 : PySem.W.keepIn K (.ref f1) = true)
    (a2 : PySem.W.nsIn K mainGlobals "_law_value" = some (some (.ref f2)))
    (l2 : K.lookup f2 = some ⟨oc2, od2, .func (PySem.W.fnOf "_law_value" "_law_value" (defArgs sValue) (defBody sValue) (defScope sValue) .none kV2 dc2 pm2 an2 cd2 ct2), sl2⟩)
    (c2 : PySem.W.codeIn K cd2 "_law_value" = true)
    (k2 : PySem.W.keepIn K (.ref f2) = true)
    (a3 : PySem.W.nsIn K mainGlobals "_law_take" = some (some (.ref f3)))
    (l3 : K.lookup f3 = some ⟨oc3, od3, .func (PySem.W.fnOf "_law_take" "_law_take" (defArgs sTake) (defBody sTake) (defScope sTake) .none kV3 dc3 pm3 an3 cd3 ct3), sl3⟩)
    (c3 : PySem.W.codeIn K cd3 "_law_take" = true)
    (k3 : PySem.W.keepIn K (.ref f3) = true)
    (a4 : PySem.W.nsIn K mainGlobals "_law_placed" = some (some (.ref f4)))
    (l4 : K.lookup f4 = some ⟨oc4, od4, .func (PySem.W.fnOf "_law_placed" "_law_placed" (defArgs sPlaced) (defBody sPlaced) (defScope sPlaced) .none kV4 dc4 pm4 an4 cd4 ct4), sl4⟩)
    (c4 : PySem.W.codeIn K cd4 "_law_placed" = true)
    (k4 : PySem.W.keepIn K (.ref f4) = true)
    (a5 : PySem.W.nsIn K mainGlobals "_law_named" = some (some (.ref f5)))
    (l5 : K.lookup f5 = some ⟨oc5, od5, .func (PySem.W.fnOf "_law_named" "_law_named" (defArgs sNamed) (defBody sNamed) (defScope sNamed) .none kV5 dc5 pm5 an5 cd5 ct5), sl5⟩)
    (c5 : PySem.W.codeIn K cd5 "_law_named" = true)
    (k5 : PySem.W.keepIn K (.ref f5) = true)
    (a6 : PySem.W.nsIn K mainGlobals "_law_fields" = some (some (.ref f6)))
    (l6 : K.lookup f6 = some ⟨oc6, od6, .func (PySem.W.fnOf "_law_fields" "_law_fields" (defArgs sFields) (defBody sFields) (defScope sFields) .none kV6 dc6 pm6 an6 cd6 ct6), sl6⟩)
    (c6 : PySem.W.codeIn K cd6 "_law_fields" = true)
    (k6 : PySem.W.keepIn K (.ref f6) = true)
    (a7 : PySem.W.nsIn K mainGlobals "_law_classes" = some (some (.ref f7)))
    (l7 : K.lookup f7 = some ⟨oc7, od7, .func (PySem.W.fnOf "_law_classes" "_law_classes" (defArgs sClasses) (defBody sClasses) (defScope sClasses) .none kV7 dc7 pm7 an7 cd7 ct7), sl7⟩)
    (c7 : PySem.W.codeIn K cd7 "_law_classes" = true)
    (k7 : PySem.W.keepIn K (.ref f7) = true)
    (a8 : PySem.W.nsIn K mainGlobals "law" = some (some (.ref f8)))
    (l8 : K.lookup f8 = some ⟨oc8, od8, .func (PySem.W.fnOf "law" "law" (defArgs sLaw) (defBody sLaw) (defScope sLaw) .none kV8 dc8 pm8 an8 cd8 ct8), sl8⟩)
    (c8 : PySem.W.codeIn K cd8 "law" = true)
    (k8 : PySem.W.keepIn K (.ref f8) = true)
    (n0 : PySem.W.nsIn K mainGlobals "NoTree" = some (some (.ref C0)))
    (n1 : PySem.W.nsIn K mainGlobals "NoGrove" = some (some (.ref C1)))
    (n2 : PySem.W.nsIn K mainGlobals "NoWeb" = some (some (.ref C2)))
    (n3 : PySem.W.nsIn K mainGlobals "NoText" = some (some (.ref C3)))
    (n4 : PySem.W.nsIn K mainGlobals "NoStanding" = some (some (.ref C4)))
    (n5 : PySem.W.nsIn K mainGlobals "NoMatch" = some (some (.ref C5)))
    (n6 : PySem.W.nsIn K mainGlobals "Broken" = some (some (.ref C6)))
    (n7 : PySem.W.nsIn K mainGlobals "Unexplained" = some (some (.ref C7)))
    (n8 : PySem.W.nsIn K mainGlobals "NoCommand" = some (some (.ref C8)))
    (n9 : PySem.W.nsIn K mainGlobals "NoPlace" = some (some (.ref C9)))
    (n10 : PySem.W.nsIn K mainGlobals "NoWalker" = some (some (.ref C10)))
    (n11 : PySem.W.nsIn K mainGlobals "BuildError" = some (some (.ref C11)))
    (n12 : PySem.W.nsIn K mainGlobals "UseError" = some (some (.ref C12)))
    (n13 : PySem.W.nsIn K mainGlobals "TowError" = some (some (.ref C13)))
    (kC0 : PySem.W.keepIn K (.ref C0) = true)
    (L0 : K.lookup C0 = some (excClassObj nm0 q0 C0 N0 bs0 bm0 true sn0 sub0 ab0 col0 dd0 k0_0 k1_0 k2_0 k3_0 k5_0 "ValueError.__new__"))
    (R0 : PySem.HandSPX.refsVE bm0 = true)
    (sa0 : PySem.W.findIn K (.ref C0) "__setattr__" = some (some (.builtin "object.__setattr__")))
    (ex0 : PySem.W.subIn K (.ref C0) (.type "BaseException") = some true)
    (ty0 : PySem.W.typeIn K (.ref C0) = some (.type "type"))
    (ga0 : PySem.W.findIn K (.ref C0) "__getattribute__" = some (some (.builtin "BaseException.__getattribute__")))
    (gg0 : PySem.W.findIn K (.ref C0) "__getattr__" = some none)
    (hd0 : PySem.W.hasDictIn K C0 = true)
    (hc0 : PySem.W.findIn K (.ref C0) "__class__" = some (some (.builtin "object.__class__")))
    (hm0 : PySem.W.mroIn K C0 (.type "object") = some true)
    (f0_word : PySem.W.findIn K (.ref C0) "word" = some none)
    (f0_at : PySem.W.findIn K (.ref C0) "at" = some none)
    (ii0 : PySem.W.findIn K (.ref C0) "__init__" = some (some (.ref g0)))
    (ti0 : PySem.W.typeIn K (.ref g0) = some (.type "function"))
    (li0 : K.lookup g0 = some ⟨ocg0, odg0, .func (PySem.W.fnOf "__init__" "NoTree.__init__" (defArgs sINoTree) (defBody sINoTree) (defScope sINoTree) .none kVg0 dcg0 pmg0 ang0 cdg0 ctg0), slg0⟩)
    (ci0 : PySem.W.codeIn K cdg0 "NoTree.__init__" = true)
    (ki0 : PySem.W.keepIn K (.ref g0) = true)
    (kC1 : PySem.W.keepIn K (.ref C1) = true)
    (L1 : K.lookup C1 = some (excClassObj nm1 q1 C1 N1 bs1 bm1 true sn1 sub1 ab1 col1 dd1 k0_1 k1_1 k2_1 k3_1 k5_1 "ValueError.__new__"))
    (R1 : PySem.HandSPX.refsVE bm1 = true)
    (sa1 : PySem.W.findIn K (.ref C1) "__setattr__" = some (some (.builtin "object.__setattr__")))
    (ex1 : PySem.W.subIn K (.ref C1) (.type "BaseException") = some true)
    (ty1 : PySem.W.typeIn K (.ref C1) = some (.type "type"))
    (ga1 : PySem.W.findIn K (.ref C1) "__getattribute__" = some (some (.builtin "BaseException.__getattribute__")))
    (gg1 : PySem.W.findIn K (.ref C1) "__getattr__" = some none)
    (hd1 : PySem.W.hasDictIn K C1 = true)
    (hc1 : PySem.W.findIn K (.ref C1) "__class__" = some (some (.builtin "object.__class__")))
    (hm1 : PySem.W.mroIn K C1 (.type "object") = some true)
    (f1_one : PySem.W.findIn K (.ref C1) "one" = some none)
    (f1_other : PySem.W.findIn K (.ref C1) "other" = some none)
    (ii1 : PySem.W.findIn K (.ref C1) "__init__" = some (some (.ref g1)))
    (ti1 : PySem.W.typeIn K (.ref g1) = some (.type "function"))
    (li1 : K.lookup g1 = some ⟨ocg1, odg1, .func (PySem.W.fnOf "__init__" "NoGrove.__init__" (defArgs sINoGrove) (defBody sINoGrove) (defScope sINoGrove) .none kVg1 dcg1 pmg1 ang1 cdg1 ctg1), slg1⟩)
    (ci1 : PySem.W.codeIn K cdg1 "NoGrove.__init__" = true)
    (ki1 : PySem.W.keepIn K (.ref g1) = true)
    (kC2 : PySem.W.keepIn K (.ref C2) = true)
    (L2 : K.lookup C2 = some (excClassObj nm2 q2 C2 N2 bs2 bm2 true sn2 sub2 ab2 col2 dd2 k0_2 k1_2 k2_2 k3_2 k5_2 "ValueError.__new__"))
    (R2 : PySem.HandSPX.refsVE bm2 = true)
    (sa2 : PySem.W.findIn K (.ref C2) "__setattr__" = some (some (.builtin "object.__setattr__")))
    (ex2 : PySem.W.subIn K (.ref C2) (.type "BaseException") = some true)
    (ty2 : PySem.W.typeIn K (.ref C2) = some (.type "type"))
    (ga2 : PySem.W.findIn K (.ref C2) "__getattribute__" = some (some (.builtin "BaseException.__getattribute__")))
    (gg2 : PySem.W.findIn K (.ref C2) "__getattr__" = some none)
    (hd2 : PySem.W.hasDictIn K C2 = true)
    (hc2 : PySem.W.findIn K (.ref C2) "__class__" = some (some (.builtin "object.__class__")))
    (hm2 : PySem.W.mroIn K C2 (.type "object") = some true)
    (f2_word : PySem.W.findIn K (.ref C2) "word" = some none)
    (f2_at : PySem.W.findIn K (.ref C2) "at" = some none)
    (ii2 : PySem.W.findIn K (.ref C2) "__init__" = some (some (.ref g2)))
    (ti2 : PySem.W.typeIn K (.ref g2) = some (.type "function"))
    (li2 : K.lookup g2 = some ⟨ocg2, odg2, .func (PySem.W.fnOf "__init__" "NoWeb.__init__" (defArgs sINoWeb) (defBody sINoWeb) (defScope sINoWeb) .none kVg2 dcg2 pmg2 ang2 cdg2 ctg2), slg2⟩)
    (ci2 : PySem.W.codeIn K cdg2 "NoWeb.__init__" = true)
    (ki2 : PySem.W.keepIn K (.ref g2) = true)
    (kC3 : PySem.W.keepIn K (.ref C3) = true)
    (L3 : K.lookup C3 = some (excClassObj nm3 q3 C3 N3 bs3 bm3 true sn3 sub3 ab3 col3 dd3 k0_3 k1_3 k2_3 k3_3 k5_3 "ValueError.__new__"))
    (R3 : PySem.HandSPX.refsVE bm3 = true)
    (sa3 : PySem.W.findIn K (.ref C3) "__setattr__" = some (some (.builtin "object.__setattr__")))
    (ex3 : PySem.W.subIn K (.ref C3) (.type "BaseException") = some true)
    (ty3 : PySem.W.typeIn K (.ref C3) = some (.type "type"))
    (ga3 : PySem.W.findIn K (.ref C3) "__getattribute__" = some (some (.builtin "BaseException.__getattribute__")))
    (gg3 : PySem.W.findIn K (.ref C3) "__getattr__" = some none)
    (hd3 : PySem.W.hasDictIn K C3 = true)
    (hc3 : PySem.W.findIn K (.ref C3) "__class__" = some (some (.builtin "object.__class__")))
    (hm3 : PySem.W.mroIn K C3 (.type "object") = some true)
    (f3_row : PySem.W.findIn K (.ref C3) "row" = some none)
    (ii3 : PySem.W.findIn K (.ref C3) "__init__" = some (some (.ref g3)))
    (ti3 : PySem.W.typeIn K (.ref g3) = some (.type "function"))
    (li3 : K.lookup g3 = some ⟨ocg3, odg3, .func (PySem.W.fnOf "__init__" "NoText.__init__" (defArgs sINoText) (defBody sINoText) (defScope sINoText) .none kVg3 dcg3 pmg3 ang3 cdg3 ctg3), slg3⟩)
    (ci3 : PySem.W.codeIn K cdg3 "NoText.__init__" = true)
    (ki3 : PySem.W.keepIn K (.ref g3) = true)
    (kC4 : PySem.W.keepIn K (.ref C4) = true)
    (L4 : K.lookup C4 = some (excClassObj nm4 q4 C4 N4 bs4 bm4 true sn4 sub4 ab4 col4 dd4 k0_4 k1_4 k2_4 k3_4 k5_4 "ValueError.__new__"))
    (R4 : PySem.HandSPX.refsVE bm4 = true)
    (sa4 : PySem.W.findIn K (.ref C4) "__setattr__" = some (some (.builtin "object.__setattr__")))
    (ex4 : PySem.W.subIn K (.ref C4) (.type "BaseException") = some true)
    (ty4 : PySem.W.typeIn K (.ref C4) = some (.type "type"))
    (ga4 : PySem.W.findIn K (.ref C4) "__getattribute__" = some (some (.builtin "BaseException.__getattribute__")))
    (gg4 : PySem.W.findIn K (.ref C4) "__getattr__" = some none)
    (hd4 : PySem.W.hasDictIn K C4 = true)
    (hc4 : PySem.W.findIn K (.ref C4) "__class__" = some (some (.builtin "object.__class__")))
    (hm4 : PySem.W.mroIn K C4 (.type "object") = some true)
    (f4_word : PySem.W.findIn K (.ref C4) "word" = some none)
    (f4_at : PySem.W.findIn K (.ref C4) "at" = some none)
    (ii4 : PySem.W.findIn K (.ref C4) "__init__" = some (some (.ref g4)))
    (ti4 : PySem.W.typeIn K (.ref g4) = some (.type "function"))
    (li4 : K.lookup g4 = some ⟨ocg4, odg4, .func (PySem.W.fnOf "__init__" "NoStanding.__init__" (defArgs sINoStanding) (defBody sINoStanding) (defScope sINoStanding) .none kVg4 dcg4 pmg4 ang4 cdg4 ctg4), slg4⟩)
    (ci4 : PySem.W.codeIn K cdg4 "NoStanding.__init__" = true)
    (ki4 : PySem.W.keepIn K (.ref g4) = true)
    (kC5 : PySem.W.keepIn K (.ref C5) = true)
    (L5 : K.lookup C5 = some (excClassObj nm5 q5 C5 N5 bs5 bm5 true sn5 sub5 ab5 col5 dd5 k0_5 k1_5 k2_5 k3_5 k5_5 "ValueError.__new__"))
    (R5 : PySem.HandSPX.refsVE bm5 = true)
    (sa5 : PySem.W.findIn K (.ref C5) "__setattr__" = some (some (.builtin "object.__setattr__")))
    (ex5 : PySem.W.subIn K (.ref C5) (.type "BaseException") = some true)
    (ty5 : PySem.W.typeIn K (.ref C5) = some (.type "type"))
    (ga5 : PySem.W.findIn K (.ref C5) "__getattribute__" = some (some (.builtin "BaseException.__getattribute__")))
    (gg5 : PySem.W.findIn K (.ref C5) "__getattr__" = some none)
    (hd5 : PySem.W.hasDictIn K C5 = true)
    (hc5 : PySem.W.findIn K (.ref C5) "__class__" = some (some (.builtin "object.__class__")))
    (hm5 : PySem.W.mroIn K C5 (.type "object") = some true)
    (f5_word : PySem.W.findIn K (.ref C5) "word" = some none)
    (ii5 : PySem.W.findIn K (.ref C5) "__init__" = some (some (.ref g5)))
    (ti5 : PySem.W.typeIn K (.ref g5) = some (.type "function"))
    (li5 : K.lookup g5 = some ⟨ocg5, odg5, .func (PySem.W.fnOf "__init__" "NoMatch.__init__" (defArgs sINoMatch) (defBody sINoMatch) (defScope sINoMatch) .none kVg5 dcg5 pmg5 ang5 cdg5 ctg5), slg5⟩)
    (ci5 : PySem.W.codeIn K cdg5 "NoMatch.__init__" = true)
    (ki5 : PySem.W.keepIn K (.ref g5) = true)
    (kC6 : PySem.W.keepIn K (.ref C6) = true)
    (L6 : K.lookup C6 = some (excClassObj nm6 q6 C6 N6 bs6 bm6 true sn6 sub6 ab6 col6 dd6 k0_6 k1_6 k2_6 k3_6 k5_6 "ValueError.__new__"))
    (R6 : PySem.HandSPX.refsVE bm6 = true)
    (sa6 : PySem.W.findIn K (.ref C6) "__setattr__" = some (some (.builtin "object.__setattr__")))
    (ex6 : PySem.W.subIn K (.ref C6) (.type "BaseException") = some true)
    (ty6 : PySem.W.typeIn K (.ref C6) = some (.type "type"))
    (ga6 : PySem.W.findIn K (.ref C6) "__getattribute__" = some (some (.builtin "BaseException.__getattribute__")))
    (gg6 : PySem.W.findIn K (.ref C6) "__getattr__" = some none)
    (hd6 : PySem.W.hasDictIn K C6 = true)
    (hc6 : PySem.W.findIn K (.ref C6) "__class__" = some (some (.builtin "object.__class__")))
    (hm6 : PySem.W.mroIn K C6 (.type "object") = some true)
    (f6_at : PySem.W.findIn K (.ref C6) "at" = some none)
    (ii6 : PySem.W.findIn K (.ref C6) "__init__" = some (some (.ref g6)))
    (ti6 : PySem.W.typeIn K (.ref g6) = some (.type "function"))
    (li6 : K.lookup g6 = some ⟨ocg6, odg6, .func (PySem.W.fnOf "__init__" "Broken.__init__" (defArgs sIBroken) (defBody sIBroken) (defScope sIBroken) .none kVg6 dcg6 pmg6 ang6 cdg6 ctg6), slg6⟩)
    (ci6 : PySem.W.codeIn K cdg6 "Broken.__init__" = true)
    (ki6 : PySem.W.keepIn K (.ref g6) = true)
    (kC7 : PySem.W.keepIn K (.ref C7) = true)
    (L7 : K.lookup C7 = some (excClassObj nm7 q7 C7 N7 bs7 bm7 true sn7 sub7 ab7 col7 dd7 k0_7 k1_7 k2_7 k3_7 k5_7 "ValueError.__new__"))
    (R7 : PySem.HandSPX.refsVE bm7 = true)
    (sa7 : PySem.W.findIn K (.ref C7) "__setattr__" = some (some (.builtin "object.__setattr__")))
    (ex7 : PySem.W.subIn K (.ref C7) (.type "BaseException") = some true)
    (ty7 : PySem.W.typeIn K (.ref C7) = some (.type "type"))
    (ga7 : PySem.W.findIn K (.ref C7) "__getattribute__" = some (some (.builtin "BaseException.__getattribute__")))
    (gg7 : PySem.W.findIn K (.ref C7) "__getattr__" = some none)
    (hd7 : PySem.W.hasDictIn K C7 = true)
    (hc7 : PySem.W.findIn K (.ref C7) "__class__" = some (some (.builtin "object.__class__")))
    (hm7 : PySem.W.mroIn K C7 (.type "object") = some true)
    (ii7 : PySem.W.findIn K (.ref C7) "__init__" = some (some (.builtin "ValueError.__init__")))
    (kC8 : PySem.W.keepIn K (.ref C8) = true)
    (L8 : K.lookup C8 = some (excClassObj nm8 q8 C8 N8 bs8 bm8 true sn8 sub8 ab8 col8 dd8 k0_8 k1_8 k2_8 k3_8 k5_8 "ValueError.__new__"))
    (R8 : PySem.HandSPX.refsVE bm8 = true)
    (sa8 : PySem.W.findIn K (.ref C8) "__setattr__" = some (some (.builtin "object.__setattr__")))
    (ex8 : PySem.W.subIn K (.ref C8) (.type "BaseException") = some true)
    (ty8 : PySem.W.typeIn K (.ref C8) = some (.type "type"))
    (ga8 : PySem.W.findIn K (.ref C8) "__getattribute__" = some (some (.builtin "BaseException.__getattribute__")))
    (gg8 : PySem.W.findIn K (.ref C8) "__getattr__" = some none)
    (hd8 : PySem.W.hasDictIn K C8 = true)
    (hc8 : PySem.W.findIn K (.ref C8) "__class__" = some (some (.builtin "object.__class__")))
    (hm8 : PySem.W.mroIn K C8 (.type "object") = some true)
    (ii8 : PySem.W.findIn K (.ref C8) "__init__" = some (some (.builtin "ValueError.__init__")))
    (kC9 : PySem.W.keepIn K (.ref C9) = true)
    (L9 : K.lookup C9 = some (excClassObj nm9 q9 C9 N9 bs9 keTail true sn9 sub9 ab9 col9 dd9 k0_9 k1_9 k2_9 k3_9 k5_9 "LookupError.__new__"))
    (sa9 : PySem.W.findIn K (.ref C9) "__setattr__" = some (some (.builtin "object.__setattr__")))
    (ex9 : PySem.W.subIn K (.ref C9) (.type "BaseException") = some true)
    (ty9 : PySem.W.typeIn K (.ref C9) = some (.type "type"))
    (ga9 : PySem.W.findIn K (.ref C9) "__getattribute__" = some (some (.builtin "BaseException.__getattribute__")))
    (gg9 : PySem.W.findIn K (.ref C9) "__getattr__" = some none)
    (hd9 : PySem.W.hasDictIn K C9 = true)
    (hc9 : PySem.W.findIn K (.ref C9) "__class__" = some (some (.builtin "object.__class__")))
    (hm9 : PySem.W.mroIn K C9 (.type "object") = some true)
    (f9_place : PySem.W.findIn K (.ref C9) "place" = some none)
    (ii9 : PySem.W.findIn K (.ref C9) "__init__" = some (some (.ref g9)))
    (ti9 : PySem.W.typeIn K (.ref g9) = some (.type "function"))
    (li9 : K.lookup g9 = some ⟨ocg9, odg9, .func (PySem.W.fnOf "__init__" "NoPlace.__init__" (defArgs sINoPlace) (defBody sINoPlace) (defScope sINoPlace) .none kVg9 dcg9 pmg9 ang9 cdg9 ctg9), slg9⟩)
    (ci9 : PySem.W.codeIn K cdg9 "NoPlace.__init__" = true)
    (ki9 : PySem.W.keepIn K (.ref g9) = true)
    (kC10 : PySem.W.keepIn K (.ref C10) = true)
    (L10 : K.lookup C10 = some (excClassObj nm10 q10 C10 N10 bs10 keTail true sn10 sub10 ab10 col10 dd10 k0_10 k1_10 k2_10 k3_10 k5_10 "LookupError.__new__"))
    (sa10 : PySem.W.findIn K (.ref C10) "__setattr__" = some (some (.builtin "object.__setattr__")))
    (ex10 : PySem.W.subIn K (.ref C10) (.type "BaseException") = some true)
    (ty10 : PySem.W.typeIn K (.ref C10) = some (.type "type"))
    (ga10 : PySem.W.findIn K (.ref C10) "__getattribute__" = some (some (.builtin "BaseException.__getattribute__")))
    (gg10 : PySem.W.findIn K (.ref C10) "__getattr__" = some none)
    (hd10 : PySem.W.hasDictIn K C10 = true)
    (hc10 : PySem.W.findIn K (.ref C10) "__class__" = some (some (.builtin "object.__class__")))
    (hm10 : PySem.W.mroIn K C10 (.type "object") = some true)
    (f10_walker : PySem.W.findIn K (.ref C10) "walker" = some none)
    (ii10 : PySem.W.findIn K (.ref C10) "__init__" = some (some (.ref g10)))
    (ti10 : PySem.W.typeIn K (.ref g10) = some (.type "function"))
    (li10 : K.lookup g10 = some ⟨ocg10, odg10, .func (PySem.W.fnOf "__init__" "NoWalker.__init__" (defArgs sINoWalker) (defBody sINoWalker) (defScope sINoWalker) .none kVg10 dcg10 pmg10 ang10 cdg10 ctg10), slg10⟩)
    (ci10 : PySem.W.codeIn K cdg10 "NoWalker.__init__" = true)
    (ki10 : PySem.W.keepIn K (.ref g10) = true)
    (kC11 : PySem.W.keepIn K (.ref C11) = true)
    (kC12 : PySem.W.keepIn K (.ref C12) = true)
    (kC13 : PySem.W.keepIn K (.ref C13) = true)
    (hn : PySem.W.specialIn K (.builtin "object.__class__") "__get__" = some (some (.builtin "getset_descriptor.__get__")))
    (ht : PySem.W.takesIn K (.builtin "object.__class__") = some true)
    (z0_0 : PySem.W.kitOne K (.ref C0) (.ref C0) = some true)
    (z0_1 : PySem.W.kitOne K (.ref C0) (.ref C1) = some false)
    (z0_2 : PySem.W.kitOne K (.ref C0) (.ref C2) = some false)
    (z0_3 : PySem.W.kitOne K (.ref C0) (.ref C3) = some false)
    (z0_4 : PySem.W.kitOne K (.ref C0) (.ref C4) = some false)
    (z0_5 : PySem.W.kitOne K (.ref C0) (.ref C5) = some false)
    (z0_6 : PySem.W.kitOne K (.ref C0) (.ref C6) = some false)
    (z0_7 : PySem.W.kitOne K (.ref C0) (.ref C7) = some false)
    (z0_8 : PySem.W.kitOne K (.ref C0) (.ref C8) = some false)
    (z0_9 : PySem.W.kitOne K (.ref C0) (.ref C9) = some false)
    (z0_10 : PySem.W.kitOne K (.ref C0) (.ref C10) = some false)
    (z0_11 : PySem.W.kitOne K (.ref C0) (.ref C11) = some true)
    (z0_12 : PySem.W.kitOne K (.ref C0) (.ref C12) = some false)
    (z0_13 : PySem.W.kitOne K (.ref C0) (.ref C13) = some true)
    (zv0 : PySem.W.kitOne K (.ref C0) (.type "ValueError") = some true)
    (zk0 : PySem.W.kitOne K (.ref C0) (.type "KeyError") = some false)
    (z1_0 : PySem.W.kitOne K (.ref C1) (.ref C0) = some false)
    (z1_1 : PySem.W.kitOne K (.ref C1) (.ref C1) = some true)
    (z1_2 : PySem.W.kitOne K (.ref C1) (.ref C2) = some false)
    (z1_3 : PySem.W.kitOne K (.ref C1) (.ref C3) = some false)
    (z1_4 : PySem.W.kitOne K (.ref C1) (.ref C4) = some false)
    (z1_5 : PySem.W.kitOne K (.ref C1) (.ref C5) = some false)
    (z1_6 : PySem.W.kitOne K (.ref C1) (.ref C6) = some false)
    (z1_7 : PySem.W.kitOne K (.ref C1) (.ref C7) = some false)
    (z1_8 : PySem.W.kitOne K (.ref C1) (.ref C8) = some false)
    (z1_9 : PySem.W.kitOne K (.ref C1) (.ref C9) = some false)
    (z1_10 : PySem.W.kitOne K (.ref C1) (.ref C10) = some false)
    (z1_11 : PySem.W.kitOne K (.ref C1) (.ref C11) = some true)
    (z1_12 : PySem.W.kitOne K (.ref C1) (.ref C12) = some false)
    (z1_13 : PySem.W.kitOne K (.ref C1) (.ref C13) = some true)
    (zv1 : PySem.W.kitOne K (.ref C1) (.type "ValueError") = some true)
    (zk1 : PySem.W.kitOne K (.ref C1) (.type "KeyError") = some false)
    (z2_0 : PySem.W.kitOne K (.ref C2) (.ref C0) = some false)
    (z2_1 : PySem.W.kitOne K (.ref C2) (.ref C1) = some false)
    (z2_2 : PySem.W.kitOne K (.ref C2) (.ref C2) = some true)
    (z2_3 : PySem.W.kitOne K (.ref C2) (.ref C3) = some false)
    (z2_4 : PySem.W.kitOne K (.ref C2) (.ref C4) = some false)
    (z2_5 : PySem.W.kitOne K (.ref C2) (.ref C5) = some false)
    (z2_6 : PySem.W.kitOne K (.ref C2) (.ref C6) = some false)
    (z2_7 : PySem.W.kitOne K (.ref C2) (.ref C7) = some false)
    (z2_8 : PySem.W.kitOne K (.ref C2) (.ref C8) = some false)
    (z2_9 : PySem.W.kitOne K (.ref C2) (.ref C9) = some false)
    (z2_10 : PySem.W.kitOne K (.ref C2) (.ref C10) = some false)
    (z2_11 : PySem.W.kitOne K (.ref C2) (.ref C11) = some true)
    (z2_12 : PySem.W.kitOne K (.ref C2) (.ref C12) = some false)
    (z2_13 : PySem.W.kitOne K (.ref C2) (.ref C13) = some true)
    (zv2 : PySem.W.kitOne K (.ref C2) (.type "ValueError") = some true)
    (zk2 : PySem.W.kitOne K (.ref C2) (.type "KeyError") = some false)
    (z3_0 : PySem.W.kitOne K (.ref C3) (.ref C0) = some false)
    (z3_1 : PySem.W.kitOne K (.ref C3) (.ref C1) = some false)
    (z3_2 : PySem.W.kitOne K (.ref C3) (.ref C2) = some false)
    (z3_3 : PySem.W.kitOne K (.ref C3) (.ref C3) = some true)
    (z3_4 : PySem.W.kitOne K (.ref C3) (.ref C4) = some false)
    (z3_5 : PySem.W.kitOne K (.ref C3) (.ref C5) = some false)
    (z3_6 : PySem.W.kitOne K (.ref C3) (.ref C6) = some false)
    (z3_7 : PySem.W.kitOne K (.ref C3) (.ref C7) = some false)
    (z3_8 : PySem.W.kitOne K (.ref C3) (.ref C8) = some false)
    (z3_9 : PySem.W.kitOne K (.ref C3) (.ref C9) = some false)
    (z3_10 : PySem.W.kitOne K (.ref C3) (.ref C10) = some false)
    (z3_11 : PySem.W.kitOne K (.ref C3) (.ref C11) = some true)
    (z3_12 : PySem.W.kitOne K (.ref C3) (.ref C12) = some false)
    (z3_13 : PySem.W.kitOne K (.ref C3) (.ref C13) = some true)
    (zv3 : PySem.W.kitOne K (.ref C3) (.type "ValueError") = some true)
    (zk3 : PySem.W.kitOne K (.ref C3) (.type "KeyError") = some false)
    (z4_0 : PySem.W.kitOne K (.ref C4) (.ref C0) = some false)
    (z4_1 : PySem.W.kitOne K (.ref C4) (.ref C1) = some false)
    (z4_2 : PySem.W.kitOne K (.ref C4) (.ref C2) = some false)
    (z4_3 : PySem.W.kitOne K (.ref C4) (.ref C3) = some false)
    (z4_4 : PySem.W.kitOne K (.ref C4) (.ref C4) = some true)
    (z4_5 : PySem.W.kitOne K (.ref C4) (.ref C5) = some false)
    (z4_6 : PySem.W.kitOne K (.ref C4) (.ref C6) = some false)
    (z4_7 : PySem.W.kitOne K (.ref C4) (.ref C7) = some false)
    (z4_8 : PySem.W.kitOne K (.ref C4) (.ref C8) = some false)
    (z4_9 : PySem.W.kitOne K (.ref C4) (.ref C9) = some false)
    (z4_10 : PySem.W.kitOne K (.ref C4) (.ref C10) = some false)
    (z4_11 : PySem.W.kitOne K (.ref C4) (.ref C11) = some false)
    (z4_12 : PySem.W.kitOne K (.ref C4) (.ref C12) = some true)
    (z4_13 : PySem.W.kitOne K (.ref C4) (.ref C13) = some true)
    (zv4 : PySem.W.kitOne K (.ref C4) (.type "ValueError") = some true)
    (zk4 : PySem.W.kitOne K (.ref C4) (.type "KeyError") = some false)
    (z5_0 : PySem.W.kitOne K (.ref C5) (.ref C0) = some false)
    (z5_1 : PySem.W.kitOne K (.ref C5) (.ref C1) = some false)
    (z5_2 : PySem.W.kitOne K (.ref C5) (.ref C2) = some false)
    (z5_3 : PySem.W.kitOne K (.ref C5) (.ref C3) = some false)
    (z5_4 : PySem.W.kitOne K (.ref C5) (.ref C4) = some false)
    (z5_5 : PySem.W.kitOne K (.ref C5) (.ref C5) = some true)
    (z5_6 : PySem.W.kitOne K (.ref C5) (.ref C6) = some false)
    (z5_7 : PySem.W.kitOne K (.ref C5) (.ref C7) = some false)
    (z5_8 : PySem.W.kitOne K (.ref C5) (.ref C8) = some false)
    (z5_9 : PySem.W.kitOne K (.ref C5) (.ref C9) = some false)
    (z5_10 : PySem.W.kitOne K (.ref C5) (.ref C10) = some false)
    (z5_11 : PySem.W.kitOne K (.ref C5) (.ref C11) = some false)
    (z5_12 : PySem.W.kitOne K (.ref C5) (.ref C12) = some true)
    (z5_13 : PySem.W.kitOne K (.ref C5) (.ref C13) = some true)
    (zv5 : PySem.W.kitOne K (.ref C5) (.type "ValueError") = some true)
    (zk5 : PySem.W.kitOne K (.ref C5) (.type "KeyError") = some false)
    (z6_0 : PySem.W.kitOne K (.ref C6) (.ref C0) = some false)
    (z6_1 : PySem.W.kitOne K (.ref C6) (.ref C1) = some false)
    (z6_2 : PySem.W.kitOne K (.ref C6) (.ref C2) = some false)
    (z6_3 : PySem.W.kitOne K (.ref C6) (.ref C3) = some false)
    (z6_4 : PySem.W.kitOne K (.ref C6) (.ref C4) = some false)
    (z6_5 : PySem.W.kitOne K (.ref C6) (.ref C5) = some false)
    (z6_6 : PySem.W.kitOne K (.ref C6) (.ref C6) = some true)
    (z6_7 : PySem.W.kitOne K (.ref C6) (.ref C7) = some false)
    (z6_8 : PySem.W.kitOne K (.ref C6) (.ref C8) = some false)
    (z6_9 : PySem.W.kitOne K (.ref C6) (.ref C9) = some false)
    (z6_10 : PySem.W.kitOne K (.ref C6) (.ref C10) = some false)
    (z6_11 : PySem.W.kitOne K (.ref C6) (.ref C11) = some false)
    (z6_12 : PySem.W.kitOne K (.ref C6) (.ref C12) = some true)
    (z6_13 : PySem.W.kitOne K (.ref C6) (.ref C13) = some true)
    (zv6 : PySem.W.kitOne K (.ref C6) (.type "ValueError") = some true)
    (zk6 : PySem.W.kitOne K (.ref C6) (.type "KeyError") = some false)
    (z7_0 : PySem.W.kitOne K (.ref C7) (.ref C0) = some false)
    (z7_1 : PySem.W.kitOne K (.ref C7) (.ref C1) = some false)
    (z7_2 : PySem.W.kitOne K (.ref C7) (.ref C2) = some false)
    (z7_3 : PySem.W.kitOne K (.ref C7) (.ref C3) = some false)
    (z7_4 : PySem.W.kitOne K (.ref C7) (.ref C4) = some false)
    (z7_5 : PySem.W.kitOne K (.ref C7) (.ref C5) = some false)
    (z7_6 : PySem.W.kitOne K (.ref C7) (.ref C6) = some false)
    (z7_7 : PySem.W.kitOne K (.ref C7) (.ref C7) = some true)
    (z7_8 : PySem.W.kitOne K (.ref C7) (.ref C8) = some false)
    (z7_9 : PySem.W.kitOne K (.ref C7) (.ref C9) = some false)
    (z7_10 : PySem.W.kitOne K (.ref C7) (.ref C10) = some false)
    (z7_11 : PySem.W.kitOne K (.ref C7) (.ref C11) = some false)
    (z7_12 : PySem.W.kitOne K (.ref C7) (.ref C12) = some true)
    (z7_13 : PySem.W.kitOne K (.ref C7) (.ref C13) = some true)
    (zv7 : PySem.W.kitOne K (.ref C7) (.type "ValueError") = some true)
    (zk7 : PySem.W.kitOne K (.ref C7) (.type "KeyError") = some false)
    (z8_0 : PySem.W.kitOne K (.ref C8) (.ref C0) = some false)
    (z8_1 : PySem.W.kitOne K (.ref C8) (.ref C1) = some false)
    (z8_2 : PySem.W.kitOne K (.ref C8) (.ref C2) = some false)
    (z8_3 : PySem.W.kitOne K (.ref C8) (.ref C3) = some false)
    (z8_4 : PySem.W.kitOne K (.ref C8) (.ref C4) = some false)
    (z8_5 : PySem.W.kitOne K (.ref C8) (.ref C5) = some false)
    (z8_6 : PySem.W.kitOne K (.ref C8) (.ref C6) = some false)
    (z8_7 : PySem.W.kitOne K (.ref C8) (.ref C7) = some false)
    (z8_8 : PySem.W.kitOne K (.ref C8) (.ref C8) = some true)
    (z8_9 : PySem.W.kitOne K (.ref C8) (.ref C9) = some false)
    (z8_10 : PySem.W.kitOne K (.ref C8) (.ref C10) = some false)
    (z8_11 : PySem.W.kitOne K (.ref C8) (.ref C11) = some false)
    (z8_12 : PySem.W.kitOne K (.ref C8) (.ref C12) = some true)
    (z8_13 : PySem.W.kitOne K (.ref C8) (.ref C13) = some true)
    (zv8 : PySem.W.kitOne K (.ref C8) (.type "ValueError") = some true)
    (zk8 : PySem.W.kitOne K (.ref C8) (.type "KeyError") = some false)
    (z9_0 : PySem.W.kitOne K (.ref C9) (.ref C0) = some false)
    (z9_1 : PySem.W.kitOne K (.ref C9) (.ref C1) = some false)
    (z9_2 : PySem.W.kitOne K (.ref C9) (.ref C2) = some false)
    (z9_3 : PySem.W.kitOne K (.ref C9) (.ref C3) = some false)
    (z9_4 : PySem.W.kitOne K (.ref C9) (.ref C4) = some false)
    (z9_5 : PySem.W.kitOne K (.ref C9) (.ref C5) = some false)
    (z9_6 : PySem.W.kitOne K (.ref C9) (.ref C6) = some false)
    (z9_7 : PySem.W.kitOne K (.ref C9) (.ref C7) = some false)
    (z9_8 : PySem.W.kitOne K (.ref C9) (.ref C8) = some false)
    (z9_9 : PySem.W.kitOne K (.ref C9) (.ref C9) = some true)
    (z9_10 : PySem.W.kitOne K (.ref C9) (.ref C10) = some false)
    (z9_11 : PySem.W.kitOne K (.ref C9) (.ref C11) = some false)
    (z9_12 : PySem.W.kitOne K (.ref C9) (.ref C12) = some false)
    (z9_13 : PySem.W.kitOne K (.ref C9) (.ref C13) = some false)
    (zv9 : PySem.W.kitOne K (.ref C9) (.type "ValueError") = some false)
    (zk9 : PySem.W.kitOne K (.ref C9) (.type "KeyError") = some true)
    (z10_0 : PySem.W.kitOne K (.ref C10) (.ref C0) = some false)
    (z10_1 : PySem.W.kitOne K (.ref C10) (.ref C1) = some false)
    (z10_2 : PySem.W.kitOne K (.ref C10) (.ref C2) = some false)
    (z10_3 : PySem.W.kitOne K (.ref C10) (.ref C3) = some false)
    (z10_4 : PySem.W.kitOne K (.ref C10) (.ref C4) = some false)
    (z10_5 : PySem.W.kitOne K (.ref C10) (.ref C5) = some false)
    (z10_6 : PySem.W.kitOne K (.ref C10) (.ref C6) = some false)
    (z10_7 : PySem.W.kitOne K (.ref C10) (.ref C7) = some false)
    (z10_8 : PySem.W.kitOne K (.ref C10) (.ref C8) = some false)
    (z10_9 : PySem.W.kitOne K (.ref C10) (.ref C9) = some false)
    (z10_10 : PySem.W.kitOne K (.ref C10) (.ref C10) = some true)
    (z10_11 : PySem.W.kitOne K (.ref C10) (.ref C11) = some false)
    (z10_12 : PySem.W.kitOne K (.ref C10) (.ref C12) = some false)
    (z10_13 : PySem.W.kitOne K (.ref C10) (.ref C13) = some false)
    (zv10 : PySem.W.kitOne K (.ref C10) (.type "ValueError") = some false)
    (zk10 : PySem.W.kitOne K (.ref C10) (.type "KeyError") = some true)
    (z_isinstance : PySem.W.nsIn K mainGlobals "isinstance" = some none)
    (z_ValueError : PySem.W.nsIn K mainGlobals "ValueError" = some none)
    (z_KeyError : PySem.W.nsIn K mainGlobals "KeyError" = some none)
    (z_range : PySem.W.nsIn K mainGlobals "range" = some none)
    (z_repr : PySem.W.nsIn K mainGlobals "repr" = some none)
    (z_enumerate : PySem.W.nsIn K mainGlobals "enumerate" = some none)
    (z_tuple : PySem.W.nsIn K mainGlobals "tuple" = some none)
    (z_abs : PySem.W.nsIn K mainGlobals "abs" = some none)
    (z_len : PySem.W.nsIn K mainGlobals "len" = some none) :
    ∃ fd : FuncData, (∀ (s : Shared) (v : Value), BindsTo s fd ⟨[v], []⟩ [("_law_script", v)]) ∧ ∀ base : Heap, K.In base → base.Ns mainGlobals mg → FnOkG l.prog w K mg base CX0 6 fa fd ["_law_script"] (spLaw K) := by
  have e := hfa.symm.trans (PySem.W.mg_of X G a8)
  cases e
  have F1 := fun_mk (st := sBox) l1 c1 k1
  have b1 := F1.binds (ps := ["_law_script", "_law_base"]) fun _ _ _ _ _ _ us hl => match us, hl with | [_, _], _ => rfl
  have m1 := PySem.W.mg_of X G a1
  have F2 := fun_mk (st := sValue) l2 c2 k2
  have b2 := F2.binds (ps := ["_law_box_here", "_law_deep"]) fun _ _ _ _ _ _ us hl => match us, hl with | [_, _], _ => rfl
  have m2 := PySem.W.mg_of X G a2
  have F3 := fun_mk (st := sTake) l3 c3 k3
  have b3 := F3.binds (ps := ["_law_box_here", "_law_many"]) fun _ _ _ _ _ _ us hl => match us, hl with | [_, _], _ => rfl
  have m3 := PySem.W.mg_of X G a3
  have F4 := fun_mk (st := sPlaced) l4 c4 k4
  have b4 := F4.binds (ps := ["_law_x", "_law_y"]) fun _ _ _ _ _ _ us hl => match us, hl with | [_, _], _ => rfl
  have m4 := PySem.W.mg_of X G a4
  have F5 := fun_mk (st := sNamed) l5 c5 k5
  have b5 := F5.binds (ps := ["_law_x", "_law_y"]) fun _ _ _ _ _ _ us hl => match us, hl with | [_, _], _ => rfl
  have m5 := PySem.W.mg_of X G a5
  have F6 := fun_mk (st := sFields) l6 c6 k6
  have b6 := F6.binds (ps := ["_law_some"]) fun _ _ _ _ _ _ us hl => match us, hl with | [_], _ => rfl
  have m6 := PySem.W.mg_of X G a6
  have F7 := fun_mk (st := sClasses) l7 c7 k7
  have b7 := F7.binds (ps := ["_law_e"]) fun _ _ _ _ _ _ us hl => match us, hl with | [_], _ => rfl
  have m7 := PySem.W.mg_of X G a7
  have F8 := fun_mk (st := sLaw) l8 c8 k8
  have b8 := F8.binds (ps := ["_law_script"]) fun _ _ _ _ _ _ us hl => match us, hl with | [_], _ => rfl
  have n_isinstance := PySem.W.mg_none_of X G z_isinstance
  have n_ValueError := PySem.W.mg_none_of X G z_ValueError
  have n_KeyError := PySem.W.mg_none_of X G z_KeyError
  have n_range := PySem.W.mg_none_of X G z_range
  have n_repr := PySem.W.mg_none_of X G z_repr
  have n_enumerate := PySem.W.mg_none_of X G z_enumerate
  have n_tuple := PySem.W.mg_none_of X G z_tuple
  have n_abs := PySem.W.mg_none_of X G z_abs
  have n_len := PySem.W.mg_none_of X G z_len
  have M0 := PySem.W.mg_of X G n0
  have M1 := PySem.W.mg_of X G n1
  have M2 := PySem.W.mg_of X G n2
  have M3 := PySem.W.mg_of X G n3
  have M4 := PySem.W.mg_of X G n4
  have M5 := PySem.W.mg_of X G n5
  have M6 := PySem.W.mg_of X G n6
  have M7 := PySem.W.mg_of X G n7
  have M8 := PySem.W.mg_of X G n8
  have M9 := PySem.W.mg_of X G n9
  have M10 := PySem.W.mg_of X G n10
  have M11 := PySem.W.mg_of X G n11
  have M12 := PySem.W.mg_of X G n12
  have M13 := PySem.W.mg_of X G n13
  have G0 := fun_mk (st := sINoTree) li0 ci0 ki0
  have bg0 := G0.binds (ps := ["self", "word", "at"]) fun _ _ _ _ _ _ us hl => match us, hl with | [_, _, _], _ => rfl
  have T0 : OexC K C0 := ⟨⟨nm0, q0, N0, bs0, bm0, sn0, sub0, ab0, col0, dd0, k0_0, k1_0, k2_0, k3_0, k5_0, L0, R0⟩, sa0, ex0, ty0, kC0⟩
  have X0 : XfC K C0 := ⟨ga0, gg0, ex0, hd0⟩
  have E0 : ExcC K C0 := ⟨ga0, gg0, ex0, hd0, hc0, hn, ht, hm0⟩
  have G1 := fun_mk (st := sINoGrove) li1 ci1 ki1
  have bg1 := G1.binds (ps := ["self", "one", "other"]) fun _ _ _ _ _ _ us hl => match us, hl with | [_, _, _], _ => rfl
  have T1 : OexC K C1 := ⟨⟨nm1, q1, N1, bs1, bm1, sn1, sub1, ab1, col1, dd1, k0_1, k1_1, k2_1, k3_1, k5_1, L1, R1⟩, sa1, ex1, ty1, kC1⟩
  have X1 : XfC K C1 := ⟨ga1, gg1, ex1, hd1⟩
  have E1 : ExcC K C1 := ⟨ga1, gg1, ex1, hd1, hc1, hn, ht, hm1⟩
  have G2 := fun_mk (st := sINoWeb) li2 ci2 ki2
  have bg2 := G2.binds (ps := ["self", "word", "at"]) fun _ _ _ _ _ _ us hl => match us, hl with | [_, _, _], _ => rfl
  have T2 : OexC K C2 := ⟨⟨nm2, q2, N2, bs2, bm2, sn2, sub2, ab2, col2, dd2, k0_2, k1_2, k2_2, k3_2, k5_2, L2, R2⟩, sa2, ex2, ty2, kC2⟩
  have X2 : XfC K C2 := ⟨ga2, gg2, ex2, hd2⟩
  have E2 : ExcC K C2 := ⟨ga2, gg2, ex2, hd2, hc2, hn, ht, hm2⟩
  have G3 := fun_mk (st := sINoText) li3 ci3 ki3
  have bg3 := G3.binds (ps := ["self", "row"]) fun _ _ _ _ _ _ us hl => match us, hl with | [_, _], _ => rfl
  have T3 : OexC K C3 := ⟨⟨nm3, q3, N3, bs3, bm3, sn3, sub3, ab3, col3, dd3, k0_3, k1_3, k2_3, k3_3, k5_3, L3, R3⟩, sa3, ex3, ty3, kC3⟩
  have X3 : XfC K C3 := ⟨ga3, gg3, ex3, hd3⟩
  have E3 : ExcC K C3 := ⟨ga3, gg3, ex3, hd3, hc3, hn, ht, hm3⟩
  have G4 := fun_mk (st := sINoStanding) li4 ci4 ki4
  have bg4 := G4.binds (ps := ["self", "word", "at"]) fun _ _ _ _ _ _ us hl => match us, hl with | [_, _, _], _ => rfl
  have T4 : OexC K C4 := ⟨⟨nm4, q4, N4, bs4, bm4, sn4, sub4, ab4, col4, dd4, k0_4, k1_4, k2_4, k3_4, k5_4, L4, R4⟩, sa4, ex4, ty4, kC4⟩
  have X4 : XfC K C4 := ⟨ga4, gg4, ex4, hd4⟩
  have E4 : ExcC K C4 := ⟨ga4, gg4, ex4, hd4, hc4, hn, ht, hm4⟩
  have G5 := fun_mk (st := sINoMatch) li5 ci5 ki5
  have bg5 := G5.binds (ps := ["self", "word"]) fun _ _ _ _ _ _ us hl => match us, hl with | [_, _], _ => rfl
  have T5 : OexC K C5 := ⟨⟨nm5, q5, N5, bs5, bm5, sn5, sub5, ab5, col5, dd5, k0_5, k1_5, k2_5, k3_5, k5_5, L5, R5⟩, sa5, ex5, ty5, kC5⟩
  have X5 : XfC K C5 := ⟨ga5, gg5, ex5, hd5⟩
  have E5 : ExcC K C5 := ⟨ga5, gg5, ex5, hd5, hc5, hn, ht, hm5⟩
  have G6 := fun_mk (st := sIBroken) li6 ci6 ki6
  have bg6 := G6.binds (ps := ["self", "at"]) fun _ _ _ _ _ _ us hl => match us, hl with | [_, _], _ => rfl
  have T6 : OexC K C6 := ⟨⟨nm6, q6, N6, bs6, bm6, sn6, sub6, ab6, col6, dd6, k0_6, k1_6, k2_6, k3_6, k5_6, L6, R6⟩, sa6, ex6, ty6, kC6⟩
  have X6 : XfC K C6 := ⟨ga6, gg6, ex6, hd6⟩
  have E6 : ExcC K C6 := ⟨ga6, gg6, ex6, hd6, hc6, hn, ht, hm6⟩
  have T7 : OexC K C7 := ⟨⟨nm7, q7, N7, bs7, bm7, sn7, sub7, ab7, col7, dd7, k0_7, k1_7, k2_7, k3_7, k5_7, L7, R7⟩, sa7, ex7, ty7, kC7⟩
  have X7 : XfC K C7 := ⟨ga7, gg7, ex7, hd7⟩
  have E7 : ExcC K C7 := ⟨ga7, gg7, ex7, hd7, hc7, hn, ht, hm7⟩
  have T8 : OexC K C8 := ⟨⟨nm8, q8, N8, bs8, bm8, sn8, sub8, ab8, col8, dd8, k0_8, k1_8, k2_8, k3_8, k5_8, L8, R8⟩, sa8, ex8, ty8, kC8⟩
  have X8 : XfC K C8 := ⟨ga8, gg8, ex8, hd8⟩
  have E8 : ExcC K C8 := ⟨ga8, gg8, ex8, hd8, hc8, hn, ht, hm8⟩
  have G9 := fun_mk (st := sINoPlace) li9 ci9 ki9
  have bg9 := G9.binds (ps := ["self", "place"]) fun _ _ _ _ _ _ us hl => match us, hl with | [_, _], _ => rfl
  have T9 : OexB K C9 := OexB.key L9 sa9 kC9
  have X9 : XfC K C9 := ⟨ga9, gg9, ex9, hd9⟩
  have E9 : ExcC K C9 := ⟨ga9, gg9, ex9, hd9, hc9, hn, ht, hm9⟩
  have G10 := fun_mk (st := sINoWalker) li10 ci10 ki10
  have bg10 := G10.binds (ps := ["self", "walker"]) fun _ _ _ _ _ _ us hl => match us, hl with | [_, _], _ => rfl
  have T10 : OexB K C10 := OexB.key L10 sa10 kC10
  have X10 : XfC K C10 := ⟨ga10, gg10, ex10, hd10⟩
  have E10 : ExcC K C10 := ⟨ga10, gg10, ex10, hd10, hc10, hn, ht, hm10⟩
  have TV : TxtV mg := ⟨n_tuple, n_range⟩
  have TB : TxtB mg := ⟨n_abs, n_len⟩
  have TL : TxtL mg := ⟨n_range, n_repr, n_enumerate⟩
  have TC : TxtC mg (of14 C0 C1 C2 C3 C4 C5 C6 C7 C8 C9 C10 C11 C12 C13) := ⟨n_isinstance, n_ValueError, n_KeyError, M11, M12, M13⟩
  have Z : Kits K (of14 C0 C1 C2 C3 C4 C5 C6 C7 C8 C9 C10 C11 C12 C13) := by
    refine ⟨fun i hi j hj => ?_, fun i hi => ?_, fun i hi => ?_, fun i hi => ?_⟩
    · match i, hi, j, hj with
      | 0, _, 0, _ => exact z0_0
      | 0, _, 1, _ => exact z0_1
      | 0, _, 2, _ => exact z0_2
      | 0, _, 3, _ => exact z0_3
      | 0, _, 4, _ => exact z0_4
      | 0, _, 5, _ => exact z0_5
      | 0, _, 6, _ => exact z0_6
      | 0, _, 7, _ => exact z0_7
      | 0, _, 8, _ => exact z0_8
      | 0, _, 9, _ => exact z0_9
      | 0, _, 10, _ => exact z0_10
      | 0, _, 11, _ => exact z0_11
      | 0, _, 12, _ => exact z0_12
      | 0, _, 13, _ => exact z0_13
      | 1, _, 0, _ => exact z1_0
      | 1, _, 1, _ => exact z1_1
      | 1, _, 2, _ => exact z1_2
      | 1, _, 3, _ => exact z1_3
      | 1, _, 4, _ => exact z1_4
      | 1, _, 5, _ => exact z1_5
      | 1, _, 6, _ => exact z1_6
      | 1, _, 7, _ => exact z1_7
      | 1, _, 8, _ => exact z1_8
      | 1, _, 9, _ => exact z1_9
      | 1, _, 10, _ => exact z1_10
      | 1, _, 11, _ => exact z1_11
      | 1, _, 12, _ => exact z1_12
      | 1, _, 13, _ => exact z1_13
      | 2, _, 0, _ => exact z2_0
      | 2, _, 1, _ => exact z2_1
      | 2, _, 2, _ => exact z2_2
      | 2, _, 3, _ => exact z2_3
      | 2, _, 4, _ => exact z2_4
      | 2, _, 5, _ => exact z2_5
      | 2, _, 6, _ => exact z2_6
      | 2, _, 7, _ => exact z2_7
      | 2, _, 8, _ => exact z2_8
      | 2, _, 9, _ => exact z2_9
      | 2, _, 10, _ => exact z2_10
      | 2, _, 11, _ => exact z2_11
      | 2, _, 12, _ => exact z2_12
      | 2, _, 13, _ => exact z2_13
      | 3, _, 0, _ => exact z3_0
      | 3, _, 1, _ => exact z3_1
      | 3, _, 2, _ => exact z3_2
      | 3, _, 3, _ => exact z3_3
      | 3, _, 4, _ => exact z3_4
      | 3, _, 5, _ => exact z3_5
      | 3, _, 6, _ => exact z3_6
      | 3, _, 7, _ => exact z3_7
      | 3, _, 8, _ => exact z3_8
      | 3, _, 9, _ => exact z3_9
      | 3, _, 10, _ => exact z3_10
      | 3, _, 11, _ => exact z3_11
      | 3, _, 12, _ => exact z3_12
      | 3, _, 13, _ => exact z3_13
      | 4, _, 0, _ => exact z4_0
      | 4, _, 1, _ => exact z4_1
      | 4, _, 2, _ => exact z4_2
      | 4, _, 3, _ => exact z4_3
      | 4, _, 4, _ => exact z4_4
      | 4, _, 5, _ => exact z4_5
      | 4, _, 6, _ => exact z4_6
      | 4, _, 7, _ => exact z4_7
      | 4, _, 8, _ => exact z4_8
      | 4, _, 9, _ => exact z4_9
      | 4, _, 10, _ => exact z4_10
      | 4, _, 11, _ => exact z4_11
      | 4, _, 12, _ => exact z4_12
      | 4, _, 13, _ => exact z4_13
      | 5, _, 0, _ => exact z5_0
      | 5, _, 1, _ => exact z5_1
      | 5, _, 2, _ => exact z5_2
      | 5, _, 3, _ => exact z5_3
      | 5, _, 4, _ => exact z5_4
      | 5, _, 5, _ => exact z5_5
      | 5, _, 6, _ => exact z5_6
      | 5, _, 7, _ => exact z5_7
      | 5, _, 8, _ => exact z5_8
      | 5, _, 9, _ => exact z5_9
      | 5, _, 10, _ => exact z5_10
      | 5, _, 11, _ => exact z5_11
      | 5, _, 12, _ => exact z5_12
      | 5, _, 13, _ => exact z5_13
      | 6, _, 0, _ => exact z6_0
      | 6, _, 1, _ => exact z6_1
      | 6, _, 2, _ => exact z6_2
      | 6, _, 3, _ => exact z6_3
      | 6, _, 4, _ => exact z6_4
      | 6, _, 5, _ => exact z6_5
      | 6, _, 6, _ => exact z6_6
      | 6, _, 7, _ => exact z6_7
      | 6, _, 8, _ => exact z6_8
      | 6, _, 9, _ => exact z6_9
      | 6, _, 10, _ => exact z6_10
      | 6, _, 11, _ => exact z6_11
      | 6, _, 12, _ => exact z6_12
      | 6, _, 13, _ => exact z6_13
      | 7, _, 0, _ => exact z7_0
      | 7, _, 1, _ => exact z7_1
      | 7, _, 2, _ => exact z7_2
      | 7, _, 3, _ => exact z7_3
      | 7, _, 4, _ => exact z7_4
      | 7, _, 5, _ => exact z7_5
      | 7, _, 6, _ => exact z7_6
      | 7, _, 7, _ => exact z7_7
      | 7, _, 8, _ => exact z7_8
      | 7, _, 9, _ => exact z7_9
      | 7, _, 10, _ => exact z7_10
      | 7, _, 11, _ => exact z7_11
      | 7, _, 12, _ => exact z7_12
      | 7, _, 13, _ => exact z7_13
      | 8, _, 0, _ => exact z8_0
      | 8, _, 1, _ => exact z8_1
      | 8, _, 2, _ => exact z8_2
      | 8, _, 3, _ => exact z8_3
      | 8, _, 4, _ => exact z8_4
      | 8, _, 5, _ => exact z8_5
      | 8, _, 6, _ => exact z8_6
      | 8, _, 7, _ => exact z8_7
      | 8, _, 8, _ => exact z8_8
      | 8, _, 9, _ => exact z8_9
      | 8, _, 10, _ => exact z8_10
      | 8, _, 11, _ => exact z8_11
      | 8, _, 12, _ => exact z8_12
      | 8, _, 13, _ => exact z8_13
      | 9, _, 0, _ => exact z9_0
      | 9, _, 1, _ => exact z9_1
      | 9, _, 2, _ => exact z9_2
      | 9, _, 3, _ => exact z9_3
      | 9, _, 4, _ => exact z9_4
      | 9, _, 5, _ => exact z9_5
      | 9, _, 6, _ => exact z9_6
      | 9, _, 7, _ => exact z9_7
      | 9, _, 8, _ => exact z9_8
      | 9, _, 9, _ => exact z9_9
      | 9, _, 10, _ => exact z9_10
      | 9, _, 11, _ => exact z9_11
      | 9, _, 12, _ => exact z9_12
      | 9, _, 13, _ => exact z9_13
      | 10, _, 0, _ => exact z10_0
      | 10, _, 1, _ => exact z10_1
      | 10, _, 2, _ => exact z10_2
      | 10, _, 3, _ => exact z10_3
      | 10, _, 4, _ => exact z10_4
      | 10, _, 5, _ => exact z10_5
      | 10, _, 6, _ => exact z10_6
      | 10, _, 7, _ => exact z10_7
      | 10, _, 8, _ => exact z10_8
      | 10, _, 9, _ => exact z10_9
      | 10, _, 10, _ => exact z10_10
      | 10, _, 11, _ => exact z10_11
      | 10, _, 12, _ => exact z10_12
      | 10, _, 13, _ => exact z10_13
      | (i + 11), h, _, _ => omega
      | _, _, (j + 14), h => omega
    · match i, hi with
      | 0, _ => exact zv0
      | 1, _ => exact zv1
      | 2, _ => exact zv2
      | 3, _ => exact zv3
      | 4, _ => exact zv4
      | 5, _ => exact zv5
      | 6, _ => exact zv6
      | 7, _ => exact zv7
      | 8, _ => exact zv8
      | 9, _ => exact zv9
      | 10, _ => exact zv10
      | (i + 11), h => omega
    · match i, hi with
      | 0, _ => exact zk0
      | 1, _ => exact zk1
      | 2, _ => exact zk2
      | 3, _ => exact zk3
      | 4, _ => exact zk4
      | 5, _ => exact zk5
      | 6, _ => exact zk6
      | 7, _ => exact zk7
      | 8, _ => exact zk8
      | 9, _ => exact zk9
      | 10, _ => exact zk10
      | (i + 11), h => omega
    · match i, hi with
      | 0, _ => exact E0
      | 1, _ => exact E1
      | 2, _ => exact E2
      | 3, _ => exact E3
      | 4, _ => exact E4
      | 5, _ => exact E5
      | 6, _ => exact E6
      | 7, _ => exact E7
      | 8, _ => exact E8
      | 9, _ => exact E9
      | 10, _ => exact E10
      | (i + 11), h => omega
  refine ⟨PySem.W.fnOf "law" "law" (defArgs sLaw) (defBody sLaw) (defScope sLaw) .none kV8 dc8 pm8 an8 cd8 ct8, fun s v => .of_eq rfl, fun base _ _ => ?_⟩
  have cTake : Cal l.prog w K mg base 1 "_law_take" ["_law_box_here", "_law_many"] spTake := ⟨f3, _, ok_take F3 TB, m3, k3, b3⟩
  have ER : Errs l.prog w K mg base (of14 C0 C1 C2 C3 C4 C5 C6 C7 C8 C9 C10 C11 C12 C13) := { c0 := ⟨T0, ⟨g0, _, ⟨ii0, ti0⟩, ok_NoTree G0 T0 f0_word f0_at, bg0, kb2 (fun us ws h1 h2 => match us, ws, h1, h2 with | [_], [_, _], _, _ => rfl)⟩, M0, X0, f0_word, f0_at⟩, c1 := ⟨T1, ⟨g1, _, ⟨ii1, ti1⟩, ok_NoGrove G1 T1 f1_one f1_other, bg1, kb2 (fun us ws h1 h2 => match us, ws, h1, h2 with | [_], [_, _], _, _ => rfl)⟩, M1, X1, f1_one, f1_other⟩, c2 := ⟨T2, ⟨g2, _, ⟨ii2, ti2⟩, ok_NoWeb G2 T2 f2_word f2_at, bg2, kb2 (fun us ws h1 h2 => match us, ws, h1, h2 with | [_], [_, _], _, _ => rfl)⟩, M2, X2, f2_word, f2_at⟩, c3 := ⟨(OexC.b T3), ⟨g3, _, ⟨ii3, ti3⟩, ok_NoText G3 (OexC.b T3) f3_row, bg3, kb1 (fun us ws h1 h2 => match us, ws, h1, h2 with | [_], [_], _, _ => rfl)⟩, M3, X3, f3_row⟩, c4 := ⟨T4, ⟨g4, _, ⟨ii4, ti4⟩, ok_NoStanding G4 T4 f4_word f4_at, bg4, kb2 (fun us ws h1 h2 => match us, ws, h1, h2 with | [_], [_, _], _, _ => rfl)⟩, M4, X4, f4_word, f4_at⟩, c5 := ⟨(OexC.b T5), ⟨g5, _, ⟨ii5, ti5⟩, ok_NoMatch G5 (OexC.b T5) f5_word, bg5, kb1 (fun us ws h1 h2 => match us, ws, h1, h2 with | [_], [_], _, _ => rfl)⟩, M5, X5, f5_word⟩, c6 := ⟨(OexC.b T6), ⟨g6, _, ⟨ii6, ti6⟩, ok_Broken G6 (OexC.b T6) f6_at, bg6, kb1 (fun us ws h1 h2 => match us, ws, h1, h2 with | [_], [_], _, _ => rfl)⟩, M6, X6, f6_at⟩, c7 := ⟨T7, ii7, M7⟩, c8 := ⟨T8, ii8, M8⟩, c9 := ⟨T9, ⟨g9, _, ⟨ii9, ti9⟩, ok_NoPlace G9 T9 f9_place, bg9, kb1 (fun us ws h1 h2 => match us, ws, h1, h2 with | [_], [_], _, _ => rfl)⟩, M9, X9, f9_place⟩, c10 := ⟨T10, ⟨g10, _, ⟨ii10, ti10⟩, ok_NoWalker G10 T10 f10_walker, bg10, kb1 (fun us ws h1 h2 => match us, ws, h1, h2 with | [_], [_], _, _ => rfl)⟩, M10, X10, f10_walker⟩ }
  exact ok_law F8 { T := TL, cBox := ⟨f1, _, ok_box F1 TB, m1, k1, b1⟩, cValue := ⟨f2, _, ok_value F2 TV cTake m2 k2 b2 3, m2, k2, b2⟩, cPlaced := ⟨f4, _, ok_placed F4 ER, m4, k4, b4⟩, cNamed := ⟨f5, _, ok_named F5 ER, m5, k5, b5⟩, cFields := ⟨f6, _, ok_fields F6 ER, m6, k6, b6⟩, cClasses := ⟨f7, _, ok_classes F7 ER Z TC, m7, k7, b7⟩ }
theorem walk {l : PySem.W.OpenLaw} {q : Program} {loose : List Str} {XP : (Str → Option Value) → Heap → Prop} {YP : World → Heap → Prop} {d : DefRec} {K : Params → PySem.W.Frag} (hn : l.most = some 63) (hdf : d.params.defaults = []) (hY : ∀ (w : World) (h : Heap), YP w h → (K w.params).In h)
    (F : ∀ (w : World) (mg : Str → Option Value) (fa : Addr) (h : Heap), (K w.params).In h → h.Ns mainGlobals mg → mg d.name = some (.ref fa) →
      ∃ fd : FuncData, (∀ (s : Shared) (u : Value), BindsTo s fd ⟨[u], []⟩ [("_law_script", u)]) ∧ ∀ base : Heap, (K w.params).In base → base.Ns mainGlobals mg → FnOkG l.prog w (K w.params) mg base CX0 6 fa fd ["_law_script"] (spLaw (K w.params))) :
    PySem.W.WalkO q loose XP YP l.row.toRowW d [] (fun f vs => PySem.call f vs) :=
  Ow.walk_G (n := 63) (k := 6) (x := "_law_script") (sp := fun w => spLaw (K w.params)) hn (by decide) hdf ⟨rfl, by decide, by decide⟩ hY F fun _ _ a ms hl hS => ⟨a, ms, rfl, hS, hl, fun _ => rfl⟩
end Tg
open PySem PySem.W PyProof.Rows
set_option maxRecDepth 100000 in
set_option maxHeartbeats 0 in
theorem PySem.Challenge.cw_towgrove_k01_errors_and_their_attributes_holds : PySem.Challenge.rw_towgrove_k01_errors_and_their_attributes.Holds := by
  w_on; o_law; k_head; (case hw => w_witness2)
  k_fill
  refine Tg.walk (l := PySem.Challenge.rw_towgrove_k01_errors_and_their_attributes) rfl rfl (fun w h Y => PySem.W.kIn_of Y) ?F
  case F =>
    intro w mg fa h KX G hmg
    refine' Tg.all_mk KX G hmg ?y_a1 ?y_l1 ?y_c1 ?y_k1 ?y_a2 ?y_l2 ?y_c2 ?y_k2 ?y_a3 ?y_l3 ?y_c3 ?y_k3 ?y_a4 ?y_l4 ?y_c4 ?y_k4 ?y_a5 ?y_l5 ?y_c5 ?y_k5 ?y_a6 ?y_l6 ?y_c6 ?y_k6 ?y_a7 ?y_l7 ?y_c7 ?y_k7 ?y_a8 ?y_l8 ?y_c8 ?y_k8 ?y_n0 ?y_n1 ?y_n2 ?y_n3 ?y_n4 ?y_n5 ?y_n6 ?y_n7 ?y_n8 ?y_n9 ?y_n10 ?y_n11 ?y_n12 ?y_n13 ?y_kC0 ?y_L0 ?y_R0 ?y_sa0 ?y_ex0 ?y_ty0 ?y_ga0 ?y_gg0 ?y_hd0 ?y_hc0 ?y_hm0 ?y_f0_word ?y_f0_at ?y_ii0 ?y_ti0 ?y_li0 ?y_ci0 ?y_ki0 ?y_kC1 ?y_L1 ?y_R1 ?y_sa1 ?y_ex1 ?y_ty1 ?y_ga1 ?y_gg1 ?y_hd1 ?y_hc1 ?y_hm1 ?y_f1_one ?y_f1_other ?y_ii1 ?y_ti1 ?y_li1 ?y_ci1 ?y_ki1 ?y_kC2 ?y_L2 ?y_R2 ?y_sa2 ?y_ex2 ?y_ty2 ?y_ga2 ?y_gg2 ?y_hd2 ?y_hc2 ?y_hm2 ?y_f2_word ?y_f2_at ?y_ii2 ?y_ti2 ?y_li2 ?y_ci2 ?y_ki2 ?y_kC3 ?y_L3 ?y_R3 ?y_sa3 ?y_ex3 ?y_ty3 ?y_ga3 ?y_gg3 ?y_hd3 ?y_hc3 ?y_hm3 ?y_f3_row ?y_ii3 ?y_ti3 ?y_li3 ?y_ci3 ?y_ki3 ?y_kC4 ?y_L4 ?y_R4 ?y_sa4 ?y_ex4 ?y_ty4 ?y_ga4 ?y_gg4 ?y_hd4 ?y_hc4 ?y_hm4 ?y_f4_word ?y_f4_at ?y_ii4 ?y_ti4 ?y_li4 ?y_ci4 ?y_ki4 ?y_kC5 ?y_L5 ?y_R5 ?y_sa5 ?y_ex5 ?y_ty5 ?y_ga5 ?y_gg5 ?y_hd5 ?y_hc5 ?y_hm5 ?y_f5_word ?y_ii5 ?y_ti5 ?y_li5 ?y_ci5 ?y_ki5 ?y_kC6 ?y_L6 ?y_R6 ?y_sa6 ?y_ex6 ?y_ty6 ?y_ga6 ?y_gg6 ?y_hd6 ?y_hc6 ?y_hm6 ?y_f6_at ?y_ii6 ?y_ti6 ?y_li6 ?y_ci6 ?y_ki6 ?y_kC7 ?y_L7 ?y_R7 ?y_sa7 ?y_ex7 ?y_ty7 ?y_ga7 ?y_gg7 ?y_hd7 ?y_hc7 ?y_hm7 ?y_ii7 ?y_kC8 ?y_L8 ?y_R8 ?y_sa8 ?y_ex8 ?y_ty8 ?y_ga8 ?y_gg8 ?y_hd8 ?y_hc8 ?y_hm8 ?y_ii8 ?y_kC9 ?y_L9 ?y_sa9 ?y_ex9 ?y_ty9 ?y_ga9 ?y_gg9 ?y_hd9 ?y_hc9 ?y_hm9 ?y_f9_place ?y_ii9 ?y_ti9 ?y_li9 ?y_ci9 ?y_ki9 ?y_kC10 ?y_L10 ?y_sa10 ?y_ex10 ?y_ty10 ?y_ga10 ?y_gg10 ?y_hd10 ?y_hc10 ?y_hm10 ?y_f10_walker ?y_ii10 ?y_ti10 ?y_li10 ?y_ci10 ?y_ki10 ?y_kC11 ?y_kC12 ?y_kC13 ?y_hn ?y_ht ?y_z0_0 ?y_z0_1 ?y_z0_2 ?y_z0_3 ?y_z0_4 ?y_z0_5 ?y_z0_6 ?y_z0_7 ?y_z0_8 ?y_z0_9 ?y_z0_10 ?y_z0_11 ?y_z0_12 ?y_z0_13 ?y_zv0 ?y_zk0 ?y_z1_0 ?y_z1_1 ?y_z1_2 ?y_z1_3 ?y_z1_4 ?y_z1_5 ?y_z1_6 ?y_z1_7 ?y_z1_8 ?y_z1_9 ?y_z1_10 ?y_z1_11 ?y_z1_12 ?y_z1_13 ?y_zv1 ?y_zk1 ?y_z2_0 ?y_z2_1 ?y_z2_2 ?y_z2_3 ?y_z2_4 ?y_z2_5 ?y_z2_6 ?y_z2_7 ?y_z2_8 ?y_z2_9 ?y_z2_10 ?y_z2_11 ?y_z2_12 ?y_z2_13 ?y_zv2 ?y_zk2 ?y_z3_0 ?y_z3_1 ?y_z3_2 ?y_z3_3 ?y_z3_4 ?y_z3_5 ?y_z3_6 ?y_z3_7 ?y_z3_8 ?y_z3_9 ?y_z3_10 ?y_z3_11 ?y_z3_12 ?y_z3_13 ?y_zv3 ?y_zk3 ?y_z4_0 ?y_z4_1 ?y_z4_2 ?y_z4_3 ?y_z4_4 ?y_z4_5 ?y_z4_6 ?y_z4_7 ?y_z4_8 ?y_z4_9 ?y_z4_10 ?y_z4_11 ?y_z4_12 ?y_z4_13 ?y_zv4 ?y_zk4 ?y_z5_0 ?y_z5_1 ?y_z5_2 ?y_z5_3 ?y_z5_4 ?y_z5_5 ?y_z5_6 ?y_z5_7 ?y_z5_8 ?y_z5_9 ?y_z5_10 ?y_z5_11 ?y_z5_12 ?y_z5_13 ?y_zv5 ?y_zk5 ?y_z6_0 ?y_z6_1 ?y_z6_2 ?y_z6_3 ?y_z6_4 ?y_z6_5 ?y_z6_6 ?y_z6_7 ?y_z6_8 ?y_z6_9 ?y_z6_10 ?y_z6_11 ?y_z6_12 ?y_z6_13 ?y_zv6 ?y_zk6 ?y_z7_0 ?y_z7_1 ?y_z7_2 ?y_z7_3 ?y_z7_4 ?y_z7_5 ?y_z7_6 ?y_z7_7 ?y_z7_8 ?y_z7_9 ?y_z7_10 ?y_z7_11 ?y_z7_12 ?y_z7_13 ?y_zv7 ?y_zk7 ?y_z8_0 ?y_z8_1 ?y_z8_2 ?y_z8_3 ?y_z8_4 ?y_z8_5 ?y_z8_6 ?y_z8_7 ?y_z8_8 ?y_z8_9 ?y_z8_10 ?y_z8_11 ?y_z8_12 ?y_z8_13 ?y_zv8 ?y_zk8 ?y_z9_0 ?y_z9_1 ?y_z9_2 ?y_z9_3 ?y_z9_4 ?y_z9_5 ?y_z9_6 ?y_z9_7 ?y_z9_8 ?y_z9_9 ?y_z9_10 ?y_z9_11 ?y_z9_12 ?y_z9_13 ?y_zv9 ?y_zk9 ?y_z10_0 ?y_z10_1 ?y_z10_2 ?y_z10_3 ?y_z10_4 ?y_z10_5 ?y_z10_6 ?y_z10_7 ?y_z10_8 ?y_z10_9 ?y_z10_10 ?y_z10_11 ?y_z10_12 ?y_z10_13 ?y_zv10 ?y_zk10 ?y_z_isinstance ?y_z_ValueError ?y_z_KeyError ?y_z_range ?y_z_repr ?y_z_enumerate ?y_z_tuple ?y_z_abs ?y_z_len
    (case y_a1 => k_is); (case y_l1 => k_is); (case y_c1 => k_is); (case y_k1 => k_is); (case y_a2 => k_is); (case y_l2 => k_is); (case y_c2 => k_is); (case y_k2 => k_is)
    (case y_a3 => k_is); (case y_l3 => k_is); (case y_c3 => k_is); (case y_k3 => k_is); (case y_a4 => k_is); (case y_l4 => k_is); (case y_c4 => k_is); (case y_k4 => k_is)
    (case y_a5 => k_is); (case y_l5 => k_is); (case y_c5 => k_is); (case y_k5 => k_is); (case y_a6 => k_is); (case y_l6 => k_is); (case y_c6 => k_is); (case y_k6 => k_is)
    (case y_a7 => k_is); (case y_l7 => k_is); (case y_c7 => k_is); (case y_k7 => k_is); (case y_a8 => k_is); (case y_l8 => k_is); (case y_c8 => k_is); (case y_k8 => k_is)
    (case y_n0 => k_is); (case y_n1 => k_is); (case y_n2 => k_is); (case y_n3 => k_is); (case y_n4 => k_is); (case y_n5 => k_is); (case y_n6 => k_is); (case y_n7 => k_is)
    (case y_n8 => k_is); (case y_n9 => k_is); (case y_n10 => k_is); (case y_n11 => k_is); (case y_n12 => k_is); (case y_n13 => k_is); (case y_kC0 => k_is); (case y_L0 => k_is)
    (case y_R0 => first | exact rfl | decide +kernel); (case y_sa0 => k_is); (case y_ex0 => k_is); (case y_ty0 => k_is); (case y_ga0 => k_is); (case y_gg0 => k_is); (case y_hd0 => k_is); (case y_hc0 => k_is)
    (case y_hm0 => k_is); (case y_f0_word => k_is); (case y_f0_at => k_is); (case y_ii0 => k_is); (case y_ti0 => k_is); (case y_li0 => k_is); (case y_ci0 => k_is); (case y_ki0 => k_is)
    (case y_kC1 => k_is); (case y_L1 => k_is); (case y_R1 => first | exact rfl | decide +kernel); (case y_sa1 => k_is); (case y_ex1 => k_is); (case y_ty1 => k_is); (case y_ga1 => k_is); (case y_gg1 => k_is)
    (case y_hd1 => k_is); (case y_hc1 => k_is); (case y_hm1 => k_is); (case y_f1_one => k_is); (case y_f1_other => k_is); (case y_ii1 => k_is); (case y_ti1 => k_is); (case y_li1 => k_is)
    (case y_ci1 => k_is); (case y_ki1 => k_is); (case y_kC2 => k_is); (case y_L2 => k_is); (case y_R2 => first | exact rfl | decide +kernel); (case y_sa2 => k_is); (case y_ex2 => k_is); (case y_ty2 => k_is)
    (case y_ga2 => k_is); (case y_gg2 => k_is); (case y_hd2 => k_is); (case y_hc2 => k_is); (case y_hm2 => k_is); (case y_f2_word => k_is); (case y_f2_at => k_is); (case y_ii2 => k_is)
    (case y_ti2 => k_is); (case y_li2 => k_is); (case y_ci2 => k_is); (case y_ki2 => k_is); (case y_kC3 => k_is); (case y_L3 => k_is); (case y_R3 => first | exact rfl | decide +kernel); (case y_sa3 => k_is)
    (case y_ex3 => k_is); (case y_ty3 => k_is); (case y_ga3 => k_is); (case y_gg3 => k_is); (case y_hd3 => k_is); (case y_hc3 => k_is); (case y_hm3 => k_is); (case y_f3_row => k_is)
    (case y_ii3 => k_is); (case y_ti3 => k_is); (case y_li3 => k_is); (case y_ci3 => k_is); (case y_ki3 => k_is); (case y_kC4 => k_is); (case y_L4 => k_is); (case y_R4 => first | exact rfl | decide +kernel)
    (case y_sa4 => k_is); (case y_ex4 => k_is); (case y_ty4 => k_is); (case y_ga4 => k_is); (case y_gg4 => k_is); (case y_hd4 => k_is); (case y_hc4 => k_is); (case y_hm4 => k_is)
    (case y_f4_word => k_is); (case y_f4_at => k_is); (case y_ii4 => k_is); (case y_ti4 => k_is); (case y_li4 => k_is); (case y_ci4 => k_is); (case y_ki4 => k_is); (case y_kC5 => k_is)
    (case y_L5 => k_is); (case y_R5 => first | exact rfl | decide +kernel); (case y_sa5 => k_is); (case y_ex5 => k_is); (case y_ty5 => k_is); (case y_ga5 => k_is); (case y_gg5 => k_is); (case y_hd5 => k_is)
    (case y_hc5 => k_is); (case y_hm5 => k_is); (case y_f5_word => k_is); (case y_ii5 => k_is); (case y_ti5 => k_is); (case y_li5 => k_is); (case y_ci5 => k_is); (case y_ki5 => k_is)
    (case y_kC6 => k_is); (case y_L6 => k_is); (case y_R6 => first | exact rfl | decide +kernel); (case y_sa6 => k_is); (case y_ex6 => k_is); (case y_ty6 => k_is); (case y_ga6 => k_is); (case y_gg6 => k_is)
    (case y_hd6 => k_is); (case y_hc6 => k_is); (case y_hm6 => k_is); (case y_f6_at => k_is); (case y_ii6 => k_is); (case y_ti6 => k_is); (case y_li6 => k_is); (case y_ci6 => k_is)
    (case y_ki6 => k_is); (case y_kC7 => k_is); (case y_L7 => k_is); (case y_R7 => first | exact rfl | decide +kernel); (case y_sa7 => k_is); (case y_ex7 => k_is); (case y_ty7 => k_is); (case y_ga7 => k_is)
    (case y_gg7 => k_is); (case y_hd7 => k_is); (case y_hc7 => k_is); (case y_hm7 => k_is); (case y_ii7 => k_is); (case y_kC8 => k_is); (case y_L8 => k_is); (case y_R8 => first | exact rfl | decide +kernel)
    (case y_sa8 => k_is); (case y_ex8 => k_is); (case y_ty8 => k_is); (case y_ga8 => k_is); (case y_gg8 => k_is); (case y_hd8 => k_is); (case y_hc8 => k_is); (case y_hm8 => k_is)
    (case y_ii8 => k_is); (case y_kC9 => k_is); (case y_L9 => k_is); (case y_sa9 => k_is); (case y_ex9 => k_is); (case y_ty9 => k_is); (case y_ga9 => k_is); (case y_gg9 => k_is)
    (case y_hd9 => k_is); (case y_hc9 => k_is); (case y_hm9 => k_is); (case y_f9_place => k_is); (case y_ii9 => k_is); (case y_ti9 => k_is); (case y_li9 => k_is); (case y_ci9 => k_is)
    (case y_ki9 => k_is); (case y_kC10 => k_is); (case y_L10 => k_is); (case y_sa10 => k_is); (case y_ex10 => k_is); (case y_ty10 => k_is); (case y_ga10 => k_is); (case y_gg10 => k_is)
    (case y_hd10 => k_is); (case y_hc10 => k_is); (case y_hm10 => k_is); (case y_f10_walker => k_is); (case y_ii10 => k_is); (case y_ti10 => k_is); (case y_li10 => k_is); (case y_ci10 => k_is)
    (case y_ki10 => k_is); (case y_kC11 => k_is); (case y_kC12 => k_is); (case y_kC13 => k_is); (case y_hn => k_is); (case y_ht => k_is); (case y_z0_0 => kit_is); (case y_z0_1 => kit_is)
    (case y_z0_2 => kit_is); (case y_z0_3 => kit_is); (case y_z0_4 => kit_is); (case y_z0_5 => kit_is); (case y_z0_6 => kit_is); (case y_z0_7 => kit_is); (case y_z0_8 => kit_is); (case y_z0_9 => kit_is)
    (case y_z0_10 => kit_is); (case y_z0_11 => kit_is); (case y_z0_12 => kit_is); (case y_z0_13 => kit_is); (case y_zv0 => kit_is); (case y_zk0 => kit_is); (case y_z1_0 => kit_is); (case y_z1_1 => kit_is)
    (case y_z1_2 => kit_is); (case y_z1_3 => kit_is); (case y_z1_4 => kit_is); (case y_z1_5 => kit_is); (case y_z1_6 => kit_is); (case y_z1_7 => kit_is); (case y_z1_8 => kit_is); (case y_z1_9 => kit_is)
    (case y_z1_10 => kit_is); (case y_z1_11 => kit_is); (case y_z1_12 => kit_is); (case y_z1_13 => kit_is); (case y_zv1 => kit_is); (case y_zk1 => kit_is); (case y_z2_0 => kit_is); (case y_z2_1 => kit_is)
    (case y_z2_2 => kit_is); (case y_z2_3 => kit_is); (case y_z2_4 => kit_is); (case y_z2_5 => kit_is); (case y_z2_6 => kit_is); (case y_z2_7 => kit_is); (case y_z2_8 => kit_is); (case y_z2_9 => kit_is)
    (case y_z2_10 => kit_is); (case y_z2_11 => kit_is); (case y_z2_12 => kit_is); (case y_z2_13 => kit_is); (case y_zv2 => kit_is); (case y_zk2 => kit_is); (case y_z3_0 => kit_is); (case y_z3_1 => kit_is)
    (case y_z3_2 => kit_is); (case y_z3_3 => kit_is); (case y_z3_4 => kit_is); (case y_z3_5 => kit_is); (case y_z3_6 => kit_is); (case y_z3_7 => kit_is); (case y_z3_8 => kit_is); (case y_z3_9 => kit_is)
    (case y_z3_10 => kit_is); (case y_z3_11 => kit_is); (case y_z3_12 => kit_is); (case y_z3_13 => kit_is); (case y_zv3 => kit_is); (case y_zk3 => kit_is); (case y_z4_0 => kit_is); (case y_z4_1 => kit_is)
    (case y_z4_2 => kit_is); (case y_z4_3 => kit_is); (case y_z4_4 => kit_is); (case y_z4_5 => kit_is); (case y_z4_6 => kit_is); (case y_z4_7 => kit_is); (case y_z4_8 => kit_is); (case y_z4_9 => kit_is)
    (case y_z4_10 => kit_is); (case y_z4_11 => kit_is); (case y_z4_12 => kit_is); (case y_z4_13 => kit_is); (case y_zv4 => kit_is); (case y_zk4 => kit_is); (case y_z5_0 => kit_is); (case y_z5_1 => kit_is)
    (case y_z5_2 => kit_is); (case y_z5_3 => kit_is); (case y_z5_4 => kit_is); (case y_z5_5 => kit_is); (case y_z5_6 => kit_is); (case y_z5_7 => kit_is); (case y_z5_8 => kit_is); (case y_z5_9 => kit_is)
    (case y_z5_10 => kit_is); (case y_z5_11 => kit_is); (case y_z5_12 => kit_is); (case y_z5_13 => kit_is); (case y_zv5 => kit_is); (case y_zk5 => kit_is); (case y_z6_0 => kit_is); (case y_z6_1 => kit_is)
    (case y_z6_2 => kit_is); (case y_z6_3 => kit_is); (case y_z6_4 => kit_is); (case y_z6_5 => kit_is); (case y_z6_6 => kit_is); (case y_z6_7 => kit_is); (case y_z6_8 => kit_is); (case y_z6_9 => kit_is)
    (case y_z6_10 => kit_is); (case y_z6_11 => kit_is); (case y_z6_12 => kit_is); (case y_z6_13 => kit_is); (case y_zv6 => kit_is); (case y_zk6 => kit_is); (case y_z7_0 => kit_is); (case y_z7_1 => kit_is)
    (case y_z7_2 => kit_is); (case y_z7_3 => kit_is); (case y_z7_4 => kit_is); (case y_z7_5 => kit_is); (case y_z7_6 => kit_is); (case y_z7_7 => kit_is); (case y_z7_8 => kit_is); (case y_z7_9 => kit_is)
    (case y_z7_10 => kit_is); (case y_z7_11 => kit_is); (case y_z7_12 => kit_is); (case y_z7_13 => kit_is); (case y_zv7 => kit_is); (case y_zk7 => kit_is); (case y_z8_0 => kit_is); (case y_z8_1 => kit_is)
    (case y_z8_2 => kit_is); (case y_z8_3 => kit_is); (case y_z8_4 => kit_is); (case y_z8_5 => kit_is); (case y_z8_6 => kit_is); (case y_z8_7 => kit_is); (case y_z8_8 => kit_is); (case y_z8_9 => kit_is)
    (case y_z8_10 => kit_is); (case y_z8_11 => kit_is); (case y_z8_12 => kit_is); (case y_z8_13 => kit_is); (case y_zv8 => kit_is); (case y_zk8 => kit_is); (case y_z9_0 => kit_is); (case y_z9_1 => kit_is)
    (case y_z9_2 => kit_is); (case y_z9_3 => kit_is); (case y_z9_4 => kit_is); (case y_z9_5 => kit_is); (case y_z9_6 => kit_is); (case y_z9_7 => kit_is); (case y_z9_8 => kit_is); (case y_z9_9 => kit_is)
    (case y_z9_10 => kit_is); (case y_z9_11 => kit_is); (case y_z9_12 => kit_is); (case y_z9_13 => kit_is); (case y_zv9 => kit_is); (case y_zk9 => kit_is); (case y_z10_0 => kit_is); (case y_z10_1 => kit_is)
    (case y_z10_2 => kit_is); (case y_z10_3 => kit_is); (case y_z10_4 => kit_is); (case y_z10_5 => kit_is); (case y_z10_6 => kit_is); (case y_z10_7 => kit_is); (case y_z10_8 => kit_is); (case y_z10_9 => kit_is)
    (case y_z10_10 => kit_is); (case y_z10_11 => kit_is); (case y_z10_12 => kit_is); (case y_z10_13 => kit_is); (case y_zv10 => kit_is); (case y_zk10 => kit_is); (case y_z_isinstance => k_is); (case y_z_ValueError => k_is)
    (case y_z_KeyError => k_is); (case y_z_range => k_is); (case y_z_repr => k_is); (case y_z_enumerate => k_is); (case y_z_tuple => k_is); (case y_z_abs => k_is); (case y_z_len => k_is)
#print axioms PySem.Challenge.cw_towgrove_k01_errors_and_their_attributes_holds

