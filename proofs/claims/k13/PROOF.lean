import PyProof.Rows.All
import Wide.All
import OpenK.AllK
import Wide.FinOn
import KE.KStateDown
import HandS.ForMost
import HandS.Exc
import HandS.WordsExc
import HandS.Defaults
import HandS.Head0
import HandS.Head1
import HandS.Head2
import HandS.HeadEnd
import HandS.HeadHook1
import HandS.HeadHook2
import KE.KExcIs
import HandS.ExcInit
import HandS.ExcIs
import HandS.ExcField
import HandS.IsInst
import HandS.ExcValue
import HandS.Evl
import HandS.TupAny
import HandS.SortInts
import HandS.Wide
import HandS.HeadHook4
import KE.KxText
import HandS.SetBool
import HandS.TupSets
import HandS.DictComp
import KE.KDictKeyed
import KE.KeyNested
import HandS.StrMore
import HandS.ExcOwn
import HandS.SetFor
import PyProof.Rows.SetFrom
import HandS.Strs
import HandS.SortOrd
import HandS.Codes
import HandS.Conv
import HandS.Deep
import HandS.OwnEq
import HandS.IterVal
import HandS.TupMul
import PyProof.Draws
import PyProof.ZipIter
import HandS.Zip0
import HandS.Zip
import HandS.SetKeys
import HandS.Small
import HandS.Property
import HandS.TryOnly
import HandS.Lambda
import HandS.HeadHook3
import HandS.HeadNt
import HandS.FStr
import PySem.Challenge.RW_onceread_k13_written_form
set_option Elab.async false
set_option linter.all false
set_option maxRecDepth 100000
set_option maxHeartbeats 0
/-! a head by facts: He.hookD and one more Bool of the written part -/
namespace KH
open PySem PySem.Spec PyProof.Rows L2
abbrev Al : Type := He.AlD × Bool
def obs (n : Nat) (fa : List He.Fa) (fn : List He.DefD) (ex : PySem.W.Frag → Bool) (g : Addr → Option Obj) : Al := (He.obsD fa fn (He.frG g (He.asD g n)), ex (He.frG g (He.asD g n)))
def hook (n : Nat) (fa : List He.Fa) (fn : List He.DefD) (ex : PySem.W.Frag → Bool) : PySem.W.Hook where
  α := Al
  obs := fun s => obs n fa fn ex s.heap.get?
  val := fun _ => (He.valD fn, true)
  says := fun _ h => ∃ K : PySem.W.Frag, K.In h ∧ He.SaysD fa fn K ∧ ex K = true
  of := fun _ _ e => ⟨_, He.frG_in, congrArg (fun z : Al => z.1) e, congrArg (fun z : Al => z.2) e⟩
  keeps := fun _ _ _ ⟨K, hK, c, d⟩ k => ⟨K, PySem.W.Frag.In.keeps hK k, c, d⟩
/-- the def at a place of the text, as a datum -/
def dat (at_ : Str × Option Str) (qual : Str) (st : Stmt) (dfl : List He.Dv := []) : He.DefD := ⟨at_, (match at_.2 with | none => at_.1 | some m => m), qual, defArgs st, defBody st, defScope st, dfl, []⟩
end KH
/-! own exceptions of the program as values: made, told apart, their fields read -/
namespace XV
open PySem PySem.Spec PyProof.Rows L2
def veB : List Value := [.type "ValueError", .type "Exception", .type "BaseException", .type "object"]
/-- an exception of the class at C with the fields fs -/
def ExAt (H : Hp) (a C : Addr) (fs : List (Str × V)) : Prop :=
  (fs = [] ∧ H a = some (exo a C none)) ∨ ∃ dx, H a = some (exo a C (some dx)) ∧ H dx = some (exd dx fs)
theorem ExAt.same {H H' : Hp} {a C : Addr} {fs : List (Str × V)} (s : Same H H') (h : ExAt H a C fs) : ExAt H' a C fs := by
  rcases h with ⟨e, h⟩ | ⟨dx, h1, h2⟩
  · exact .inl ⟨e, s _ _ h⟩
  · exact .inr ⟨dx, s _ _ h1, s _ _ h2⟩
/-- what the written part says of such a class -/
structure ExK (K : PySem.W.Frag) (C : Addr) : Prop where
  o : OexC K C
  e : ExcC K C
  clsv : (PySem.W.clsIn K C).isSome = true
def exCB (K : PySem.W.Frag) (C : Addr) : Bool := match K.lookup C with
  | some ⟨.type t, _, .cls cd, sl⟩ => (match cd.mro, sl.toList with
    | .ref C' :: bm, [_, _, _, _, some (.builtin n), _] => decide (t = "type") && (decide (C' = C) && (n == "ValueError.__new__" && (!cd.hasDel && (cd.hasDict && PySem.HandSPX.refsVE bm))))
    | _, _ => false)
  | _ => false
theorem exCB_ok {K : PySem.W.Frag} {C : Addr} (h : exCB K C = true) :
    ∃ nm q N bs bm sn sub ab col dd k0 k1 k2 k3 k5, K.lookup C = some (excClassObj nm q C N bs bm true sn sub ab col dd k0 k1 k2 k3 k5 "ValueError.__new__") ∧ PySem.HandSPX.refsVE bm = true := by
  unfold exCB at h
  split at h
  · rename_i t dd cd sl ho
    split at h
    · rename_i C' bm k0 k1 k2 k3 n k5 hm hs
      simp only [Bool.and_eq_true, beq_iff_eq, Bool.not_eq_true', decide_eq_true_eq] at h
      obtain ⟨rfl, rfl, rfl, hdel, hdict, hbm⟩ := h
      obtain ⟨nm, bs, mro, ns, qn, hd, sn, sub, ab, col, del⟩ := cd
      dsimp only at hm hdel hdict
      subst hm hdel hdict
      have hsl : sl = #[k0, k1, k2, k3, some (.builtin "ValueError.__new__"), k5] := by
        obtain ⟨l⟩ := sl
        simp only at hs
        rw [hs]
      subst hsl
      exact ⟨nm, qn, ns, bs, bm, sn, sub, ab, col, dd, k0, k1, k2, k3, k5, ho, hbm⟩
    · cases h
  · cases h
def exB (K : PySem.W.Frag) (C : Addr) : Bool :=
  exCB K C && (decide (PySem.W.findIn K (.ref C) "__setattr__" = some (some (.builtin "object.__setattr__"))) && (decide (PySem.W.subIn K (.ref C) (.type "BaseException") = some true) && (decide (PySem.W.typeIn K (.ref C) = some (.type "type")) && (PySem.W.keepIn K (.ref C) &&
  (decide (PySem.W.findIn K (.ref C) "__getattribute__" = some (some (.builtin "BaseException.__getattribute__"))) && (decide (PySem.W.findIn K (.ref C) "__getattr__" = some none) && (PySem.W.hasDictIn K C && (decide (PySem.W.findIn K (.ref C) "__class__" = some (some (.builtin "object.__class__"))) &&
  (decide (PySem.W.specialIn K (.builtin "object.__class__") "__get__" = some (some (.builtin "getset_descriptor.__get__"))) && (decide (PySem.W.takesIn K (.builtin "object.__class__") = some true) && (decide (PySem.W.mroIn K C (.type "object") = some true) && (PySem.W.clsIn K C).isSome)))))))))))
theorem exB_ok {K : PySem.W.Frag} {C : Addr} (h : exB K C = true) : ExK K C := by
  unfold exB at h
  simp only [Bool.and_eq_true, decide_eq_true_eq] at h
  obtain ⟨h1, h2, h3, h4, h5, h6, h7, h8, h9, h10, h11, h12, h13⟩ := h
  exact ⟨⟨exCB_ok h1, h2, h3, h4, h5⟩, ⟨h6, h7, h3, h8, h9, h10, h11, h12⟩, h13⟩
theorem ExK.x {K : PySem.W.Frag} {C : Addr} (T : ExK K C) : XfC K C := ⟨T.e.hg, T.e.hk, T.e.hs, T.e.hd⟩
end XV
/-! calls by contract, and readings that keep one base heap -/
namespace LX
open PySem PySem.Spec PyProof.Rows L2 Evl
/-! ### a def by its name -/
/-- from a def of the text -/
theorem fun_of {K : PySem.W.Frag} {x qual : Str} {st : Stmt} {f : Addr} {fd : FuncData} (F : FunD K x qual (defArgs st) (defBody st) (defScope st) [] [] f fd) : Fun K x qual st f fd := by
  obtain ⟨⟨oc, od, dV, kV, doc, pm, an, cdv, ct, osl, rfl, lk, hcd, hD, _⟩, kp⟩ := F
  rcases hD with ⟨_, rfl⟩ | ⟨e, _⟩
  · exact ⟨⟨oc, od, kV, doc, pm, an, cdv, ct, osl, rfl, lk, hcd⟩, kp⟩
  · exact absurd rfl e
/-! ### readings over one base heap -/
/-- whatever stands besides H -/
def Sg (ts : TS) (D : Ends) (σ : L2.St) (H : Hp) : Prop := ∀ H1, Ex H H1 → ts D σ H1
section
variable {K : PySem.W.Frag} {σ : L2.St} {H H' : Hp} {ta tb te tx : TE} {t u : TT} {x y z v : V} {r : R2} {D : Ends} {tu tw tz : TS} {g : TG}
theorem Sg.mono (e : Ex H H') (h : Sg tu D σ H) : Sg tu D σ H' := fun H1 a => h H1 (e.trans a)
theorem EvU.mono {xs : List V} (e : Ex H H') (h : EvU te σ H xs) : EvU te σ H' xs := fun H1 a Q q => h H1 (e.trans a) Q q
/-! ### evaluation -/
end
/-! ### the text's facts -/
structure Tx (gloN freeN : List Str) (fnD : List He.DefD) (ex : PySem.W.Frag → Bool) (K : PySem.W.Frag) (mg : Str → Option Value) : Prop where
  g : ∀ x ∈ gloN, mg x = some (.ref (He.ga K x))
  n : ∀ x ∈ freeN, mg x = none
  d : ∀ d ∈ fnD, ∃ fd, FunD K d.name d.qual d.params d.body d.scope (d.dvs K) (d.kws K) (He.fAd K d.at_) fd
  x : ex K = true
theorem Tx.fn {gloN freeN : List Str} {fnD : List He.DefD} {ex : PySem.W.Frag → Bool} {K : PySem.W.Frag} {mg : Str → Option Value} (T : Tx gloN freeN fnD ex K mg) (i : Nat) {x : Str} {st : Stmt} (h : fnD[i]? = some (KH.dat (x, none) x st)) : ∃ fd, Fun K x x st (He.ga K x) fd := by
  obtain ⟨fd, F⟩ := T.d _ (List.mem_of_getElem? h)
  exact ⟨fd, fun_of F⟩
/-! ### rules whose reading names the written part by a letter -/
section
variable {X : Cx} {K : PySem.W.Frag}
theorem k_isi (h : X.K = K := by rfl) : CallR X (.builtin "isinstance") (rIsi K) := by subst h; exact call_isi
def rTupOf (K : PySem.W.Frag) : List V → Hp → VK → Prop := fun xs H Q => ∃ p ys, xs = [.ref p] ∧ ((SqL K H p ys ∧ ∀ l, H l = none → Q (.ref l) (upd H l (.tup ys))) ∨ (SqT K H p ys ∧ Q (.ref p) H))
theorem k_tupOf (h : X.K = K := by rfl) : CallR X (.type "tuple") (rTupOf K) := by subst h; exact call_tuple_of
theorem k_listOf (h : X.K = K := by rfl) : CallR X (.type "list") (rListS K) := by subst h; exact call_list_of
end
end LX
/-! own exceptions as values, over the readings -/
namespace LX
open PySem PySem.Spec PyProof.Rows L2 Evl XV
section
variable {K : PySem.W.Frag} {σ : L2.St} {H H' : Hp} {te : TE} {ta : TA} {D : Ends} {C a : Addr} {fs : List (Str × V)}
/-- a new exception -/
def EvX (te : TE) (σ : L2.St) (H : Hp) (C : Addr) (fs : List (Str × V)) : Prop := ∀ H1, Ex H H1 → ∀ Q : VK, (∀ p H2, H1 p = none → Ex H1 H2 → ExAt H2 p C fs → Q (.ref p) H2) → te σ H1 Q
theorem EvX.mono (e : Ex H H') (h : EvX te σ H C fs) : EvX te σ H' C fs := fun H1 a Q q => h H1 (e.trans a) Q q
end
end LX
/-! more of evaluation: values told by a property, new tuples, calls whose arguments are new objects -/
namespace LX
open PySem PySem.Spec PyProof.Rows L2 Evl XV
section
variable {K : PySem.W.Frag} {σ : L2.St} {H H' : Hp} {ta tb te : TE} {t : TT} {tr : TA} {x y z v : V} {D : Ends} {tz : TS}
/-- a value with a property -/
def EvP (te : TE) (σ : L2.St) (H : Hp) (P : V → Prop) : Prop := ∀ H1, Ex H H1 → ∀ Q : VK, (∀ z H2, Ex H1 H2 → P z → Q z H2) → te σ H1 Q
theorem EvP.mono {P : V → Prop} (e : Ex H H') (h : EvP te σ H P) : EvP te σ H' P := fun H1 a Q q => h H1 (e.trans a) Q q
theorem Ev.p {P : V → Prop} (h : Ev te σ H v) (hp : P v) : EvP te σ H P := fun H1 e Q q => h H1 e Q fun H2 e2 => q v H2 e2 hp
/-! texts -/
/-! comprehensions -/
/-! tuples -/
end
end LX
/-! comprehensions of sets and dicts whose container is told by a reading of its own -/
namespace WS
open PySem PySem.Spec PyProof.Rows L2 PpSet
/-- what adding the element y to the container at D asks, and how it goes on -/
abbrev AddR := V → Hp → Addr → (Hp → Prop) → Prop
section
variable {X : Cx}
/-- {elt for target in iter if ..}: D the new set, O0 what it is told as at first -/
def tScG (O0 : Addr → HO) (add : AddR) (wi : TI) (g : TG) (tt : TT) (te : TE) (vs : List Nat) : TE := fun σ H Q => wi σ H fun J H1 => ∀ D, H1 D = none → ∃ W : Nat → Nat → Hp → Prop, (∃ m, W 0 m (upd H1 D (O0 D))) ∧ ∀ i m H, W i m H →
  (J.stop i H ∧ Q (.ref D) H) ∨ (J.go i H ∧ ∃ Nx : Hp → Prop, (∀ H', Nx H' → ∃ m', m' < m ∧ W (i + 1) m' H') ∧ ∀ x H', J.yld i H x H' → g x (wipe σ vs) H' fun σ2 H2 => wipe σ2 vs = wipe σ vs ∧ tt σ2 H2 fun b H3 =>
    if b = true then te σ2 H3 fun y H4 => add y H4 D Nx else Nx H3)
/-- set.add keeps to add, wherever X's block stands -/
def AddOk (X : Cx) (add : AddR) : Prop := ∀ (Y : Cx), Y.prog = X.prog → Y.w = X.w → Y.K = X.K → Y.A = X.A → Y.calm = X.calm → ∀ (pins : List (Addr × Obj)) (σ : L2.St) (H : Hp) (s : Shared) (D : Addr) (y : V) (u : Value) (Nx : Hp → Prop) (E : Value → Shared → Prop),
  Inv Y pins σ H s → RelV y u → add y H D Nx → wpAny (model X.prog X.w) X.A (call (.builtin "set.add") [.ref D, u]) (fun _ s' => ∃ H', Inv Y pins σ H' s' ∧ Nx H') E s
/-- the fresh set may be told so -/
def NewOk (X : Cx) (O0 : Addr → HO) : Prop := ∀ (H : Hp) (h : Heap), ObjOk X.prog X.w H (h.push { cls := .type "set", dict := none, data := .set #[] 0 (.fresh 0 0 (!X.w.params.followText "set-order")) }) h.objs.size (O0 h.objs.size)
theorem scG_core {O0 : Addr → HO} {add : AddR} {pins : List (Addr × Obj)} {s : Shared} {σ : L2.St} {H : Hp} {Q : VK} {elt tg iter : Expr} {ifs : List Expr} {scope : Scope} {own : List (PySem.Str × Nat)} {pos pos' : Pos} {wi : TI} {g : TG} {tt : TT} {te : TE} {use : Option (Value → Sem Unit)} {Qf : Value → Shared → Prop}
    (hA : AddOk X add) (h0 : NewOk X O0) (hc : X.calm = true) (hN : X.N.Nodup) (I : Inv X pins σ H s) (hi : PI X tg iter wi) (ok : BlkOk X.N X.env.scope scope own)
    (hg : ∀ (s : Shared) (H : Hp) (C : Addr) (cl : List (PySem.Str × Addr)) (fp : List Addr), PG (X.blk s H scope (compEnvC scope cl C X.env) fp) tg g) (ht : ∀ (s : Shared) (H : Hp) (C : Addr) (cl : List (PySem.Str × Addr)) (fp : List Addr), PTs (X.blk s H scope (compEnvC scope cl C X.env) fp) ifs tt)
    (he : ∀ (s : Shared) (H : Hp) (C : Addr) (cl : List (PySem.Str × Addr)) (fp : List Addr), PE (X.blk s H scope (compEnvC scope cl C X.env) fp) elt te) (hs : ∀ x, foldedSetIterable iter X.env x = pure x)
    (h : tScG O0 add wi g tt te (own.map (·.2)) σ H Q)
    (hRR : ∀ D C s' m H', Inv X pins σ H' s' → Q (.ref D) H' → s'.heap.Ns C m → FpOk X pins H' C → compPost (model X.prog X.w) X.A X.xe use Qf (.ref D) C (.ok .next) s') :
    wpAny (model X.prog X.w) X.A (comprehension (.SetComp elt [⟨tg, iter, ifs, 0⟩] scope pos) scope X.env pos' (newSet (.type "set")) false (eval iter X.env) use) Qf X.xe s := by
  have hfree : ∀ y ∈ scope.names, y.2 = .free → ∃ c, X.env.cells.lookup y.1 = some c := fun y hy e => (ok.free y hy e).elim (fun k => I.ok.has _ (.inl k)) fun k => I.ok.has _ (.inr k)
  refine wpAny_comprehension_free (use := use) rfl hs (closure_ok hfree) ok.kind (fun y hy e => by rw [ok.uniq y hy, e])
    (thn (hi.run pins s σ H _ I h) fun xv s1 hx => thn hx fun itv s2 h2 => ?_)
  obtain ⟨it, fp, tn, J, H2, rfl, I2, T, st2, f2, q⟩ := h2
  refine newSet_ok (newEnv_comp ?_)
  have hDn : H2 s2.heap.objs.size = none := I2.hok.fresh (Nat.le_refl _)
  obtain ⟨W, ⟨m0, w0⟩, turn⟩ := q _ hDn
  have hO := h0 (upd H2 s2.heap.objs.size (O0 s2.heap.objs.size)) s2.heap
  have I3 : Inv X pins σ (upd H2 s2.heap.objs.size (O0 s2.heap.objs.size)) { s2 with heap := s2.heap.push { cls := .type "set", dict := none, data := .set #[] 0 (.fresh 0 0 (!X.w.params.followText "set-order")) } } :=
    I2.laid (t' := s2.toks) (fun b o e => Heap.get?_push_of_some _ e) (Nat.le_refl _) hO
  generalize hD : s2.heap.objs.size = D at *
  generalize hs3 : ({ s2 with heap := s2.heap.push { cls := .type "set", dict := none, data := .set #[] 0 (.fresh 0 0 (!X.w.params.followText "set-order")) } } : Shared) = s3 at *
  have h3 : s3.heap = s2.heap.push { cls := .type "set", dict := none, data := .set #[] 0 (.fresh 0 0 (!X.w.params.followText "set-order")) } := by rw [← hs3]
  have sz : ∀ b ∈ fp, b < s2.heap.objs.size := fun b hb => by
    obtain ⟨o, e, _⟩ := T.obj _ _ st2 b hb
    exact Heap.lt_size e
  have f3 : ∀ b ∈ fp, FpOk X pins (upd H2 D (O0 D)) b ∧ b < s3.heap.objs.size := fun b hb => by
    have hlt := sz b hb
    refine ⟨⟨?_, (f2 b hb).2⟩, by rw [h3, Heap.size_push]; exact Nat.lt_succ_of_lt hlt⟩
    rw [upd_ne (by rw [← hD]; exact Nat.ne_of_lt hlt)]
    exact (f2 b hb).1
  have st3 : tn 0 s3.heap := T.keep _ _ _ st2 fun b _ o e => by rw [h3]; exact Heap.get?_push_of_some _ e
  have I4 := block_start I3 ok hN f3
  have pg := hg s3 (upd H2 D (O0 D)) s3.heap.objs.size (cellsFrom (s3.heap.objs.size + 1) scope.names (cloFrom X.env.cells scope.names [])) fp
  have pt := ht s3 (upd H2 D (O0 D)) s3.heap.objs.size (cellsFrom (s3.heap.objs.size + 1) scope.names (cloFrom X.env.cells scope.names [])) fp
  have pe := he s3 (upd H2 D (O0 D)) s3.heap.objs.size (cellsFrom (s3.heap.objs.size + 1) scope.names (cloFrom X.env.cells scope.names [])) fp
  show codeAny _ _ (.compStart (.SetComp elt [⟨tg, iter, ifs, 0⟩] scope pos) 0 (.ref it) (.ref D) (compEnvC scope (cellsFrom (s3.heap.objs.size + 1) scope.names (cloFrom X.env.cells scope.names [])) s3.heap.objs.size X.env)) (compPost (model X.prog X.w) X.A X.xe use Qf (.ref D) s3.heap.objs.size) { s3 with heap := pushCells (s3.heap.push { cls := .type "dict", data := .dict #[] }) scope.names }
  have nfp : ∀ b ∈ fp, (upd H2 D (O0 D)) b = none := fun b hb => (f3 b hb).1.1
  generalize hce : compEnvC scope (cellsFrom (s3.heap.objs.size + 1) scope.names (cloFrom X.env.cells scope.names [])) s3.heap.objs.size X.env = ce at I4 pg pt pe ⊢
  have cL : ce.locals = s3.heap.objs.size := by subst hce; rfl
  generalize hH3 : upd H2 D (O0 D) = H3 at I3 I4 pg pt pe w0 nfp f3
  generalize hs4 : ({ s3 with heap := pushCells (s3.heap.push { cls := .type "dict", data := .dict #[] }) scope.names } : Shared) = s4 at I4 ⊢
  have st4 : tn 0 s4.heap := T.keep _ _ _ st3 fun b _ o e => by rw [← hs4]; exact pushCells_keeps _ _ _ _ (Heap.get?_push_of_some _ e)
  have stat : ∀ {σ' : L2.St} {H' : Hp} {s' : Shared}, Inv (X.blk s3 H3 scope ce fp) [] σ' H' s' → (∀ b ∈ fp, H' b = none) → ∀ b ∈ fp, FpOk (X.blk s3 H3 scope ce fp) [] H' b := fun {σ' H' s'} I' hn b hb =>
    ⟨hn b hb, (I'.ok.exf b hb).1, I'.ok.exfs b hb, .inl hb, fun x c e => (I'.ok.exf b hb).2 x c e, fun p hp => absurd (show p ∈ ([] : List (Addr × Obj)) ++ [] from hp) (by simp)⟩
  have loop : codeAny (model X.prog X.w) X.A (.compLoop (.SetComp elt [⟨tg, iter, ifs, 0⟩] scope pos) 0 (.ref it) (.ref D) ce) (compPost (model X.prog X.w) X.A X.xe use Qf (.ref D) s3.heap.objs.size) s4 := by
    refine compLoopS_any (fun n s' => ∃ i H', Inv (X.blk s3 H3 scope ce fp) [] (wipe σ (own.map (·.2))) H' s' ∧ tn i s'.heap ∧ (∀ b ∈ fp, H' b = none) ∧ W i n H') ?_ m0 ⟨0, H3, I4, st4, nfp, w0⟩
    rintro n s5 ⟨i, H5, I5, st5, n5, w5⟩
    rcases turn i n H5 w5 with ⟨stop, qq⟩ | ⟨go, Nx, hNx, step⟩
    · have td := T.done (X.blk s3 H3 scope ce fp) rfl rfl rfl hc i [] s5 _ H5 (fun _ _ => False) I5 (stat I5 n5) st5 stop
      refine thnF td fun r s6 ⟨hr, I6⟩ => ?_
      subst hr
      have I7 : Inv X pins σ H5 s6 := I3.call' (ch := fp) I6.os I6.base I6.hok I6.bare fun b hb => ⟨(f3 b hb).1.2.2.2.1, (f3 b hb).1.2.1, (f3 b hb).1.2.2.2.2.1, (f3 b hb).1.2.2.2.2.2⟩
      have nC : H5 s3.heap.objs.size = none := by
        have z : H5 ce.locals = none := I6.free
        rw [cL] at z
        exact z
      obtain ⟨m, hn, _⟩ := I6.loc
      have hn : s6.heap.Ns ce.locals m := hn
      rw [cL] at hn
      exact hRR D s3.heap.objs.size s6 m H5 I7 qq hn (I3.fpOk (Nat.le_refl _) nC)
    · have ti := T.item (X.blk s3 H3 scope ce fp) rfl rfl rfl hc i [] s5 _ H5 (fun _ _ => False) I5 (stat I5 n5) st5 go
      refine thnF ti fun r s6 ⟨u, hr, h6⟩ => ?_
      subst hr
      refine thnF h6 fun _ s7 ⟨x, H7, I7, r7, y7, st7, n7⟩ => ?_
      have I7' := I7.pinned (stat I7 n7) (T.obj _ _ st7)
      refine thnF (pg.run _ s7 _ H7 x u _ I7' r7 (step x H7 y7)) fun _ s8 ⟨σ8, H8, I8, hw8, q8⟩ => ?_
      refine thnF (pt.run _ s8 σ8 H8 _ I8 q8) fun b s9 ⟨H9, I9, q9⟩ => ?_
      have fin : ∀ {s' : Shared} {H' : Hp}, Inv (X.blk s3 H3 scope ce fp) ([] ++ pinsAt fp s7.heap) σ8 H' s' → Nx H' → ∃ m, m < n ∧ ∃ i H', Inv (X.blk s3 H3 scope ce fp) [] (wipe σ (own.map (·.2))) H' s' ∧ tn i s'.heap ∧ (∀ b ∈ fp, H' b = none) ∧ W i m H' := fun {s' H'} I' nx => by
        obtain ⟨m', hm, w'⟩ := hNx H' nx
        have pin' : ∀ b ∈ fp, ∀ o, s7.heap.get? b = some o → s'.heap.get? b = some o ∧ H' b = none := fun b hb o e =>
          let z := I'.pin (b, o) (List.mem_append_right _ (List.mem_append_right _ (mem_pinsAt hb e)))
          ⟨z.1, z.2.1⟩
        have hl : (wipe σ (own.map (·.2))).length = σ8.length := by rw [← hw8, wipe_length]
        refine ⟨m', hm, i + 1, H', (I'.unpinned (pins := [])).weak hl (fun j v e => ?_), T.keep _ _ _ st7 fun b hb o e => (pin' b hb o e).1, fun b hb => ?_, w'⟩
        · rw [← hw8] at e
          exact (wipe_some e).1
        · obtain ⟨o, e, _⟩ := T.obj _ _ st7 b hb
          exact (pin' b hb o e).2
      cases b with
      | false =>
        simp only [Bool.false_eq_true, if_false] at q9 ⊢
        exact fin I9 q9
      | true =>
        simp only [if_true] at q9 ⊢
        refine thnF (pe.run _ s9 σ8 H9 _ I9 q9) fun z s10 ⟨yv, H10, I10, r10, ad⟩ => ?_
        exact wpAny_mono (hA (X.blk s3 H3 scope ce fp) rfl rfl rfl rfl rfl _ _ _ _ _ _ _ _ _ I10 r10 ad) (fun _ s11 ⟨H11, I11, nx⟩ => fin I11 nx) fun _ _ z => z
  exact codeAny_compStart_set loop (T.self X.A 0 _ _ _ st4 loop)
theorem pe_scG {O0 : Addr → HO} {add : AddR} {elt tg iter : Expr} {ifs : List Expr} {scope : Scope} {own : List (PySem.Str × Nat)} {pos : Pos} {wi : TI} {g : TG} {tt : TT} {te : TE} (hA : AddOk X add) (h0 : NewOk X O0) (hc : X.calm = true) (hN : X.N.Nodup) (hi : PI X tg iter wi) (ok : BlkOk X.N X.env.scope scope own)
    (hg : ∀ (s : Shared) (H : Hp) (C : Addr) (cl : List (PySem.Str × Addr)) (fp : List Addr), PG (X.blk s H scope (compEnvC scope cl C X.env) fp) tg g) (ht : ∀ (s : Shared) (H : Hp) (C : Addr) (cl : List (PySem.Str × Addr)) (fp : List Addr), PTs (X.blk s H scope (compEnvC scope cl C X.env) fp) ifs tt)
    (he : ∀ (s : Shared) (H : Hp) (C : Addr) (cl : List (PySem.Str × Addr)) (fp : List Addr), PE (X.blk s H scope (compEnvC scope cl C X.env) fp) elt te) (hs : ∀ x, foldedSetIterable iter X.env x = pure x := by intro _; rfl) :
    PE X (.SetComp elt [⟨tg, iter, ifs, 0⟩] scope pos) (tScG O0 add wi g tt te (own.map (·.2))) := by
  refine ⟨fun pins s σ H Q I h => ?_⟩
  rw [eval_SetComp]
  refine scG_core hA h0 hc hN I hi ok hg ht he hs h fun D C s' m H' I' q hn f => ⟨m, hn, fun h'' sb => ?_⟩
  obtain ⟨f0, f1, f2, f3, f4, f5⟩ := f
  exact ⟨.ref D, H', I'.turned (t' := s'.toks) (fun b o hb e => (sb.2 b hb).trans e) f0 f1 f3 f4 f5, rfl, q⟩
end
end WS
/-! sets of tuples of ints by a comprehension -/
namespace WS
open PySem PySem.Spec PyProof.Rows L2 PpSet
end WS
/-! comprehensions of dicts whose container is told by a reading of its own; dicts with nested keys -/
namespace WS
open PySem PySem.Spec PyProof.Rows L2 PpSet
/-- what putting z at the key y of the container at D asks, and how it goes on -/
abbrev PutR := V → V → Hp → Addr → (Hp → Prop) → Prop
section
variable {X : Cx}
def tDcG (O0 : Addr → HO) (put : PutR) (wi : TI) (g : TG) (tt : TT) (tk tv : TE) (vs : List Nat) : TE := fun σ H Q => wi σ H fun J H1 => ∀ D, H1 D = none → ∃ W : Nat → Nat → Hp → Prop, (∃ m, W 0 m (upd H1 D (O0 D))) ∧ ∀ i m H, W i m H →
  (J.stop i H ∧ Q (.ref D) H) ∨ (J.go i H ∧ ∃ Nx : Hp → Prop, (∀ H', Nx H' → ∃ m', m' < m ∧ W (i + 1) m' H') ∧ ∀ x H', J.yld i H x H' → g x (wipe σ vs) H' fun σ2 H2 => wipe σ2 vs = wipe σ vs ∧ tt σ2 H2 fun b H3 =>
    if b = true then tk σ2 H3 fun y H4 => tv σ2 H4 fun z H5 => put y z H5 D Nx else Nx H3)
def PutOk (X : Cx) (put : PutR) : Prop := ∀ (Y : Cx), Y.prog = X.prog → Y.w = X.w → Y.K = X.K → Y.A = X.A → Y.calm = X.calm → ∀ (pins : List (Addr × Obj)) (σ : L2.St) (H : Hp) (s : Shared) (D : Addr) (y z : V) (u r : Value) (Nx : Hp → Prop) (E : Value → Shared → Prop),
  Inv Y pins σ H s → RelV y u → RelV z r → put y z H D Nx → wpAny (model X.prog X.w) X.A (dictSet D u r) (fun _ s' => ∃ H', Inv Y pins σ H' s' ∧ Nx H') E s
def NewDOk (X : Cx) (O0 : Addr → HO) : Prop := ∀ (H : Hp) (h : Heap), sysModules < h.objs.size → ObjOk X.prog X.w H (h.push { cls := .type "dict", data := .dict #[] }) h.objs.size (O0 h.objs.size)
theorem dcG_core {O0 : Addr → HO} {put : PutR} {pins : List (Addr × Obj)} {s : Shared} {σ : L2.St} {H : Hp} {Q : VK} {kx vx tg iter : Expr} {ifs : List Expr} {scope : Scope} {own : List (PySem.Str × Nat)} {pos pos' : Pos} {wi : TI} {g : TG} {tt : TT} {tk tv : TE} {use : Option (Value → Sem Unit)} {Qf : Value → Shared → Prop}
    (hA : PutOk X put) (h0 : NewDOk X O0) (hc : X.calm = true) (hN : X.N.Nodup) (I : Inv X pins σ H s) (hi : PI X tg iter wi) (ok : BlkOk X.N X.env.scope scope own)
    (hg : ∀ (s : Shared) (H : Hp) (C : Addr) (cl : List (PySem.Str × Addr)) (fp : List Addr), PG (X.blk s H scope (compEnvC scope cl C X.env) fp) tg g) (ht : ∀ (s : Shared) (H : Hp) (C : Addr) (cl : List (PySem.Str × Addr)) (fp : List Addr), PTs (X.blk s H scope (compEnvC scope cl C X.env) fp) ifs tt)
    (hk : ∀ (s : Shared) (H : Hp) (C : Addr) (cl : List (PySem.Str × Addr)) (fp : List Addr), PE (X.blk s H scope (compEnvC scope cl C X.env) fp) kx tk)
    (he : ∀ (s : Shared) (H : Hp) (C : Addr) (cl : List (PySem.Str × Addr)) (fp : List Addr), PE (X.blk s H scope (compEnvC scope cl C X.env) fp) vx tv) (hs : ∀ x, foldedSetIterable iter X.env x = pure x)
    (h : tDcG O0 put wi g tt tk tv (own.map (·.2)) σ H Q)
    (hRR : ∀ D C s' m H', Inv X pins σ H' s' → Q (.ref D) H' → s'.heap.Ns C m → FpOk X pins H' C → compPost (model X.prog X.w) X.A X.xe use Qf (.ref D) C (.ok .next) s') :
    wpAny (model X.prog X.w) X.A (comprehension (.DictComp kx vx [⟨tg, iter, ifs, 0⟩] scope pos) scope X.env pos' newDict false (eval iter X.env) use) Qf X.xe s := by
  have hfree : ∀ y ∈ scope.names, y.2 = .free → ∃ c, X.env.cells.lookup y.1 = some c := fun y hy e => (ok.free y hy e).elim (fun k => I.ok.has _ (.inl k)) fun k => I.ok.has _ (.inr k)
  refine wpAny_comprehension_free (use := use) rfl hs (closure_ok hfree) ok.kind (fun y hy e => by rw [ok.uniq y hy, e])
    (thn (hi.run pins s σ H _ I h) fun xv s1 hx => thn hx fun itv s2 h2 => ?_)
  obtain ⟨it, fp, tn, J, H2, rfl, I2, T, st2, f2, q⟩ := h2
  refine wpAny_newObj_type (newEnv_comp ?_)
  have hDn : H2 s2.heap.objs.size = none := I2.hok.fresh (Nat.le_refl _)
  obtain ⟨W, ⟨m0, w0⟩, turn⟩ := q _ hDn
  have hO := h0 (upd H2 s2.heap.objs.size (O0 s2.heap.objs.size)) s2.heap I2.big
  have I3 : Inv X pins σ (upd H2 s2.heap.objs.size (O0 s2.heap.objs.size)) { s2 with heap := s2.heap.push { cls := .type "dict", data := .dict #[] } } :=
    I2.laid (t' := s2.toks) (fun b o e => Heap.get?_push_of_some _ e) (Nat.le_refl _) hO
  generalize hD : s2.heap.objs.size = D at *
  generalize hs3 : ({ s2 with heap := s2.heap.push { cls := .type "dict", data := .dict #[] } } : Shared) = s3 at *
  have h3 : s3.heap = s2.heap.push { cls := .type "dict", data := .dict #[] } := by rw [← hs3]
  have sz : ∀ b ∈ fp, b < s2.heap.objs.size := fun b hb => by
    obtain ⟨o, e, _⟩ := T.obj _ _ st2 b hb
    exact Heap.lt_size e
  have f3 : ∀ b ∈ fp, FpOk X pins (upd H2 D (O0 D)) b ∧ b < s3.heap.objs.size := fun b hb => by
    have hlt := sz b hb
    refine ⟨⟨?_, (f2 b hb).2⟩, by rw [h3, Heap.size_push]; exact Nat.lt_succ_of_lt hlt⟩
    rw [upd_ne (by rw [← hD]; exact Nat.ne_of_lt hlt)]
    exact (f2 b hb).1
  have st3 : tn 0 s3.heap := T.keep _ _ _ st2 fun b _ o e => by rw [h3]; exact Heap.get?_push_of_some _ e
  have I4 := block_start I3 ok hN f3
  have pg := hg s3 (upd H2 D (O0 D)) s3.heap.objs.size (cellsFrom (s3.heap.objs.size + 1) scope.names (cloFrom X.env.cells scope.names [])) fp
  have pt := ht s3 (upd H2 D (O0 D)) s3.heap.objs.size (cellsFrom (s3.heap.objs.size + 1) scope.names (cloFrom X.env.cells scope.names [])) fp
  have pk := hk s3 (upd H2 D (O0 D)) s3.heap.objs.size (cellsFrom (s3.heap.objs.size + 1) scope.names (cloFrom X.env.cells scope.names [])) fp
  have pe := he s3 (upd H2 D (O0 D)) s3.heap.objs.size (cellsFrom (s3.heap.objs.size + 1) scope.names (cloFrom X.env.cells scope.names [])) fp
  show codeAny _ _ (.compStart (.DictComp kx vx [⟨tg, iter, ifs, 0⟩] scope pos) 0 (.ref it) (.ref D) (compEnvC scope (cellsFrom (s3.heap.objs.size + 1) scope.names (cloFrom X.env.cells scope.names [])) s3.heap.objs.size X.env)) (compPost (model X.prog X.w) X.A X.xe use Qf (.ref D) s3.heap.objs.size) { s3 with heap := pushCells (s3.heap.push { cls := .type "dict", data := .dict #[] }) scope.names }
  have nfp : ∀ b ∈ fp, (upd H2 D (O0 D)) b = none := fun b hb => (f3 b hb).1.1
  generalize hce : compEnvC scope (cellsFrom (s3.heap.objs.size + 1) scope.names (cloFrom X.env.cells scope.names [])) s3.heap.objs.size X.env = ce at I4 pg pt pk pe ⊢
  have cL : ce.locals = s3.heap.objs.size := by subst hce; rfl
  generalize hH3 : upd H2 D (O0 D) = H3 at I3 I4 pg pt pk pe w0 nfp f3
  generalize hs4 : ({ s3 with heap := pushCells (s3.heap.push { cls := .type "dict", data := .dict #[] }) scope.names } : Shared) = s4 at I4 ⊢
  have st4 : tn 0 s4.heap := T.keep _ _ _ st3 fun b _ o e => by rw [← hs4]; exact pushCells_keeps _ _ _ _ (Heap.get?_push_of_some _ e)
  have stat : ∀ {σ' : L2.St} {H' : Hp} {s' : Shared}, Inv (X.blk s3 H3 scope ce fp) [] σ' H' s' → (∀ b ∈ fp, H' b = none) → ∀ b ∈ fp, FpOk (X.blk s3 H3 scope ce fp) [] H' b := fun {σ' H' s'} I' hn b hb =>
    ⟨hn b hb, (I'.ok.exf b hb).1, I'.ok.exfs b hb, .inl hb, fun x c e => (I'.ok.exf b hb).2 x c e, fun p hp => absurd (show p ∈ ([] : List (Addr × Obj)) ++ [] from hp) (by simp)⟩
  have loop : codeAny (model X.prog X.w) X.A (.compLoop (.DictComp kx vx [⟨tg, iter, ifs, 0⟩] scope pos) 0 (.ref it) (.ref D) ce) (compPost (model X.prog X.w) X.A X.xe use Qf (.ref D) s3.heap.objs.size) s4 := by
    refine compLoop_anyD (fun n s' => ∃ i H', Inv (X.blk s3 H3 scope ce fp) [] (wipe σ (own.map (·.2))) H' s' ∧ tn i s'.heap ∧ (∀ b ∈ fp, H' b = none) ∧ W i n H') ?_ m0 ⟨0, H3, I4, st4, nfp, w0⟩
    rintro n s5 ⟨i, H5, I5, st5, n5, w5⟩
    rcases turn i n H5 w5 with ⟨stop, qq⟩ | ⟨go, Nx, hNx, step⟩
    · have td := T.done (X.blk s3 H3 scope ce fp) rfl rfl rfl hc i [] s5 _ H5 (fun _ _ => False) I5 (stat I5 n5) st5 stop
      refine thnF td fun r s6 ⟨hr, I6⟩ => ?_
      subst hr
      have I7 : Inv X pins σ H5 s6 := I3.call' (ch := fp) I6.os I6.base I6.hok I6.bare fun b hb => ⟨(f3 b hb).1.2.2.2.1, (f3 b hb).1.2.1, (f3 b hb).1.2.2.2.2.1, (f3 b hb).1.2.2.2.2.2⟩
      have nC : H5 s3.heap.objs.size = none := by
        have z : H5 ce.locals = none := I6.free
        rw [cL] at z
        exact z
      obtain ⟨m, hn, _⟩ := I6.loc
      have hn : s6.heap.Ns ce.locals m := hn
      rw [cL] at hn
      exact hRR D s3.heap.objs.size s6 m H5 I7 qq hn (I3.fpOk (Nat.le_refl _) nC)
    · have ti := T.item (X.blk s3 H3 scope ce fp) rfl rfl rfl hc i [] s5 _ H5 (fun _ _ => False) I5 (stat I5 n5) st5 go
      refine thnF ti fun r s6 ⟨u, hr, h6⟩ => ?_
      subst hr
      refine thnF h6 fun _ s7 ⟨x, H7, I7, r7, y7, st7, n7⟩ => ?_
      have I7' := I7.pinned (stat I7 n7) (T.obj _ _ st7)
      refine thnF (pg.run _ s7 _ H7 x u _ I7' r7 (step x H7 y7)) fun _ s8 ⟨σ8, H8, I8, hw8, q8⟩ => ?_
      refine thnF (pt.run _ s8 σ8 H8 _ I8 q8) fun b s9 ⟨H9, I9, q9⟩ => ?_
      have fin : ∀ {s' : Shared} {H' : Hp}, Inv (X.blk s3 H3 scope ce fp) ([] ++ pinsAt fp s7.heap) σ8 H' s' → Nx H' → ∃ m, m < n ∧ ∃ i H', Inv (X.blk s3 H3 scope ce fp) [] (wipe σ (own.map (·.2))) H' s' ∧ tn i s'.heap ∧ (∀ b ∈ fp, H' b = none) ∧ W i m H' := fun {s' H'} I' nx => by
        obtain ⟨m', hm, w'⟩ := hNx H' nx
        have pin' : ∀ b ∈ fp, ∀ o, s7.heap.get? b = some o → s'.heap.get? b = some o ∧ H' b = none := fun b hb o e =>
          let z := I'.pin (b, o) (List.mem_append_right _ (List.mem_append_right _ (mem_pinsAt hb e)))
          ⟨z.1, z.2.1⟩
        have hl : (wipe σ (own.map (·.2))).length = σ8.length := by rw [← hw8, wipe_length]
        refine ⟨m', hm, i + 1, H', (I'.unpinned (pins := [])).weak hl (fun j v e => ?_), T.keep _ _ _ st7 fun b hb o e => (pin' b hb o e).1, fun b hb => ?_, w'⟩
        · rw [← hw8] at e
          exact (wipe_some e).1
        · obtain ⟨o, e, _⟩ := T.obj _ _ st7 b hb
          exact (pin' b hb o e).2
      cases b with
      | false =>
        simp only [Bool.false_eq_true, if_false] at q9 ⊢
        exact fin I9 q9
      | true =>
        simp only [if_true] at q9 ⊢
        refine thnF (pk.run _ s9 σ8 H9 _ I9 q9) fun z s10 ⟨yk, H10, I10, r10, q10⟩ => ?_
        refine thnF (pe.run _ s10 σ8 H10 _ I10 q10) fun z2 s11 ⟨yv, H11, I11, r11, ad⟩ => ?_
        exact wpAny_mono (hA (X.blk s3 H3 scope ce fp) rfl rfl rfl rfl rfl _ _ _ _ _ _ _ _ _ _ _ I11 r10 r11 ad) (fun _ s12 ⟨H12, I12, nx⟩ => fin I12 nx) fun _ _ z => z
  exact codeAny_compStart_dict loop (T.self X.A 0 _ _ _ st4 loop)
end
/-! ### dicts whose keys are nested tuples of whole numbers and texts -/
mutual
inductive NK (K : PySem.W.Frag) (H : Hp) : V → NestedKey → Prop
  | num (i : Int) : NK K H (.int i) (.num i)
  | text (s : Str) : NK K H (.str s) (.text s)
  | tup {a : Addr} {xs : List V} {ks : List NestedKey} : SqT K H a xs → NKs K H xs ks → NK K H (.ref a) (.tup ks)
inductive NKs (K : PySem.W.Frag) (H : Hp) : List V → List NestedKey → Prop
  | nil : NKs K H [] []
  | cons {x : V} {k : NestedKey} {xs : List V} {ks : List NestedKey} : NK K H x k → NKs K H xs ks → NKs K H (x :: xs) (k :: ks)
end
section
variable {X : Cx} {pins : List (Addr × Obj)} {σ : L2.St} {H : Hp} {s : Shared}
mutual
theorem NK.at (I : Inv X pins σ H s) : ∀ {k : NestedKey} {x : V} {u : Value}, NK X.K H x k → RelV x u → NestedIs s.heap k u
  | .num i, _, u, .num _, r => by
    obtain ⟨t, rfl⟩ := r
    exact .int i t
  | .text y, _, u, .text _, r => by
    obtain ⟨t, rfl⟩ := r
    exact .text y t
  | .tup ks, _, u, .tup (a := a) h hs, r => by
    obtain rfl : u = Value.ref a := r
    obtain ⟨its, rv, ⟨o, ho, hc, n, hd⟩, _⟩ := I.tuple h
    exact .tup ho hc hd (by simpa using NKs.at I hs rv)
theorem NKs.at (I : Inv X pins σ H s) : ∀ {ks : List NestedKey} {xs : List V} {us : List Value}, NKs X.K H xs ks → Vals xs us → NestedAll s.heap ks us
  | [], _, _, .nil, r => by cases r; exact .nil
  | k :: ks, _, _, .cons h hs, r => by
    cases r with
    | cons r1 r2 => exact .cons (NK.at I h r1) (NKs.at I hs r2)
end
/-- the dict, without its keys' tuples -/
def DnRel (kvs : List (NestedKey × Addr × V)) (xs : List (NestedKey × Addr × Value)) : Prop := Paired (fun (p : NestedKey × Addr × V) (q : NestedKey × Addr × Value) => p.1 = q.1 ∧ p.2.1 = q.2.1 ∧ RelV p.2.2 q.2.2) kvs xs
def DnAt (P : Program) (w : World) (D : Addr) (kvs : List (NestedKey × Addr × V)) (h : Heap) : Prop := ∃ xs : List (NestedKey × Addr × Value), DnRel kvs xs ∧ kvs.length ≤ sizeLine ∧ (D == sysModules) = false ∧ ∃ o es ep, h.get? D = some o ∧ o.ExactDict ∧ o.data = .dict es ep ∧ es.toList = xs.map (entryOfKey (nestedKind P w)) ∧ (xs.map (·.1)).Nodup
def DnO (P : Program) (w : World) (D : Addr) (kvs : List (NestedKey × Addr × V)) : HO := .ext (DnAt P w D kvs)
def putN (kvs : List (NestedKey × Addr × V)) (k : NestedKey) (a : Addr) (z : V) : List (NestedKey × Addr × V) :=
  if (kvs.find? fun p => decide (p.1 = k)).isSome then kvs.map (fun p => if p.1 = k then (p.1, p.2.1, z) else p) else kvs ++ [(k, a, z)]
theorem DnRel.find {k : NestedKey} : ∀ {kvs : List (NestedKey × Addr × V)} {xs : List (NestedKey × Addr × Value)}, DnRel kvs xs → (atKey xs k).isSome = (kvs.find? fun p => decide (p.1 = k)).isSome
  | _, _, .nil => rfl
  | _, _, .cons (a := p) (b := q) r t => by
    have ih := DnRel.find (k := k) t
    unfold atKey at ih ⊢
    rw [List.find?_cons, List.find?_cons, ← r.1]
    by_cases h : p.1 = k
    · simp [h]
    · simpa [h] using ih
theorem DnRel.mapPut {k : NestedKey} {z : V} {r : Value} (rz : RelV z r) : ∀ {kvs : List (NestedKey × Addr × V)} {xs : List (NestedKey × Addr × Value)}, DnRel kvs xs → DnRel (kvs.map (fun p => if p.1 = k then (p.1, p.2.1, z) else p)) (xs.map (putAt k r))
  | _, _, .nil => .nil
  | _, _, .cons (a := p) (b := q) rr t => by
    refine .cons ?_ (DnRel.mapPut rz t)
    unfold putAt
    dsimp only
    by_cases h : p.1 = k
    · rw [if_pos h, if_pos (rr.1 ▸ h)]
      exact ⟨rr.1, rr.2.1, rz⟩
    · rw [if_neg h, if_neg (rr.1 ▸ h)]
      exact rr
theorem DnRel.snoc {k : NestedKey} {a : Addr} {z : V} {r : Value} (rz : RelV z r) : ∀ {kvs : List (NestedKey × Addr × V)} {xs : List (NestedKey × Addr × Value)}, DnRel kvs xs → DnRel (kvs ++ [(k, a, z)]) (xs ++ [(k, a, r)])
  | _, _, .nil => .cons ⟨rfl, rfl, rz⟩ .nil
  | _, _, .cons rr t => .cons rr (DnRel.snoc rz t)
theorem DnRel.put {k : NestedKey} {a : Addr} {z : V} {r : Value} (rz : RelV z r) {kvs : List (NestedKey × Addr × V)} {xs : List (NestedKey × Addr × Value)} (h : DnRel kvs xs) : DnRel (putN kvs k a z) (storedH xs k a r) := by
  unfold putN storedH
  rw [h.find]
  split
  · exact h.mapPut rz
  · exact h.snoc rz
theorem DnRel.length {kvs : List (NestedKey × Addr × V)} {xs : List (NestedKey × Addr × Value)} (h : DnRel kvs xs) : kvs.length = xs.length := Paired.length h
theorem DnRel.mem {kvs : List (NestedKey × Addr × V)} : ∀ {xs : List (NestedKey × Addr × Value)}, DnRel kvs xs → ∀ x ∈ xs, ∃ p ∈ kvs, p.1 = x.1 ∧ p.2.1 = x.2.1
  | _, .nil, x, hx => nomatch hx
  | _, .cons (a := p) rr t, x, hx => by
    rcases List.mem_cons.mp hx with e | e
    · subst e
      exact ⟨p, List.mem_cons_self, rr.1, rr.2.1⟩
    · obtain ⟨p', hp, q⟩ := DnRel.mem t x e
      exact ⟨p', List.mem_cons_of_mem _ hp, q⟩
theorem dn_new {P : Program} {w : World} {H : Hp} {h : Heap} {D : Addr} {kvs : List (NestedKey × Addr × V)} (R : DnAt P w D kvs h) : ObjOk P w H h D (DnO P w D kvs) := by
  have R' := R
  obtain ⟨xs, r, z, hd, o, es, ep, ho, q⟩ := R
  refine ⟨R', ⟨o, ho⟩, fun h1 h2 p k => ?_⟩
  obtain ⟨xs', r', z', hd', o', es', ep', ho', q'⟩ := p
  exact ⟨xs', r', z', hd', o', es', ep', k o' ho', q'⟩
/-- every key's tuple is there -/
def DnKeys (K : PySem.W.Frag) (H : Hp) (kvs : List (NestedKey × Addr × V)) : Prop := ∀ p ∈ kvs, NK K H (.ref p.2.1) p.1 ∧ p.1.depth ≤ 8
theorem DnAt.full (I : Inv X pins σ H s) {D : Addr} {kvs : List (NestedKey × Addr × V)} (R : DnAt X.prog X.w D kvs s.heap) (hk : DnKeys X.K H kvs) : ∃ xs, DnRel kvs xs ∧ s.heap.DictOfH (nestedKind X.prog X.w) D xs ∧ xs.length ≤ sizeLine ∧ (D == sysModules) = false := by
  obtain ⟨xs, r, z, hd, o, es, ep, ho, hx, hdat, he, hn⟩ := R
  refine ⟨xs, r, ⟨o, es, ep, ho, hx, hdat, he, fun x hx' => ?_, hn⟩, by rw [← r.length]; exact z, hd⟩
  obtain ⟨p, hp, e1, e2⟩ := r.mem x hx'
  obtain ⟨nk, dd⟩ := hk p hp
  rw [← e1, ← e2]
  exact ⟨NK.at I nk rfl, dd⟩
def putNk (K : PySem.W.Frag) (P : Program) (w : World) : PutR := fun y z H D Nx => ∃ (a : Addr) (k : NestedKey) (kvs : List (NestedKey × Addr × V)), y = .ref a ∧ NK K H y k ∧ k.depth ≤ 8 ∧ H D = some (DnO P w D kvs) ∧ DnKeys K H kvs ∧ (putN kvs k a z).length ≤ sizeLine ∧ Nx (upd H D (DnO P w D (putN kvs k a z)))
theorem putNk_ok (hu : X.A.units + 64 < cLine) : PutOk X (putNk X.K X.prog X.w) := by
  intro Y hP hw hK hA hcm pins σ H s D y z u r Nx E I ry rz h
  obtain ⟨a, k, kvs, rfl, hk, hdep, hD, hks, hlen, q⟩ := h
  obtain rfl : u = Value.ref a := ry
  have R0 : DnAt X.prog X.w D kvs s.heap := (I.hok D _ hD).1
  rw [← hP, ← hw] at R0 ⊢
  rw [← hA] at hu ⊢
  rw [← hK] at hk hks
  obtain ⟨xs, rel, dd, hz, hsm⟩ := R0.full I hks
  refine wpAny_dictSet_heap (knd := nestedKind Y.prog Y.w) (k := k) (hsz := hz) (by show Y.A.units + 8 < cLine; omega) ⟨NK.at I hk rfl, hdep⟩ dd fun h' dd' sb => ?_
  refine ⟨upd H D (DnO X.prog X.w D (putN kvs k a z)), ?_, q⟩
  obtain ⟨o, es, ep, ho, hx, hdat, he, _, hn⟩ := dd'
  have nw := dn_new (P := Y.prog) (w := Y.w) (H := upd H D (DnO Y.prog Y.w D (putN kvs k a z))) (h := h') (D := D) ⟨_, rel.put rz, hlen, hsm, o, es, ep, ho, hx, hdat, he, hn⟩
  rw [hP, hw] at nw
  refine I.write (x := D) (e := D) (by rw [hD]; trivial) (.inl rfl) (fun a q hb' z => (sb.2 a hb').trans z) ⟨o, ho⟩ ?_
  rw [hP, hw]
  exact nw
theorem newNk_ok : NewDOk X fun a => DnO X.prog X.w a [] := fun H h hb => dn_new ⟨[], .nil, Nat.zero_le _, beq_eq_false_iff_ne.mpr (Ne.symm (Nat.ne_of_lt hb)), _, #[], 0, Heap.get?_push_size _ rfl, ⟨rfl, rfl, rfl⟩, rfl, rfl, List.nodup_nil⟩
end
end WS
/-! readings whose results are described by a relation on the heap that is known: B the heap that is known, H the heap that is, X the heap at the call -/
namespace RX
open PySem PySem.Spec PyProof.Rows L2 Evl LX
/-- what B' knows besides B does not stand in X -/
def Av (X B B' : Hp) : Prop := ∀ a, B a = none → X a ≠ none → B' a = none
structure Gr (X B B' : Hp) : Prop where
  ex : Ex B B'
  av : Av X B B'
theorem ex_ne {H H' : Hp} {a : Addr} (e : Ex H H') (h : H a ≠ none) : H' a ≠ none := by
  cases q : H a with
  | none => exact absurd q h
  | some o => rw [e a o q]; exact Option.some_ne_none o
theorem Av.back {X H B B' : Hp} (e : Ex X H) (h : Av H B B') : Av X B B' := fun a ha hx => h a ha (ex_ne e hx)
theorem Gr.refl (X B : Hp) : Gr X B B := ⟨Ex.refl B, fun _ h _ => h⟩
theorem Gr.trans {X B B' B'' : Hp} (a : Gr X B B') (b : Gr X B' B'') : Gr X B B'' := ⟨a.ex.trans b.ex, fun x h hx => b.av x (a.av x h hx) hx⟩
theorem Gr.back {X H B B' : Hp} (e : Ex X H) (h : Gr H B B') : Gr X B B' := ⟨h.ex, h.av.back e⟩
/-- both together -/
def mrg (B1 B2 : Hp) : Hp := fun a => match B1 a with | some o => some o | none => B2 a
theorem mrg_some {B1 B2 : Hp} {a : Addr} {o : HO} (h : B1 a = some o) : mrg B1 B2 a = some o := by unfold mrg; rw [h]
theorem mrg_none {B1 B2 : Hp} {a : Addr} (h : B1 a = none) : mrg B1 B2 a = B2 a := by unfold mrg; rw [h]
theorem mrg_l {B1 B2 : Hp} : Ex B1 (mrg B1 B2) := fun _ _ h => mrg_some h
theorem mrg_le {B1 B2 H : Hp} (e1 : Ex B1 H) (e2 : Ex B2 H) : Ex (mrg B1 B2) H := fun a o h => by
  cases q : B1 a with
  | none => rw [mrg_none q] at h; exact e2 a o h
  | some u => rw [mrg_some q] at h; rw [← h]; exact e1 a u q
theorem mrg_r {B1 B2 H : Hp} (e1 : Ex B1 H) (e2 : Ex B2 H) : Ex B2 (mrg B1 B2) := fun a o h => by
  cases q : B1 a with
  | none => rw [mrg_none q]; exact h
  | some u => rw [mrg_some q, ← e1 a u q, e2 a o h]
/-- a new object -/
theorem gr_new {X B : Hp} {p : Addr} {o : HO} (hb : B p = none) (hx : X p = none) : Gr X B (upd B p o) := ⟨Ex.new hb, fun a ha hxa => by
  by_cases e : a = p
  · subst e; exact absurd hx hxa
  · rw [upd_ne e]; exact ha⟩
theorem ex_upd {B H : Hp} {p : Addr} {o : HO} (e : Ex B H) (h : H p = some o) : Ex (upd B p o) H := fun a u q => by
  by_cases e2 : a = p
  · subst e2; rw [upd_same] at q; rw [← q]; exact h
  · rw [upd_ne e2] at q; exact e a u q
theorem none_of {B H : Hp} {p : Addr} (e : Ex B H) (h : H p = none) : B p = none := fresh_back e h
/-- a description that stays -/
class Mo (P : V → Hp → Prop) : Prop where
  mo : ∀ {z H H'}, Ex H H' → P z H → P z H'
class MoA (P : List V → Hp → Prop) : Prop where
  mo : ∀ {z H H'}, Ex H H' → P z H → P z H'
def IsV (v : V) : V → Hp → Prop := fun z _ => z = v
def IsNL (xs : List V) : V → Hp → Prop := fun z H => ∃ p, z = .ref p ∧ H p = some (.lst xs)
def IsNU (xs : List V) : V → Hp → Prop := fun z H => ∃ p, z = .ref p ∧ H p = some (.tup xs)
/-- a list whose items are described -/
def IsLP (n : Nat) (P : Nat → V → Hp → Prop) : V → Hp → Prop := fun z H => ∃ p ys, z = .ref p ∧ H p = some (.lst ys) ∧ ys.length = n ∧ ∀ i y, ys[i]? = some y → P i y H
def IsUP (n : Nat) (P : Nat → V → Hp → Prop) : V → Hp → Prop := fun z H => ∃ p ys, z = .ref p ∧ H p = some (.tup ys) ∧ ys.length = n ∧ ∀ i y, ys[i]? = some y → P i y H
def IsD (K : PySem.W.Frag) (d : PyData) : V → Hp → Prop := fun z H => Dp K H z d
mutual
theorem dp_ex {K : PySem.W.Frag} {H H' : Hp} (e : Ex H H') : ∀ {v : V} {d : PyData}, Dp K H v d → Dp K H' v d
  | _, _, .non => .non
  | _, _, .bl b => .bl b
  | _, _, .int i => .int i
  | _, _, .str x => .str x
  | _, _, .lst h hs => .lst (ex_l e h) (dps_ex e hs)
  | _, _, .tup h hs => .tup (ex_t e h) (dps_ex e hs)
theorem dps_ex {K : PySem.W.Frag} {H H' : Hp} (e : Ex H H') : ∀ {vs : List V} {ds : List PyData}, DpAll K H vs ds → DpAll K H' vs ds
  | _, _, .nil => .nil
  | _, _, .cons h hs => .cons (dp_ex e h) (dps_ex e hs)
end
instance {v : V} : Mo (IsV v) := ⟨fun _ h => h⟩
instance {xs : List V} : Mo (IsNL xs) := ⟨fun e ⟨p, h, q⟩ => ⟨p, h, e _ _ q⟩⟩
instance {xs : List V} : Mo (IsNU xs) := ⟨fun e ⟨p, h, q⟩ => ⟨p, h, e _ _ q⟩⟩
instance {K : PySem.W.Frag} {d : PyData} : Mo (IsD K d) := ⟨fun e h => dp_ex e h⟩
instance {n : Nat} {P : Nat → V → Hp → Prop} [m : ∀ i, Mo (P i)] : Mo (IsLP n P) := ⟨fun e ⟨p, ys, h, q, l, k⟩ => ⟨p, ys, h, e _ _ q, l, fun i y hi => (m i).mo e (k i y hi)⟩⟩
instance {n : Nat} {P : Nat → V → Hp → Prop} [m : ∀ i, Mo (P i)] : Mo (IsUP n P) := ⟨fun e ⟨p, ys, h, q, l, k⟩ => ⟨p, ys, h, e _ _ q, l, fun i y hi => (m i).mo e (k i y hi)⟩⟩
def EvR (te : TE) (σ : L2.St) (B : Hp) (P : V → Hp → Prop) : Prop := ∀ H1, Ex B H1 → ∀ Q : VK, (∀ z H2 B', Ex H1 H2 → Gr H1 B B' → Ex B' H2 → P z B' → Q z H2) → te σ H1 Q
def EvAR (ta : TA) (σ : L2.St) (B : Hp) (P : List V → Hp → Prop) : Prop := ∀ H1, Ex B H1 → ∀ Q : List V → Hp → Prop, (∀ z H2 B', Ex H1 H2 → Gr H1 B B' → Ex B' H2 → P z B' → Q z H2) → ta σ H1 Q
section
variable {K : PySem.W.Frag} {σ : L2.St} {B B' H X : Hp} {ta tb te : TE} {t : TT} {tr : TA} {x y z v : V} {D : Ends} {tz tu tw : TS} {P : V → Hp → Prop} {xs : List V}
theorem EvR.mono (e : Ex B B') (m : Mo P) (h : EvR te σ B P) : EvR te σ B' P := fun H1 e1 Q q => h H1 (e.trans e1) Q fun z H2 B2 e2 g g2 p =>
  q z H2 (mrg B' B2) e2 ⟨mrg_l, fun a ha hx => by rw [mrg_none ha]; exact g.av a (none_of e ha) hx⟩ (mrg_le (e1.trans e2) g2) (m.mo (mrg_r (e1.trans e2) g2) p)
theorem EvR.imp {P' : V → Hp → Prop} (h : EvR te σ B P) (i : ∀ z B', Ex B B' → P z B' → P' z B') : EvR te σ B P' := fun H1 e1 Q q => h H1 e1 Q fun z H2 B2 e2 g g2 p => q z H2 B2 e2 g g2 (i z B2 g.ex p)
theorem rU (h : EvU te σ B xs) : EvR te σ B (IsNU xs) := fun H1 e Q q => h H1 e Q fun p H2 hp e2 h2 => q _ H2 (upd B p (.tup xs)) e2 (gr_new (none_of e hp) hp) (ex_upd (e.trans e2) h2) ⟨p, rfl, upd_same⟩
theorem EvR.val (h : EvR te σ B (IsV v)) : Ev te σ B v := fun H1 e Q q => h H1 e Q fun z H2 B' e2 _ _ hz => by
  have hz : z = v := hz
  subst hz
  exact q H2 e2
instance moA_nil : MoA fun vs _ => vs = ([] : List V) := ⟨fun _ h => h⟩
instance moA_eq {xs : List V} : MoA fun vs _ => vs = xs := ⟨fun _ h => h⟩
instance moA_cons {Pr : List V → Hp → Prop} [m : Mo P] [mr : MoA Pr] : MoA fun vs B' => ∃ z r, vs = z :: r ∧ P z B' ∧ Pr r B' := ⟨fun e ⟨z, r, h, p, q⟩ => ⟨z, r, h, m.mo e p, mr.mo e q⟩⟩
/-- statements -/
def Sx (X : Hp) (ts : TS) (D : Ends) (σ : L2.St) (B : Hp) : Prop := ∀ H, Ex B H → Ex X H → ts D σ H
theorem Sx.mono (e : Ex B B') (h : Sx X tu D σ B) : Sx X tu D σ B' := fun H a b => h H (e.trans a) b
def del (B : Hp) (l : Addr) : Hp := fun a => if a = l then none else B a
/-- the items that stood the test, as described -/
def Told (f : Nat → Bool) (Pe : Nat → V → Hp → Prop) (i : Nat) (ys : List V) (B : Hp) : Prop := ys.length = ((List.range i).filter f).length ∧ ∀ (k : Nat) (y : V) (n : Nat), ys[k]? = some y → ((List.range i).filter f)[k]? = some n → Pe n y B
theorem Told.mono {f : Nat → Bool} {Pe : Nat → V → Hp → Prop} (mo : ∀ i, Mo (Pe i)) {i : Nat} {ys : List V} (e : Ex B B') (h : Told f Pe i ys B) : Told f Pe i ys B' := ⟨h.1, fun k y n a b => (mo n).mo e (h.2 k y n a b)⟩
theorem Told.len {f : Nat → Bool} {Pe : Nat → V → Hp → Prop} {i : Nat} {ys : List V} (h : Told f Pe i ys B) : ys.length ≤ i := by
  rw [h.1]
  have := List.length_filter_le f (List.range i)
  rw [List.length_range] at this
  exact this
/-- no test -/
theorem Told.all {Pe : Nat → V → Hp → Prop} {i : Nat} {ys : List V} (h : Told (fun _ => true) Pe i ys B) : ys.length = i ∧ ∀ (k : Nat) (y : V), ys[k]? = some y → Pe k y B := by
  obtain ⟨hl, hp⟩ := h
  have e : (List.range i).filter (fun _ => true) = List.range i := List.filter_eq_self.mpr fun _ _ => rfl
  rw [e] at hl hp
  rw [List.length_range] at hl
  refine ⟨hl, fun k y hk => hp k y k hk ?_⟩
  have := (List.getElem?_eq_some_iff.mp hk).1
  rw [List.getElem?_range (by omega)]
end
end RX
/-! lists and tuples alike; values by their data -/
namespace RX
open PySem PySem.Spec PyProof.Rows L2 Evl LX
def SqA (K : PySem.W.Frag) (H : Hp) (a : Addr) (xs : List V) : Prop := SqL K H a xs ∨ SqT K H a xs
theorem ex_a {K : PySem.W.Frag} {H H' : Hp} {a : Addr} {xs : List V} (e : Ex H H') (h : SqA K H a xs) : SqA K H' a xs := h.imp (ex_l e) (ex_t e)
def LsP (K : PySem.W.Frag) (Py : List V → Hp → Prop) : V → Hp → Prop := fun z B => ∃ p ys, z = .ref p ∧ SqL K B p ys ∧ Py ys B
def TpP (K : PySem.W.Frag) (Py : List V → Hp → Prop) : V → Hp → Prop := fun z B => ∃ p ys, z = .ref p ∧ SqT K B p ys ∧ Py ys B
def SqP (K : PySem.W.Frag) (Py : List V → Hp → Prop) : V → Hp → Prop := fun z B => ∃ p ys, z = .ref p ∧ SqA K B p ys ∧ Py ys B
instance {K : PySem.W.Frag} {Py : List V → Hp → Prop} [m : MoA Py] : Mo (LsP K Py) := ⟨fun e ⟨p, ys, h, s, q⟩ => ⟨p, ys, h, ex_l e s, m.mo e q⟩⟩
instance {K : PySem.W.Frag} {Py : List V → Hp → Prop} [m : MoA Py] : Mo (TpP K Py) := ⟨fun e ⟨p, ys, h, s, q⟩ => ⟨p, ys, h, ex_t e s, m.mo e q⟩⟩
instance {K : PySem.W.Frag} {Py : List V → Hp → Prop} [m : MoA Py] : Mo (SqP K Py) := ⟨fun e ⟨p, ys, h, s, q⟩ => ⟨p, ys, h, ex_a e s, m.mo e q⟩⟩
/-! ### data -/
section
variable {K : PySem.W.Frag} {H : Hp} {v : V} {d : PyData}
theorem sql_ty {a : Addr} {xs : List V} (h : SqL K H a xs) : TyX K H (.ref a) (.type "list") := by
  rcases h with (h | ⟨o, h⟩) | ⟨o, its, n, hk, hc, _⟩
  · exact .base (.lst h)
  · exact .base (.frz h)
  · exact .kList hk hc
theorem sqt_ty {a : Addr} {xs : List V} (h : SqT K H a xs) : TyX K H (.ref a) (.type "tuple") := by
  rcases h with (h | ⟨o, h⟩) | ⟨o, its, n, hk, hc, _⟩
  · exact .base (.tup h)
  · exact .fTuple h
  · exact .kTuple hk hc
end
/-! ### rules -/
section
variable {X : Cx} {K : PySem.W.Frag}
theorem k_isiT (h : X.K = K := by rfl) : CallR X (.builtin "isinstance") (rIsiT K) := by subst h; exact call_isiT
theorem k_all (hc : X.calm = true) (h : X.K = K := by rfl) : CallR X (.builtin "all") (rAll K) := by subst h; exact cr_all hc
theorem k_any (hc : X.calm = true) (h : X.K = K := by rfl) : CallR X (.builtin "any") (rAny K) := by subst h; exact cr_any hc
def gOr (t u : TG) : TG := fun v σ H Q => t v σ H Q ∨ u v σ H Q
theorem pg_or {tg : Expr} {t u : TG} (a : PG X tg t) (b : PG X tg u) : PG X tg (gOr t u) := ⟨fun pins s σ H v u' Q I r h => h.elim (a.run pins s σ H v u' Q I r) (b.run pins s σ H v u' Q I r)⟩
def gSeq (K : PySem.W.Frag) (n : Nat) (t : TGs) : TG := gOr (gTup K n t) (gUnl K n t)
theorem pg_seq {es : List Expr} {k : Nat} {pos : Pos} {t : TGs} {n : Nat} (hc : X.calm = true) (hs : PGs X es t) (hn : (assignEach es X.env).length = n := by rfl) (hst : (assignEach es X.env).findIdx? (·.1) = none := by rfl) (h : X.K = K := by rfl) : PG X (.Tuple es k pos) (gSeq K n t) := by
  subst h; exact pg_or (pg_tup hc hs hn hst) (pg_unl hc hs hn hst)
end
/-! ### readings -/
end RX
/-! the text's facts, with its constants -/
namespace RX
open PySem PySem.Spec PyProof.Rows L2 Evl LX XV
def exC (intN : List (Str × Int)) (tupN : List (Str × List He.Dv)) (ex : PySem.W.Frag → Bool) (K : PySem.W.Frag) : Bool := (intN.all fun p => (He.Fa.int p.1 p.2).ok K) && ((tupN.all fun p => He.tupB K p.1 p.2) && ex K)
structure TxC (gloN freeN : List Str) (fnD : List He.DefD) (intN : List (Str × Int)) (tupN : List (Str × List He.Dv)) (ex : PySem.W.Frag → Bool) (K : PySem.W.Frag) (mg : Str → Option Value) : Prop where
  t : Tx gloN freeN fnD ex K mg
  i : ∀ p ∈ intN, ∃ tk, mg p.1 = some (.int p.2 tk)
  u : ∀ p ∈ tupN, ∀ H, SqT K H (He.ga K p.1) (p.2.map (He.Dv.v K))
section
variable {gloN freeN : List Str} {fnD : List He.DefD} {intN : List (Str × Int)} {tupN : List (Str × List He.Dv)} {ex : PySem.W.Frag → Bool} {K : PySem.W.Frag} {mg : Str → Option Value}
theorem TxC.n (T : TxC gloN freeN fnD intN tupN ex K mg) (x : Str) (h : x ∈ freeN) : mg x = none := T.t.n x h
theorem TxC.g (T : TxC gloN freeN fnD intN tupN ex K mg) (x : Str) (h : x ∈ gloN) : mg x = some (.ref (He.ga K x)) := T.t.g x h
end
end RX
/-! all of a comprehension; data of bounded size -/
namespace RX
open PySem PySem.Spec PyProof.Rows L2 Evl LX XV
end RX
namespace RX
open PySem PySem.Spec PyProof.Rows L2 Evl LX XV
end RX
/-! rows of whole numbers in ascending order, each once -/
namespace AS
open PySem PySem.Spec PyProof.Rows L2 TS
/-- rows of one arity, things below B -/
def Ok (B : Int) (d : Nat) (r : List Int) : Prop := r.length = d ∧ Bd B r
def ins (B : Int) (r : List Int) : List (List Int) → List (List Int)
  | [] => [r]
  | x :: t => if code B r < code B x then r :: x :: t else if r = x then x :: t else x :: ins B r t
end AS
/-! sets of rows, sorted; dicts with texts as keys -/
namespace RX
open PySem PySem.Spec PyProof.Rows L2 Evl LX XV WS
def IsTI (K : PySem.W.Frag) (k : List Int) : V → Hp → Prop := fun z B => ∃ p, z = .ref p ∧ SqT K B p (k.map V.int)
instance {K : PySem.W.Frag} {k : List Int} : Mo (IsTI K k) := ⟨fun e ⟨p, h, s⟩ => ⟨p, h, ex_t e s⟩⟩
/-- the values ys are the rows R -/
def RowsAt (K : PySem.W.Frag) (R : List (List Int)) : List V → Hp → Prop := fun ys B => ys.length = R.length ∧ ∀ (i : Nat) (y : V) (r : List Int), ys[i]? = some y → R[i]? = some r → IsTI K r y B
instance {K : PySem.W.Frag} {R : List (List Int)} : MoA (RowsAt K R) := ⟨fun e ⟨l, h⟩ => ⟨l, fun i y r a b => Mo.mo e (h i y r a b)⟩⟩
end RX
namespace LX
open PySem PySem.Spec PyProof.Rows L2
theorem k_fld {X : Cx} {K : PySem.W.Frag} {e : Expr} {f : Str} {pos : Pos} {ta : TE} (he : PE X e ta) (hb : attributeBase e f X.env (eval e X.env) = eval e X.env) (h : X.K = K := by rfl) : PE X (.Attribute e f pos) (tFld K ta f) := by subst h; exact pe_fld he hb
theorem u1 {k : Nat} {A : Around} (r : Room k A) : A.units + 1 < cLine := by have := r.units; omega
end LX
namespace RX
open PySem PySem.Spec PyProof.Rows L2 Evl LX XV WS
/-! ### relations as data -/
structure Rel where
  name : Str
  ar : Int
  rows : List (List Int)
def EntAt (K : PySem.W.Frag) (r : Rel) : V → Hp → Prop := fun v B => ∃ t q ys, v = .ref t ∧ SqT K B t [.int r.ar, .ref q] ∧ SqT K B q ys ∧ RowsAt K r.rows ys B
instance {K : PySem.W.Frag} {r : Rel} : Mo (EntAt K r) := ⟨fun e ⟨t, q, ys, h, a, b, c⟩ => ⟨t, q, ys, h, ex_t e a, ex_t e b, MoA.mo e c⟩⟩
def TabAt (K : PySem.W.Frag) (rels : List Rel) (kvs : List (Key × V)) (B : Hp) : Prop := kvs.map (·.1) = rels.map (fun r => (Sum.inr r.name : Key)) ∧ ∀ (i : Nat) (p : Key × V) (r : Rel), kvs[i]? = some p → rels[i]? = some r → EntAt K r p.2 B
theorem TabAt.mono {K : PySem.W.Frag} {rels : List Rel} {kvs : List (Key × V)} {B B' : Hp} (e : Ex B B') (h : TabAt K rels kvs B) : TabAt K rels kvs B' := ⟨h.1, fun i p r a b => Mo.mo e (h.2 i p r a b)⟩
theorem TabAt.len {K : PySem.W.Frag} {rels : List Rel} {kvs : List (Key × V)} {B : Hp} (h : TabAt K rels kvs B) : kvs.length = rels.length := by
  have := congrArg List.length h.1
  rw [List.length_map, List.length_map] at this
  exact this
theorem TabAt.snoc {K : PySem.W.Frag} {rels : List Rel} {kvs : List (Key × V)} {B : Hp} {r : Rel} {v : V} (h : TabAt K rels kvs B) (hv : EntAt K r v B) : TabAt K (rels ++ [r]) (kvs ++ [(Sum.inr r.name, v)]) B := by
  refine ⟨by rw [List.map_append, List.map_append, h.1]; rfl, fun i p r' hp hr => ?_⟩
  have hl := h.len
  by_cases c : i < kvs.length
  · rw [List.getElem?_append_left c] at hp
    rw [List.getElem?_append_left (by omega)] at hr
    exact h.2 i p r' hp hr
  · have c2 := (List.getElem?_eq_some_iff.mp hp).1
    rw [List.length_append, List.length_singleton] at c2
    have c3 : i = kvs.length := by omega
    subst c3
    rw [List.getElem?_append_right (Nat.le_refl _), Nat.sub_self] at hp
    rw [hl, List.getElem?_append_right (Nat.le_refl _), Nat.sub_self] at hr
    cases hp
    cases hr
    exact hv
theorem TabAt.find {K : PySem.W.Frag} {B : Hp} {s : Str} : ∀ {rels : List Rel} {kvs : List (Key × V)}, TabAt K rels kvs B → (match rels.find? (fun r => decide (r.name = s)) with
    | some r => ∃ v, valV kvs (Sum.inr s) = some v ∧ EntAt K r v B
    | none => valV kvs (Sum.inr s) = none)
  | [], kvs, h => by
    have : kvs = [] := List.length_eq_zero_iff.mp h.len
    subst this
    rfl
  | r :: rels, [], h => by
    have := h.len
    simp at this
  | r :: rels, p :: kvs, h => by
    have hk : p.1 = Sum.inr r.name := by
      have := h.1
      rw [List.map_cons, List.map_cons] at this
      exact (List.cons.inj this).1
    have ht : TabAt K rels kvs B := ⟨by
      have := h.1
      rw [List.map_cons, List.map_cons] at this
      exact (List.cons.inj this).2, fun i q r' a b => h.2 (i + 1) q r' a b⟩
    rw [List.find?_cons]
    by_cases c : r.name = s
    · rw [decide_eq_true c]
      exact ⟨p.2, valV_pos (by rw [hk, c]), h.2 0 p r rfl rfl⟩
    · rw [decide_eq_false c]
      have hn : ¬ p.1 = Sum.inr s := fun z => c (by rw [hk] at z; exact Sum.inr.inj z)
      rw [valV_neg hn]
      exact TabAt.find ht
end RX
/-! comprehensions with two fors; of dicts with nested keys -/
namespace RX
open PySem PySem.Spec PyProof.Rows L2 Evl LX XV WS
/-- the values ys are told one by one by ds -/
def A2 {δ : Type} (Pd : δ → V → Hp → Prop) (ds : List δ) (ys : List V) (B : Hp) : Prop := ys.length = ds.length ∧ ∀ (k : Nat) (y : V) (d : δ), ys[k]? = some y → ds[k]? = some d → Pd d y B
section
variable {δ : Type} {Pd : δ → V → Hp → Prop} {K : PySem.W.Frag} {P : Program} {w : World} {σ : L2.St} {B B' X : Hp} {te tk tv ta tb : TE} {wi wi1 : TI} {xs : List V} {j j1 : Nat} {vs vs1 : List Nat} {D : Ends} {tz : TS} {v : V}
theorem A2.mono (mo : ∀ d, Mo (Pd d)) {ds : List δ} {ys : List V} (e : Ex B B') (h : A2 Pd ds ys B) : A2 Pd ds ys B' := ⟨h.1, fun k y d a b => (mo d).mo e (h.2 k y d a b)⟩
instance {ds : List δ} [mo : ∀ d, Mo (Pd d)] : MoA (fun ys B => A2 Pd ds ys B) := ⟨fun e h => h.mono mo e⟩
instance {ds : List δ} [mo : ∀ d, Mo (Pd d)] : MoA (A2 Pd ds) := ⟨fun e h => h.mono mo e⟩
theorem A2.snoc {ds : List δ} {ys : List V} {d : δ} {y : V} (h : A2 Pd ds ys B) (hy : Pd d y B) : A2 Pd (ds ++ [d]) (ys ++ [y]) B := by
  obtain ⟨hl, hp⟩ := h
  refine ⟨by rw [List.length_append, List.length_append, hl]; rfl, fun k u e hk hn => ?_⟩
  by_cases c : k < ys.length
  · rw [List.getElem?_append_left c] at hk
    rw [List.getElem?_append_left (by omega)] at hn
    exact hp k u e hk hn
  · have c2 : k < (ys ++ [y]).length := (List.getElem?_eq_some_iff.mp hk).1
    rw [List.length_append, List.length_singleton] at c2
    have c3 : k = ys.length := by omega
    subst c3
    rw [List.getElem?_append_right (Nat.le_refl _), Nat.sub_self] at hk
    rw [hl, List.getElem?_append_right (Nat.le_refl _), Nat.sub_self] at hn
    cases hk
    cases hn
    exact hy
mutual
theorem nk_ex {H H' : Hp} (e : Ex H H') : ∀ {v : V} {k : NestedKey}, NK K H v k → NK K H' v k
  | _, _, .num i => .num i
  | _, _, .text s => .text s
  | _, _, .tup h hs => .tup (ex_t e h) (nks_ex e hs)
theorem nks_ex {H H' : Hp} (e : Ex H H') : ∀ {vs : List V} {ks : List NestedKey}, NKs K H vs ks → NKs K H' vs ks
  | _, _, .nil => .nil
  | _, _, .cons h hs => .cons (nk_ex e h) (nks_ex e hs)
end
end
end RX
/-! instances that are being filled; worlds -/
namespace LX
open PySem PySem.Spec PyProof.Rows L2
theorem k_sfld {X : Cx} {K : PySem.W.Frag} {o value : Expr} {f : Str} {pos pos' : Pos} {ta tv : TE} (ha : PE X o ta) (hv : PE X value tv) (hs : swapsWith value (some (.Attribute o f pos')) pos.line X.env = pure false) (h : X.K = K := by rfl) : PS X (.Assign [.Attribute o f pos'] value pos) (sFld K ta tv f) := by subst h; exact ps_fld ha hv hs
end LX
namespace RX
open PySem PySem.Spec PyProof.Rows L2 Evl LX XV WS
/-- all but instances stands as before -/
def ExN (H H' : Hp) : Prop := ∀ a o, H a = some o → (∀ C dx fs, o ≠ .ins C dx fs) → H' a = some o
theorem Ex.n {H H' : Hp} (e : Ex H H') : ExN H H' := fun a o h _ => e a o h
theorem exn_rd {H H' : Hp} {a : Addr} {u : HO} (e : ExN H H') (hu : ∀ C dx fs, u ≠ .ins C dx fs) (h : Rd H a u) : Rd H' a u := by
  rcases h with h | ⟨o, h⟩
  · exact .inl (e _ _ h hu)
  · exact .inr ⟨o, e _ _ h fun C dx fs c => nomatch c⟩
theorem exn_t {K : PySem.W.Frag} {H H' : Hp} {a : Addr} {xs : List V} (e : ExN H H') (h : SqT K H a xs) : SqT K H' a xs := h.imp (exn_rd e fun _ _ _ c => nomatch c) id
class MoN (P : V → Hp → Prop) : Prop where
  mo : ∀ {z H H'}, ExN H H' → P z H → P z H'
class MoAN (P : List V → Hp → Prop) : Prop where
  mo : ∀ {z H H'}, ExN H H' → P z H → P z H'
instance {v : V} : MoN (IsV v) := ⟨fun _ h => h⟩
instance {K : PySem.W.Frag} {Py : List V → Hp → Prop} [m : MoAN Py] : MoN (TpP K Py) := ⟨fun e ⟨p, ys, h, s, q⟩ => ⟨p, ys, h, exn_t e s, m.mo e q⟩⟩
instance {xs : List V} : MoAN (fun ys _ => ys = xs) := ⟨fun _ h => h⟩
instance {K : PySem.W.Frag} {k : List Int} : MoN (IsTI K k) := ⟨fun e ⟨p, h, s⟩ => ⟨p, h, exn_t e s⟩⟩
instance {K : PySem.W.Frag} {R : List (List Int)} : MoAN (RowsAt K R) := ⟨fun e ⟨l, h⟩ => ⟨l, fun i y r a b => MoN.mo e (h i y r a b)⟩⟩
instance {δ : Type} {Pd : δ → V → Hp → Prop} {ds : List δ} [mo : ∀ d, MoN (Pd d)] : MoAN (A2 Pd ds) := ⟨fun e ⟨l, h⟩ => ⟨l, fun i y d a b => (mo d).mo e (h i y d a b)⟩⟩
instance {K : PySem.W.Frag} {r : Rel} : MoN (EntAt K r) := ⟨fun e ⟨t, q, ys, h, a, b, c⟩ => ⟨t, q, ys, h, exn_t e a, exn_t e b, MoAN.mo e c⟩⟩
/-! ### worlds -/
def FactAt (K : PySem.W.Frag) (f : Str × List Int) : V → Hp → Prop := fun y B => ∃ a r, y = .ref a ∧ SqT K B a [.str f.1, .ref r] ∧ SqT K B r (f.2.map V.int)
instance {K : PySem.W.Frag} {f : Str × List Int} : Mo (FactAt K f) := ⟨fun e ⟨a, r, h, x, y⟩ => ⟨a, r, h, ex_t e x, ex_t e y⟩⟩
instance {K : PySem.W.Frag} {f : Str × List Int} : MoN (FactAt K f) := ⟨fun e ⟨a, r, h, x, y⟩ => ⟨a, r, h, exn_t e x, exn_t e y⟩⟩
def keyOf (f : Str × List Int) : NestedKey := .tup [.text f.1, .tup (f.2.map NestedKey.num)]
end RX
namespace RX
open PySem PySem.Spec PyProof.Rows L2 Evl LX XV WS
end RX
/-! methods by contract -/
namespace RX
open PySem PySem.Spec PyProof.Rows L2 Evl LX XV WS
end RX
/-! sorted lists of rows -/
namespace RX
open PySem PySem.Spec PyProof.Rows L2 Evl LX XV WS
section
variable {δ : Type} {Pd : δ → V → Hp → Prop} {B : Hp}
theorem A2.cons {d : δ} {y : V} {ds : List δ} {ys : List V} (h : Pd d y B) (t : A2 Pd ds ys B) : A2 Pd (d :: ds) (y :: ys) B := ⟨by rw [List.length_cons, List.length_cons, t.1], fun k u e hu he => by
  cases k with
  | zero => cases hu; cases he; exact h
  | succ k => exact t.2 k u e hu he⟩
end
end RX
/-! comprehensions whose list is told to be new; calls whose promise speaks of the heap at the call -/
namespace RX
open PySem PySem.Spec PyProof.Rows L2 Evl LX XV WS
/-! ### sorted rows, whatever their bound -/
/-! ### an object of the def's own, kept apart -/
/-- a list described by its items -/
def IsLA (Pa : List V → Hp → Prop) : V → Hp → Prop := fun z B => ∃ p vs, z = .ref p ∧ B p = some (.lst vs) ∧ Pa vs B
instance {Pa : List V → Hp → Prop} [m : MoA Pa] : Mo (IsLA Pa) := ⟨fun e ⟨p, vs, h, a, b⟩ => ⟨p, vs, h, e _ _ a, m.mo e b⟩⟩
theorem EvAR.imp {σ : L2.St} {B : Hp} {ta : TA} {Pa Pb : List V → Hp → Prop} (h : EvAR ta σ B Pa) (i : ∀ z B', Ex B B' → Pa z B' → Pb z B') : EvAR ta σ B Pb := fun H1 e Q q => h H1 e Q fun z H2 B2 e2 g g2 p => q z H2 B2 e2 g g2 (i z B2 g.ex p)
/-! ### calls -/
end RX
/-! methods that raise, called within a try; the exception that a suite holds, with its dict -/
namespace RX
open PySem PySem.Spec PyProof.Rows L2 Evl LX XV WS
end RX
/-! raise C(), an own class without __init__ -/
namespace RX
open PySem PySem.Spec PyProof.Rows L2 Evl LX XV WS
open PySem.Calls
theorem raises_of {X : Cx} {C : Addr} (T : OexC X.K C) : Raises X (.ref C) := fun M h i => ⟨PySem.W.looks_subIn i T.exC, PySem.W.looks_typeIn i T.tyC⟩
theorem pmk_ex0 {X : Cx} {x : Str} {C : Addr} {p pos : Pos} (T : OexC X.K C) (q : PySem.W.excIn X.K C veB "ValueError.__new__" = true) (hm : X.mg x = some (.ref C)) (hg : Gl X x := by rfl) (hdb : (x == ("__debug__" : Str)) = false := by decide) :
    L2.PMk X (.Call (.Name x p) [] [] pos) (fun _ H Q => Q (.ref C) none H) := by
  intro pins s σ H Q I h
  refine wpAny_Call_Name_kw (ld_glob I hg hm ?_ hdb)
  refine PySem.W.callWith_K0 I.kIn T.kC ?_
  show wpAny _ _ (call (.ref C) []) _ _ _
  obtain ⟨bm, N, nm, qn, bs, hdct, sn, sub, ab, col, dd, k0, k1, k2, k3, k5, mN, hC, hN, hni, T2⟩ := exc_obj I.kIn q
  refine wpAny_call_exc_subT F.excBase_ValueError T2 hC hN hni (fun h' a hm => ?_) (by show 0 ≤ sizeLine; omega)
  have hn : H a = none := I.hok.gone hm.new
  obtain ⟨t, ht, _, _⟩ := hm.there
  exact ⟨a, _, _, s, H, .ref C, none, rfl, I, hm.keeps, hm.new, ht, ⟨rfl, rfl⟩, rfl, rfl, hn, rfl, I.bare, raises_of T, h⟩
end RX
/-! len(set(numbers)) -/
namespace RX
open PySem PySem.Spec PyProof.Rows L2 Evl LX XV WS
def SetN (p : Addr) (n : Nat) : HO := .ext fun h => ∃ (o : Obj) (es : Array (Int × Value)) (ep : Nat) (t : SetTable), h.get? p = some o ∧ o.ExactSet ∧ o.data = Data.set es ep t ∧ t.fits es.size = true ∧ (es.size : Int) < 2 ^ 63 ∧ es.size = n
theorem setN_ok {P : Program} {w : World} {H : Hp} {h : Heap} {p : Addr} {n : Nat} (z : ∃ (o : Obj) (es : Array (Int × Value)) (ep : Nat) (t : SetTable), h.get? p = some o ∧ o.ExactSet ∧ o.data = Data.set es ep t ∧ t.fits es.size = true ∧ (es.size : Int) < 2 ^ 63 ∧ es.size = n) : ObjOk P w H h p (SetN p n) :=
  ⟨z, (let ⟨o, _, _, _, ho, _⟩ := z; ⟨o, ho⟩), fun h1 h2 ⟨o, es, ep, t, ho, r⟩ k => ⟨o, es, ep, t, k _ ho, r⟩⟩
def rLenN : List V → Hp → VK → Prop := fun xs H Q => ∃ (p : Addr) (n : Nat), xs = [.ref p] ∧ H p = some (SetN p n) ∧ Q (.int (n : Int)) H
theorem call_lenN {X : Cx} : CallR X (.builtin "len") rLenN := by
  intro pins s σ H xs us Q I r h
  obtain ⟨p, n, rfl, hp, q⟩ := h
  obtain ⟨u, rfl, ru⟩ := vals1 r
  cases ru
  obtain ⟨o, es, ep, t, ho, hx, hd, hf, hb, hn⟩ := (I.hok p _ hp).1
  refine call_len_set ho hx hd hf hb ?_
  exact ⟨.int (n : Int), H, I.tok _, ⟨_, by rw [hn]⟩, q⟩
end RX
/-! set(texts), however many -/
namespace SX
open PySem PySem.Spec PyProof.Rows L2
/-- the different ones, in the order in which they are met -/
def st (a : List Str) (x : Str) : List Str := if x ∈ a then a else a ++ [x]
def dis (l : List Str) : List Str := l.foldl st []
theorem fold_ok : ∀ (l acc : List Str), acc.Nodup → (l.foldl st acc).Nodup ∧ ∀ k, k ∈ l.foldl st acc ↔ k ∈ acc ∨ k ∈ l
  | [], acc, h => ⟨h, fun k => by simp⟩
  | x :: l, acc, h => by
    rw [List.foldl_cons]
    have hn : (st acc x).Nodup := by
      unfold st
      split
      · exact h
      · rename_i c
        exact List.nodup_append.mpr ⟨h, by simp, fun a ha b hb e => c (by rw [List.mem_singleton.mp hb] at e; exact e ▸ ha)⟩
    have hm : ∀ k, k ∈ st acc x ↔ k ∈ acc ∨ k = x := fun k => by
      unfold st
      split
      · rename_i c
        exact ⟨.inl, fun q => q.elim id fun e => e ▸ c⟩
      · simp
    obtain ⟨h1, h2⟩ := fold_ok l (st acc x) hn
    exact ⟨h1, fun k => by rw [h2, hm, List.mem_cons]; exact or_assoc⟩
theorem dis_mem {l : List Str} {k : Str} : k ∈ dis l ↔ k ∈ l := by
  have := (fold_ok l [] List.nodup_nil).2 k
  exact this.trans ⟨fun q => q.elim (fun h => nomatch h) id, .inr⟩
theorem dis_nodup {l : List Str} : (dis l).Nodup := (fold_ok l [] List.nodup_nil).1
theorem dis_snoc {l : List Str} {x : Str} : dis (l ++ [x]) = st (dis l) x := by
  unfold dis
  rw [List.foldl_append]
  rfl
theorem len_le {α : Type} [DecidableEq α] : ∀ {l m : List α}, l.Nodup → (∀ x ∈ l, x ∈ m) → l.length ≤ m.length
  | [], _, _, _ => Nat.zero_le _
  | x :: l, m, h, hs => by
    have hx : x ∈ m := hs x List.mem_cons_self
    obtain ⟨h1, h2⟩ := List.nodup_cons.mp h
    have := len_le (l := l) (m := m.erase x) h2 fun y hy => (List.mem_erase_of_ne (fun e : y = x => h1 (by rw [← e]; exact hy))).mpr (hs y (List.mem_cons_of_mem _ hy))
    rw [List.length_erase_of_mem hx] at this
    have : 0 < m.length := List.length_pos_of_mem hx
    simp only [List.length_cons]
    omega
section
variable {prog : Program} {w : World} {A : Around} {R : Result → Shared → Prop} {I : Addr} {fp wr : List Addr} {G : Array GenState → Array GenState → Prop} {n : Nat} {Pr : Nat → Value → Prop} {St : Nat → Shared → Prop}
theorem turns (W : WalksS prog w A.in1 I fp wr G n Pr St) (a : Addr) (ha : a ∉ fp) (xs : List Str) (hn : xs.length = n) (hb : n + 1 < scanBound) (hv : ∀ i v, Pr i v → ∃ t, v = .str (xs.getD i Str.empty) t) :
    ∀ (m i : Nat) (s : Shared), n - i = m → i ≤ n → St i s → s.heap.SetOf (PySem.strKind prog w) a (fun k => decide (k ∈ xs.take i)) (dis (xs.take i)).length →
      (∀ s', Moved (a :: wr) G s s' → s'.heap.SetOf (PySem.strKind prog w) a (fun k => decide (k ∈ xs)) (dis xs).length → R (.ok (.ret .none)) s') →
      codeAny (model prog w) A (.builtin "set.update.loop" ⟨[.ref a, .ref I], []⟩) R s := by
  have haw : a ∉ wr := fun h => ha (W.sub _ h)
  have sub : ∀ b ∈ wr, b ∈ a :: wr := fun b hb => List.mem_cons_of_mem _ hb
  have over : ∀ {s s' : Shared} {S : Str → Bool} {c : Nat}, Moved wr G s s' → s.heap.SetOf (PySem.strKind prog w) a S c → s'.heap.SetOf (PySem.strKind prog w) a S c := fun hm ⟨o, es, ep, t, ho, r⟩ => ⟨o, es, ep, t, hm.heap a _ haw ho, r⟩
  intro m
  induction m with
  | zero =>
    intro i s hm hi hs hS hR
    have e : i = n := by omega
    subst e
    rw [← hn, List.take_length] at hS
    refine codeAny_builtin PyProof.Rows.F.entry_set_update_loop ?_
    rw [Around.under_plainId PyProof.Rows.F.plain_set_update_loop _]
    show wpAny _ A.in1 (pyNext (.ref I) >>= _) _ _ s
    refine wpAny_bind (W.done s _ _ hs fun s' mv => ?_)
    show wpAny _ A.in1 (ret Value.none) _ _ s'
    exact wpAny_pure (hR s' (mv.mono sub) (over mv hS))
  | succ m ih =>
    intro i s hm hi hs hS hR
    have lt : i < n := by omega
    refine codeAny_builtin PyProof.Rows.F.entry_set_update_loop ?_
    rw [Around.under_plainId PyProof.Rows.F.plain_set_update_loop _]
    show wpAny _ A.in1 (pyNext (.ref I) >>= _) _ _ s
    refine wpAny_bind (W.item i s _ _ lt hs fun v s' hp hs' mv => ?_)
    obtain ⟨t, rfl⟩ := hv i v hp
    have hS' := over mv hS
    show wpAny _ A.in1 (holding [Value.str (xs.getD i Str.empty) t] (setAdd a (.str (xs.getD i Str.empty) t)) >>= _) _ _ s'
    refine wpAny_bind (wpAny_holding ?_)
    unfold setAdd
    refine wpAny_holding ?_
    refine wpAny_bind ((PySem.strKind prog w).pyHash (k := xs.getD i Str.empty) (strKind_is _ _ _ _) ?_)
    have le : (dis (xs.take i)).length ≤ n := by
      have : (dis (xs.take i)).length ≤ (xs.take i).length := len_le dis_nodup fun x hx => dis_mem.mp hx
      rw [List.length_take] at this
      omega
    refine wpAny_setAddHashed_of (knd := PySem.strKind prog w) (s := { s' with toks := s'.toks + 1 }) (strKind_is _ _ _ _) rfl hS' (by omega) fun h' sb hS2 => ?_
    have tk : xs.take (i + 1) = xs.take i ++ [xs.getD i Str.empty] := by
      have hx : xs[i]? = some xs[i] := List.getElem?_eq_getElem (by omega)
      rw [List.take_succ, List.getD_eq_getElem?_getD, hx]
      rfl
    have nS : h'.SetOf (PySem.strKind prog w) a (fun k => decide (k ∈ xs.take (i + 1))) (dis (xs.take (i + 1))).length := by
      refine SetOf_congr hS2 (fun k => ?_) ?_
      · rw [tk, Bool.eq_iff_iff]
        simp
      · rw [tk, dis_snoc]
        unfold st
        by_cases c : xs.getD i Str.empty ∈ xs.take i
        · rw [if_pos (by simpa using c), if_pos (dis_mem.mpr c)]
        · rw [if_neg (by simpa using c), if_neg (fun q => c (dis_mem.mp q)), List.length_append]
          rfl
    refine wpAny_pure ⟨plainId_quiet PyProof.Rows.F.plain_set_update_loop _, ih (i + 1) _ (by omega) lt (W.frame _ s' _ _ hs' (Nat.le_succ _) fun b hb o e => ?_) nS fun s2 m2 h2 => ?_⟩
    · rw [sb.2 b (fun h : b = a => ha (by rw [← h]; exact hb))]; exact e
    · refine hR s2 (Moved.trans W.gtrans ((mv.mono sub).then_heap (Nat.le_succ _) fun b o hb e => ?_) m2) h2
      rw [sb.2 b (fun h : b = a => hb (by rw [h]; exact List.mem_cons_self))]; exact e
end
end SX
/-! set(texts): the call -/
namespace SX
open PySem PySem.Spec PyProof.Rows L2
section
variable {prog : Program} {w : World} {A : Around} {E : Value → Shared → Prop} {s : Shared}
/-- what the call leaves: a new set of the different ones -/
def Left (prog : Program) (w : World) (s : Shared) (xs : List Str) (h' : Heap) : Prop :=
  h'.SetOf (PySem.strKind prog w) s.heap.objs.size (fun k => decide (k ∈ xs)) (dis xs).length ∧ ∀ b o, b < s.heap.objs.size → s.heap.get? b = some o → h'.get? b = some o
theorem call_set {l : Addr} {items : Array Value} {xs : List Str} {Q : Value → Shared → Prop} (hh : A.handled = none) (hl : s.heap.IsList l items) (hi : StrsAre items.toList xs) (hb : xs.length + 1 < scanBound)
    (h : ∀ (h' : Heap) (tk : Nat), Left prog w s xs h' → Q (.ref s.heap.objs.size) { s with heap := h', toks := tk }) : wpAny (model prog w) A (call (.type "set") [.ref l]) Q E s := by
  obtain ⟨c, tl, hmro⟩ := PySem.F.called_set.mro
  have hmade := PySem.F.called_set.made
  have hsub := PySem.F.called_set.sub
  refine wpAny_call (codeAny_of_tree ?_)
  show wpAny _ _ (callAny (.type "set") _) _ _ _
  refine wpAny_pure ⟨Code.quiet_builtin _ (by decide +kernel), codeAny_builtin PySem.F.entry_type_call ?_⟩
  rw [Around.under_plain (weight_type_call_type "set" [.ref l] []) rfl]
  have hT1 := PySem.F.called_set.notType
  have hT2 := PySem.F.called_set.canCreate
  have hT3 := PySem.F.typeCall_set_1 (.ref l)
  repeat (any_goals (first | assumption | wp_step))
  refine codeAny_mono (code_set_new_1 (.ref l) (E := E) (Q₁ := fun y z => ∃ led : Bool, y = .ref s.heap.objs.size ∧ z = { s with heap := s.heap.push { cls := .type "set", dict := none, data := .set #[] 0 (.fresh 0 0 led) } }) fun led => ⟨led, rfl, rfl⟩) fun r z hr => ?_
  rcases r with e | fl
  · exact hr
  cases fl with
  | ret y =>
    obtain ⟨led, rfl, rfl⟩ := hr
    have new : (s.heap.push { cls := .type "set", dict := none, data := .set #[] 0 (.fresh 0 0 led) }).get? s.heap.objs.size = some { cls := .type "set", dict := none, data := .set #[] 0 (.fresh 0 0 led) } := Heap.get?_push_size _ rfl
    have ty : Shared.TypeIs { s with heap := s.heap.push { cls := .type "set", dict := none, data := .set #[] 0 (.fresh 0 0 led) } } (.ref s.heap.objs.size) "set" := ⟨_, new, rfl⟩
    have il := PySem.F.called_set.init.lookup
    have ib := PySem.F.called_set.init.bind (.ref s.heap.objs.size)
    repeat (any_goals (first | assumption | wp_step))
    refine codeAny_mono (codeAny_call_builtin (R := wants (fun r z => r = .none ∧ ∃ h' tk, z = { s with heap := h', toks := tk } ∧ Left prog w s xs h') E) PySem.F.called_set.init.plain PySem.F.entry_set_init (check_set_init_1 ty ?_)) fun r2 z2 hr2 => ?_
    · have hl0 := hl
      obtain ⟨⟨oc, od, odt, osl⟩, ho, hoc, nl, hod⟩ := hl
      simp only at hoc hod
      subst hoc
      subst hod
      have ho' : (s.heap.push { cls := .type "set", dict := none, data := .set #[] 0 (.fresh 0 0 led) }).get? l = some { cls := .type "list", dict := od, data := .seq items nl, slots := osl } := Heap.get?_push_of_some _ ho
      have n1 := PySem.F.sub_list_set
      have n2 := PySem.F.sub_list_frozenset
      have n3 : (Value.type "list" == Value.type "dict") = false := by decide
      have hl1 : (s.heap.push { cls := .type "set", dict := none, data := .set #[] 0 (.fresh 0 0 led) }).IsList l items := ⟨_, ho', rfl, nl, rfl⟩
      unfold Builtin.«set.__init__» noKeywords Builtin.Frozenset.updateFrom
      generalize hPI : pyIter = PI
      wp_walk
      subst hPI
      refine wpAny_pyIter_list hl1 ?_
      refine wpAny_bind (wpAny_runValue ?_)
      have lt : l < s.heap.objs.size := Heap.lt_size ho
      have sz : (s.heap.push { cls := .type "set", dict := none, data := .set #[] 0 (.fresh 0 0 led) }).objs.size = s.heap.objs.size + 1 := Heap.size_push ..
      have h3 : A.in1.in1.in1.handled = none := by simp [hh]
      have ne : l ≠ (s.heap.push { cls := .type "set", dict := none, data := .set #[] 0 (.fresh 0 0 led) }).objs.size := by
        rw [sz]; exact Nat.ne_of_lt (Nat.lt_succ_of_lt lt)
      have nf : s.heap.objs.size ∉ [(s.heap.push { cls := .type "set", dict := none, data := .set #[] 0 (.fresh 0 0 led) }).objs.size, l] := by
        rw [sz]
        simp only [List.mem_cons, List.not_mem_nil, or_false, not_or]
        exact ⟨Nat.ne_of_lt (Nat.lt_succ_self _), Nat.ne_of_gt lt⟩
      have len : xs.length = items.size := by rw [← StrsAre.len_eq hi, Array.length_toList]
      refine turns ((Walks.list h3 _ l ne items).toS) s.heap.objs.size nf xs len (by omega) (fun i v hv => SS.strs_at hi i v (by rw [Array.getElem?_toList]; exact hv)) (items.size - 0) 0 _ (by omega) (Nat.zero_le _)
        ⟨⟨_, Heap.get?_push_size _ rfl, rfl, rfl⟩, (hl1.push _)⟩ ?hs ?hr
      case hs =>
        have g : ((s.heap.push { cls := .type "set", dict := none, data := .set #[] 0 (.fresh 0 0 led) }).push { cls := .type "list_iterator", data := .fields #[.ref l, .int 0 0] }).get? s.heap.objs.size = some { cls := .type "set", dict := none, data := .set #[] 0 (.fresh 0 0 led) } := Heap.get?_push_of_some _ new
        exact SetOf_congr ((setObjOf_fresh (knd := PySem.strKind prog w) led).setOf g (by unfold scanBound; omega)) (fun k => by simp) rfl
      case hr =>
        intro z hm hS
        obtain ⟨h', g', d', tk', os'⟩ := z
        have eg : g' = s.gens := hm.gens
        have ed : d' = s.drawn := hm.drawn
        have eo : os' = s.os := hm.os
        subst eg; subst ed; subst eo
        show wpAny _ _ _ _ _ _
        refine wpAny_pure ?_
        show wpAny _ _ (ret Value.none) _ _ _
        refine wpAny_pure ⟨rfl, h', tk', rfl, hS, fun b o hb e => hm.heap b o ?_ (Heap.get?_push_of_some _ (Heap.get?_push_of_some _ e))⟩
        simp only [List.mem_cons, List.not_mem_nil, or_false, not_or]
        exact ⟨Nat.ne_of_lt hb, by rw [sz]; exact Nat.ne_of_lt (Nat.lt_succ_of_lt hb)⟩
    · rcases r2 with e | f2
      · exact hr2
      cases f2 with
      | ret r =>
        obtain ⟨rfl, h', tk, rfl, hS⟩ := hr2
        repeat (any_goals (first | assumption | wp_step))
        exact h _ _ hS
      | _ => exact hr2.elim
  | _ => exact hr.elim
end
/-! ### rules -/
def rSetS (K : PySem.W.Frag) : List V → Hp → VK → Prop := fun xs H Q => ∃ (l : Addr) (zs : List Str), xs = [.ref l] ∧ SqL K H l (zs.map V.str) ∧ zs.length ≤ 4000 ∧ ∀ p, H p = none → Q (.ref p) (upd H p (RX.SetN p (dis zs).length))
theorem call_setS {X : Cx} {K : PySem.W.Frag} (hc : X.calm = true) (hK : X.K = K := by rfl) : CallR X (.type "set") (rSetS K) := by
  subst hK
  intro pins s σ H xs us Q I r h
  obtain ⟨l, zs, rfl, hs, hz, q⟩ := h
  obtain ⟨u, rfl, ru⟩ := vals1 r
  cases ru
  obtain ⟨its, rv, p, _⟩ := I.list hs
  refine call_set (xs := zs) (I.ok.hd hc) p.isList (by simpa using strsAre_of rv) (by unfold scanBound; omega) fun h' tk hL => ?_
  obtain ⟨hset, hk⟩ := hL
  obtain ⟨o, es, ep, t, ho, hx, hd, _, _, hb, hf, hn⟩ := hset
  exact ⟨.ref s.heap.objs.size, _, I.laid (t' := tk) (fun b u e => hk b u (Heap.lt_size e) e) (Nat.le_refl _) (RX.setN_ok ⟨o, es, ep, t, ho, hx, hd, hf, by unfold scanBound at hb; omega, hn⟩), rfl, q _ (I.hok.fresh (Nat.le_refl _))⟩
end SX
/-! sets of tuples of whole numbers and texts: what they are, the search in them -/
namespace TM
open PySem PySem.Spec PyProof.Rows L2
abbrev mh (P : Program) (w : World) (k : List Key) : Int := tupleKeyHash (mixKind P w) k
abbrev IsM (P : Program) (w : World) (h : Heap) (k : List Key) (a : Addr) : Prop := IsTupleKey (mixKind P w) h k a
abbrev ML : Type := List (Addr × List Key)
section
variable {P : Program} {w : World} {A : Around} {E : Value → Shared → Prop} {s : Shared}
/-! ### small questions -/
def Sm (v : Value) : Prop := (∃ i t, v = Value.int i t) ∨ ∃ x t, v = Value.str x t
theorem sm_items {k : List Key} {vs : List Value} (h : ItemsAre (mixKind P w) k vs) : ∀ v ∈ vs, Sm v := by
  induction h with
  | nil => intro v hv; cases hv
  | @cons c u cs us h1 _ ih =>
    intro v hv
    rcases List.mem_cons.mp hv with rfl | hv
    · rcases keyIs_shape h1 with ⟨i, t, _, rfl⟩ | ⟨x, t, _, rfl⟩
      · exact .inl ⟨i, t, rfl⟩
      · exact .inr ⟨x, t, rfl⟩
    · exact ih v hv
theorem sm_cls {v : Value} (h : Sm v) (n : Nat) : ofAClassStatement n v = pure false := by
  rcases h with ⟨i, t, rfl⟩ | ⟨x, t, rfl⟩ <;> cases n <;> rfl
theorem sm_hash {v : Value} (h : Sm v) (n : Nat) : ∃ b, hashByValue n v = pure b := by
  rcases h with ⟨i, t, rfl⟩ | ⟨x, t, rfl⟩
  · exact ⟨true, by cases n <;> rfl⟩
  · exact ⟨false, by cases n <;> rfl⟩
theorem m_cls {k : List Key} {b : Addr} {Q : Bool → Shared → Prop} (hk : IsM P w s.heap k b) (h : Q false s) : wpAny (model P w) A (ofAClassStatement 8 (.ref b)) Q E s := by
  have T := hk.typeIs
  obtain ⟨o, us, n, ho, _, hd, hi⟩ := hk
  unfold ofAClassStatement
  refine wpAny_bind (wpAny_typeOf T ?_)
  dsimp only
  simp only [show (("tuple" : String) == "tuple") = true by decide, if_true, Bool.not_true, Bool.false_eq_true, if_false]
  try refine wpAny_bind (wpAny_pure ?_)
  try simp only [Bool.not_true, Bool.false_eq_true, if_false]
  show wpAny _ _ (seqItems? (.ref b) >>= _) _ _ s
  refine wpAny_bind (wpAny_seqItems ho hd ?_)
  dsimp only
  refine wpAny_bind ?_
  show wpAny _ _ (forIn us _ _) _ _ s
  rw [← Array.forIn_toList]
  refine wpAny_forIn_list _ (fun l r z => r.1 = none ∧ z = s ∧ ∀ v ∈ l, Sm v) _ ?_ ?_ _ _ ⟨rfl, rfl, sm_items hi⟩
  · rintro v l r z ⟨hr, rfl, al⟩
    rw [sm_cls (al v List.mem_cons_self)]
    refine wpAny_bind (wpAny_pure ?_)
    rw [if_neg Bool.false_ne_true]
    exact wpAny_pure ⟨rfl, rfl, fun u m => al u (List.mem_cons_of_mem _ m)⟩
  · rintro ⟨r1, r2⟩ z ⟨hr, rfl, _⟩
    simp only at hr
    subst hr
    exact wpAny_pure h
theorem m_hash {k : List Key} {b : Addr} {Q : Bool → Shared → Prop} (hk : IsM P w s.heap k b) (h : ∀ r, Q r s) : wpAny (model P w) A (hashByValue 8 (.ref b)) Q E s := by
  have T := hk.typeIs
  obtain ⟨o, us, n, ho, _, hd, hi⟩ := hk
  unfold hashByValue
  refine wpAny_bind (wpAny_specialOf T F.slot_tuple_hash.lookup ?_)
  show wpAny _ _ (seqItems? (.ref b) >>= _) _ _ s
  refine wpAny_bind (wpAny_seqItems ho hd ?_)
  refine wpAny_bind ?_
  show wpAny _ _ (forIn us _ _) _ _ s
  rw [← Array.forIn_toList]
  refine wpAny_forIn_list _ (fun l r z => r.1 = none ∧ z = s ∧ ∀ v ∈ l, Sm v) _ ?_ ?_ _ _ ⟨rfl, rfl, sm_items hi⟩
  · rintro v l r z ⟨hr, rfl, al⟩
    obtain ⟨c, hc⟩ := sm_hash (al v List.mem_cons_self) 7
    rw [hc]
    refine wpAny_bind (wpAny_pure ?_)
    cases c with
    | true =>
      rw [if_neg (by decide)]
      exact wpAny_pure ⟨rfl, rfl, fun u m => al u (List.mem_cons_of_mem _ m)⟩
    | false =>
      rw [if_pos (by decide)]
      exact wpAny_pure (wpAny_pure (h false))
  · rintro ⟨r1, r2⟩ z ⟨hr, rfl, _⟩
    simp only at hr
    subst hr
    exact wpAny_pure (h true)
/-- no search among them is seen -/
theorem m_seen {k : List Key} {b : Addr} {Q : Bool → Shared → Prop} (hk : IsM P w s.heap k b) {ys : List Value} (hy : ∀ y ∈ ys, ∃ j c, y = Value.ref c ∧ IsM P w s.heap j c) (h : Q false s) : wpAny (model P w) A (searchCouldBeSeen (.ref b) ys) Q E s := by
  unfold searchCouldBeSeen
  refine wpAny_bind ?_
  refine wpAny_forIn_list _ (fun l r z => r.1 = none ∧ z = s ∧ ∀ y ∈ l, ∃ j c, y = Value.ref c ∧ IsM P w s.heap j c) _ ?_ ?_ _ _ ⟨rfl, rfl, hy⟩
  · rintro v l r z ⟨hr, rfl, al⟩
    obtain ⟨j, c, rfl, hc⟩ := al v List.mem_cons_self
    have al2 : ∀ y ∈ l, ∃ j c, y = Value.ref c ∧ IsM P w z.heap j c := fun u m => al u (List.mem_cons_of_mem _ m)
    dsimp only
    by_cases same : (b == c || (carriedByValue (.ref b) && carriedByValue (.ref c))) = true
    · exact wp_if_pos same (wpAny_pure ⟨rfl, rfl, al2⟩)
    · refine wp_if_neg same (wpAny_bind (wpAny_eqIsQuiet_tuple hk ?_))
      simp only [Bool.not_true, Bool.false_eq_true, if_false]
      refine wpAny_bind (wpAny_eqIsQuiet_tuple hc ?_)
      simp only [Bool.not_true, Bool.false_eq_true, if_false]
      refine wpAny_bind (m_cls hk ?_)
      rw [if_neg Bool.false_ne_true]
      refine wpAny_bind (m_cls hc ?_)
      rw [if_neg Bool.false_ne_true]
      exact wpAny_pure ⟨rfl, rfl, al2⟩
  · rintro ⟨r1, r2⟩ z ⟨hr, rfl, _⟩
    simp only at hr
    subst hr
    exact wpAny_pure h
end
end TM
/-! sets of tuples of whole numbers and texts: the search -/
namespace TM
open PySem PySem.Spec PyProof.Rows L2
def ents (P : Program) (w : World) (L : ML) : List (Int × Value) := L.map fun p => (mh P w p.2, Value.ref p.1)
/-- the set at a has these tuples -/
structure MS (P : Program) (w : World) (h : Heap) (a : Addr) (L : ML) (es : Array (Int × Value)) (ep : Nat) (t : SetTable) : Prop where
  ob : ∃ o, h.get? a = some o ∧ o.ExactSet ∧ o.data = .set es ep t
  en : es.toList = ents P w L
  tb : TabOk t (L.map fun p => mh P w p.2)
  nd : (L.map (·.2)).Nodup
  tu : ∀ p ∈ L, IsM P w h p.2 p.1
  ld : w.params.followText "set-order" = true ∨ t.led = true
  ro : L.length * 5 < t.mask * 3
  fw : L.length < 64
section
variable {P : Program} {w : World} {A : Around} {E : Value → Shared → Prop} {s : Shared} {a : Addr} {L : ML} {es : Array (Int × Value)} {ep : Nat} {t : SetTable}
theorem ents_len (h : es.toList = ents P w L) : es.size = L.length := by
  rw [← Array.length_toList, h]
  unfold ents
  rw [List.length_map]
theorem MS.size (R : MS P w s.heap a L es ep t) : es.size = L.length := ents_len R.en
theorem MS.plc (R : MS P w s.heap a L es ep t) : t.place.size = L.length := by
  have := R.tb.sz
  rwa [List.length_map] at this
theorem MS.fits (R : MS P w s.heap a L es ep t) : t.fits es.size = true := by
  have h1 := R.plc
  have h2 := R.size
  have h3 := R.ro
  unfold SetTable.fits SetTable.fill
  rw [R.tb.dm, Bool.and_eq_true, beq_iff_eq, decide_eq_true_eq]
  show t.place.size = es.size ∧ t.place.size + 0 ≤ t.mask
  omega
theorem MS.at_ (R : MS P w s.heap a L es ep t) {i : Nat} {p : Addr × List Key} (h : L[i]? = some p) : es[i]? = some (mh P w p.2, Value.ref p.1) := by
  have : es.toList[i]? = some (mh P w p.2, Value.ref p.1) := by
    rw [R.en]
    unfold ents
    rw [List.getElem?_map, h]
    rfl
  rwa [Array.getElem?_toList] at this
theorem MS.stays (R : MS P w s.heap a L es ep t) : ¬ t.gaveWay = true := by
  have := mask_odd R.tb.mok
  unfold SetTable.gaveWay
  rw [this]
  decide
/-- the probes' starts, one after another -/
def pr (t : SetTable) (x : Int) : SetTable.Probe := runAt t.mask (SetTable.bits x % (t.mask + 1)) (SetTable.bits x)
theorem pr_dummy (m : Nat) : ∀ (n : Nat) (p : SetTable.Probe), p.dummy = none → (nth m p n).dummy = none
  | 0, _, h => h
  | n + 1, p, h => pr_dummy m n (adv m p) (by unfold adv; split <;> exact h)
theorem pr_way {t : SetTable} {x : Int} (c q : Nat) : (nth t.mask (nth t.mask (pr t x) c) q).j = way t.mask x (c + q) := by
  rw [← nth_add]
  rfl
theorem MS.hash (R : MS P w s.heap a L es ep t) {i : Nat} {p : Addr × List Key} (h : L[i]? = some p) : (es[i]?.map (·.1)).getD 0 = mh P w p.2 := by
  rw [R.at_ h]
  rfl
/-- from the c-th place of the way on -/
theorem hunt (R : MS P w s.heap a L es ep t) {x : Addr} {k : List Key} (hx : IsM P w s.heap k x) (hu : A.units < cLine) {N : Nat} (hN : N < 10 * SetTable.turns t.mask) (free : way t.mask (mh P w k) N ∉ t.place.toList) (full : ∀ c, c < N → way t.mask (mh P w k) c ∈ t.place.toList) {Q : SetFound → Shared → Prop}
    (yes : k ∈ L.map (·.2) → Q (.there none) s) (no : k ∉ L.map (·.2) → Q (.free (way t.mask (mh P w k) N) false) s) :
    ∀ (f c : Nat) (st : Option SetTable.Probe), st.getD (t.probeStart (mh P w k)) = nth t.mask (pr t (mh P w k)) c → c ≤ N → N - c < f →
      (∀ (i : Nat) p, L[i]? = some p → p.2 = k → ∃ d, c ≤ d ∧ d < N ∧ t.place.toList[i]? = some (way t.mask (mh P w k) d)) → wpAny (model P w) A (setSearchFrom a (.ref x) (mh P w k) true f st) Q E s
  | 0, _, _, _, _, hf, _ => absurd hf (Nat.not_lt_zero _)
  | f + 1, c, st, hst, hc, hf, left => by
    obtain ⟨o, ho, hex, hd⟩ := R.ob
    rw [setSearchFrom_succ]
    refine wpAny_bind (wpAny_setState_of ho hd R.fits ?_)
    dsimp only
    refine wp_if_neg R.stays ?_
    try refine wpAny_bind (wpAny_pure ?_)
    have sp := go_spec t R.tb.ris R.tb.dm (fun i => (es[i]?.map (·.1)).getD 0) (mh P w k) (10 * SetTable.turns t.mask) (N - c) (nth t.mask (pr t (mh P w k)) c) (pr_dummy t.mask c _ rfl) (by omega)
      (fun q hq => by rw [pr_way]; exact full (c + q) (by omega)) (by rw [pr_way, show c + (N - c) = N by omega]; exact free)
    rcases sp with ⟨q, i, hq, hi, hh, before, e⟩ | ⟨none_, e⟩
    · -- one with the same hash
      have e : t.probe (fun i => (es[i]?.map (·.1)).getD 0) (mh P w k) (st.getD (t.probeStart (mh P w k))) = some (.candidate (way t.mask (mh P w k) (c + q)) i (nth t.mask (pr t (mh P w k)) (c + (q + 1)))) := by
        rw [hst, ← pr_way, nth_add t.mask c _ (q + 1)]
        exact e
      rw [e]
      dsimp only
      rw [pr_way] at hi
      have il : i < L.length := by
        have h1 := (List.getElem?_eq_some_iff.mp hi).1
        have h2 := R.plc
        rw [Array.length_toList] at h1
        omega
      obtain ⟨p, hp⟩ : ∃ p, L[i]? = some p := ⟨_, List.getElem?_eq_getElem il⟩
      have pm : p ∈ L := List.mem_of_getElem? hp
      have pt := R.tu p pm
      have on : wpAny (model P w) A (searchRest a (.ref x) (mh P w k) true f es t (way t.mask (mh P w k) (c + q)) i (nth t.mask (pr t (mh P w k)) (c + (q + 1)))) Q E s := by
        unfold searchRest
        rw [R.at_ hp]
        dsimp only
        refine wpAny_bind (wpAny_holding (wpAny_eqBool_tuple hu pt hx ?_))
        refine wpAny_bind (wpAny_setState_of ho hd R.fits ?_)
        dsimp only
        by_cases eq : p.2 = k
        · refine wp_if_pos (by simp [eq]) (wpAny_pure (yes ?_))
          exact List.mem_map.mpr ⟨p, pm, eq⟩
        · refine wp_if_neg (by simp [eq]) ?_
          try refine wpAny_bind (wpAny_pure ?_)
          rw [sameMem]
          dsimp only
          have live : t.slot (way t.mask (mh P w k) (c + q)) = .live i := slot_live R.tb.ris hi
          simp only [if_true, live, R.at_ hp]
          refine wpAny_bind (wpAny_isSame_ref_self (wpAny_bind (wpAny_pure ?_)))
          simp only [if_true]
          refine wp_if_neg (by simp [eq]) ?_
          refine hunt R hx hu hN free full yes no f (c + (q + 1)) _ rfl (by omega) (by omega) fun i2 p2 h2 k2 => ?_
          obtain ⟨d, d1, d2, d3⟩ := left i2 p2 h2 k2
          refine ⟨d, ?_, d2, d3⟩
          rcases Nat.lt_trichotomy d (c + q) with z | z | z
          · exfalso
            refine before (d - c) i2 (by omega) (by rw [pr_way, show c + (d - c) = d by omega]; exact d3) ?_
            exact (R.hash h2).trans (congrArg (mh P w) k2)
          · exfalso
            rw [z] at d3
            have l2 := slot_live R.tb.ris d3
            rw [live] at l2
            injection l2 with l2
            rw [← l2, hp] at h2
            exact eq ((congrArg Prod.snd (Option.some.inj h2)).trans k2)
          · omega
      by_cases led : t.led = true
      · refine wp_if_neg (by simp [led]) ?_
        try refine wpAny_bind (wpAny_pure ?_)
        exact on
      · refine wp_if_pos (by simp [led]) (wpAny_bind (m_seen hx (fun y hy => ?_) ?_))
        · obtain ⟨en, he, rfl⟩ := List.mem_map.mp hy
          have he1 : en ∈ es ∧ en.1 = mh P w k := by simpa using he
          have he2 : en ∈ ents P w L := by rw [← R.en]; simpa using he1.1
          obtain ⟨p3, hp3, rfl⟩ := List.mem_map.mp he2
          exact ⟨p3.2, p3.1, rfl, R.tu p3 hp3⟩
        · refine wp_if_neg (by decide) ?_
          try refine wpAny_bind (wpAny_pure ?_)
          exact on
    · -- none
      have e : t.probe (fun i => (es[i]?.map (·.1)).getD 0) (mh P w k) (st.getD (t.probeStart (mh P w k))) = some (.empty (way t.mask (mh P w k) N) none) := by
        have e2 : way t.mask (mh P w k) N = (nth t.mask (nth t.mask (pr t (mh P w k)) c) (N - c)).j := by rw [pr_way, show c + (N - c) = N by omega]
        rw [hst, e2]
        exact e
      rw [e]
      dsimp only
      refine wpAny_pure (no fun hm => ?_)
      obtain ⟨p, pm, pk⟩ := List.mem_map.mp hm
      obtain ⟨i, hi, rfl⟩ := List.getElem_of_mem pm
      have h0 : L[i]? = some L[i] := List.getElem?_eq_getElem hi
      obtain ⟨d, d1, d2, d3⟩ := left i _ h0 pk
      refine none_ (d - c) i (by omega) (by rw [pr_way, show c + (d - c) = d by omega]; exact d3) ?_
      exact (R.hash h0).trans (congrArg (mh P w) pk)
theorem hunt_all (R : MS P w s.heap a L es ep t) {x : Addr} {k : List Key} (hx : IsM P w s.heap k x) (hu : A.units < cLine) {Q : SetFound → Shared → Prop} (yes : k ∈ L.map (·.2) → Q (.there none) s)
    (no : ∀ N, k ∉ L.map (·.2) → way t.mask (mh P w k) N ∉ t.place.toList → (∀ c, c < N → way t.mask (mh P w k) c ∈ t.place.toList) → Q (.free (way t.mask (mh P w k) N) false) s) : wpAny (model P w) A (setSearch a (.ref x) (mh P w k) true) Q E s := by
  have ro := R.ro
  obtain ⟨N, hN, free, full⟩ := R.tb.first (by rw [List.length_map]; omega) (mh P w k)
  have small : N < 100000 := by
    have : 10 * SetTable.turns t.mask ≤ 1420 := by
      unfold SetTable.turns
      rcases R.tb.mok with e | e | e <;> omega
    omega
  unfold setSearch
  refine hunt R hx hu hN free full yes (fun q => no N q free full) 100000 0 none rfl (Nat.zero_le _) (by omega) fun i p hp hk => ?_
  have il : i < t.place.toList.length := by
    have h1 := (List.getElem?_eq_some_iff.mp hp).1
    have h2 := R.plc
    rw [Array.length_toList]
    omega
  have hj := List.getElem?_eq_getElem il
  obtain ⟨d, hd, e⟩ := R.tb.before free (h := mh P w k) (i := i) (by rw [List.getElem?_map, hp, ← hk]; rfl) hj
  exact ⟨d, Nat.zero_le _, hd, by rw [hj, e]⟩
end
end TM
/-! sets of tuples of whole numbers and texts: adding -/
namespace TM
open PySem PySem.Spec PyProof.Rows L2
section
variable {P : Program} {w : World} {A : Around} {E : Value → Shared → Prop} {s : Shared}
theorem isM_same {h h' : Heap} {k : List Key} {a b : Addr} {o : Obj} {es : Array (Int × Value)} {ep : Nat} {t : SetTable} (hb : IsM P w h k b) (ho : h.get? a = some o) (hd : o.data = .set es ep t) (sb : Heap.SameBut a h h') : IsM P w h' k b := by
  obtain ⟨o', us, n, ho', r, hd', q⟩ := hb
  have ne : b ≠ a := fun c => by
    subst c
    rw [ho] at ho'
    cases ho'
    rw [hd] at hd'
    exact nomatch hd'
  exact ⟨o', us, n, (sb.2 b ne).trans ho', r, hd', q⟩
theorem ents_put (L : ML) (p : Nat) (x : Addr) (k : List Key) : ents P w (L.take p ++ (x, k) :: L.drop p) = (ents P w L).take p ++ (mh P w k, Value.ref x) :: (ents P w L).drop p := by
  simp only [ents, List.map_append, List.map_cons, List.map_take, List.map_drop]
theorem in_between {α : Type} (l : List α) (p : Nat) (x : α) : (l.take p ++ x :: l.drop p).Perm (x :: l) := by
  have h : (l.take p ++ x :: l.drop p).Perm (x :: (l.take p ++ l.drop p)) := List.perm_middle
  rwa [List.take_append_drop] at h
theorem pick_all {α : Type} (l : List α) : ∀ n, n ≤ l.length → (List.range n).filterMap (fun i => l[i]?) = l.take n
  | 0, _ => rfl
  | n + 1, h => by
    have hx : l[n]? = some l[n] := List.getElem?_eq_getElem h
    rw [List.range_succ, List.filterMap_append, pick_all l n (Nat.le_of_lt h), List.take_succ, hx, List.filterMap_cons_some hx]
    rfl
theorem ents_order (L : ML) (es : Array (Int × Value)) (order : Array Nat) (hr : es.toList = ents P w L) (hp : order.toList.Perm (List.range L.length)) :
    ∃ M : ML, (order.filterMap (es[·]?)).toList = ents P w M ∧ M.Perm L ∧ (M.map fun p => mh P w p.2) = order.toList.map fun i => (es.map (·.1)).getD i 0 := by
  have sz := ents_len hr
  have at_ : ∀ (i : Nat) (p : Addr × List Key), L[i]? = some p → es[i]? = some (mh P w p.2, Value.ref p.1) := fun i p h => by
    rw [← Array.getElem?_toList, hr]
    unfold ents
    rw [List.getElem?_map, h]
    rfl
  have go : ∀ l : List Nat, (∀ i ∈ l, i < L.length) → l.filterMap (fun i => es[i]?) = ents P w (l.filterMap fun i => L[i]?) ∧ ((l.filterMap fun i => L[i]?).map fun p => mh P w p.2) = l.map fun i => (es.map (·.1)).getD i 0 := by
    intro l
    induction l with
    | nil => exact fun _ => ⟨rfl, rfl⟩
    | cons i l ih =>
      intro hl
      obtain ⟨e1, e2⟩ := ih fun j hj => hl j (List.mem_cons_of_mem _ hj)
      have il := hl i List.mem_cons_self
      have h0 : L[i]? = some L[i] := List.getElem?_eq_getElem il
      have h1 := at_ i _ h0
      rw [List.filterMap_cons_some h1, List.filterMap_cons_some h0, e1]
      refine ⟨rfl, ?_⟩
      rw [List.map_cons, List.map_cons, e2]
      have : (es.map (·.1)).getD i 0 = mh P w (L[i]).2 := by
        have h2 : (es.map (·.1))[i]? = some (mh P w (L[i]).2) := by rw [Array.getElem?_map, h1]; rfl
        simp [Array.getD_eq_getD_getElem?, h2]
      rw [this]
  obtain ⟨e1, e2⟩ := go order.toList fun i hi => List.mem_range.mp (hp.mem_iff.mp hi)
  refine ⟨_, by simpa using e1, ?_, e2⟩
  have := hp.filterMap fun i => L[i]?
  rwa [pick_all L L.length (Nat.le_refl _), List.take_length] at this
variable {a : Addr} {L : ML} {es : Array (Int × Value)} {ep : Nat} {t : SetTable}
/-- laid anew, larger -/
theorem grow {o : Obj} (ho : s.heap.get? a = some o) (hex : o.ExactSet) (hd : o.data = .set es ep t) (en : es.toList = ents P w L) (sz : t.place.size = es.size) (dm : t.dummies = #[]) (le : es.size ≤ t.mask) (nd : (L.map (·.2)).Nodup) (tu : ∀ p ∈ L, IsM P w s.heap p.2 p.1) (ld : w.params.followText "set-order" = true ∨ t.led = true) (fw : L.length < 64) {n M : Nat}
    (hM : SetTable.sizeAbove n - 1 = M) (ok : MaskOk M) (hn : SetTable.sizeAbove n ≤ 128) (ro : L.length * 5 < M * 3) {Q : Unit → Shared → Prop}
    (q : ∀ h' L' es' ep' t', Heap.SameBut a s.heap h' → MS P w h' a L' es' ep' t' → L'.Perm L → Q () { s with heap := h' }) : wpAny (model P w) A (setRelay a n) Q E s := by
  have len := ents_len en
  have fits : t.fits es.size = true := by
    unfold SetTable.fits SetTable.fill
    rw [dm, Bool.and_eq_true, beq_iff_eq, decide_eq_true_eq]
    show t.place.size = es.size ∧ t.place.size + 0 ≤ t.mask
    omega
  obtain ⟨t2, order, e, hp, T, em, el, _, ed⟩ := relaid_ok t (hs := es.map (·.1)) (wanted := n) hM ok (by rw [Array.size_map, len]; omega)
  rw [Array.size_map, len] at hp
  obtain ⟨L2, r1, r2, r3⟩ := ents_order L es order en hp
  rw [← r3] at T
  have sz2 : (order.filterMap (es[·]?)).size = es.size := by rw [ents_len r1, r2.length_eq, len]
  rw [setRelay_eq]
  refine wpAny_bind (wpAny_setState_of ho hd fits ?_)
  dsimp only
  refine wp_if_neg (by rw [sizeLine_eq]; omega) ?_
  try refine wpAny_bind (wpAny_pure ?_)
  rw [e]
  dsimp only
  refine wpAny_bind (wp_if_neg (by rw [sz2]; simp) ?_)
  try refine wpAny_bind (wpAny_pure ?_)
  refine wpAny_pure ?_
  dsimp only
  refine wpAny_storeSet_of ho hd ?_ (by rw [sz2, len, sizeLine_eq]; omega)
  have sb : Heap.SameBut a s.heap (s.heap.update a (Obj.putSet (order.filterMap (es[·]?)) t2)) := Heap.SameBut.update ..
  exact q _ L2 _ (ep + 1) t2 sb ⟨⟨_, store_at ho hd, ⟨hex.1, hex.2.1, hex.2.2⟩, rfl⟩, r1, T, (r2.map (·.2)).nodup_iff.mpr nd, fun p m => isM_same (tu p (r2.mem_iff.mp m)) ho hd sb, by rw [el]; exact ld, by rw [r2.length_eq, em]; exact ro, by rw [r2.length_eq]; exact fw⟩ r2
theorem tab_plain {t : SetTable} {hs : List Int} {b : Bool} (T : TabOk t hs) : TabOk { t with plain := b } hs := ⟨T.ris, T.dm, T.sz, T.mok, T.bd, T.reach⟩
theorem add_ (R : MS P w s.heap a L es ep t) {x : Addr} {k : List Key} (hx : IsM P w s.heap k x) (hu : A.units < cLine) (fw : L.length + 1 < 64) {Q : Bool → Shared → Prop}
    (q : ∀ b h' L' es' ep' t', Heap.SameBut a s.heap h' → MS P w h' a L' es' ep' t' → (k ∈ L.map (·.2) → L' = L) → (k ∉ L.map (·.2) → L'.Perm ((x, k) :: L)) → Q b { s with heap := h' }) : wpAny (model P w) A (setAddHashed a (.ref x) (mh P w k)) Q E s := by
  obtain ⟨o, ho, hex, hd⟩ := R.ob
  have len := R.size
  have ro := R.ro
  unfold setAddHashed
  refine wpAny_holding ?_
  rw [show (100000 : Nat) = 99999 + 1 from rfl, setAddHashedIn_succ]
  refine wpAny_bind (wpAny_setState_of ho hd R.fits ?_)
  dsimp only
  refine wp_if_neg (by simp [byScan, Value.scannable]) ?_
  try refine wpAny_bind (wpAny_pure ?_)
  refine wpAny_bind (hunt_all R hx hu (fun hm => wpAny_pure (q false s.heap L es ep t (Heap.SameBut.refl a s.heap) R (fun _ => rfl) fun z => absurd hm z)) fun N hm free full => ?_)
  dsimp only
  refine wpAny_bind (wpAny_setState_of ho hd R.fits ?_)
  dsimp only
  obtain ⟨p1, _, p3, p4, p5, _, _, _, p9⟩ := R.tb.put free full
  generalize t.put (way t.mask (mh P w k) N) = pt at p1 p3 p4 p5 p9 ⊢
  obtain ⟨t0, p⟩ := pt
  dsimp only at p1 p3 p4 p5 p9 ⊢
  subst p1
  have en0 : (SetTable.insertAt es (SetTable.below t.place (way t.mask (mh P w k) N)) (mh P w k, Value.ref x)).toList = ents P w (L.take (SetTable.below t.place (way t.mask (mh P w k) N)) ++ (x, k) :: L.drop (SetTable.below t.place (way t.mask (mh P w k) N))) := by
    rw [SetTable.toList_insertAt, ents_put, R.en]
  generalize SetTable.below t.place (way t.mask (mh P w k) N) = p at p3 en0 ⊢
  have pm := in_between L p (x, k)
  have hl : (L.take p ++ (x, k) :: L.drop p).length = L.length + 1 := pm.length_eq
  have hh : (L.take p ++ (x, k) :: L.drop p).map (fun p => mh P w p.2) = (L.map fun p => mh P w p.2).take p ++ mh P w k :: (L.map fun p => mh P w p.2).drop p := by
    simp only [List.map_append, List.map_cons, List.map_take, List.map_drop]
  rw [← hh] at p3
  have nd1 : ((L.take p ++ (x, k) :: L.drop p).map (·.2)).Nodup := (pm.map (·.2)).nodup_iff.mpr (List.nodup_cons.mpr ⟨hm, R.nd⟩)
  have se := ents_len en0
  rw [hl] at se
  generalize SetTable.insertAt es p (mh P w k, Value.ref x) = es1 at en0 se ⊢
  generalize L.take p ++ (x, k) :: L.drop p = L1 at pm hl p3 nd1 en0
  -- the table, whether its members' hashes go by value or not
  have tail : ∀ t1 : SetTable, TabOk t1 (L1.map fun p => mh P w p.2) → t1.mask = t.mask → t1.led = t.led → t1.fill = L.length + 1 → wpAny (model P w) A (do
      storeSet a es1 t1
      if (!false && t1.tooFull) = true then setRelay a (SetTable.grown (es.size + 1))
      return true) Q E s := fun t1 T1 m1 l1 f1 => by
    refine wpAny_bind (wpAny_storeSet_of ho hd ?_ (by rw [se, sizeLine_eq]; omega))
    have sb : Heap.SameBut a s.heap (s.heap.update a (Obj.putSet es1 t1)) := Heap.SameBut.update ..
    have ho1 := store_at (es' := es1) (t' := t1) ho hd
    generalize s.heap.update a (Obj.putSet es1 t1) = h1 at sb ho1 ⊢
    have tu1 : ∀ p ∈ L1, IsM P w h1 p.2 p.1 := fun p hp => by
      rcases List.mem_cons.mp (pm.mem_iff.mp hp) with e | hp
      · rw [e]; exact isM_same hx ho hd sb
      · exact isM_same (R.tu p hp) ho hd sb
    have ld1 : w.params.followText "set-order" = true ∨ t1.led = true := by rw [l1]; exact R.ld
    by_cases hf : t1.tooFull = true
    · first
        | (refine wpAny_bind ?_; refine wp_if_pos (by simp [hf]) ?_)
        | (refine wp_if_pos (by simp [hf]) ?_; refine wpAny_bind ?_)
      have big : (L.length + 1) * 5 ≥ t1.mask * 3 := by
        have h := hf
        unfold SetTable.tooFull at h
        rwa [decide_eq_true_eq, f1] at h
      rw [len]
      have z1 : t1.place.size = es1.size := by
        have h := T1.sz
        rw [List.length_map, hl] at h
        rw [h, se]
      have two : (t.mask = 7 ∧ L.length = 4) ∨ (t.mask = 31 ∧ L.length = 18) := by
        rcases R.tb.mok with e | e | e
        · left; rw [m1, e] at big; rw [e] at ro; exact ⟨e, by omega⟩
        · right; rw [m1, e] at big; rw [e] at ro; exact ⟨e, by omega⟩
        · exfalso; rw [m1, e] at big; omega
      have go : ∀ M, SetTable.sizeAbove (SetTable.grown (L.length + 1)) - 1 = M → MaskOk M → SetTable.sizeAbove (SetTable.grown (L.length + 1)) ≤ 128 → (L.length + 1) * 5 < M * 3 →
          wpAny (model P w) A (setRelay a (SetTable.grown (L.length + 1))) (fun _ z => wpAny (model P w) A (pure true) Q E z) E { s with heap := h1 } := fun M g1 g2 g3 g4 =>
        grow (s := { s with heap := h1 }) ho1 ⟨hex.1, hex.2.1, hex.2.2⟩ rfl en0 z1 T1.dm (by rw [se, m1]; rcases two with ⟨e, e2⟩ | ⟨e, e2⟩ <;> omega) nd1 tu1 ld1 (by rw [hl]; exact fw) g1 g2 g3 (by rw [hl]; exact g4)
          fun h2 L2 es2 ep2 t2 sb2 R2 pm2 => wpAny_pure (q true h2 L2 es2 ep2 t2 (sb.trans sb2) R2 (fun z => absurd z hm) fun _ => pm2.trans pm)
      rcases two with ⟨_, e2⟩ | ⟨_, e2⟩
      · exact go 31 (by rw [e2, size_20]) (.inr (.inl rfl)) (by rw [e2, size_20]; decide) (by omega)
      · exact go 127 (by rw [e2, size_76]) (.inr (.inr rfl)) (by rw [e2, size_76]; decide) (by omega)
    · first
        | refine wp_if_neg (by simp [hf]) ?_
        | (refine wpAny_bind ?_; refine wp_if_neg (by simp [hf]) ?_; refine wpAny_pure ?_)
      refine wpAny_pure (q true h1 L1 es1 (ep + 1) t1 sb ⟨⟨_, ho1, ⟨hex.1, hex.2.1, hex.2.2⟩, rfl⟩, en0, T1, nd1, tu1, ld1, ?_, by rw [hl]; exact fw⟩ (fun z => absurd z hm) fun _ => pm)
      have h := hf
      unfold SetTable.tooFull at h
      rw [decide_eq_true_eq, f1] at h
      rw [hl]
      omega
  have ft : t0.fill = L.length + 1 := by rw [p9, List.length_map]
  by_cases hp1 : t0.plain = true
  · first
      | (refine wpAny_bind ?_; refine wp_if_pos hp1 ?_; refine m_hash hx fun r => ?_)
      | refine wp_if_pos hp1 (wpAny_bind (m_hash hx fun r => ?_))
    cases r with
    | true => exact tail t0 p3 p4 p5 ft
    | false => exact tail { t0 with plain := false } (tab_plain p3) p4 p5 ft
  · first
      | (refine wpAny_bind ?_; refine wp_if_neg hp1 ?_; refine wpAny_pure ?_)
      | refine wp_if_neg hp1 (wpAny_bind (wpAny_pure ?_))
    exact tail t0 p3 p4 p5 ft
end
end TM
/-! tuples of whole numbers and texts: their order, sorted -/
namespace TM
open PySem PySem.Spec PyProof.Rows L2
/-! ### the order -/
def ltKy : Key → Key → Bool
  | .inl a, .inl b => decide (a < b)
  | .inr x, .inr y => decide (x.cps.toList < y.cps.toList)
  | .inl _, .inr _ => true
  | .inr _, .inl _ => false
def ltT : List Key → List Key → Bool
  | a :: as, b :: bs => if a = b then ltT as bs else ltKy a b
  | [], _ :: _ => true
  | _, [] => false
theorem ky_asym : ∀ {a b : Key}, ltKy a b = true → ltKy b a = false
  | .inl a, .inl b, h => decide_eq_false (by have := of_decide_eq_true h; omega)
  | .inr x, .inr y, h => decide_eq_false (List.lt_asymm (of_decide_eq_true h))
  | .inl _, .inr _, _ => rfl
theorem ky_neg : ∀ {a b c : Key}, ltKy a b = false → ltKy b c = false → ltKy a c = false
  | .inl a, .inl b, .inl c, h, k => decide_eq_false (by have := of_decide_eq_false h; have := of_decide_eq_false k; omega)
  | .inr x, .inr y, .inr z, h, k => decide_eq_false (List.not_lt.mpr (List.le_trans (List.not_lt.mp (of_decide_eq_false k)) (List.not_lt.mp (of_decide_eq_false h))))
  | .inr _, _, .inl _, _, _ => rfl
theorem str_ext {x y : Str} (h : x.cps.toList = y.cps.toList) : x = y := by
  cases x
  cases y
  simp only at h
  rw [Array.toList_inj.mp h]
theorem ky_tot : ∀ {a b : Key}, a ≠ b → ltKy a b = false → ltKy b a = true
  | .inl a, .inl b, n, h => decide_eq_true (by have := of_decide_eq_false h; have : a ≠ b := fun c => n (by rw [c]); omega)
  | .inr x, .inr y, n, h => decide_eq_true (by
    have h1 := List.not_lt.mp (of_decide_eq_false h)
    rcases Classical.em (y.cps.toList < x.cps.toList) with c | c
    · exact c
    · exact absurd (congrArg Sum.inr (str_ext (List.le_antisymm (List.not_lt.mp c) h1))) n)
  | .inr _, .inl _, _, _ => rfl
theorem t_asym : ∀ {a b : List Key}, ltT a b = true → ltT b a = false
  | [], [], h => nomatch h
  | [], _ :: _, _ => rfl
  | _ :: _, [], h => nomatch h
  | a :: as, b :: bs, h => by
    unfold ltT at h ⊢
    by_cases c : a = b
    · rw [if_pos c] at h
      rw [if_pos c.symm]
      exact t_asym h
    · rw [if_neg c] at h
      rw [if_neg (fun e => c e.symm)]
      exact ky_asym h
theorem t_neg : ∀ {a b c : List Key}, ltT a b = false → ltT b c = false → ltT a c = false
  | [], [], _, _, k => k
  | [], _ :: _, _, h, _ => nomatch h
  | _ :: _, _, [], _, _ => rfl
  | _ :: _, [], _ :: _, _, k => nomatch k
  | a :: as, b :: bs, c :: cs, h, k => by
    unfold ltT at h k ⊢
    by_cases e1 : a = b
    · subst e1
      rw [if_pos rfl] at h
      by_cases e2 : a = c
      · rw [if_pos e2] at k ⊢
        exact t_neg h k
      · rw [if_neg e2] at k ⊢
        exact k
    · rw [if_neg e1] at h
      by_cases e2 : b = c
      · subst e2
        rw [if_neg e1]
        exact h
      · rw [if_neg e2] at k
        by_cases e3 : a = c
        · subst e3
          rw [ky_tot e1 h] at k
          exact nomatch k
        · rw [if_neg e3]
          exact ky_neg h k
theorem t_anti : ∀ {a b : List Key}, ltT a b = false → ltT b a = false → a = b
  | [], [], _, _ => rfl
  | [], _ :: _, h, _ => nomatch h
  | _ :: _, [], _, k => nomatch k
  | a :: as, b :: bs, h, k => by
    unfold ltT at h k
    by_cases e : a = b
    · subst e
      rw [if_pos rfl] at h k
      rw [t_anti h k]
    · rw [if_neg e] at h
      rw [if_neg (fun c => e c.symm)] at k
      rw [ky_tot e h] at k
      exact nomatch k
/-- texts and numbers stand at the same places -/
def tx : Key → Bool
  | .inl _ => false
  | .inr _ => true
/-! ### read in the heap -/
def toK : Value → Key
  | .int i _ => .inl i
  | .str x _ => .inr x
  | _ => .inl 0
def kOf (h : Heap) : Value → List Key
  | .ref a => match h.get? a with
    | some o => match o.data with
      | .seq us _ => us.toList.map toK
      | _ => []
    | none => []
  | _ => []
section
variable {P : Program} {w : World} {A : Around} {E : Value → Shared → Prop} {s : Shared}
theorem toK_items {k : List Key} {us : List Value} (h : ItemsAre (mixKind P w) k us) : us.map toK = k := by
  induction h with
  | nil => rfl
  | @cons c u cs us h1 _ ih =>
    rw [List.map_cons, ih]
    rcases keyIs_shape h1 with ⟨i, t, rfl, rfl⟩ | ⟨x, t, rfl, rfl⟩ <;> rfl
theorem kOf_is {h : Heap} {k : List Key} {a : Addr} (x : IsM P w h k a) : kOf h (.ref a) = k := by
  obtain ⟨o, us, n, ho, _, hd, hi⟩ := x
  unfold kOf
  simp only [ho, hd]
  exact toK_items hi
theorem swo (h : Heap) : SrtO.Swo fun v u => ltT (kOf h v) (kOf h u) := ⟨fun _ _ => t_asym, fun _ _ _ h1 h2 => t_neg h2 h1⟩
/-- two of them, compared -/
theorem klex {Q : Bool → Shared → Prop} : ∀ {k j : List Key} {us vs : List Value} (i : Nat), ItemsAre (mixKind P w) k us → ItemsAre (mixKind P w) j vs → k.map tx = j.map tx → Q (ltT k j) s → PySem.W.KatLex P w A true false Q (us.zip vs) i s
  | _, _, _, _, i, .nil, .nil, _, q => PySem.W.kat_nil q
  | _, _, _, _, i, .cons (k := c) (v := u) h1 r1, .cons (k := d) (v := v) h2 r2, e, q => by
    obtain ⟨e1, e2⟩ := List.cons.inj e
    unfold ltT at q
    have go : ∀ b : Bool, (b = true ↔ c = d) → wpAny (model P w) A (oneLt' (true && i == 0) u v) (fun r z => c ≠ d → (r = ltKy c d ∧ z = s)) (fun _ _ => False) s → PySem.W.KatGo P w A true false Q u v _ i b s := fun b hb one =>
      PySem.W.kat_go (fun t => PySem.W.kat_yes (klex (i + 1) r1 r2 e2 (by rw [if_pos (hb.mp t)] at q; exact q))) (fun t => by
        have ne : c ≠ d := fun z => by rw [hb.mpr z] at t; exact nomatch t
        rw [if_neg ne] at q
        exact PySem.W.kat_no (wpAny_mono one (fun r z h => by obtain ⟨rfl, rfl⟩ := h ne; exact q) fun _ _ x => x))
    rcases keyIs_shape h1 with ⟨x, t, rfl, rfl⟩ | ⟨x, t, rfl, rfl⟩
    · rcases keyIs_shape h2 with ⟨y, u, rfl, rfl⟩ | ⟨y, u, rfl, rfl⟩
      · refine PySem.W.kat_cons (SeqAt.EqAt.int_int x t y u P w _ _ (go _ ⟨fun b => by rw [beq_iff_eq.mp b], fun b => by rw [Sum.inl.inj b]; exact beq_self_eq_true _⟩ ?_))
        cases i with
        | zero => exact oneLt_int fun _ => ⟨rfl, rfl⟩
        | succ i => exact PySem.W.kat_one _ _ (PyProof.Rows.lt_int (show _ → _ from fun _ => ⟨rfl, rfl⟩))
      · exact nomatch e1
    · rcases keyIs_shape h2 with ⟨y, u, rfl, rfl⟩ | ⟨y, u, rfl, rfl⟩
      · exact nomatch e1
      · refine PySem.W.kat_cons (SeqAt.EqAt.str_str x t y u P w _ _ (go _ ⟨fun b => by rw [beq_iff_eq.mp b], fun b => by rw [Sum.inr.inj b]; exact beq_self_eq_true _⟩ ?_))
        cases i with
        | zero => exact oneLt_str fun _ => ⟨rfl, rfl⟩
        | succ i => exact PySem.W.kat_one _ _ (PyProof.Rows.lt_str (show _ → _ from fun _ => ⟨rfl, rfl⟩))
  | _, _, _, _, _, .nil, .cons _ _, e, _ => nomatch e
  | _, _, _, _, _, .cons _ _, .nil, e, _ => nomatch e
theorem items_len {k : List Key} {us : List Value} (h : ItemsAre (mixKind P w) k us) : k.length = us.length := by
  induction h with
  | nil => rfl
  | cons _ _ ih => exact congrArg (· + 1) ih
/-- the values are tuples of one shape -/
def Sh (P : Program) (w : World) (h : Heap) (sh : List Bool) (vs : List Value) : Prop := ∀ v ∈ vs, ∃ a k, v = .ref a ∧ IsM P w h k a ∧ k.map tx = sh
theorem cmp {vs : List Value} {sh : List Bool} (hv : Sh P w s.heap sh vs) : SrtO.Cmp P w A s (tuples' true) (fun p => p.1 ∈ vs) (SrtO.lt2 fun v u => ltT (kOf s.heap v) (kOf s.heap u)) := by
  intro p q hp hq
  obtain ⟨a, k, e1, h1, s1⟩ := hv _ hp
  obtain ⟨b, j, e2, h2, s2⟩ := hv _ hq
  show wpAny (model P w) A (keyLt' (tuples' true) p.1 q.1) (fun r z => z = s ∧ r = ltT (kOf s.heap p.1) (kOf s.heap q.1)) (fun _ _ => False) s
  rw [e1, e2, kOf_is h1, kOf_is h2]
  obtain ⟨o, us, n, ho, _, hd, hi⟩ := h1
  obtain ⟨o', us', n', ho', _, hd', hi'⟩ := h2
  refine PySem.W.kat_lt ho hd ho' hd' ?_
  have l1 : k.length = us.size := by rw [← Array.length_toList]; exact items_len hi
  have l2 : j.length = us'.size := by rw [← Array.length_toList]; exact items_len hi'
  have l3 : k.length = j.length := by have := congrArg List.length (s1.trans s2.symm); simpa using this
  rw [decide_eq_false (by omega : ¬ us.size < us'.size)]
  exact klex 0 hi hi' (s1.trans s2.symm) ⟨rfl, rfl⟩
theorem firsts {h : Heap} {b : Bool} {sh : List Bool} : ∀ {vs : List Value}, Sh P w h (b :: sh) vs → ∃ fs, PySem.W.KatTups h vs fs ∧ fs.length = vs.length ∧ ∀ f ∈ fs, if b = true then ∃ x t, f = Value.str x t else ∃ x t, f = Value.int x t
  | [], _ => ⟨[], PySem.W.KatTups.nil, rfl, fun _ hm => by simp at hm⟩
  | v :: vs, hv => by
    obtain ⟨fs, h1, h2, h3⟩ := firsts fun u m => hv u (List.mem_cons_of_mem _ m)
    obtain ⟨a, k, rfl, ⟨o, us, n, ho, hc, hd, hi⟩, hk⟩ := hv v List.mem_cons_self
    obtain ⟨us⟩ := us
    cases hi with
    | nil => exact nomatch hk
    | @cons c u cs us hcu r =>
      obtain ⟨k1, _⟩ := List.cons.inj hk
      refine ⟨u :: fs, PySem.W.KatTups.cons ho hc hd rfl h1, by rw [List.length_cons, List.length_cons, h2], fun f hm => ?_⟩
      rcases List.mem_cons.mp hm with rfl | hm
      · rcases keyIs_shape hcu with ⟨i, t, rfl, rfl⟩ | ⟨x, t, rfl, rfl⟩
        · subst k1; exact (show ∃ x u, Value.int i t = Value.int x u from ⟨i, t, rfl⟩)
        · subst k1; exact (show ∃ y u, Value.str x t = Value.str y u from ⟨x, t, rfl⟩)
      · exact h3 f hm
theorem sortable {a : Addr} {vs : List Value} {b : Bool} {sh : List Bool} {hb : Heap} (h0 : 0 < vs.length) (hv : Sh P w s.heap (b :: sh) vs) (hr : ∀ v ∈ vs, kOf hb v = kOf s.heap v) (ha : ∀ o, s.heap.get? a = some o → o.cls ≠ .type "tuple") : SrtO.SortableO P w A s a vs fun v u => ltT (kOf hb v) (kOf hb u) := by
  intro h' keep
  have ks : ∀ {k : List Key} {c : Addr}, IsM P w s.heap k c → IsM P w h' k c := fun {k c} ⟨o, us, n, ho, hc, r⟩ => ⟨o, us, n, keep c o (fun e => by subst e; exact ha o ho hc) ho, hc, r⟩
  have hv' : Sh P w h' (b :: sh) vs := fun v m => by
    obtain ⟨c, k, e, i, z⟩ := hv v m
    exact ⟨c, k, e, ks i, z⟩
  have eq : ∀ v ∈ vs, kOf h' v = kOf hb v := fun v m => by
    obtain ⟨c, k, rfl, i, z⟩ := hv v m
    rw [hr _ m, kOf_is (ks i), kOf_is i]
  obtain ⟨fs, f1, f2, f3⟩ := firsts hv'
  refine ⟨tuples' true, fun Q E hq => ?_, fun p q hp hq => ?_⟩
  · cases b with
    | false =>
      refine PySem.W.kat_kind (T := .type "int") f1 (by omega) (fun f m => ?_) (by rfl) ?_
      · have z := f3 f m
        rw [if_neg (by decide)] at z
        obtain ⟨x, t, rfl⟩ := z
        exact PySem.W.Looks.now
      · have e : (Value.type "int" != Value.type "tuple") = true := by first | decide +kernel | rfl | decide
        rw [e]; exact hq
    | true =>
      refine PySem.W.kat_kind (T := .type "str") f1 (by omega) (fun f m => ?_) (by rfl) ?_
      · have z := f3 f m
        rw [if_pos rfl] at z
        obtain ⟨x, t, rfl⟩ := z
        exact PySem.W.Looks.now
      · have e : (Value.type "str" != Value.type "tuple") = true := by first | decide +kernel | rfl | decide
        rw [e]; exact hq
  · have z := cmp (P := P) (w := w) (A := A) (s := { s with heap := h' }) hv' p q hp hq
    refine wpAny_mono z (fun r u hh => ?_) fun _ _ x => x
    obtain ⟨rfl, rfl⟩ := hh
    refine ⟨rfl, ?_⟩
    show ltT (kOf h' p.1) (kOf h' q.1) = ltT (kOf hb p.1) (kOf hb q.1)
    rw [eq _ hp, eq _ hq]
end
end TM
/-! sets of tuples of whole numbers and texts: rules -/
namespace TM
open PySem PySem.Spec PyProof.Rows L2 WS
/-- the set, without the tuples themselves -/
def MS0 (P : Program) (w : World) (h : Heap) (a : Addr) (L : ML) : Prop := ∃ (es : Array (Int × Value)) (ep : Nat) (t : SetTable), (∃ o, h.get? a = some o ∧ o.ExactSet ∧ o.data = .set es ep t) ∧ es.toList = ents P w L ∧ TabOk t (L.map fun p => mh P w p.2) ∧ (L.map (·.2)).Nodup ∧
  (w.params.followText "set-order" = true ∨ t.led = true) ∧ L.length * 5 < t.mask * 3 ∧ L.length < 64
def SetMO (P : Program) (w : World) (a : Addr) (L : ML) : HO := .ext fun h => MS0 P w h a L
theorem MS.m0 {P : Program} {w : World} {h : Heap} {a : Addr} {L : ML} {es : Array (Int × Value)} {ep : Nat} {t : SetTable} (R : MS P w h a L es ep t) : MS0 P w h a L := ⟨es, ep, t, R.ob, R.en, R.tb, R.nd, R.ld, R.ro, R.fw⟩
theorem MS0.full {P : Program} {w : World} {h : Heap} {a : Addr} {L : ML} (R : MS0 P w h a L) (ht : ∀ p ∈ L, IsM P w h p.2 p.1) : ∃ es ep t, MS P w h a L es ep t := by
  obtain ⟨es, ep, t, h1, h2, h3, h4, h5, h6, h7⟩ := R
  exact ⟨es, ep, t, h1, h2, h3, h4, ht, h5, h6, h7⟩
theorem setMO_new {P : Program} {w : World} {H : Hp} {h : Heap} {a : Addr} {L : ML} (R : MS0 P w h a L) : ObjOk P w H h a (SetMO P w a L) := by
  have R' := R
  obtain ⟨es, ep, t, ⟨o, ho, r⟩, q⟩ := R
  refine ⟨R', ⟨o, ho⟩, fun h1 h2 p k => ?_⟩
  obtain ⟨es', ep', t', ⟨o', ho', r'⟩, q'⟩ := p
  exact ⟨es', ep', t', ⟨o', k o' ho', r'⟩, q'⟩
theorem fresh {P : Program} {w : World} {h : Heap} {a : Addr} (ho : h.get? a = some { cls := .type "set", dict := none, data := .set #[] 0 (.fresh 0 0 (!w.params.followText "set-order")) }) : MS P w h a [] #[] 0 (.fresh 0 0 (!w.params.followText "set-order")) where
  ob := ⟨_, ho, ⟨rfl, rfl, rfl⟩, rfl⟩
  en := rfl
  tb := ⟨List.Pairwise.nil, rfl, rfl, .inl rfl, fun x hx => (by cases hx), fun i h j hi => (by simp at hi)⟩
  nd := List.nodup_nil
  tu := fun p hp => (by cases hp)
  ld := by
    show _ ∨ (!w.params.followText "set-order") = true
    cases w.params.followText "set-order"
    · exact .inr rfl
    · exact .inl rfl
  ro := by show 0 * 5 < 7 * 3; decide
  fw := by show 0 < 64; decide
section
variable {X : Cx} {pins : List (Addr × Obj)} {σ : L2.St} {H : Hp} {s : Shared}
theorem isM {b : Addr} {k : List Key} (I : L2.Inv X pins σ H s) (h : SqT X.K H b (k.map kV)) : IsM X.prog X.w s.heap k b := by
  obtain ⟨its, r, ⟨o, ho, hc, n, hd⟩, _⟩ := I.tuple h
  exact ⟨o, its.toArray, n, ho, hc, hd, by simpa using items_are r⟩
def addMix (K : PySem.W.Frag) (P : Program) (w : World) : AddR := fun y H D Nx => ∃ (b : Addr) (k : List Key) (L : ML), y = .ref b ∧ SqT K H b (k.map kV) ∧ H D = some (SetMO P w D L) ∧ (∀ p ∈ L, SqT K H p.1 (p.2.map kV)) ∧ L.length + 1 < 64 ∧
  (∀ L', (k ∈ L.map (·.2) → L' = L) → (k ∉ L.map (·.2) → L'.Perm ((b, k) :: L)) → Nx (upd H D (SetMO P w D L')))
theorem addMix_ok (hu : X.A.units + 64 < cLine) : AddOk X (addMix X.K X.prog X.w) := by
  intro Y hP hw hK hA hcm pins σ H s D y u Nx E I r h
  obtain ⟨b, k, L, rfl, hb, hD, hL, few, q⟩ := h
  obtain rfl : u = Value.ref b := r
  have R0 : MS0 X.prog X.w s.heap D L := (I.hok D _ hD).1
  rw [← hP, ← hw] at R0 ⊢
  rw [← hA] at hu ⊢
  rw [← hK] at hb hL
  obtain ⟨es, ep, t, R⟩ := R0.full fun p hp => isM I (hL p hp)
  have hx := isM I hb
  have T : s.TypeIs (.ref D) "set" := by
    obtain ⟨o, ho, hex, _⟩ := R.ob
    exact ⟨o, ho, hex.1⟩
  refine wpAny_call_entry F.slot_set_add T F.entry_set_add ?_ (F.args_set_add_2 _ _)
  unfold Builtin.«set.add» Builtin.Frozenset.oneOther
  simp only [List.isEmpty_nil, bind_assoc]
  unfold Builtin.Frozenset.addrOf setAdd
  refine wpAny_bind (wpAny_pure ?_)
  try dsimp only
  refine wpAny_bind (wpAny_pure ?_)
  try dsimp only
  refine wpAny_bind (wpAny_holding (wpAny_bind (wpAny_pyHash_tuple (by have := hu; simp only [Around.in1_units]; omega) hx ?_)))
  have R' : MS Y.prog Y.w ({ s with toks := s.toks + (k.length + 1) } : Shared).heap D L es ep t := R
  refine add_ (s := { s with toks := s.toks + (k.length + 1) }) R' hx (by have := hu; simp only [Around.in1_units]; omega) few fun c h' L' es' ep' t' sb R2 c1 c2 => ?_
  show wpAny _ _ (ret Value.none) _ _ _
  refine wpAny_pure ⟨_, rfl, upd H D (SetMO X.prog X.w D L'), ?_, q L' c1 c2⟩
  have nw := setMO_new (H := upd H D (SetMO Y.prog Y.w D L')) R2.m0
  rw [hP, hw] at nw
  refine I.write (x := D) (e := D) (t' := s.toks + (k.length + 1)) (by rw [hD]; trivial) (.inl rfl) (fun a q hb' z => (sb.2 a hb').trans z) (let ⟨o, ho, _⟩ := R2.ob; ⟨o, ho⟩) ?_
  rw [hP, hw]
  exact nw
theorem newMix_ok : NewOk X fun a => SetMO X.prog X.w a [] := fun H h => setMO_new (fresh (Heap.get?_push_size _ rfl)).m0
end
/-! ### sorted -/
section
variable {P : Program} {w : World} {A : Around} {E : Value → Shared → Prop} {s : Shared}
theorem as_refs {L : ML} : ∀ {vs : List Value}, (∀ v ∈ vs, ∃ q ∈ L, v = Value.ref q.1) → ∃ M : ML, vs = M.map (fun q => Value.ref q.1) ∧ ∀ q ∈ M, q ∈ L
  | [], _ => ⟨[], rfl, fun q hq => (by cases hq)⟩
  | v :: vs, hv => by
    obtain ⟨q, hq, e⟩ := hv v List.mem_cons_self
    obtain ⟨M, e1, hs⟩ := as_refs fun u m => hv u (List.mem_cons_of_mem _ m)
    refine ⟨q :: M, by rw [List.map_cons, e, e1], fun r hr => ?_⟩
    rcases List.mem_cons.mp hr with z | z
    · rw [z]; exact hq
    · exact hs r z
theorem refs_perm {h : Heap} {L M : ML} (tu : ∀ p ∈ L, IsM P w h p.2 p.1) (nd : (L.map (·.2)).Nodup) (hs : ∀ q ∈ M, q ∈ L) (pm : (M.map fun q => Value.ref q.1).Perm (L.map fun q => Value.ref q.1)) : M.Perm L := by
  have one : ∀ q ∈ L, ∀ r ∈ L, q.1 = r.1 → q = r := fun q hq r hr e => by
    have a1 := tu q hq
    have a2 := tu r hr
    rw [e] at a1
    exact Prod.ext e (a1.inj a2)
  have nL : L.Nodup := nodup_of_map nd
  have nR : (L.map fun q => Value.ref q.1).Nodup := List.pairwise_map.mpr (List.Pairwise.imp_of_mem (fun {q r} hq hr ne e => by
    injection e with e
    exact ne (one q hq r hr e)) nL)
  have nM : M.Nodup := nodup_of_map (pm.nodup_iff.mpr nR)
  refine (List.perm_ext_iff_of_nodup nM nL).mpr fun q => ⟨hs q, fun hq => ?_⟩
  obtain ⟨r, hr, e⟩ := List.mem_map.mp (pm.mem_iff.mpr (List.mem_map.mpr ⟨q, hq, rfl⟩))
  injection e with e
  rw [← one r (hs r hr) q hq e]
  exact hr
theorem sorted_set {a : Addr} {L : ML} {es : Array (Int × Value)} {ep : Nat} {t : SetTable} {b : Bool} {sh : List Bool} {Q : Value → Shared → Prop} (R : MS P w s.heap a L es ep t) (hh : A.handled = none) (hsh : ∀ p ∈ L, p.2.map tx = b :: sh)
    (hQ : ∀ s' p (out : Array Value) (c : Nat) (M : ML), (∀ b o, s.heap.get? b = some o → s'.heap.get? b = some o) → s'.gens = s.gens → s'.os = s.os → s.heap.objs.size ≤ p → s'.heap.get? p = some (seqObj "list" out c) → out.toList = M.map (fun q => Value.ref q.1) → M.Perm L → M.Pairwise (fun q r => ltT r.2 q.2 = false) → Q (.ref p) s') :
    wpAny (model P w) A (call (.builtin "sorted") [.ref a]) Q E s := by
  obtain ⟨o, ho, hex, hd⟩ := R.ob
  have fw := R.fw
  have sz := R.size
  refine Calls.call_function_entry kind_sorted plain_sorted entry_sorted (args_sorted1 _) ?_
  unfold Builtin.«sorted»
  refine wpAny_bind (m := checkCount "sorted" 1 1 _) (wpAny_pure ?_)
  refine wpAny_bind (collect_set (A := A.in1) hh ⟨o, ho, hex.1, hd⟩ R.fits (by unfold scanBound; omega) R.tb.ris R.ld fun s1 vs k1 hz g1 o1 pm => ?_)
  have he : es.toList.map (·.2) = L.map fun q => Value.ref q.1 := by
    rw [R.en]
    unfold ents
    rw [List.map_map]
    rfl
  rw [he] at pm
  have vl : vs.length < 64 := by rw [pm.length_eq, List.length_map]; exact fw
  refine wpAny_bind (wpAny_newList ?_ (by rw [sizeLine_eq]; omega))
  have hl : (s1.heap.push (seqObj "list" vs.toArray 0)).get? s1.heap.objs.size = some (seqObj "list" vs.toArray 0) := Heap.get?_push_size _ rfl
  show wpAny _ _ _ _ _ { s1 with heap := s1.heap.push (seqObj "list" vs.toArray 0) }
  have tu1 : ∀ q ∈ L, IsM P w (s1.heap.push (seqObj "list" vs.toArray 0)) q.2 q.1 := fun q hq => by
    obtain ⟨o', us, n, ho', r⟩ := R.tu q hq
    exact ⟨o', us, n, Heap.get?_push_of_some _ (k1 _ _ ho'), r⟩
  have of : ∀ v ∈ vs, ∃ q ∈ L, v = Value.ref q.1 := fun v hv => by
    obtain ⟨q, hq, e⟩ := List.mem_map.mp (pm.mem_iff.mp hv)
    exact ⟨q, hq, e.symm⟩
  have hv : Sh P w (s1.heap.push (seqObj "list" vs.toArray 0)) (b :: sh) vs := fun v m => by
    obtain ⟨q, hq, rfl⟩ := of v m
    exact ⟨q.1, q.2, rfl, tu1 q hq, hsh q hq⟩
  refine wpAny_bind (wpAny_holding (wpAny_call_entry slot_list_sort ⟨_, hl, rfl⟩ entry_list_sort
    (SrtO.list_sort_ord (swo (s1.heap.push (seqObj "list" vs.toArray 0))) (s := { s1 with heap := s1.heap.push (seqObj "list" vs.toArray 0) }) hl (by rw [sizeLine_eq]; omega) (fun h2 => sortable (by omega) hv (fun _ _ => rfl) fun o e c => by
      have e : (s1.heap.push (seqObj "list" vs.toArray 0)).get? s1.heap.objs.size = some o := e
      rw [hl] at e
      cases e
      exact absurd (Value.type.inj c) (by decide)) fun out a1 a2 => ⟨_, rfl, ?_⟩)
    (args_list_sort _)))
  obtain ⟨c, hc⟩ := sortedHeap_at (vs := vs) (out := out.toArray) hl
  have a3 := a2.perm
  obtain ⟨M, eM, hM⟩ := as_refs (L := L) fun v m => of v (a3.mem_iff.mp m)
  have pM : M.Perm L := refs_perm tu1 R.nd hM (by rw [← eM]; exact a3.trans pm)
  have pw : M.Pairwise fun q r => ltT r.2 q.2 = false := by
    rw [eM] at a1
    refine List.Pairwise.imp_of_mem (fun {q r} hq hr h => ?_) (List.pairwise_map.mp a1)
    have h : ltT (kOf _ (.ref r.1)) (kOf _ (.ref q.1)) = false := h
    rwa [kOf_is (tu1 q (hM q hq)), kOf_is (tu1 r (hM r hr))] at h
  refine wpAny_pure ⟨_, rfl, hQ _ s1.heap.objs.size out.toArray c M (fun b u e => ?_) g1 o1 hz hc (by simpa using eM) pM pw⟩
  have q := k1 b u e
  have lt := Heap.lt_size q
  show (sortedHeap (s1.heap.push (seqObj "list" vs.toArray 0)) s1.heap.objs.size vs out.toArray).get? b = some u
  rw [sortedHeap_old (Nat.ne_of_lt lt) (by rw [size_push']; exact Nat.lt_succ_of_lt lt)]
  exact Heap.get?_push_of_some _ q
end
def rSortedM (K : PySem.W.Frag) (P : Program) (w : World) : List V → Hp → VK → Prop := fun vs H Q => ∃ (a : Addr) (L : ML) (b : Bool) (sh : List Bool), vs = [V.ref a] ∧ H a = some (SetMO P w a L) ∧ (∀ p ∈ L, SqT K H p.1 (p.2.map kV) ∧ p.2.map tx = b :: sh) ∧
  ∀ (M : ML) (p : Addr), M.Perm L → (M.map (·.2)).Nodup → M.length < 64 → M.Pairwise (fun q r => ltT r.2 q.2 = false) → H p = none → Q (.ref p) (upd H p (.lst (M.map fun q => V.ref q.1)))
theorem vals_refs : ∀ (L : ML), Vals (L.map fun p => V.ref p.1) (L.map fun p => Value.ref p.1)
  | [] => .nil
  | p :: L => .cons rfl (vals_refs L)
theorem cr_sortedM {X : Cx} {K : PySem.W.Frag} {P : Program} {w : World} (hc : X.calm = true) (hK : X.K = K) (hP : X.prog = P) (hw : X.w = w) : CallR X (.builtin "sorted") (rSortedM K P w) := by
  subst hK hP hw
  intro pins s σ H vs us Q I r h
  obtain ⟨a, L, b, sh, rfl, ha, hk, q⟩ := h
  have R0 : MS0 X.prog X.w s.heap a L := (I.hok a _ ha).1
  obtain ⟨es, ep, t, R⟩ := R0.full fun p hp => isM I (hk p hp).1
  rw [Vals.ref1 r]
  refine sorted_set R (I.ok.hd hc) (fun p hp => (hk p hp).2) fun s' p out c M k g o hp hg hout pm pw => ?_
  have fw : M.length < 64 := by rw [pm.length_eq]; exact R.fw
  have hn : H p = none := I.hok.fresh hp
  have J : L2.Inv X pins σ (upd H p (.lst (M.map fun q => V.ref q.1))) { s with heap := s'.heap, gens := s'.gens, drawn := s'.drawn, toks := s'.toks } :=
    I.call (ch := []) (Un.laid k hp hn) (I.hok.laid k hp ⟨by rw [List.length_map, sizeLine_eq]; omega, out.toList, c, by rw [hout]; exact vals_refs M, hg⟩) (by rw [g]; exact I.bare) (fun _ z => nomatch z)
  have e : s' = { s with heap := s'.heap, gens := s'.gens, drawn := s'.drawn, toks := s'.toks } := by
    cases s'
    cases s
    cases o
    rfl
  rw [e]
  exact ⟨.ref p, _, J, rfl, q M p pm ((pm.map (·.2)).nodup_iff.mpr R.nd) fw pw hn⟩
end TM
/-! texts of small letters and figures -/
namespace NM
open PySem PySem.Spec PyProof.Rows L2 Evl LX XV RX
def isLD (c : Nat) : Prop := (97 ≤ c ∧ c ≤ 122) ∨ (48 ≤ c ∧ c ≤ 57)
def isL (c : Nat) : Prop := 97 ≤ c ∧ c ≤ 122
/-- a name by its signs -/
structure Nam (s : Str) : Prop where
  pos : 1 ≤ s.cps.toList.length
  few : s.cps.toList.length ≤ 12
  hd : isL (s.cps.toList.getD 0 0)
  all : ∀ c ∈ s.cps.toList, isLD c
theorem tab : ∀ c ∈ List.range 123, (48 ≤ c → c ≤ 57 → (Unicode.isAlnum c = true ∧ Unicode.isUpper c = false ∧ Unicode.isTitle c = false)) ∧ (97 ≤ c → (Unicode.isAlnum c = true ∧ Unicode.isUpper c = false ∧ Unicode.isTitle c = false ∧ Unicode.isLower c = true ∧ Unicode.isDigit c = false)) := by decide +kernel
theorem ld {c : Nat} (h : isLD c) : Unicode.isAlnum c = true ∧ Unicode.isUpper c = false ∧ Unicode.isTitle c = false := by
  rcases h with ⟨h1, h2⟩ | ⟨h1, h2⟩
  · obtain ⟨a, b, c, _⟩ := (tab c (List.mem_range.mpr (by omega))).2 h1
    exact ⟨a, b, c⟩
  · exact (tab c (List.mem_range.mpr (by omega))).1 h1 h2
theorem lt {c : Nat} (h : isL c) : Unicode.isLower c = true ∧ Unicode.isDigit c = false := by
  obtain ⟨h1, h2⟩ := h
  obtain ⟨_, _, _, a, b⟩ := (tab c (List.mem_range.mpr (by omega))).2 h1
  exact ⟨a, b⟩
theorem Nam.len {s : Str} (h : Nam s) : s.length = s.cps.toList.length := Array.length_toList.symm
/-! ### readings -/
end NM
/-! texts put together out of signs -/
namespace NM
open PySem PySem.Spec PyProof.Rows L2 Evl LX XV RX
def mk (l : List Nat) : Str := ⟨l.toArray⟩
end NM
/-! ranges with two ends; list(range(n)); xs.append(ys.pop(k)) -/
namespace RX
open PySem PySem.Spec PyProof.Rows L2 Evl LX XV
end RX
/-! what every state bears: no object of the fixed part is known anew; in over a list of data -/
namespace RX
open PySem PySem.Spec PyProof.Rows L2 Evl LX XV
theorem u65 {k : Nat} {A : Around} (r : Room k A) : A.units + 65 < cLine := by have := r.un; omega
end RX
/-! in, len and == by a class's own methods -/
namespace RX
open PySem PySem.Spec PyProof.Rows L2 Evl LX XV WS
end RX
/-! for over an instance whose __iter__ gives iter(of a tuple field) -/
namespace RX
open PySem PySem.Spec PyProof.Rows L2 Evl LX XV WS
open PySem.Calls (call_function_entry)
end RX
/-! in over a dict with nested keys -/
namespace RX
open PySem PySem.Spec PyProof.Rows L2 Evl LX XV WS
end RX
/-! defs read as functions over data: values, objects that change, what a state bears -/
namespace DY
open PySem PySem.Spec PyProof.Rows L2 Evl LX XV RX WS
/-- a value: data, a list that is only read (frz), an object that changes (hdl) -/
inductive D where
  | non | bl (b : Bool) | int (i : Int) | str (s : Str) | lst (ds : List D) | tup (ds : List D) | dic (n : Bool) (ks vs : List D) | ins (c : Str) (ns : List Str) (ds : List D) | frz (ds : List D) | hdl (n : Nat)
instance : Inhabited D := ⟨.non⟩
/-- an object that changes -/
inductive Ob where
  | lst (ds : List D) | dic (n : Bool) (ks vs : List D) | ins (c : Str) (ns : List Str) (ds : List D) | lok (n : Bool) (ks vs : List D)
def Ob.d : Ob → D
  | .lst ds => .lst ds
  | .dic n ks vs => .dic n ks vs
  | .lok n ks vs => .dic n ks vs
  | .ins c ns ds => .ins c ns ds
abbrev Mem := List Ob
abbrev Sv := List (Option D)
structure Z where
  P : Program
  w : World
  K : PySem.W.Frag
abbrev zx (X : Cx) : Z := ⟨X.prog, X.w, X.K⟩
/-! ### keys -/
def dKey : D → Option Key
  | .str s => some (.inr s)
  | .int i => some (.inl i)
  | _ => none
mutual
def dNk : D → Option NestedKey
  | .str s => some (.text s)
  | .int i => some (.num i)
  | .tup ds => (dNks ds).map .tup
  | _ => none
def dNks : List D → Option (List NestedKey)
  | [] => some []
  | d :: ds => match dNk d, dNks ds with
    | some k, some ks => some (k :: ks)
    | _, _ => none
end
/-- a dict of the module: its keys are texts -/
def MDic (z : Z) (a : Addr) (l : List (Str × V)) : Prop := (∃ es n, KDict z.K z.w a es n) ∧ (∀ q ∈ l, ∃ u, PySem.W.nsIn z.K a q.1 = some (some u) ∧ RelV q.2 u) ∧ (l.map (·.1)).Nodup ∧ ∀ s, s ∉ l.map (·.1) → PySem.W.nsIn z.K a s = some none
mutual
inductive At (z : Z) (μ : List Addr) (B : Hp) : V → D → Prop
  | non : At z μ B .non .non
  | bl (b : Bool) : At z μ B (.bl b) (.bl b)
  | int (i : Int) : At z μ B (.int i) (.int i)
  | str (s : Str) : At z μ B (.str s) (.str s)
  | lst {a : Addr} {xs : List V} {ds : List D} : B a = some (.lst xs) → Ats z μ B xs ds → At z μ B (.ref a) (.lst ds)
  | frz {a : Addr} {xs : List V} {ds : List D} : SqL z.K B a xs → Ats z μ B xs ds → At z μ B (.ref a) (.frz ds)
  | tup {a : Addr} {xs : List V} {ds : List D} : SqT z.K B a xs → Ats z μ B xs ds → At z μ B (.ref a) (.tup ds)
  | dicK {a : Addr} {kvs : List (Key × V)} {ks vs : List D} : Rd B a (.dK kvs) → kvs.map (fun p => some p.1) = ks.map dKey → Ats z μ B (kvs.map (·.2)) vs → At z μ B (.ref a) (.dic false ks vs)
  | dicM {a : Addr} {l : List (Str × V)} {ks vs : List D} : MDic z a l → ks = l.map (fun q => D.str q.1) → Ats z μ B (l.map (·.2)) vs → At z μ B (.ref a) (.dic false ks vs)
  | dicN {a : Addr} {kvs : List (NestedKey × Addr × V)} {ks vs : List D} : Rd B a (DnO z.P z.w a kvs) → DnKeys z.K B kvs → kvs.map (fun p => some p.1) = ks.map dNk → Ats z μ B (kvs.map (fun p => V.ref p.2.1)) ks → Ats z μ B (kvs.map (·.2.2)) vs → At z μ B (.ref a) (.dic true ks vs)
  | ins {a dx : Addr} {c : Str} {fs : List (Str × V)} {ns : List Str} {ds : List D} : B a = some (.ins (He.ga z.K c) dx fs) → fs.map (·.1) = ns → Ats z μ B (fs.map (·.2)) ds → At z μ B (.ref a) (.ins c ns ds)
  | hdl {a : Addr} {n : Nat} : μ[n]? = some a → At z μ B (.ref a) (.hdl n)
inductive Ats (z : Z) (μ : List Addr) (B : Hp) : List V → List D → Prop
  | nil : Ats z μ B [] []
  | cons {x : V} {d : D} {xs : List V} {ds : List D} : At z μ B x d → Ats z μ B xs ds → Ats z μ B (x :: xs) (d :: ds)
end
theorem nodup_at {α : Type} {l : List α} (hN : l.Nodup) {i j : Nat} {x : α} (a : l[i]? = some x) (b : l[j]? = some x) : i = j := by
  obtain ⟨hi, e1⟩ := List.getElem?_eq_some_iff.mp a
  obtain ⟨hj, e2⟩ := List.getElem?_eq_some_iff.mp b
  have hp := List.pairwise_iff_getElem.mp hN
  rcases Nat.lt_trichotomy i j with c | c | c
  · exact absurd (e1.trans e2.symm) (hp i j hi hj c)
  · exact c
  · exact absurd (e2.trans e1.symm) (hp j i hj hi c)
theorem pre_get {α : Type} {l l' : List α} (h : l <+: l') {n : Nat} {a : α} (e : l[n]? = some a) : l'[n]? = some a := by
  obtain ⟨t, rfl⟩ := h
  rw [List.getElem?_append_left (List.getElem?_eq_some_iff.mp e).1]
  exact e
theorem rd_ex {B B' : Hp} (e : Ex B B') {a : Addr} {u : HO} (h : Rd B a u) : Rd B' a u := h.imp (e _ _) fun ⟨o, q⟩ => ⟨o, e _ _ q⟩
theorem dnk_ex {K : PySem.W.Frag} {B B' : Hp} (e : Ex B B') {kvs : List (NestedKey × Addr × V)} (h : DnKeys K B kvs) : DnKeys K B' kvs := fun p hp => ⟨nk_ex e (h p hp).1, (h p hp).2⟩
section
variable {z : Z} {μ μ' : List Addr} {B B' H H' X : Hp}
mutual
theorem At.gr (e : Ex B B') (p : μ <+: μ') : ∀ {v : V} {d : D}, At z μ B v d → At z μ' B' v d
  | _, _, .non => .non
  | _, _, .bl b => .bl b
  | _, _, .int i => .int i
  | _, _, .str x => .str x
  | _, _, .lst h hs => .lst (e _ _ h) (Ats.gr e p hs)
  | _, _, .frz h hs => .frz (ex_l e h) (Ats.gr e p hs)
  | _, _, .tup h hs => .tup (ex_t e h) (Ats.gr e p hs)
  | _, _, .dicK h k hs => .dicK (rd_ex e h) k (Ats.gr e p hs)
  | _, _, .dicM h k hs => .dicM h k (Ats.gr e p hs)
  | _, _, .dicN h k1 k2 hk hs => .dicN (rd_ex e h) (dnk_ex e k1) k2 (Ats.gr e p hk) (Ats.gr e p hs)
  | _, _, .ins h k hs => .ins (e _ _ h) k (Ats.gr e p hs)
  | _, _, .hdl h => .hdl (pre_get p h)
theorem Ats.gr (e : Ex B B') (p : μ <+: μ') : ∀ {xs : List V} {ds : List D}, Ats z μ B xs ds → Ats z μ' B' xs ds
  | _, _, .nil => .nil
  | _, _, .cons h hs => .cons (At.gr e p h) (Ats.gr e p hs)
end
theorem At.ex (e : Ex B B') {v : V} {d : D} (h : At z μ B v d) : At z μ B' v d := h.gr e (List.prefix_refl _)
theorem Ats.ex (e : Ex B B') {xs : List V} {ds : List D} (h : Ats z μ B xs ds) : Ats z μ B' xs ds := h.gr e (List.prefix_refl _)
theorem Ats.len : ∀ {xs : List V} {ds : List D}, Ats z μ B xs ds → xs.length = ds.length
  | _, _, .nil => rfl
  | _, _, .cons _ hs => congrArg (· + 1) (Ats.len hs)
theorem Ats.get : ∀ {xs : List V} {ds : List D} {i : Nat} {d : D}, Ats z μ B xs ds → ds[i]? = some d → ∃ x, xs[i]? = some x ∧ At z μ B x d
  | _, _, _, _, .nil, h => nomatch h
  | _, _, 0, _, .cons h _, e => by cases e; exact ⟨_, rfl, h⟩
  | _, _, i + 1, _, .cons _ hs, e => Ats.get (i := i) hs e
theorem Ats.append : ∀ {xs ys : List V} {ds es : List D}, Ats z μ B xs ds → Ats z μ B ys es → Ats z μ B (xs ++ ys) (ds ++ es)
  | _, _, _, _, .nil, h => h
  | _, _, _, _, .cons a b, h => .cons a (Ats.append b h)
theorem Ats.snoc {xs : List V} {ds : List D} {x : V} {d : D} (h : Ats z μ B xs ds) (hx : At z μ B x d) : Ats z μ B (xs ++ [x]) (ds ++ [d]) := h.append (.cons hx .nil)
theorem Ats.take : ∀ {xs : List V} {ds : List D} (n : Nat), Ats z μ B xs ds → Ats z μ B (xs.take n) (ds.take n)
  | _, _, 0, _ => .nil
  | _, _, _ + 1, .nil => .nil
  | _, _, n + 1, .cons h hs => .cons h (Ats.take n hs)
theorem Ats.drop : ∀ {xs : List V} {ds : List D} (n : Nat), Ats z μ B xs ds → Ats z μ B (xs.drop n) (ds.drop n)
  | _, _, 0, h => h
  | _, _, _ + 1, .nil => .nil
  | _, _, n + 1, .cons _ hs => Ats.drop n hs
theorem Ats.set {x : V} {d : D} (hx : At z μ B x d) : ∀ {xs : List V} {ds : List D} (i : Nat), Ats z μ B xs ds → Ats z μ B (xs.set i x) (ds.set i d)
  | _, _, _, .nil => .nil
  | _, _, 0, .cons _ hs => .cons hx hs
  | _, _, i + 1, .cons h hs => .cons h (Ats.set hx i hs)
theorem Ats.erase : ∀ {xs : List V} {ds : List D} (i : Nat), Ats z μ B xs ds → Ats z μ B (xs.eraseIdx i) (ds.eraseIdx i)
  | _, _, _, .nil => .nil
  | _, _, 0, .cons _ hs => hs
  | _, _, i + 1, .cons h hs => .cons h (Ats.erase i hs)
theorem ats_int {xs : List V} {ns : List Int} (h : Ats z μ B xs (ns.map D.int)) : xs = ns.map V.int := by
  induction ns generalizing xs with
  | nil => cases h; rfl
  | cons n ns ih =>
    cases h with
    | cons a b => cases a; rw [ih b]; rfl
theorem ats_str {xs : List V} {ns : List Str} (h : Ats z μ B xs (ns.map D.str)) : xs = ns.map V.str := by
  induction ns generalizing xs with
  | nil => cases h; rfl
  | cons n ns ih =>
    cases h with
    | cons a b => cases a; rw [ih b]; rfl
theorem ats_bl {xs : List V} {ns : List Bool} (h : Ats z μ B xs (ns.map D.bl)) : xs = ns.map V.bl := by
  induction ns generalizing xs with
  | nil => cases h; rfl
  | cons n ns ih =>
    cases h with
    | cons a b => cases a; rw [ih b]; rfl
theorem ats_of {α : Type} {f : α → D} {g : α → V} (h : ∀ a, At z μ B (g a) (f a)) : ∀ l : List α, Ats z μ B (l.map g) (l.map f)
  | [] => .nil
  | a :: l => .cons (h a) (ats_of h l)
/-! ### objects that change -/
def ObAt (z : Z) (μ : List Addr) (B H : Hp) (a : Addr) : Ob → Prop
  | .lst ds => ∃ xs, H a = some (.lst xs) ∧ Ats z μ B xs ds
  | .dic false ks vs => ∃ kvs, H a = some (.dK kvs) ∧ kvs.map (fun p => some p.1) = ks.map dKey ∧ Ats z μ B (kvs.map (·.2)) vs
  | .dic true ks vs => ∃ kvs, H a = some (DnO z.P z.w a kvs) ∧ DnKeys z.K B kvs ∧ kvs.map (fun p => some p.1) = ks.map dNk ∧ Ats z μ B (kvs.map (fun p => V.ref p.2.1)) ks ∧ Ats z μ B (kvs.map (·.2.2)) vs
  | .ins c ns ds => ∃ dx fs, H a = some (.ins (He.ga z.K c) dx fs) ∧ fs.map (·.1) = ns ∧ Ats z μ B (fs.map (·.2)) ds
  | .lok false ks vs => ∃ o kvs, H a = some (.frz o (.dK kvs)) ∧ kvs.map (fun p => some p.1) = ks.map dKey ∧ Ats z μ B (kvs.map (·.2)) vs
  | .lok true ks vs => ∃ o kvs, H a = some (.frz o (DnO z.P z.w a kvs)) ∧ DnKeys z.K B kvs ∧ kvs.map (fun p => some p.1) = ks.map dNk ∧ Ats z μ B (kvs.map (fun p => V.ref p.2.1)) ks ∧ Ats z μ B (kvs.map (·.2.2)) vs
theorem ObAt.gr {a : Addr} {o : Ob} (e : Ex B B') (p : μ <+: μ') (eh : ∀ u, H a = some u → H' a = some u) (h : ObAt z μ B H a o) : ObAt z μ' B' H' a o := by
  cases o with
  | lst ds => obtain ⟨xs, h1, h2⟩ := h; exact ⟨xs, eh _ h1, h2.gr e p⟩
  | dic n ks vs =>
    cases n with
    | false => obtain ⟨kvs, h1, h2, h3⟩ := h; exact ⟨kvs, eh _ h1, h2, h3.gr e p⟩
    | true => obtain ⟨kvs, h1, h2, h3, h4, h5⟩ := h; exact ⟨kvs, eh _ h1, dnk_ex e h2, h3, h4.gr e p, h5.gr e p⟩
  | ins c ns ds => obtain ⟨dx, fs, h1, h2, h3⟩ := h; exact ⟨dx, fs, eh _ h1, h2, h3.gr e p⟩
  | lok n ks vs =>
    cases n with
    | false => obtain ⟨o, kvs, h1, h2, h3⟩ := h; exact ⟨o, kvs, eh _ h1, h2, h3.gr e p⟩
    | true => obtain ⟨o, kvs, h1, h2, h3, h4, h5⟩ := h; exact ⟨o, kvs, eh _ h1, dnk_ex e h2, h3, h4.gr e p, h5.gr e p⟩
theorem ObAt.here {a : Addr} {o : Ob} (h : ObAt z μ B H a o) : ∃ u, H a = some u := by
  cases o with
  | lst ds => obtain ⟨xs, h1, h2⟩ := h; exact ⟨_, h1⟩
  | dic n ks vs =>
    cases n with
    | false => obtain ⟨kvs, h1, _⟩ := h; exact ⟨_, h1⟩
    | true => obtain ⟨kvs, h1, _⟩ := h; exact ⟨_, h1⟩
  | ins c ns ds => obtain ⟨dx, fs, h1, _⟩ := h; exact ⟨_, h1⟩
  | lok n ks vs =>
    cases n with
    | false => obtain ⟨o, kvs, h1, _⟩ := h; exact ⟨_, h1⟩
    | true => obtain ⟨o, kvs, h1, _⟩ := h; exact ⟨_, h1⟩
/-- what the memory is: X stands besides and stays, B is known and stays, the objects of m stand at μ -/
structure Me (z : Z) (X : Hp) (μ : List Addr) (B H : Hp) (m : Mem) : Prop where
  bh : Ex B H
  xh : Ex X H
  len : μ.length = m.length
  nd : μ.Nodup
  ob : ∀ (n : Nat) (a : Addr) (o : Ob), μ[n]? = some a → m[n]? = some o → ObAt z μ B H a o
  nb : ∀ a ∈ μ, B a = none
  nx : ∀ a ∈ μ, X a = none
structure Gw (X : Hp) (B : Hp) (μ : List Addr) (B' : Hp) (μ' : List Addr) : Prop where
  g : Gr X B B'
  p : μ <+: μ'
theorem Gw.refl : Gw X B μ B μ := ⟨Gr.refl _ _, List.prefix_refl _⟩
theorem Gw.trans {B'' : Hp} {μ'' : List Addr} (a : Gw X B μ B' μ') (b : Gw X B' μ' B'' μ'') : Gw X B μ B'' μ'' := ⟨a.g.trans b.g, a.p.trans b.p⟩
theorem At.gw {v : V} {d : D} (h : At z μ B v d) (g : Gw X B μ B' μ') : At z μ' B' v d := h.gr g.g.ex g.p
theorem Ats.gw {v : List V} {d : List D} (h : Ats z μ B v d) (g : Gw X B μ B' μ') : Ats z μ' B' v d := h.gr g.g.ex g.p
section
variable {m : Mem}
theorem Me.here (M : Me z X μ B H m) {a : Addr} (h : a ∈ μ) : ∃ u, H a = some u := by
  obtain ⟨n, hn, e⟩ := List.mem_iff_getElem.mp h
  have h1 : μ[n]? = some a := by rw [List.getElem?_eq_getElem hn, e]
  exact (M.ob n a _ h1 (List.getElem?_eq_getElem (by rw [← M.len]; exact hn))).here
/-- what is known grows, nothing changes -/
theorem Me.up (M : Me z X μ B H m) (e : Ex H H') (g : Gr H B B') (b : Ex B' H') : Me z X μ B' H' m :=
  ⟨b, M.xh.trans e, M.len, M.nd, fun n a o h1 h2 => (M.ob n a o h1 h2).gr g.ex (List.prefix_refl _) (fun u hu => e a u hu), fun a ha => by
    obtain ⟨u, hu⟩ := M.here ha
    exact g.av a (M.nb a ha) (by rw [hu]; exact Option.some_ne_none _), M.nx⟩
theorem Me.gw (M : Me z X μ B H m) (g : Gr H B B') : Gw X B μ B' μ := ⟨g.back M.xh, List.prefix_refl _⟩
/-- an object changes -/
theorem Me.put (M : Me z X μ B H m) {n : Nat} {a : Addr} {u : HO} {o : Ob} (h : μ[n]? = some a) (hu : ∀ H', H' a = some u → ObAt z μ B H' a o) : Me z X μ B (upd H a u) (m.set n o) := by
  have ha := List.mem_of_getElem? h
  refine ⟨fun b v hb => ?_, fun b v hb => ?_, by rw [List.length_set]; exact M.len, M.nd, fun k b o' h1 h2 => ?_, M.nb, M.nx⟩
  · have c : b ≠ a := fun c => by rw [c, M.nb a ha] at hb; exact nomatch hb
    rw [upd_ne c]; exact M.bh b v hb
  · have c : b ≠ a := fun c => by rw [c, M.nx a ha] at hb; exact nomatch hb
    rw [upd_ne c]; exact M.xh b v hb
  · by_cases c : n = k
    · subst c
      rw [h] at h1
      cases h1
      rw [List.getElem?_set_self (by rw [← M.len]; exact (List.getElem?_eq_some_iff.mp h).1)] at h2
      cases h2
      exact hu _ upd_same
    · rw [List.getElem?_set_ne c] at h2
      have hne : b ≠ a := fun e => by
        subst e
        exact c (nodup_at M.nd h h1)
      exact (M.ob k b o' h1 h2).gr (Ex.refl _) (List.prefix_refl _) fun v hv => by rw [upd_ne hne]; exact hv
/-- a new object that changes -/
theorem Me.push (M : Me z X μ B H m) {p : Addr} {o : Ob} (hp : ObAt z μ B H p o) (hb : B p = none) (hx : X p = none) (hm : p ∉ μ) : Me z X (μ ++ [p]) B H (m ++ [o]) := by
  have pre : μ <+: μ ++ [p] := List.prefix_append _ _
  refine ⟨M.bh, M.xh, by rw [List.length_append, List.length_append, M.len]; rfl, ?_, fun k b o' h1 h2 => ?_, fun a ha => ?_, fun a ha => ?_⟩
  · exact List.nodup_append.mpr ⟨M.nd, by simp, fun a ha b hb c => by
      rw [List.mem_singleton.mp hb] at c
      exact hm (c ▸ ha)⟩
  · by_cases c : k < μ.length
    · rw [List.getElem?_append_left c] at h1
      rw [List.getElem?_append_left (by rw [← M.len]; exact c)] at h2
      exact (M.ob k b o' h1 h2).gr (Ex.refl _) pre fun v hv => hv
    · have hk : k < (μ ++ [p]).length := (List.getElem?_eq_some_iff.mp h1).1
      rw [List.length_append, List.length_singleton] at hk
      have : k = μ.length := by omega
      subst this
      rw [List.getElem?_append_right (Nat.le_refl _), Nat.sub_self] at h1
      rw [M.len, List.getElem?_append_right (Nat.le_refl _), Nat.sub_self] at h2
      cases h1
      cases h2
      exact hp.gr (Ex.refl _) pre fun v hv => hv
  · rcases List.mem_append.mp ha with h | h
    · exact M.nb a h
    · rw [List.mem_singleton.mp h]; exact hb
  · rcases List.mem_append.mp ha with h | h
    · exact M.nx a h
    · rw [List.mem_singleton.mp h]; exact hx
theorem Me.new (M : Me z X μ B H m) {p : Addr} (hp : H p = none) : B p = none ∧ X p = none ∧ p ∉ μ := ⟨none_of M.bh hp, none_of M.xh hp, fun c => by
  obtain ⟨u, hu⟩ := M.here c
  rw [hp] at hu
  exact nomatch hu⟩
/-- what stands besides, widened and narrowed -/
theorem Me.wid (M : Me z X μ B H m) {X' : Hp} (h : Ex X' H) (hm : ∀ a ∈ μ, X' a = none) : Me z X' μ B H m := ⟨M.bh, h, M.len, M.nd, M.ob, M.nb, hm⟩
end
/-! ### the slots -/
structure Exn where
  c : Str
  ns : List Str
  ds : List D
/-- the exception that a suite holds: its slot, its address, its class, its dict -/
structure XI where
  i : Nat
  a : Addr
  cls : Value
  d : Option Addr
  x : Option Exn
/-- an exception, its class and its dict -/
def XAt (z : Z) (μ : List Addr) (B : Hp) (cls : Value) (dd : Option Addr) (x : Exn) : Prop := cls = .ref (He.ga z.K x.c) ∧ match dd with
  | none => x.ns = [] ∧ x.ds = []
  | some d => ∃ fs : List (Str × V), B d = some (.xd fs) ∧ fs.map (·.1) = x.ns ∧ Ats z μ B (fs.map (·.2)) x.ds
theorem XAt.gr {cls : Value} {dd : Option Addr} {x : Exn} (e : Ex B B') (p : μ <+: μ') (h : XAt z μ B cls dd x) : XAt z μ' B' cls dd x := by
  obtain ⟨h1, h2⟩ := h
  refine ⟨h1, ?_⟩
  cases dd with
  | none => exact h2
  | some d => obtain ⟨fs, a, b, c⟩ := h2; exact ⟨fs, e _ _ a, b, c.gr e p⟩
structure En (z : Z) (xi : XI) (X : Hp) (env : Sv) (m : Mem) (μ : List Addr) (σ : L2.St) (B H : Hp) : Prop where
  me : Me z X μ B H m
  len : env.length = σ.length
  val : ∀ (j : Nat) (d : D), env[j]? = some (some d) → ∃ v, σ[j]? = some (some v) ∧ At z μ B v d
  xc : ∀ x, xi.x = some x → XAt z μ B xi.cls xi.d x ∧ σ[xi.i]? = some (some (V.ref xi.a))
section
variable {xi : XI} {env : Sv} {m m' : Mem} {σ : L2.St}
theorem En.mem {X' : Hp} (I : En z xi X env m μ σ B H) (M : Me z X' μ' B' H' m') (e : Ex B B') (p : μ <+: μ') : En z xi X' env m' μ' σ B' H' := ⟨M, I.len, fun j d h => by
  obtain ⟨v, h1, h2⟩ := I.val j d h
  exact ⟨v, h1, h2.gr e p⟩, fun x h => ⟨(I.xc x h).1.gr e p, (I.xc x h).2⟩⟩
theorem En.up (I : En z xi X env m μ σ B H) (e : Ex H H') (g : Gr H B B') (b : Ex B' H') : En z xi X env m μ σ B' H' := I.mem (I.me.up e g b) g.ex (List.prefix_refl _)
theorem En.put (I : En z xi X env m μ σ B H) {n : Nat} {a : Addr} {u : HO} {o : Ob} (h : μ[n]? = some a) (hu : ∀ H', H' a = some u → ObAt z μ B H' a o) : En z xi X env (m.set n o) μ σ B (upd H a u) := I.mem (I.me.put h hu) (Ex.refl _) (List.prefix_refl _)
theorem En.push (I : En z xi X env m μ σ B H) {p : Addr} {o : Ob} (hp : ObAt z μ B H p o) (hb : B p = none) (hx : X p = none) (hm : p ∉ μ) : En z xi X env (m ++ [o]) (μ ++ [p]) σ B H := I.mem (I.me.push hp hb hx hm) (Ex.refl _) (List.prefix_append _ _)
theorem En.asg (I : En z xi X env m μ σ B H) {i : Nat} {d : D} {v : V} (hv : At z μ B v d) (hi : i ≠ xi.i) : En z xi X (env.set i (some d)) m μ (σ.set i (some v)) B H := by
  refine ⟨I.me, by rw [List.length_set, List.length_set]; exact I.len, fun j e h => ?_, fun x h => ⟨(I.xc x h).1, by rw [List.getElem?_set_ne hi]; exact (I.xc x h).2⟩⟩
  by_cases c : i = j
  · subst c
    have l : i < env.length := by
      have := (List.getElem?_eq_some_iff.mp h).1
      rwa [List.length_set] at this
    rw [List.getElem?_set_self l] at h
    cases h
    exact ⟨v, List.getElem?_set_self (by rw [← I.len]; exact l), hv⟩
  · rw [List.getElem?_set_ne c] at h ⊢
    exact I.val j e h
theorem En.unset (I : En z xi X env m μ σ B H) (i : Nat) (x : Option V) (hi : i ≠ xi.i) : En z xi X (env.set i none) m μ (σ.set i x) B H := by
  refine ⟨I.me, by rw [List.length_set, List.length_set]; exact I.len, fun j e h => ?_, fun x h => ⟨(I.xc x h).1, by rw [List.getElem?_set_ne hi]; exact (I.xc x h).2⟩⟩
  by_cases c : i = j
  · subst c
    have l : i < env.length := by
      have := (List.getElem?_eq_some_iff.mp h).1
      rwa [List.length_set] at this
    rw [List.getElem?_set_self l] at h
    exact nomatch h
  · rw [List.getElem?_set_ne c] at h ⊢
    exact I.val j e h
theorem En.wid (I : En z xi X env m μ σ B H) {X' : Hp} (h : Ex X' H) (hm : ∀ a ∈ μ, X' a = none) : En z xi X' env m μ σ B H := ⟨I.me.wid h hm, I.len, I.val, I.xc⟩
end
end
end DY
/-! defs read as functions over data: expressions, arguments, tests -/
namespace DY
open PySem PySem.Spec PyProof.Rows L2 Evl LX XV RX WS
structure Cc where
  z : Z
  xi : XI
  W : WX
/-- nothing is let out -/
abbrev Cc.no (c : Cc) : Cc := ⟨c.z, c.xi, fun _ _ _ _ => False⟩
/-- an end: no word of it, a value, an exception -/
inductive Rs (α : Type) where
  | no | ok (a : α) (m : Mem) | ex (x : Exn) (m : Mem)
def Rs.bind {α β : Type} (r : Rs α) (k : α → Mem → Rs β) : Rs β := match r with
  | .no => .no
  | .ok a m => k a m
  | .ex x m => .ex x m
theorem Rs.bind_assoc {α β γ : Type} (r : Rs α) (k : α → Mem → Rs β) (l : β → Mem → Rs γ) : (r.bind k).bind l = r.bind fun a m => (k a m).bind l := by cases r <;> rfl
def lift {α : Type} (o : Option α) (m : Mem) : Rs α := match o with
  | some a => .ok a m
  | none => .no
abbrev FE := Sv → Mem → Rs D
abbrev FA := Sv → Mem → Rs (List D)
abbrev FT := Sv → Mem → Rs Bool
abbrev FN := Sv → Mem → Rs Ob
abbrev FO := Sv → Mem → Rs (Option Int)
def Out {α β : Type} (c : Cc) (X : Hp) (env : Sv) (σ : L2.St) (μ : List Addr) (B : Hp) (A : List Addr → Hp → β → α → Prop) (r : Rs α) (Q : β → Hp → Prop) : Prop := match r with
  | .no => False
  | .ok d m' => ∀ v H' B' μ', Gw X B μ B' μ' → A μ' B' v d → En c.z c.xi X env m' μ' σ B' H' → Q v H'
  | .ex x m' => ∀ cls dd H' B' μ', Gw X B μ B' μ' → XAt c.z μ' B' cls dd x → En c.z c.xi X env m' μ' σ B' H' → c.W cls dd σ H'
def teF (c : Cc) (f : FE) : TE := fun σ H Q => ∃ X env m μ B, En c.z c.xi X env m μ σ B H ∧ Out c X env σ μ B (At c.z) (f env m) Q
def taF (c : Cc) (f : FA) : TA := fun σ H Q => ∃ X env m μ B, En c.z c.xi X env m μ σ B H ∧ Out c X env σ μ B (Ats c.z) (f env m) Q
def ttF (c : Cc) (f : FT) : TT := fun σ H Q => ∃ X env m μ B, En c.z c.xi X env m μ σ B H ∧ Out c X env σ μ B (fun _ _ (b b' : Bool) => b = b') (f env m) Q
def toF (c : Cc) (f : FO) : TO := fun σ H Q => ∃ X env m μ B, En c.z c.xi X env m μ σ B H ∧ Out c X env σ μ B (fun _ _ (b b' : Option Int) => b = b') (f env m) Q
/-- a new object -/
def OutN (c : Cc) (X : Hp) (env : Sv) (σ : L2.St) (μ : List Addr) (B : Hp) (r : Rs Ob) (Q : VK) : Prop := match r with
  | .no => False
  | .ok o m' => ∀ p H' B' μ', Gw X B μ B' μ' → ObAt c.z μ' B' H' p o → B' p = none → X p = none → p ∉ μ' → En c.z c.xi X env m' μ' σ B' H' → Q (.ref p) H'
  | .ex x m' => ∀ cls dd H' B' μ', Gw X B μ B' μ' → XAt c.z μ' B' cls dd x → En c.z c.xi X env m' μ' σ B' H' → c.W cls dd σ H'
def tnF (c : Cc) (f : FN) : TE := fun σ H Q => ∃ X env m μ B, En c.z c.xi X env m μ σ B H ∧ OutN c X env σ μ B (f env m) Q
section
variable {X : Cx} {c : Cc}
theorem pe_mono {e : Expr} {t t' : TE} (h : PE X e t) (i : ∀ σ H Q, t' σ H Q → t σ H Q) : PE X e t' := ⟨fun pins s σ H Q I q => h.run pins s σ H Q I (i σ H Q q)⟩
theorem pt_mono {e : Expr} {t t' : TT} (h : PT X e t) (i : ∀ σ H Q, t' σ H Q → t σ H Q) : PT X e t' := ⟨fun pins s σ H Q I q => h.run pins s σ H Q I (i σ H Q q)⟩
theorem pw_mono {e : Expr} {t t' : TT} (h : PW X e t) (i : ∀ σ H Q, t' σ H Q → t σ H Q) : PW X e t' := ⟨fun w pins s σ H Q I q => h.run w pins s σ H Q I (i σ H Q q)⟩
theorem pa_mono {e : List Expr} {t t' : TA} (h : PA X e t) (i : ∀ σ H Q, t' σ H Q → t σ H Q) : PA X e t' := ⟨fun pos pins s σ H Q I q => h.run pos pins s σ H Q I (i σ H Q q)⟩
theorem ps_mono {e : Stmt} {t t' : TS} (h : PS X e t) (i : ∀ D σ H, t' D σ H → t D σ H) : PS X e t' := ⟨fun pins s σ H D I q => h.run pins s σ H D I (i D σ H q)⟩
theorem pss_mono {e : List Stmt} {t t' : TS} (h : PSs X e t) (i : ∀ D σ H, t' D σ H → t D σ H) : PSs X e t' := ⟨fun pins s σ H D I q => h.run pins s σ H D I (i D σ H q)⟩
theorem pi_mono {tg e : Expr} {t t' : TI} (h : PI X tg e t) (i : ∀ σ H R, t' σ H R → t σ H R) : PI X tg e t' := ⟨fun pins s σ H R I q => h.run pins s σ H R I (i σ H R q)⟩
theorem po_mono {e : Option Expr} {t t' : TO} (h : PO X e t) (i : ∀ σ H R, t' σ H R → t σ H R) : PO X e t' := ⟨fun pins s σ H R I q => h.run pins s σ H R I (i σ H R q)⟩
theorem pi_alt {tg e : Expr} {t t' : TI} (h : PI X tg e t) (h' : PI X tg e t') : PI X tg e (fun σ H Q => t σ H Q ∨ t' σ H Q) := ⟨fun pins s σ H Q I q => q.elim (h.run pins s σ H Q I) (h'.run pins s σ H Q I)⟩
theorem opr_or {f : Value → Value → Sem Value} {r r' : R2} (h : OpR X f r) (h' : OpR X f r') : OpR X f (fun x y H Q => r x y H Q ∨ r' x y H Q) := fun pins s σ H x y v u Q I rx ry q => q.elim (h pins s σ H x y v u Q I rx ry) (h' pins s σ H x y v u Q I rx ry)
theorem callr_or {f : Value} {r r' : List V → Hp → VK → Prop} (h : CallR X f r) (h' : CallR X f r') : CallR X f (fun xs H Q => r xs H Q ∨ r' xs H Q) := fun pins s σ H xs us Q I rx q => q.elim (h pins s σ H xs us Q I rx) (h' pins s σ H xs us Q I rx)
end
section
variable {c : Cc} {X B B' H H' : Hp} {μ μ' : List Addr} {env : Sv} {σ : L2.St} {m m' : Mem}
theorem Out.grow {α β : Type} {A : List Addr → Hp → β → α → Prop} {r : Rs α} {Q : β → Hp → Prop} (h : Out c X env σ μ B A r Q) (g : Gw X B μ B' μ') : Out c X env σ μ' B' A r Q := by
  cases r with
  | no => exact h
  | ok d m' => exact fun v H1 B1 μ1 g1 a I => h v H1 B1 μ1 (g.trans g1) a I
  | ex x m' => exact fun cls dd H1 B1 μ1 g1 a I => h cls dd H1 B1 μ1 (g.trans g1) a I
theorem OutN.grow {r : Rs Ob} {Q : VK} (h : OutN c X env σ μ B r Q) (g : Gw X B μ B' μ') : OutN c X env σ μ' B' r Q := by
  cases r with
  | no => exact h
  | ok d m' => exact fun v H1 B1 μ1 g1 a I => h v H1 B1 μ1 (g.trans g1) a I
  | ex x m' => exact fun cls dd H1 B1 μ1 g1 a I => h cls dd H1 B1 μ1 (g.trans g1) a I
theorem out_seq {α β γ δ : Type} {A : List Addr → Hp → β → α → Prop} {A2 : List Addr → Hp → δ → γ → Prop} {r : Rs α} {k : α → Mem → Rs γ} {Q : δ → Hp → Prop} {Q1 : β → Hp → Prop} (h : Out c X env σ μ B A2 (r.bind k) Q)
    (q : ∀ d m' v H' B' μ', Gw X B μ B' μ' → A μ' B' v d → En c.z c.xi X env m' μ' σ B' H' → Out c X env σ μ' B' A2 (k d m') Q → Q1 v H') : Out c X env σ μ B A r Q1 := by
  cases r with
  | no => exact h
  | ok d m' => exact fun v H1 B1 μ1 g1 a I => q d m' v H1 B1 μ1 g1 a I (Out.grow h g1)
  | ex x m' => exact h
theorem out_seqN {α β : Type} {A : List Addr → Hp → β → α → Prop} {r : Rs α} {k : α → Mem → Rs Ob} {Q : VK} {Q1 : β → Hp → Prop} (h : OutN c X env σ μ B (r.bind k) Q)
    (q : ∀ d m' v H' B' μ', Gw X B μ B' μ' → A μ' B' v d → En c.z c.xi X env m' μ' σ B' H' → OutN c X env σ μ' B' (k d m') Q → Q1 v H') : Out c X env σ μ B A r Q1 := by
  cases r with
  | no => exact h
  | ok d m' => exact fun v H1 B1 μ1 g1 a I => q d m' v H1 B1 μ1 g1 a I (OutN.grow h g1)
  | ex x m' => exact h
/-- the end of a rule: what is known grows -/
theorem Out.val {d : D} {Q : VK} (h : Out c X env σ μ B (At c.z) (.ok d m) Q) (I : En c.z c.xi X env m μ σ B H) : ∀ v H' B', Ex H H' → Gr H B B' → Ex B' H' → At c.z μ B' v d → Q v H' := fun v H1 B1 e g b a => h v H1 B1 μ (I.me.gw g) a (I.up e g b)
theorem Out.lift {o : Option D} {Q : VK} (h : Out c X env σ μ B (At c.z) (DY.lift o m) Q) (I : En c.z c.xi X env m μ σ B H) : ∃ d, o = some d ∧ ∀ v H' B', Ex H H' → Gr H B B' → Ex B' H' → At c.z μ B' v d → Q v H' := by
  cases o with
  | none => exact h.elim
  | some d => exact ⟨d, rfl, h.val I⟩
theorem OutN.lift {o : Option Ob} {Q : VK} (h : OutN c X env σ μ B (DY.lift o m) Q) (I : En c.z c.xi X env m μ σ B H) : ∃ d, o = some d ∧ ∀ p u, H p = none → ObAt c.z μ B (upd H p u) p d → Q (.ref p) (upd H p u) := by
  cases o with
  | none => exact h.elim
  | some d =>
    refine ⟨d, rfl, fun p u hp ho => ?_⟩
    obtain ⟨h1, h2, h3⟩ := I.me.new hp
    exact h p _ B μ Gw.refl ho h1 h2 h3 (I.up (Ex.new hp) (Gr.refl _ _) (I.me.bh.trans (Ex.new hp)))
end
/-! ### looking into a value -/
def lk (m : Mem) : D → D
  | .hdl n => match m[n]? with
    | some o => o.d
    | none => .hdl n
  | d => d
section
variable {z : Z} {X B H : Hp} {μ : List Addr} {m : Mem} {x : V} {d : D}
theorem lk_inv {e : D} (h : lk m d = e) : d = e ∨ ∃ n o, d = .hdl n ∧ m[n]? = some o ∧ o.d = e := by
  unfold lk at h
  split at h
  · rename_i n
    split at h
    · rename_i o ho
      exact .inr ⟨n, o, rfl, ho, h⟩
    · exact .inl h
  · exact .inl h
theorem vw_int {i : Int} (h : At z μ B x d) (e : lk m d = .int i) : x = .int i := by
  rcases lk_inv e with rfl | ⟨n, o, rfl, _, h2⟩
  · cases h; rfl
  · cases o <;> exact nomatch h2
theorem vw_str {i : Str} (h : At z μ B x d) (e : lk m d = .str i) : x = .str i := by
  rcases lk_inv e with rfl | ⟨n, o, rfl, _, h2⟩
  · cases h; rfl
  · cases o <;> exact nomatch h2
theorem vw_bl {i : Bool} (h : At z μ B x d) (e : lk m d = .bl i) : x = .bl i := by
  rcases lk_inv e with rfl | ⟨n, o, rfl, _, h2⟩
  · cases h; rfl
  · cases o <;> exact nomatch h2
theorem vw_non (h : At z μ B x d) (e : lk m d = .non) : x = .non := by
  rcases lk_inv e with rfl | ⟨n, o, rfl, _, h2⟩
  · cases h; rfl
  · cases o <;> exact nomatch h2
theorem vw_lst {ds : List D} (M : Me z X μ B H m) (h : At z μ B x d) (e : lk m d = .lst ds) : ∃ p xs, x = .ref p ∧ H p = some (.lst xs) ∧ Ats z μ B xs ds := by
  rcases lk_inv e with rfl | ⟨n, o, rfl, ho, h2⟩
  · cases h with
    | lst h1 h2 => exact ⟨_, _, rfl, M.bh _ _ h1, h2⟩
  · cases o <;> cases h2
    cases h with
    | hdl h1 =>
      obtain ⟨xs, h2, h3⟩ := M.ob _ _ _ h1 ho
      exact ⟨_, _, rfl, h2, h3⟩
theorem vw_frz {ds : List D} (M : Me z X μ B H m) (h : At z μ B x d) (e : lk m d = .frz ds) : ∃ p xs, x = .ref p ∧ SqL z.K H p xs ∧ Ats z μ B xs ds := by
  rcases lk_inv e with rfl | ⟨n, o, rfl, ho, h2⟩
  · cases h with
    | frz h1 h2 => exact ⟨_, _, rfl, ex_l M.bh h1, h2⟩
  · cases o <;> exact nomatch h2
theorem vw_tup {ds : List D} (M : Me z X μ B H m) (h : At z μ B x d) (e : lk m d = .tup ds) : ∃ p xs, x = .ref p ∧ SqT z.K H p xs ∧ SqT z.K B p xs ∧ Ats z μ B xs ds ∧ d = .tup ds := by
  rcases lk_inv e with rfl | ⟨n, o, rfl, ho, h2⟩
  · cases h with
    | tup h1 h2 => exact ⟨_, _, rfl, ex_t M.bh h1, h1, h2, rfl⟩
  · cases o <;> exact nomatch h2
/-- flat values -/
def D.sv : D → Option V
  | .non => some .non
  | .bl b => some (.bl b)
  | .int i => some (.int i)
  | .str s => some (.str s)
  | _ => none
theorem at_sv {v : V} (h : At z μ B x d) (e : d.sv = some v) : x = v := by
  cases h <;> cases e <;> rfl
theorem sv_flat {v : V} (h : d.sv = some v) : flatV v = true := by
  unfold D.sv at h
  split at h <;> first | (cases h; rfl) | exact nomatch h
theorem ats_sv : ∀ {xs : List V} {ds : List D} {vs : List V}, Ats z μ B xs ds → ds.mapM D.sv = some vs → xs = vs ∧ vs.all flatV = true
  | _, _, vs, .nil, h => by
    have h : some ([] : List V) = some vs := h
    cases h
    exact ⟨rfl, rfl⟩
  | _, d :: ds, vs, .cons (x := x) hx hs, h => by
    rw [List.mapM_cons] at h
    obtain ⟨v, h1, h⟩ := Option.bind_eq_some_iff.mp h
    obtain ⟨ws, h2, h⟩ := Option.bind_eq_some_iff.mp h
    cases h
    obtain ⟨h3, h4⟩ := ats_sv hs h2
    have := at_sv hx h1
    subst this h3
    exact ⟨rfl, by rw [List.all_cons, h4, sv_flat h1]; rfl⟩
end
/-! ### data as the library's -/
mutual
def D.py : D → Option PyData
  | .non => some .none
  | .bl b => some (.bool b)
  | .int i => some (.int i)
  | .str s => some (.str s)
  | .lst ds => (D.pys ds).map PyData.list
  | .tup ds => (D.pys ds).map PyData.tuple
  | _ => none
def D.pys : List D → Option (List PyData)
  | [] => some []
  | d :: ds => match d.py, D.pys ds with
    | some p, some ps => some (p :: ps)
    | _, _ => none
end
/-- through the memory -/
def pyF : Nat → Mem → D → Option PyData
  | 0, _, _ => none
  | n + 1, m, d => match lk m d with
    | .non => some .none
    | .bl b => some (.bool b)
    | .int i => some (.int i)
    | .str s => some (.str s)
    | .lst ds => (ds.mapM (pyF n m)).map PyData.list
    | .tup ds => (ds.mapM (pyF n m)).map PyData.tuple
    | _ => none
def pyM (m : Mem) (d : D) : Option PyData := match d.py with
  | some p => some p
  | none => pyF 70 m d
section
variable {z : Z} {X B H : Hp} {μ : List Addr} {m : Mem}
mutual
theorem At.dp : ∀ {v : V} {d : D} {p : PyData}, At z μ B v d → d.py = some p → Dp z.K B v p
  | _, _, _, .non, e => by cases e; exact .non
  | _, _, _, .bl b, e => by cases e; exact .bl b
  | _, _, _, .int i, e => by cases e; exact .int i
  | _, _, _, .str x, e => by cases e; exact .str x
  | _, _, p, .lst (ds := ds) h hs, e => by
    unfold D.py at e
    cases q : D.pys ds with
    | none => rw [q] at e; exact nomatch e
    | some ps => rw [q] at e; cases e; exact .lst (sq_of h) (Ats.dps hs q)
  | _, _, p, .tup (ds := ds) h hs, e => by
    unfold D.py at e
    cases q : D.pys ds with
    | none => rw [q] at e; exact nomatch e
    | some ps => rw [q] at e; cases e; exact .tup h (Ats.dps hs q)
  | _, _, _, .frz _ _, e => by unfold D.py at e; exact nomatch e
  | _, _, _, .dicK _ _ _, e => by unfold D.py at e; exact nomatch e
  | _, _, _, .dicM _ _ _, e => by unfold D.py at e; exact nomatch e
  | _, _, _, .dicN _ _ _ _ _, e => by unfold D.py at e; exact nomatch e
  | _, _, _, .ins _ _ _, e => by unfold D.py at e; exact nomatch e
  | _, _, _, .hdl _, e => by unfold D.py at e; exact nomatch e
theorem Ats.dps : ∀ {xs : List V} {ds : List D} {ps : List PyData}, Ats z μ B xs ds → D.pys ds = some ps → DpAll z.K B xs ps
  | _, _, _, .nil, e => by cases e; exact .nil
  | _, d :: ds, ps, .cons h hs, e => by
    unfold D.pys at e
    cases q1 : d.py with
    | none => rw [q1] at e; exact nomatch e
    | some p =>
      cases q2 : D.pys ds with
      | none => rw [q1, q2] at e; exact nomatch e
      | some ps' => rw [q1, q2] at e; cases e; exact .cons (At.dp h q1) (Ats.dps hs q2)
end
theorem ats_all {P : D → PyData → Prop} {f : D → Option PyData} (hf : ∀ (v : V) (d : D) (p : PyData), At z μ B v d → f d = some p → Dp z.K H v p) : ∀ {xs : List V} {ds : List D} {ps : List PyData}, Ats z μ B xs ds → ds.mapM f = some ps → DpAll z.K H xs ps
  | _, _, ps, .nil, h => by
    have h : some ([] : List PyData) = some ps := h
    cases h
    exact .nil
  | _, d :: ds, ps, .cons hx hs, h => by
    rw [List.mapM_cons] at h
    obtain ⟨v, h1, h⟩ := Option.bind_eq_some_iff.mp h
    obtain ⟨ws, h2, h⟩ := Option.bind_eq_some_iff.mp h
    cases h
    exact .cons (hf _ _ _ hx h1) (ats_all (P := P) hf hs h2)
theorem pyF_ok (M : Me z X μ B H m) : ∀ (n : Nat) (v : V) (d : D) (p : PyData), At z μ B v d → pyF n m d = some p → Dp z.K H v p
  | 0, _, _, _, _, e => nomatch e
  | n + 1, v, d, p, h, e => by
    unfold pyF at e
    split at e
    · rename_i q; cases e; rw [vw_non h q]; exact .non
    · rename_i q; cases e; rw [vw_bl h q]; exact .bl _
    · rename_i q; cases e; rw [vw_int h q]; exact .int _
    · rename_i q; cases e; rw [vw_str h q]; exact .str _
    · rename_i ds q
      obtain ⟨ps, h1, h2⟩ := Option.map_eq_some_iff.mp e
      subst h2
      obtain ⟨a, xs, rfl, h3, h4⟩ := vw_lst M h q
      exact .lst (sq_of h3) (ats_all (P := fun _ _ => True) (fun v d p => pyF_ok M n v d p) h4 h1)
    · rename_i ds q
      obtain ⟨ps, h1, h2⟩ := Option.map_eq_some_iff.mp e
      subst h2
      obtain ⟨a, xs, rfl, h3, _, h4, _⟩ := vw_tup M h q
      exact .tup h3 (ats_all (P := fun _ _ => True) (fun v d p => pyF_ok M n v d p) h4 h1)
    · exact nomatch e
theorem pyM_ok (M : Me z X μ B H m) {v : V} {d : D} {p : PyData} (h : At z μ B v d) (e : pyM m d = some p) : Dp z.K H v p := by
  unfold pyM at e
  split at e
  · rename_i q hq
    cases e
    exact dp_ex M.bh (h.dp hq)
  · exact pyF_ok M 70 v d p h e
end
end DY
/-! defs read as functions over data: names, operators, arguments, displays, tests -/
namespace DY
open PySem PySem.Spec PyProof.Rows L2 Evl LX XV RX WS
/-! ### names and constants -/
def eV (j : Nat) : FE := fun env m => match env[j]? with
  | some (some d) => .ok d m
  | _ => .no
def eC (d : D) : FE := fun _ m => .ok d m
section
variable {X : Cx} {c : Cc}
theorem d_v (j : Nat) {x : Str} {pos : Pos} (hN : X.N[j]? = some x := by rfl) (hv : Vis X.env.scope x := by first | exact Or.inl rfl | exact Or.inr (Or.inl rfl) | exact Or.inr (Or.inr rfl)) (hd : (x == ("__debug__" : Str)) = false := by decide)
    (hcd : (x == ("__classdict__" : Str)) = false := by decide) : PE X (.Name x pos) (teF c (eV j)) := pe_mono (pv j hN hv hd hcd) fun σ H Q ⟨X1, env, m, μ, B, I, o⟩ => by
  unfold eV at o
  split at o
  · rename_i d hj
    obtain ⟨v, h1, h2⟩ := I.val j d hj
    exact ⟨v, h1, o v H B μ Gw.refl h2 I⟩
  · exact o.elim
theorem d_k {e : Expr} {v : V} {d : D} (h : PE X e (tC v)) (hd : ∀ μ B, At c.z μ B v d) : PE X e (teF c (eC d)) := pe_mono h fun σ H Q ⟨X1, env, m, μ, B, I, o⟩ => o v H B μ Gw.refl (hd μ B) I
theorem d_int {i : Int} {j pos} : PE X (.Constant (.int i) j pos) (teF c (eC (.int i))) := d_k pe_int fun _ _ => .int i
theorem d_bl {i : Bool} {j pos} : PE X (.Constant (.bool i) j pos) (teF c (eC (.bl i))) := d_k pe_bl fun _ _ => .bl i
theorem d_str {i : Str} {j pos} : PE X (.Constant (.str i) j pos) (teF c (eC (.str i))) := d_k pe_str fun _ _ => .str i
end
/-! ### two places -/
/-- a rule and what it gives -/
def R2ok (z : Z) (r : R2) (g : Mem → D → D → Option D) : Prop := ∀ {X B H : Hp} {μ : List Addr} {m : Mem} {x y : V} {a b d : D}, Me z X μ B H m → At z μ B x a → At z μ B y b → g m a b = some d → ∀ Q : VK, (∀ v H' B', Ex H H' → Gr H B B' → Ex B' H' → At z μ B' v d → Q v H') → r x y H Q
def e2 (g : Mem → D → D → Option D) (fa fb : FE) : FE := fun env m => (fa env m).bind fun a m1 => (fb env m1).bind fun b m2 => lift (g m2 a b) m2
section
variable {X : Cx} {c : Cc} {a b : Expr} {fa fb : FE} {pos : Pos}
theorem te_op {r : R2} {g : Mem → D → D → Option D} (hg : R2ok c.z r g) {σ : L2.St} {H : Hp} {Q : VK} : teF c (e2 g fa fb) σ H Q → tOp r (teF c fa) (teF c fb) σ H Q := fun ⟨X1, env, m, μ, B, I, o⟩ =>
  ⟨X1, env, m, μ, B, I, out_seq o fun a m1 x H1 B1 μ1 g1 hx I1 o1 => ⟨X1, env, m1, μ1, B1, I1, out_seq o1 fun b m2 y H2 B2 μ2 g2 hy I2 o2 => by
    obtain ⟨d, h1, h2⟩ := o2.lift I2
    exact hg I2.me (hx.gw g2) hy h1 Q h2⟩⟩
theorem d_bin {op : Operator} {r : R2} {g : Mem → D → D → Option D} (hr : OpR X (binaryOp op) r) (hg : R2ok c.z r g) (ha : PE X a (teF c fa)) (hb : PE X b (teF c fb)) : PE X (.BinOp a op b pos) (teF c (e2 g fa fb)) := pe_mono (pe_op hr ha hb) fun σ H Q h => te_op hg h
theorem d_cmpR {op : CmpOp} {r : R2} {g : Mem → D → D → Option D} (hr : OpR X (compareOp op) r) (hg : R2ok c.z r g) (ha : PE X a (teF c fa)) (hb : PE X b (teF c fb)) (hm : behindInMarks op b = false) : PE X (.Compare a [op] [b] pos) (teF c (e2 g fa fb)) := pe_mono (pe_cmpR hr ha hb hm) fun σ H Q h => te_op hg h
theorem d_ixR {r : R2} {g : Mem → D → D → Option D} (hr : IxR X r) (hg : R2ok c.z r g) (ha : PE X a (teF c fa)) (hb : PE X b (teF c fb)) (hs : PlainIx b) : PE X (.Subscript a b pos) (teF c (e2 g fa fb)) := pe_mono (pe_ix hr ha hb hs) fun σ H Q h => te_op hg h
end
/-! ### one place -/
def R1ok (z : Z) (r : V → Hp → VK → Prop) (g : Mem → D → Option D) : Prop := ∀ {X B H : Hp} {μ : List Addr} {m : Mem} {x : V} {a d : D}, Me z X μ B H m → At z μ B x a → g m a = some d → ∀ Q : VK, (∀ v H' B', Ex H H' → Gr H B B' → Ex B' H' → At z μ B' v d → Q v H') → r x H Q
def e1 (g : Mem → D → Option D) (fa : FE) : FE := fun env m => (fa env m).bind fun a m1 => lift (g m1 a) m1
theorem d_unR {X : Cx} {c : Cc} {a : Expr} {fa : FE} {pos : Pos} {op : UnaryOp} {r : V → Hp → VK → Prop} {g : Mem → D → Option D} (hr : UnR X (unaryOp op) r) (hg : R1ok c.z r g) (ha : PE X a (teF c fa)) : PE X (.UnaryOp op a pos) (teF c (e1 g fa)) := pe_mono (pe_un hr ha) fun σ H Q ⟨X1, env, m, μ, B, I, o⟩ =>
  ⟨X1, env, m, μ, B, I, out_seq o fun a m1 x H1 B1 μ1 g1 hx I1 o1 => by
    obtain ⟨d, h1, h2⟩ := o1.lift I1
    exact hg I1.me hx h1 Q h2⟩
/-! ### arguments -/
def aN : FA := fun _ m => .ok [] m
def aC (f : FE) (fs : FA) : FA := fun env m => (f env m).bind fun d m1 => (fs env m1).bind fun ds m2 => .ok (d :: ds) m2
section
variable {X : Cx} {c : Cc} {e : Expr} {es : List Expr} {f : FE} {fs : FA} {pos : Pos}
theorem da_nil : PA X [] (taF c aN) := pa_mono pa_nil fun σ H Q ⟨X1, env, m, μ, B, I, o⟩ => o [] H B μ Gw.refl .nil I
theorem da_cons (h : PE X e (teF c f)) (hs : PA X es (taF c fs)) (hst : starEach (e :: es) X.env = (false, eval e X.env) :: starEach es X.env := by rfl) : PA X (e :: es) (taF c (aC f fs)) := pa_mono (pa_cons h hs hst) fun σ H Q ⟨X1, env, m, μ, B, I, o⟩ =>
  ⟨X1, env, m, μ, B, I, out_seq o fun a m1 x H1 B1 μ1 g1 hx I1 o1 => ⟨X1, env, m1, μ1, B1, I1, out_seq o1 fun b m2 y H2 B2 μ2 g2 hy I2 o2 => o2 (x :: y) H2 B2 μ2 Gw.refl (.cons (hx.gw g2) hy) I2⟩⟩
def RCok (z : Z) (r : List V → Hp → VK → Prop) (g : Mem → List D → Option D) : Prop := ∀ {X B H : Hp} {μ : List Addr} {m : Mem} {xs : List V} {as : List D} {d : D}, Me z X μ B H m → Ats z μ B xs as → g m as = some d → ∀ Q : VK, (∀ v H' B', Ex H H' → Gr H B B' → Ex B' H' → At z μ B' v d → Q v H') → r xs H Q
def eB (g : Mem → List D → Option D) (fa : FA) : FE := fun env m => (fa env m).bind fun as m1 => lift (g m1 as) m1
theorem te_cb {r : List V → Hp → VK → Prop} {g : Mem → List D → Option D} (hg : RCok c.z r g) {σ : L2.St} {H : Hp} {Q : VK} : teF c (eB g fs) σ H Q → tCB r (taF c fs) σ H Q := fun ⟨X1, env, m, μ, B, I, o⟩ =>
  ⟨X1, env, m, μ, B, I, out_seq o fun a m1 x H1 B1 μ1 g1 hx I1 o1 => by
    obtain ⟨d, h1, h2⟩ := o1.lift I1
    exact hg I1.me hx h1 Q h2⟩
theorem d_callB {x : Str} {p : Pos} {id : String} {r : List V → Hp → VK → Prop} {g : Mem → List D → Option D} (hr : CallR X (.builtin id) r) (hg : RCok c.z r g) (hm : X.mg x = none) (ha : PA X (e :: es) (taF c fs)) (hgl : Gl X x := by rfl) (hv : bootBuiltins x = some (.builtin id) := by decide +kernel) (hn : x ≠ "__name__" := by decide) (hdb : (x == ("__debug__" : Str)) = false := by decide)
    (he : starEach (e :: es) X.env = (false, eval e X.env) :: starEach es X.env := by rfl) (hpl : (backTo pos (starEach es X.env)).any (·.1) = false := by rfl) : PE X (.Call (.Name x p) (e :: es) [] pos) (teF c (eB g fs)) := pe_mono (pe_callB hr hgl hm hv ha hn hdb he hpl) fun σ H Q h => te_cb hg h
theorem d_callTy {x : Str} {p : Pos} {T : String} {r : List V → Hp → VK → Prop} {g : Mem → List D → Option D} (hr : CallR X (.type T) r) (hg : RCok c.z r g) (hm : X.mg x = none) (ha : PA X (e :: es) (taF c fs)) (hgl : Gl X x := by rfl) (hv : bootBuiltins x = some (.type T) := by decide +kernel) (hn : x ≠ "__name__" := by decide) (hdb : (x == ("__debug__" : Str)) = false := by decide)
    (he : starEach (e :: es) X.env = (false, eval e X.env) :: starEach es X.env := by rfl) (hpl : (backTo pos (starEach es X.env)).any (·.1) = false := by rfl) : PE X (.Call (.Name x p) (e :: es) [] pos) (teF c (eB g fs)) := pe_mono (pe_callTy hr hgl hm hv ha hn hdb he hpl) fun σ H Q h => te_cb hg h
end
/-! ### displays -/
def big : Nat := 99999
def eTup (fa : FA) : FE := fun env m => (fa env m).bind fun as m1 => if as.length ≤ big then .ok (.tup as) m1 else .no
theorem ex_both' {B H : Hp} {p : Addr} {o : HO} (e : Ex B H) : Ex (upd B p o) (upd H p o) := fun a u h => by
  by_cases c : a = p
  · subst c; rw [upd_same] at h ⊢; exact h
  · rw [upd_ne c] at h ⊢; exact e a u h
theorem le_big {n : Nat} (h : n ≤ big) : n ≤ sizeLine := Nat.le_of_lt (sz_lt (Nat.lt_of_le_of_lt h (by decide)))
theorem lt_big {n : Nat} (h : n < big) : n < sizeLine := sz_lt (Nat.lt_trans h (by decide))
theorem d_tup {X : Cx} {c : Cc} {es : List Expr} {fa : FA} {pos : Pos} {x1} (h : PA X es (taF c fa)) : PE X (.Tuple es x1 pos) (teF c (eTup fa)) := pe_mono (pe_tup h) fun σ H Q ⟨X1, env, m, μ, B, I, o⟩ =>
  ⟨X1, env, m, μ, B, I, out_seq o fun as m1 xs H1 B1 μ1 g1 hx I1 o1 => by
    split at o1
    · rename_i hl
      refine ⟨le_big (by rw [hx.len]; exact hl), fun p hp => ?_⟩
      have g2 : Gr H1 B1 (upd B1 p (.tup xs)) := gr_new (none_of I1.me.bh hp) hp
      exact o1.val I1 _ _ _ (Ex.new hp) g2 (ex_both' I1.me.bh) (.tup (st_of upd_same) (hx.ex g2.ex))
    · exact o1.elim⟩
/-- a new list -/
def nL (fa : FA) : FN := fun env m => (fa env m).bind fun as m1 => if as.length ≤ big then .ok (.lst as) m1 else .no
theorem d_lst {X : Cx} {c : Cc} {es : List Expr} {fa : FA} {pos : Pos} (h : PA X es (taF c fa)) : PE X (.List es pos) (tnF c (nL fa)) := pe_mono (pe_lst h) fun σ H Q ⟨X1, env, m, μ, B, I, o⟩ =>
  ⟨X1, env, m, μ, B, I, out_seqN o fun as m1 xs H1 B1 μ1 g1 hx I1 o1 => by
    split at o1
    · rename_i hl
      refine ⟨le_big (by rw [hx.len]; exact hl), fun p hp => ?_⟩
      obtain ⟨h1, h2, h3⟩ := I1.me.new hp
      exact o1 p _ B1 μ1 Gw.refl ⟨xs, upd_same, hx⟩ h1 h2 h3 (I1.up (Ex.new hp) (Gr.refl _ _) (I1.me.bh.trans (Ex.new hp)))
    · exact o1.elim⟩
/-! ### a new object as a value (it never changes), as an object that changes -/
def eFz (f : FN) : FE := fun env m => (f env m).bind fun o m1 => .ok o.d m1
def eNew (f : FN) : FE := fun env m => (f env m).bind fun o m1 => .ok (.hdl m1.length) (m1 ++ [o])
section
variable {X : Cx} {c : Cc} {e : Expr} {f : FN}
theorem ob_fz {z : Z} {μ : List Addr} {B H : Hp} {p : Addr} {o : Ob} (h : ObAt z μ B H p o) (hb : B p = none) : ∃ u, H p = some u ∧ At z μ (upd B p u) (.ref p) o.d := by
  have ex : ∀ u, Ex B (upd B p u) := fun u => Ex.new hb
  cases o with
  | lst ds => obtain ⟨xs, h1, h2⟩ := h; exact ⟨_, h1, .lst upd_same (h2.ex (ex _))⟩
  | dic n ks vs =>
    cases n with
    | false => obtain ⟨kvs, h1, h2, h3⟩ := h; exact ⟨_, h1, .dicK (.inl upd_same) h2 (h3.ex (ex _))⟩
    | true => obtain ⟨kvs, h1, h2, h3, h4, h5⟩ := h; exact ⟨_, h1, .dicN (.inl upd_same) (dnk_ex (ex _) h2) h3 (h4.ex (ex _)) (h5.ex (ex _))⟩
  | ins c ns ds => obtain ⟨dx, fs, h1, h2, h3⟩ := h; exact ⟨_, h1, .ins upd_same h2 (h3.ex (ex _))⟩
  | lok n ks vs =>
    cases n with
    | false => obtain ⟨o, kvs, h1, h2, h3⟩ := h; exact ⟨_, h1, .dicK (.inr ⟨o, upd_same⟩) h2 (h3.ex (ex _))⟩
    | true => obtain ⟨o, kvs, h1, h2, h3, h4, h5⟩ := h; exact ⟨_, h1, .dicN (.inr ⟨o, upd_same⟩) (dnk_ex (ex _) h2) h3 (h4.ex (ex _)) (h5.ex (ex _))⟩
theorem En.fz {z : Z} {xi : XI} {X : Hp} {env : Sv} {m : Mem} {μ : List Addr} {σ : L2.St} {B H : Hp} {p : Addr} {u : HO} (I : En z xi X env m μ σ B H) (hp : H p = some u) (hb : B p = none) (hx : X p = none) (hm : p ∉ μ) : Gw X B μ (upd B p u) μ ∧ En z xi X env m μ σ (upd B p u) H :=
  ⟨⟨gr_new hb hx, List.prefix_refl _⟩, I.mem ⟨ex_upd I.me.bh hp, I.me.xh, I.me.len, I.me.nd, fun n a o h1 h2 => (I.me.ob n a o h1 h2).gr (Ex.new hb) (List.prefix_refl _) fun v hv => hv, fun a ha => by
    have c : a ≠ p := fun c => hm (c ▸ ha)
    rw [upd_ne c]; exact I.me.nb a ha, I.me.nx⟩ (Ex.new hb) (List.prefix_refl _)⟩
theorem d_fz (h : PE X e (tnF c f)) : PE X e (teF c (eFz f)) := pe_mono h fun σ H Q ⟨X1, env, m, μ, B, I, o⟩ => ⟨X1, env, m, μ, B, I, by
  unfold eFz at o
  cases hf : f env m with
  | no => rw [hf] at o; exact o
  | ex x m' => rw [hf] at o; exact o
  | ok ob m' =>
    rw [hf] at o
    exact fun p H' B' μ' g ho hb hx hm I' => by
      obtain ⟨u, h1, h2⟩ := ob_fz ho hb
      obtain ⟨g2, I2⟩ := I'.fz h1 hb hx hm
      exact o (.ref p) H' (upd B' p u) μ' (g.trans g2) h2 I2⟩
theorem d_new (h : PE X e (tnF c f)) : PE X e (teF c (eNew f)) := pe_mono h fun σ H Q ⟨X1, env, m, μ, B, I, o⟩ => ⟨X1, env, m, μ, B, I, by
  unfold eNew at o
  cases hf : f env m with
  | no => rw [hf] at o; exact o
  | ex x m' => rw [hf] at o; exact o
  | ok ob m' =>
    rw [hf] at o
    exact fun p H' B' μ' g ho hb hx hm I' => by
      refine o (.ref p) H' B' (μ' ++ [p]) (g.trans ⟨Gr.refl _ _, List.prefix_append _ _⟩) (.hdl ?_) (I'.push ho hb hx hm)
      rw [← I'.me.len, List.getElem?_append_right (Nat.le_refl _), Nat.sub_self]
      rfl⟩
end
/-! ### tests -/
/-- an object's dict that isn't walked now -/
def obDic (m : Mem) (d : D) : Option (List D × List D) := match d with
  | .hdl n => match m[n]? with
    | some (.dic false ks vs) => some (ks, vs)
    | _ => none
  | _ => none
/-- the truth of a value -/
def tru (m : Mem) (d : D) : Option Bool := match lk m d with
  | .non => some false
  | .bl b => some b
  | .int i => some (i != 0)
  | .str s => if s.length ≤ big then some ((s.length : Int) != 0) else none
  | .lst ds => some (!ds.isEmpty)
  | .frz ds => some (!ds.isEmpty)
  | .tup ds => some (!ds.isEmpty)
  | .dic _ _ _ => (obDic m d).map fun p => !p.1.isEmpty
  | _ => none
def tT (f : FE) : FT := fun env m => (f env m).bind fun d m1 => lift (tru m1 d) m1
/-- a test whose value is a bool -/
def tB' (f : FE) : FT := fun env m => (f env m).bind fun d m1 => match d with
  | .bl b => .ok b m1
  | _ => .no
def tA (f g : FT) : FT := fun env m => (f env m).bind fun b m1 => if b = true then g env m1 else .ok false m1
def tO (f g : FT) : FT := fun env m => (f env m).bind fun b m1 => if b = true then .ok true m1 else g env m1
def tNo (f : FT) : FT := fun env m => (f env m).bind fun b m1 => .ok (!b) m1
def cTrue : FT := fun _ m => .ok true m
section
variable {z : Z} {X B H : Hp} {μ : List Addr} {m : Mem} {x : V} {d : D}
theorem emp_of {xs : List V} {ds : List D} (h : Ats z μ B xs ds) : xs.isEmpty = ds.isEmpty := by
  cases h <;> rfl
/-- a dict with its keys: as it is read -/
theorem vw_dicK {ks vs : List D} (M : Me z X μ B H m) (h : At z μ B x d) (e : lk m d = .dic false ks vs) : (∃ p kvs, x = .ref p ∧ Rd H p (.dK kvs) ∧ kvs.map (fun p => some p.1) = ks.map dKey ∧ Ats z μ B (kvs.map (·.2)) vs) ∨ ∃ p l, x = .ref p ∧ d = .dic false ks vs ∧ MDic z p l ∧ ks = l.map (fun q => D.str q.1) ∧ Ats z μ B (l.map (·.2)) vs := by
  rcases lk_inv e with rfl | ⟨n, o, rfl, ho, h2⟩
  · cases h with
    | dicK h1 h2 h3 => exact .inl ⟨_, _, rfl, rd_ex M.bh h1, h2, h3⟩
    | dicM h1 h2 h3 => exact .inr ⟨_, _, rfl, rfl, h1, h2, h3⟩
  · cases h with
    | hdl h1 =>
      cases o <;> cases h2
      · obtain ⟨xs, h2, h3, h4⟩ := M.ob _ _ _ h1 ho
        exact .inl ⟨_, _, rfl, .inl h2, h3, h4⟩
      · obtain ⟨o, xs, h2, h3, h4⟩ := M.ob _ _ _ h1 ho
        exact .inl ⟨_, _, rfl, .inr ⟨o, h2⟩, h3, h4⟩
theorem vw_dicN {ks vs : List D} (M : Me z X μ B H m) (h : At z μ B x d) (e : lk m d = .dic true ks vs) : ∃ p kvs, x = .ref p ∧ Rd H p (DnO z.P z.w p kvs) ∧ DnKeys z.K H kvs ∧ kvs.map (fun p => some p.1) = ks.map dNk ∧ Ats z μ B (kvs.map (fun p => V.ref p.2.1)) ks ∧ Ats z μ B (kvs.map (·.2.2)) vs := by
  rcases lk_inv e with rfl | ⟨n, o, rfl, ho, h2⟩
  · cases h with
    | dicN h1 h2 h3 h4 h5 => exact ⟨_, _, rfl, rd_ex M.bh h1, dnk_ex M.bh h2, h3, h4, h5⟩
  · cases h with
    | hdl h1 =>
      cases o <;> cases h2
      · obtain ⟨xs, h2, h3, h4, h5, h6⟩ := M.ob _ _ _ h1 ho
        exact ⟨_, _, rfl, .inl h2, dnk_ex M.bh h3, h4, h5, h6⟩
      · obtain ⟨o, xs, h2, h3, h4, h5, h6⟩ := M.ob _ _ _ h1 ho
        exact ⟨_, _, rfl, .inr ⟨o, h2⟩, dnk_ex M.bh h3, h4, h5, h6⟩
theorem ob_dicK {ks vs : List D} (M : Me z X μ B H m) (h : At z μ B x d) (e : obDic m d = some (ks, vs)) : ∃ p kvs, x = .ref p ∧ H p = some (.dK kvs) ∧ kvs.map (fun p => some p.1) = ks.map dKey ∧ Ats z μ B (kvs.map (·.2)) vs := by
  unfold obDic at e
  split at e
  · rename_i n
    cases h with
    | hdl h1 =>
      split at e
      · rename_i ks' vs' ho
        cases e
        obtain ⟨xs, h2, h3, h4⟩ := M.ob _ _ _ h1 ho
        exact ⟨_, _, rfl, h2, h3, h4⟩
      · exact nomatch e
  · exact nomatch e
end
section
variable {X : Cx} {c : Cc} {e : Expr} {f : FE} {t u : FT}
theorem tru_at {z : Z} {X B H : Hp} {μ : List Addr} {m : Mem} {x : V} {d : D} {b : Bool} (M : Me z X μ B H m) (h : At z μ B x d) (e : tru m d = some b) : TruV z.K x H b := by
  unfold tru at e
  split at e
  · rename_i q; cases e; rw [vw_non h q]; exact rfl
  · rename_i q; cases e; rw [vw_bl h q]; exact rfl
  · rename_i q; cases e; rw [vw_int h q]; exact rfl
  · rename_i q
    split at e
    · rename_i hl; cases e; rw [vw_str h q]; exact ⟨le_big hl, rfl⟩
    · exact nomatch e
  · rename_i ds q
    cases e
    obtain ⟨p, xs, rfl, h1, h2⟩ := vw_lst M h q
    exact .inl ⟨xs, sq_of h1, by rw [emp_of h2]⟩
  · rename_i ds q
    cases e
    obtain ⟨p, xs, rfl, h1, h2⟩ := vw_frz M h q
    exact .inl ⟨xs, h1, by rw [emp_of h2]⟩
  · rename_i ds q
    cases e
    obtain ⟨p, xs, rfl, h1, _, h2, _⟩ := vw_tup M h q
    exact .inr (.inl ⟨xs, h1, by rw [emp_of h2]⟩)
  · rename_i q
    obtain ⟨⟨ks, vs⟩, h1, rfl⟩ := Option.map_eq_some_iff.mp e
    obtain ⟨p, kvs, rfl, h2, h3, h4⟩ := ob_dicK M h h1
    refine .inr (.inr ⟨kvs, h2, ?_⟩)
    have : kvs.length = ks.length := by simpa using congrArg List.length h3
    cases kvs <;> cases ks <;> first | rfl | cases this
  · exact nomatch e
theorem dt_tru (h : PE X e (teF c f)) (hz : zx X = c.z := by rfl) (he : ∀ whole, isTrue e X.env whole = (do let v ← whole; standAt e.pos; holding [v] (truthy v)) := by intro _; rfl) : PT X e (ttF c fun env m => (f env m).bind fun d m1 => lift (tru m1 d) m1) := pt_mono (pt_truth h he) fun σ H Q ⟨X1, env, m, μ, B, I, o⟩ =>
  ⟨X1, env, m, μ, B, I, out_seq o fun a m1 x H1 B1 μ1 g1 hx I1 o1 => by
    cases ht : tru m1 a with
    | none => rw [ht] at o1; exact o1.elim
    | some b =>
      rw [ht] at o1
      have hK : X.K = c.z.K := congrArg Z.K hz
      exact ⟨b, by rw [hK]; exact tru_at I1.me hx ht, o1 b H1 B1 μ1 Gw.refl rfl I1⟩⟩
theorem dt_val (h : PE X e (teF c f)) (he : ∀ whole, isTrue e X.env whole = (do let v ← whole; standAt e.pos; holding [v] (truthy v)) := by intro _; rfl) : PT X e (ttF c (tB' f)) := pt_mono (pt_val h he) fun σ H Q ⟨X1, env, m, μ, B, I, o⟩ =>
  ⟨X1, env, m, μ, B, I, out_seq o fun a m1 x H1 B1 μ1 g1 hx I1 o1 => by
    cases a <;> first | exact o1.elim | skip
    cases hx
    exact ⟨_, rfl, o1 _ H1 B1 μ1 Gw.refl rfl I1⟩⟩
/-- a comparison, as a test -/
theorem tt_of {te : TE} (h : ∀ σ H Q, teF c f σ H Q → te σ H Q) {σ : L2.St} {H : Hp} {Q : Bool → Hp → Prop} : ttF c (tB' f) σ H Q → tTest te σ H Q := fun ⟨X1, env, m, μ, B, I, o⟩ => h σ H _ ⟨X1, env, m, μ, B, I, out_seq o fun a m1 x H1 B1 μ1 g1 hx I1 o1 => by
    cases a <;> first | exact o1.elim | skip
    cases hx
    exact ⟨_, rfl, o1 _ H1 B1 μ1 Gw.refl rfl I1⟩⟩
theorem dt_cmpR {a b : Expr} {fa fb : FE} {pos : Pos} {op : CmpOp} {r : R2} {g : Mem → D → D → Option D} (hr : OpR X (compareOp op) r) (hg : R2ok c.z r g) (ha : PE X a (teF c fa)) (hb : PE X b (teF c fb)) (hm : behindInMarks op b = false) : PT X (.Compare a [op] [b] pos) (ttF c (tB' (e2 g fa fb))) := pt_mono (pt_cmpR hr ha hb hm) fun σ H Q h => tt_of (fun _ _ _ h => te_op hg h) h
theorem out_t {X1 B : Hp} {env : Sv} {σ : L2.St} {μ : List Addr} {r : Rs Bool} {k : Bool → Mem → Rs Bool} {Q Q1 : Bool → Hp → Prop} (h : Out c X1 env σ μ B (fun _ _ (b b' : Bool) => b = b') (r.bind k) Q)
    (q : ∀ d m' H' B' μ', Gw X1 B μ B' μ' → En c.z c.xi X1 env m' μ' σ B' H' → Out c X1 env σ μ' B' (fun _ _ (b b' : Bool) => b = b') (k d m') Q → Q1 d H') : Out c X1 env σ μ B (fun _ _ (b b' : Bool) => b = b') r Q1 := out_seq h fun d m' v H' B' μ' g hv I o => by
  cases hv
  exact q _ m' H' B' μ' g I o
theorem tt_and {σ : L2.St} {H : Hp} {Q : Bool → Hp → Prop} : ttF c (tA t u) σ H Q → tAnd (ttF c t) (ttF c u) σ H Q := fun ⟨X1, env, m, μ, B, I, o⟩ => ⟨X1, env, m, μ, B, I, out_t o fun b m1 H1 B1 μ1 g1 I1 o1 => by
  cases b with
  | true => exact ⟨X1, env, m1, μ1, B1, I1, o1⟩
  | false => exact o1 _ H1 B1 μ1 Gw.refl rfl I1⟩
theorem tt_or {σ : L2.St} {H : Hp} {Q : Bool → Hp → Prop} : ttF c (tO t u) σ H Q → tOr (ttF c t) (ttF c u) σ H Q := fun ⟨X1, env, m, μ, B, I, o⟩ => ⟨X1, env, m, μ, B, I, out_t o fun b m1 H1 B1 μ1 g1 I1 o1 => by
  cases b with
  | false => exact ⟨X1, env, m1, μ1, B1, I1, o1⟩
  | true => exact o1 _ H1 B1 μ1 Gw.refl rfl I1⟩
variable {a b : Expr} {rest : List Expr} {pos : Pos}
theorem dw_one {op : BoolOp} (h : PT X a (ttF c t)) : PW X (.BoolOp op [a] pos) (ttF c t) := by
  cases op with
  | And => exact pw_and1 h
  | Or => exact pw_or1 h
theorem dw_and (h : PT X a (ttF c t)) (k : PW X (.BoolOp .And (b :: rest) pos) (ttF c u)) : PW X (.BoolOp .And (a :: b :: rest) pos) (ttF c (tA t u)) := pw_mono (pw_and h k) fun _ _ _ h => tt_and h
theorem dw_or (h : PT X a (ttF c t)) (k : PW X (.BoolOp .Or (b :: rest) pos) (ttF c u)) : PW X (.BoolOp .Or (a :: b :: rest) pos) (ttF c (tO t u)) := pw_mono (pw_or h k) fun _ _ _ h => tt_or h
theorem dt_not (h : PT X a (ttF c t)) : PT X (.UnaryOp .Not a pos) (ttF c (tNo t)) := pt_mono (pt_not h) fun σ H Q ⟨X1, env, m, μ, B, I, o⟩ => ⟨X1, env, m, μ, B, I, out_t o fun b m1 H1 B1 μ1 g1 I1 o1 => o1 _ H1 B1 μ1 Gw.refl rfl I1⟩
/-! ### and, or, not, if as values; the values of and, or are bools -/
def eAnd (f g : FE) : FE := fun env m => (tB' f env m).bind fun b m1 => if b = true then g env m1 else .ok (.bl false) m1
def eOr (f g : FE) : FE := fun env m => (tB' f env m).bind fun b m1 => if b = true then .ok (.bl true) m1 else g env m1
def eNot (f : FT) : FE := fun env m => (f env m).bind fun b m1 => .ok (.bl (!b)) m1
def eIf (t : FT) (f g : FE) : FE := fun env m => (t env m).bind fun b m1 => if b = true then f env m1 else g env m1
theorem out_b {X1 B : Hp} {env : Sv} {σ : L2.St} {μ : List Addr} {m : Mem} {k : Bool → Mem → Rs D} {Q Q1 : VK} (h : Out c X1 env σ μ B (At c.z) ((tB' f env m).bind k) Q)
    (q : ∀ b m' H' B' μ', Gw X1 B μ B' μ' → En c.z c.xi X1 env m' μ' σ B' H' → Out c X1 env σ μ' B' (At c.z) (k b m') Q → Q1 (.bl b) H') : Out c X1 env σ μ B (At c.z) (f env m) Q1 := by
  unfold tB' at h
  cases hf : f env m with
  | no => rw [hf] at h; exact h
  | ex x m' => rw [hf] at h; exact h
  | ok d m' =>
    rw [hf] at h
    cases d <;> first | exact h.elim | skip
    exact fun v H1 B1 μ1 g1 hv I1 => by
      cases hv
      exact q _ m' H1 B1 μ1 g1 I1 (Out.grow h g1)
variable {fa fb : FE}
theorem d_one {op : BoolOp} (h : PE X a (teF c fa)) : PE X (.BoolOp op [a] pos) (teF c fa) := pe_one h
theorem d_and (h : PE X a (teF c fa)) (k : PE X (.BoolOp .And (b :: rest) pos) (teF c fb)) : PE X (.BoolOp .And (a :: b :: rest) pos) (teF c (eAnd fa fb)) := pe_mono (pe_and h k) fun σ H Q ⟨X1, env, m, μ, B, I, o⟩ => ⟨X1, env, m, μ, B, I, out_b o fun b m1 H1 B1 μ1 g1 I1 o1 => ⟨b, rfl, by
  cases b with
  | true => exact ⟨X1, env, m1, μ1, B1, I1, o1⟩
  | false => exact o1 _ H1 B1 μ1 Gw.refl (.bl false) I1⟩⟩
theorem d_or (h : PE X a (teF c fa)) (k : PE X (.BoolOp .Or (b :: rest) pos) (teF c fb)) : PE X (.BoolOp .Or (a :: b :: rest) pos) (teF c (eOr fa fb)) := pe_mono (pe_or h k) fun σ H Q ⟨X1, env, m, μ, B, I, o⟩ => ⟨X1, env, m, μ, B, I, out_b o fun b m1 H1 B1 μ1 g1 I1 o1 => ⟨b, rfl, by
  cases b with
  | false => exact ⟨X1, env, m1, μ1, B1, I1, o1⟩
  | true => exact o1 _ H1 B1 μ1 Gw.refl (.bl true) I1⟩⟩
theorem d_not (h : PE X a (teF c fa)) : PE X (.UnaryOp .Not a pos) (teF c (eNot (tB' fa))) := pe_mono (pe_not h) fun σ H Q ⟨X1, env, m, μ, B, I, o⟩ => ⟨X1, env, m, μ, B, I, out_b o fun b m1 H1 B1 μ1 g1 I1 o1 => ⟨b, rfl, o1 _ H1 B1 μ1 Gw.refl (.bl _) I1⟩⟩
theorem d_if {tst : Expr} (ht : PT X tst (ttF c t)) (h : PE X a (teF c fa)) (k : PE X b (teF c fb)) : PE X (.IfExp tst a b pos) (teF c (eIf t fa fb)) := pe_mono (pe_ifExp ht h k) fun σ H Q ⟨X1, env, m, μ, B, I, o⟩ => ⟨X1, env, m, μ, B, I, out_seq o fun b m1 v H1 B1 μ1 g1 hv I1 o1 => by
  subst hv
  cases v with
  | true => exact ⟨X1, env, m1, μ1, B1, I1, o1⟩
  | false => exact ⟨X1, env, m1, μ1, B1, I1, o1⟩⟩
end
end DY
/-! defs read as functions over data: statements, loops -/
namespace DY
open PySem PySem.Spec PyProof.Rows L2 Evl LX XV RX WS
theorem ne_xi {i k : Nat} (h : (i == k) = false) : i ≠ k := by
  intro e
  subst e
  rw [beq_self_eq_true] at h
  exact nomatch h
theorem all_ne {l : List Nat} {k : Nat} (h : (l.all fun v => !(v == k)) = true) : ∀ v ∈ l, v ≠ k := fun v hv => by
  have e := List.all_eq_true.mp h v hv
  exact ne_xi (by simpa using e)
/-- how a statement ends -/
inductive Fl where
  | no | nx (e : Sv) (m : Mem) | rt (d : D) (m : Mem) | bk (e : Sv) (m : Mem) | ct (e : Sv) (m : Mem) | ex (x : Exn) (e : Sv) (m : Mem)
abbrev FS := Sv → Mem → Fl
def Rs.toS {α : Type} (r : Rs α) (e : Sv) (k : α → Mem → Fl) : Fl := match r with
  | .no => .no
  | .ok a m => k a m
  | .ex x m => .ex x e m
def OutS (c : Cc) (X : Hp) (μ : List Addr) (B : Hp) (fl : Fl) (Dn : Ends) : Prop := match fl with
  | .no => False
  | .nx e m' => ∀ σ' H' B' μ', Gw X B μ B' μ' → En c.z c.xi X e m' μ' σ' B' H' → Dn.nx σ' H'
  | .rt d m' => ∀ v H' B' μ', Gw X B μ B' μ' → At c.z μ' B' v d → Me c.z X μ' B' H' m' → Dn.rt v H'
  | .bk e m' => ∀ σ' H' B' μ', Gw X B μ B' μ' → En c.z c.xi X e m' μ' σ' B' H' → Dn.bk σ' H'
  | .ct e m' => ∀ σ' H' B' μ', Gw X B μ B' μ' → En c.z c.xi X e m' μ' σ' B' H' → Dn.ct σ' H'
  | .ex x e m' => ∀ cls dd σ' H' B' μ', Gw X B μ B' μ' → XAt c.z μ' B' cls dd x → En c.z c.xi X e m' μ' σ' B' H' → c.W cls dd σ' H'
def tsF (c : Cc) (s : FS) : TS := fun Dn σ H => ∃ X env m μ B, En c.z c.xi X env m μ σ B H ∧ OutS c X μ B (s env m) Dn
section
variable {X : Cx} {c : Cc}
theorem OutS.grow {X1 B B' : Hp} {μ μ' : List Addr} {fl : Fl} {Dn : Ends} (h : OutS c X1 μ B fl Dn) (g : Gw X1 B μ B' μ') : OutS c X1 μ' B' fl Dn := by
  cases fl with
  | no => exact h
  | nx e m' => exact fun σ' H' B2 μ2 g2 I => h σ' H' B2 μ2 (g.trans g2) I
  | rt d m' => exact fun v H' B2 μ2 g2 a I => h v H' B2 μ2 (g.trans g2) a I
  | bk e m' => exact fun σ' H' B2 μ2 g2 I => h σ' H' B2 μ2 (g.trans g2) I
  | ct e m' => exact fun σ' H' B2 μ2 g2 I => h σ' H' B2 μ2 (g.trans g2) I
  | ex x e m' => exact fun cls dd σ' H' B2 μ2 g2 a I => h cls dd σ' H' B2 μ2 (g.trans g2) a I
theorem out_S {α β : Type} {A : List Addr → Hp → β → α → Prop} {X1 B : Hp} {env : Sv} {σ : L2.St} {μ : List Addr} {r : Rs α} {k : α → Mem → Fl} {Dn : Ends} {Q1 : β → Hp → Prop} (h : OutS c X1 μ B (r.toS env k) Dn)
    (q : ∀ d m' v H' B' μ', Gw X1 B μ B' μ' → A μ' B' v d → En c.z c.xi X1 env m' μ' σ B' H' → OutS c X1 μ' B' (k d m') Dn → Q1 v H') : Out c X1 env σ μ B A r Q1 := by
  cases r with
  | no => exact h
  | ok d m' => exact fun v H1 B1 μ1 g1 a I => q d m' v H1 B1 μ1 g1 a I (OutS.grow h g1)
  | ex x m' => exact fun cls dd H' B2 μ2 g2 a I => h cls dd σ H' B2 μ2 g2 a I
/-! ### one after another -/
def sSeq (s t : FS) : FS := fun e m => match s e m with
  | .nx e' m' => t e' m'
  | r => r
def sNx : FS := fun e m => .nx e m
theorem ts_seq {s t : FS} {Dn : Ends} {σ : L2.St} {H : Hp} : tsF c (sSeq s t) Dn σ H → tSeq (tsF c s) (tsF c t) Dn σ H := fun ⟨X1, env, m, μ, B, I, o⟩ => ⟨X1, env, m, μ, B, I, by
  unfold sSeq at o
  cases h : s env m with
  | nx e m' => rw [h] at o; exact fun σ' H' B' μ' g I' => ⟨X1, e, m', μ', B', I', OutS.grow o g⟩
  | no => rw [h] at o; exact o
  | rt d m' => rw [h] at o; exact o
  | bk e m' => rw [h] at o; exact o
  | ct e m' => rw [h] at o; exact o
  | ex x e m' => rw [h] at o; exact o⟩
variable {st : Stmt} {rest : List Stmt} {s t : FS}
theorem dss_nil : PSs X [] (tsF c sNx) := pss_mono pss_nil fun Dn σ H ⟨X1, env, m, μ, B, I, o⟩ => o σ H B μ Gw.refl I
theorem dss_cons (h : PS X st (tsF c s)) (k : PSs X rest (tsF c t)) : PSs X (st :: rest) (tsF c (sSeq s t)) := pss_mono (pss_cons h k) fun _ _ _ h => ts_seq h
theorem dss_one (h : PS X st (tsF c s)) : PSs X [st] (tsF c s) := pss_one h
def sBk : FS := fun e m => .bk e m
def sCt : FS := fun e m => .ct e m
variable {e : Expr} {f : FE} {pos : Pos}
def sRet (f : FE) : FS := fun env m => (f env m).toS env fun d m' => .rt d m'
theorem ds_ret (h : PE X e (teF c f)) : PS X (.Return (some e) pos) (tsF c (sRet f)) := ps_mono (ps_ret h) fun Dn σ H ⟨X1, env, m, μ, B, I, o⟩ => ⟨X1, env, m, μ, B, I, out_S o fun d m' v H' B' μ' g hv I' o' => o' v H' B' μ' Gw.refl hv I'.me⟩
def sRetN : FS := fun _ m => .rt .non m
def sDrop (f : FE) : FS := fun env m => (f env m).toS env fun _ m' => .nx env m'
theorem ts_drop {σ : L2.St} {H : Hp} {Dn : Ends} : tsF c (sDrop f) Dn σ H → tDrop (teF c f) Dn σ H := fun ⟨X1, env, m, μ, B, I, o⟩ => ⟨X1, env, m, μ, B, I, out_S o fun d m' v H' B' μ' g hv I' o' => o' σ H' B' μ' Gw.refl I'⟩
theorem ds_drop (h : PE X e (teF c f)) (hs : swapsWith e none pos.line X.env = pure false := by rfl) : PS X (.Expr e pos) (tsF c (sDrop f)) := ps_mono (ps_expr h hs) fun _ _ _ h => ts_drop h
def sIf (t : FT) (s u : FS) : FS := fun env m => (t env m).toS env fun b m' => if b = true then s env m' else u env m'
theorem ds_if {tst : Expr} {a b : List Stmt} {tf : FT} {u : FS} (ht : PT X tst (ttF c tf)) (h : PSs X a (tsF c s)) (k : PSs X b (tsF c u)) : PS X (.If tst a b pos) (tsF c (sIf tf s u)) := ps_mono (ps_if ht h k) fun Dn σ H ⟨X1, env, m, μ, B, I, o⟩ => ⟨X1, env, m, μ, B, I, out_S o fun b m' v H' B' μ' g hv I' o' => by
  subst hv
  cases v with
  | true => exact ⟨X1, env, m', μ', B', I', o'⟩
  | false => exact ⟨X1, env, m', μ', B', I', o'⟩⟩
/-! ### names -/
def sAsg (i : Nat) (f : FE) : FS := fun env m => (f env m).toS env fun d m' => .nx (env.set i (some d)) m'
theorem ts_asg {i : Nat} (hi : i ≠ c.xi.i) {te : TE} (h : ∀ σ H Q, teF c f σ H Q → te σ H Q) {σ : L2.St} {H : Hp} {Dn : Ends} : tsF c (sAsg i f) Dn σ H → tAsg te (gName i) Dn σ H := fun ⟨X1, env, m, μ, B, I, o⟩ => h _ _ _ ⟨X1, env, m, μ, B, I, out_S o fun d m' v H' B' μ' g hv I' o' => o' _ H' B' μ' Gw.refl (I'.asg hv hi)⟩
theorem ds_asg {i : Nat} {x : Str} {pos' : Pos} (hN : X.N.Nodup) (h : PE X e (teF c f)) (hi : X.N[i]? = some x := by rfl) (hx : Loc X.env.scope x := by first | exact .inl rfl | exact .inr rfl) (hxi : i ≠ c.xi.i := by exact ne_xi (by rfl)) (hs : swapsWith e (some (.Name x pos')) pos.line X.env = pure false := by rfl) (hf : X.fn x = true ∨ X.env.scope.names.lookup x = some .local := by first | exact .inl rfl | exact .inr rfl | assumption) :
    PS X (.Assign [.Name x pos'] e pos) (tsF c (sAsg i f)) := ps_mono (ps_set hN hi hx h hs hf) fun _ _ _ h => ts_asg hxi (fun _ _ _ h => h) h
/-- a target: what becomes of the slots; js: those that it stores -/
abbrev FG := D → Sv → Mem → Option Sv
def tgF (c : Cc) (js : List Nat) (g : FG) : TG := fun v σ H Q => ∃ X env m μ B d e', En c.z c.xi X env m μ σ B H ∧ At c.z μ B v d ∧ g d env m = some e' ∧ ∀ σ', (∀ j, j ∉ js → σ'[j]? = σ[j]?) → σ'.length = σ.length → En c.z c.xi X e' m μ σ' B H → Q σ' H
theorem pg_mono {tg : Expr} {t t' : TG} (h : PG X tg t) (i : ∀ v σ H Q, t' v σ H Q → t v σ H Q) : PG X tg t' := ⟨fun pins s σ H v u Q I r q => h.run pins s σ H v u Q I r (i v σ H Q q)⟩
def gN (i : Nat) : FG := fun d e _ => some (e.set i (some d))
theorem dg_name {i : Nat} {x : Str} (hN : X.N.Nodup) (hi : X.N[i]? = some x := by rfl) (hx : Loc X.env.scope x := by first | exact .inl rfl | exact .inr rfl) (hxi : i ≠ c.xi.i := by exact ne_xi (by rfl)) (hf : X.fn x = true ∨ X.env.scope.names.lookup x = some .local := by first | exact .inl rfl | exact .inr rfl | assumption) : PG X (.Name x pos) (tgF c [i] (gN i)) := pg_mono (pg_name hN hi hx hf) fun v σ H Q ⟨X1, env, m, μ, B, d, e', I, a, h, q⟩ => by
  cases h
  exact q _ (fun j hj => List.getElem?_set_ne (fun c => hj (List.mem_singleton.mpr c.symm))) List.length_set (I.asg a hxi)
/-- names out of a list or a tuple -/
def gSetAll : List Nat → List D → Sv → Option Sv
  | [], [], e => some e
  | i :: is, d :: ds, e => gSetAll is ds (e.set i (some d))
  | _, _, _ => none
def gNs (is : List Nat) : FG := fun d e m => match lk m d with
  | .tup ds => gSetAll is ds e
  | .lst ds => gSetAll is ds e
  | _ => none
def gNsT : List Nat → TGs
  | [] => gNil
  | i :: is => gCons (gName i) (gNsT is)
theorem gSetAll_len : ∀ {is : List Nat} {ds : List D} {e e' : Sv}, gSetAll is ds e = some e' → ds.length = is.length
  | [], [], _, _, _ => rfl
  | i :: is, d :: ds, e, e', h => congrArg (· + 1) (gSetAll_len (is := is) (ds := ds) h)
  | [], _ :: _, _, _, h => nomatch h
  | _ :: _, [], _, _, h => nomatch h
theorem gNsT_ok {z : Z} {xi : XI} {X1 B H : Hp} {μ : List Addr} {m : Mem} {Q : L2.St → Hp → Prop} : ∀ {is : List Nat} {xs : List V} {ds : List D} {env env' : Sv} {σ : L2.St}, (∀ i ∈ is, i ≠ xi.i) → En z xi X1 env m μ σ B H → Ats z μ B xs ds → gSetAll is ds env = some env' → (∀ σ', (∀ j, j ∉ is → σ'[j]? = σ[j]?) → σ'.length = σ.length → En z xi X1 env' m μ σ' B H → Q σ' H) → gNsT is xs σ H Q
  | [], [], [], env, env', σ, _, I, _, h, q => by cases h; exact ⟨rfl, q σ (fun _ _ => rfl) rfl I⟩
  | i :: is, x :: xs, d :: ds, env, env', σ, hi, I, .cons hx hs, h, q => ⟨x, xs, rfl, gNsT_ok (is := is) (fun j hj => hi j (List.mem_cons_of_mem _ hj)) (I.asg hx (hi i List.mem_cons_self)) hs h fun σ' k kl I' => q σ' (fun j hj => by
      rw [k j fun c => hj (List.mem_cons_of_mem _ c)]
      exact List.getElem?_set_ne (fun (e : i = j) => hj (by rw [← e]; exact List.mem_cons_self))) (kl.trans List.length_set) I'⟩
  | [], _ :: _, _ :: _, _, _, _, _, _, _, h, _ => nomatch h
  | _ :: _, [], [], _, _, _, _, _, _, h, _ => nomatch h
theorem dgs_nil : PGs X [] (gNsT []) := pgs_nil
theorem dgs_cons {i : Nat} {is : List Nat} {x : Str} {p : Pos} {es : List Expr} (hN : X.N.Nodup) (k : PGs X es (gNsT is)) (hi : X.N[i]? = some x := by rfl) (hx : Loc X.env.scope x := by first | exact .inl rfl | exact .inr rfl) (hf : X.fn x = true ∨ X.env.scope.names.lookup x = some .local := by first | exact .inl rfl | exact .inr rfl | assumption)
    (hs : (assignEach ((Expr.Name x p) :: es) X.env).map (·.2) = assign (Expr.Name x p) X.env :: (assignEach es X.env).map (·.2) := by rfl) : PGs X (Expr.Name x p :: es) (gNsT (i :: is)) := pgs_cons (pg_name hN hi hx hf) k hs
theorem dg_tup {is : List Nat} {es : List Expr} {k : Nat} {n : Nat} (hc : X.calm = true) (h : PGs X es (gNsT is)) (hz : zx X = c.z := by rfl) (hxi : ∀ i ∈ is, i ≠ c.xi.i := by exact all_ne (by rfl)) (hn : (assignEach es X.env).length = n := by rfl) (hl : n = is.length := by rfl) (hst : (assignEach es X.env).findIdx? (·.1) = none := by rfl) : PG X (.Tuple es k pos) (tgF c is (gNs is)) := by
  have hK : X.K = c.z.K := congrArg Z.K hz
  refine pg_mono (RX.pg_seq (K := c.z.K) hc h hn hst hK) fun v σ H Q ⟨X1, env, m, μ, B, d, e', I, a, h, q⟩ => ?_
  unfold gNs at h
  split at h
  · rename_i ds hd
    obtain ⟨p, xs, rfl, h1, _, h2, _⟩ := vw_tup I.me a hd
    exact .inl ⟨p, xs, rfl, h1, by rw [h2.len, gSetAll_len h, hl], gNsT_ok hxi I h2 h q⟩
  · rename_i ds hd
    obtain ⟨p, xs, rfl, h1, h2⟩ := vw_lst I.me a hd
    exact .inr ⟨p, xs, rfl, sq_of h1, by rw [h2.len, gSetAll_len h, hl], gNsT_ok hxi I h2 h q⟩
  · exact nomatch h
def sAsgG (g : FG) (f : FE) : FS := fun env m => (f env m).toS env fun d m' => match g d env m' with
  | some e' => .nx e' m'
  | none => .no
theorem ds_asgG {tg : Expr} {js : List Nat} {g : FG} (h : PE X e (teF c f)) (hg : PG X tg (tgF c js g)) (hs : swapsWithSole [tg] e pos.line X.env = pure false := by rfl) (hw : swappedStores [tg] e X.env = pure none := by rfl)
    (h1 : (assignEach [tg] X.env).map (·.2) = [assign tg X.env] := by rfl) : PS X (.Assign [tg] e pos) (tsF c (sAsgG g f)) := ps_mono (ps_asg h hg hs hw h1) fun Dn σ H ⟨X1, env, m, μ, B, I, o⟩ => ⟨X1, env, m, μ, B, I, out_S o fun d m' v H' B' μ' g1 hv I' o' => by
  split at o'
  · rename_i e' he
    exact ⟨X1, env, m', μ', B', d, e', I', hv, he, fun σ' _ _ I2 => o' σ' H' B' μ' Gw.refl I2⟩
  · exact o'.elim⟩
/-! ### while -/
def whl (t : FT) (s : FS) : Nat → Sv → Mem → Fl
  | 0, _, _ => .no
  | n + 1, e, m => (t e m).toS e fun b m1 => if b = true then match s e m1 with
      | .nx e' m' => whl t s n e' m'
      | .ct e' m' => whl t s n e' m'
      | .bk e' m' => .nx e' m'
      | r => r
    else .nx e m1
def sWhile (n : Nat) (t : FT) (s : FS) : FS := fun e m => whl t s n e m
theorem ds_while (n : Nat) {tst : Expr} {body : List Stmt} {t : FT} (hp : PassesOwn (model X.prog X.w) X.A X.env X.xe) (ht : PT X tst (ttF c t)) (hb : PSs X body (tsF c s)) : PS X (.While tst body [] pos) (tsF c (sWhile n t s)) := ps_mono (ps_while hp ht hb) fun Dn σ H ⟨X1, env, m, μ, B, I, o⟩ => by
  refine ⟨fun k σ' H' => ∃ e m' μ' B', Gw X1 B μ B' μ' ∧ En c.z c.xi X1 e m' μ' σ' B' H' ∧ OutS c X1 μ' B' (whl t s k e m') Dn, ⟨n, env, m, μ, B, Gw.refl, I, o⟩, ?_⟩
  rintro k σ' H' ⟨e, m', μ', B', g, I', o'⟩
  cases k with
  | zero => exact o'.elim
  | succ k =>
    unfold whl at o'
    refine ⟨X1, e, m', μ', B', I', out_S o' fun b m2 v H2 B2 μ2 g2 hv I2 o2 => ?_⟩
    subst hv
    cases v with
    | false => exact o2 σ' H2 B2 μ2 Gw.refl I2
    | true =>
      rw [if_pos rfl] at o2 ⊢
      refine ⟨fun σ3 H3 => ∃ e m' μ' B', Gw X1 B μ B' μ' ∧ En c.z c.xi X1 e m' μ' σ3 B' H3 ∧ OutS c X1 μ' B' (whl t s k e m') Dn, fun σ3 H3 h => ⟨k, Nat.lt_succ_self _, h⟩, ⟨X1, e, m2, μ2, B2, I2, ?_⟩⟩
      have nxt : ∀ {e4 m4}, OutS c X1 μ2 B2 (whl t s k e4 m4) Dn → ∀ σ4 H4 B4 μ4, Gw X1 B2 μ2 B4 μ4 → En c.z c.xi X1 e4 m4 μ4 σ4 B4 H4 → ∃ e m' μ' B', Gw X1 B μ B' μ' ∧ En c.z c.xi X1 e m' μ' σ4 B' H4 ∧ OutS c X1 μ' B' (whl t s k e m') Dn := fun o4 σ4 H4 B4 μ4 g4 I4 => ⟨_, _, μ4, B4, (g.trans g2).trans g4, I4, OutS.grow o4 g4⟩
      cases hs : s e m2 with
      | no => rw [hs] at o2; exact o2
      | nx e4 m4 => rw [hs] at o2; exact nxt o2
      | ct e4 m4 => rw [hs] at o2; exact nxt o2
      | bk e4 m4 => rw [hs] at o2; exact o2
      | rt d m4 => rw [hs] at o2; exact o2
      | ex x e4 m4 => rw [hs] at o2; exact o2
/-! ### for -/
/-- what is walked: items, or a list that may change -/
inductive Src where
  | fix (ds : List D) | live (n : Nat)
def Src.at_ (m : Mem) (i : Nat) : Src → Option (Option D)
  | .fix ds => some ds[i]?
  | .live n => match m[n]? with
    | some (.lst ds) => some ds[i]?
    | _ => none
/-- what comes is reached by steps of one -/
def Src.seen (i : Nat) : Src → Prop
  | .fix ds => i ≤ ds.length
  | .live _ => True
theorem Src.seen0 (src : Src) : src.seen 0 := by cases src <;> first | exact Nat.zero_le _ | trivial
theorem Src.seen1 {src : Src} {m : Mem} {i : Nat} {d : D} (h : src.at_ m i = some (some d)) : src.seen (i + 1) := by
  cases src with
  | live _ => trivial
  | fix ds => exact (List.getElem?_eq_some_iff.mp (Option.some.inj h)).1
def SrcOk (z : Z) (X : Hp) (μ : List Addr) (B : Hp) (J : It) (src : Src) : Prop := ∀ i m' μ' B' H', src.seen i → Gw X B μ B' μ' → Me z X μ' B' H' m' → match src.at_ m' i with
  | none => True
  | some none => J.stop i H'
  | some (some d) => J.go i H' ∧ ∀ x H2, J.yld i H' x H2 → Ex H' H2 ∧ ∃ B2, Gr H' B' B2 ∧ Ex B2 H2 ∧ At z μ' B2 x d
abbrev FI := Sv → Mem → Rs Src
def tiF (c : Cc) (f : FI) : TI := fun σ H T => ∃ X env m μ B, En c.z c.xi X env m μ σ B H ∧ Out c X env σ μ B (fun μ' B' (J : It) src => SrcOk c.z X μ' B' J src) (f env m) T
def loopS (g : FG) (body : FS) (src : Src) : Nat → Nat → Sv → Mem → Fl
  | 0, _, _, _ => .no
  | n + 1, i, e, m => match src.at_ m i with
    | none => .no
    | some none => .nx e m
    | some (some d) => match g d e m with
      | none => .no
      | some e1 => match body e1 m with
        | .nx e2 m2 => loopS g body src n (i + 1) e2 m2
        | .ct e2 m2 => loopS g body src n (i + 1) e2 m2
        | .bk e2 m2 => .nx e2 m2
        | r => r
def turns : Nat := 1000000
def sFor (f : FI) (g : FG) (body : FS) : FS := fun env m => (f env m).toS env fun src m1 => loopS g body src turns 0 env m1
theorem ts_for {wi : TI} {tg : TG} {tb : TS} {fi : FI} {g : FG} {js : List Nat} {body : FS} (hi : ∀ σ H T, tiF c fi σ H T → wi σ H T) (hg : ∀ v σ H Q, tgF c js g v σ H Q → tg v σ H Q) (hb : ∀ D σ H, tsF c body D σ H → tb D σ H) {Dn : Ends} {σ : L2.St} {H : Hp} : tsF c (sFor fi g body) Dn σ H → tFor wi tg tb Dn σ H := fun ⟨X1, env, m, μ, B, I, o⟩ => by
  refine hi _ _ _ ⟨X1, env, m, μ, B, I, out_S o fun src m1 J H1 B1 μ1 g1 sok I1 o1 => ?_⟩
  refine ⟨fun i k σ' H' => src.seen i ∧ ∃ e m' μ' B', Gw X1 B1 μ1 B' μ' ∧ En c.z c.xi X1 e m' μ' σ' B' H' ∧ OutS c X1 μ' B' (loopS g body src k i e m') Dn, ⟨turns, src.seen0, env, m1, μ1, B1, Gw.refl, I1, o1⟩, ?_⟩
  rintro i k σ' H' ⟨hsn, e, m', μ', B', g2, I', o'⟩
  cases k with
  | zero => exact o'.elim
  | succ k =>
    unfold loopS at o'
    have hs := sok i m' μ' B' H' hsn g2 I'.me
    cases ha : src.at_ m' i with
    | none => rw [ha] at o'; exact o'.elim
    | some od =>
      cases od with
      | none =>
        rw [ha] at o' hs
        exact .inl ⟨hs, o' σ' H' B' μ' Gw.refl I'⟩
      | some d =>
        rw [ha] at o' hs
        refine .inr ⟨hs.1, fun σ3 H3 => ∃ e m' μ' B', Gw X1 B1 μ1 B' μ' ∧ En c.z c.xi X1 e m' μ' σ3 B' H3 ∧ OutS c X1 μ' B' (loopS g body src k (i + 1) e m') Dn, fun σ3 H3 h => ⟨k, Nat.lt_succ_self _, Src.seen1 ha, h⟩, fun x H2 y => ?_⟩
        obtain ⟨e2, B2, gr, b2, ax⟩ := hs.2 x H2 y
        have I2 := I'.up e2 gr b2
        have gw2 := I'.me.gw gr
        cases hgd : g d e m' with
        | none => simp only [hgd] at o'; exact o'.elim
        | some e1 =>
          simp only [hgd] at o'
          refine hg _ _ _ _ ⟨X1, e, m', μ', B2, d, e1, I2, ax, hgd, fun σ3 _ _ I3 => hb _ _ _ ⟨X1, e1, m', μ', B2, I3, ?_⟩⟩
          have o3 := OutS.grow o' gw2
          have nxt : ∀ {e4 m4}, OutS c X1 μ' B2 (loopS g body src k (i + 1) e4 m4) Dn → ∀ σ4 H4 B4 μ4, Gw X1 B2 μ' B4 μ4 → En c.z c.xi X1 e4 m4 μ4 σ4 B4 H4 → ∃ e m' μ' B', Gw X1 B1 μ1 B' μ' ∧ En c.z c.xi X1 e m' μ' σ4 B' H4 ∧ OutS c X1 μ' B' (loopS g body src k (i + 1) e m') Dn := fun o4 σ4 H4 B4 μ4 g4 I4 => ⟨_, _, μ4, B4, (g2.trans gw2).trans g4, I4, OutS.grow o4 g4⟩
          cases hbd : body e1 m' with
          | no => rw [hbd] at o3; exact o3
          | nx e4 m4 => rw [hbd] at o3; exact nxt o3
          | ct e4 m4 => rw [hbd] at o3; exact nxt o3
          | bk e4 m4 => rw [hbd] at o3; exact o3
          | rt d m4 => rw [hbd] at o3; exact o3
          | ex x e4 m4 => rw [hbd] at o3; exact o3
theorem ds_for {tg iter : Expr} {body : List Stmt} {fi : FI} {g : FG} {js : List Nat} (hp : PassesOwn (model X.prog X.w) X.A X.env X.xe) (hc : X.calm = true) (hi : PI X tg iter (tiF c fi)) (hg : PG X tg (tgF c js g)) (hb : PSs X body (tsF c s)) (hs : ∀ x, foldedSetIterable iter X.env x = pure x := by intro _; rfl) :
    PS X (.For tg iter body [] pos) (tsF c (sFor fi g s)) := ps_mono (ps_for hp hc hi hg hb hs) fun _ _ _ h => ts_for (fun _ _ _ h => h) (fun _ _ _ _ h => h) (fun _ _ _ h => h) h
end
end DY
/-! zip of two sources of any kinds: its turns, by what each source draws -/
namespace ZS
open PySem
/-- the zip's own objects stand apart from each other and from what the sources use -/
structure Ap (z TI TO i1 i2 : Addr) (f1 f2 : List Addr) : Prop where
  TIz : TI ≠ z
  TOz : TO ≠ z
  i1z : i1 ≠ z
  i2z : i2 ≠ z
  TITO : TI ≠ TO
  TIi1 : TI ≠ i1
  TIi2 : TI ≠ i2
  TOi1 : TO ≠ i1
  TOi2 : TO ≠ i2
  i12 : i1 ≠ i2
  zf1 : z ∉ f1
  zf2 : z ∉ f2
  of1 : TO ∉ f1
  of2 : TO ∉ f2
  if1 : i2 ∉ f1
  if2 : i1 ∉ f2
section
variable {prog : Program} {w : World} {A : Around} {E : Value → Shared → Prop} {s : Shared}
theorem fr {it c : Addr} {f : List Addr} {n i : Nat} {Pr : Nat → Value → Prop} {St : Nat → Heap → Prop} (D : Draws prog w A it f n Pr St) {h h' : Heap} (k : Heap.SameBut c h h') (hc : c ∉ f) (st : St i h) : St i h' :=
  D.frame i h h' st fun b hb o e => k.extBut b o (fun q => hc (q ▸ hb)) e
theorem item0 {z TI TO i1 i2 : Addr} {f1 f2 : List Addr} {n1 n2 k1 k2 : Nat} {P1 P2 : Nat → Value → Prop} {S1 S2 : Nat → Heap → Prop} {a b : Value} {Q : Value → Shared → Prop}
    (p : Ap z TI TO i1 i2 f1 f2) (D1 : Draws prog w A i1 f1 n1 P1 S1) (D2 : Draws prog w A i2 f2 n2 P2 S2)
    (hz : IsZip s.heap z TI TO .none) (hTI : IsPair s.heap TI (.ref i1) (.ref i2)) (hTO : IsPair s.heap TO a b) (h1 : S1 k1 s.heap) (h2 : S2 k2 s.heap) (l1 : k1 < n1) (l2 : k2 < n2)
    (hQ : ∀ x y h' tk, P1 k1 x → P2 k2 y → IsZip h' z TI TO (rawInt s.heap.objs.size) → IsPair h' TO x y → S1 (k1 + 1) h' → S2 (k2 + 1) h' → IsPair h' s.heap.objs.size x y → h'.objs.size = s.heap.objs.size + 1 →
      (∀ c o, c ≠ z → c ≠ TO → c ≠ i1 → c ≠ i2 → s.heap.get? c = some o → h'.get? c = some o) → Q (.ref s.heap.objs.size) { s with heap := h', toks := tk }) :
    wpAny (model prog w) A (Builtin.«zip.__next__» ⟨[.ref z], []⟩) (fun fin s' => ∃ v, fin = .done (.ret v) ∧ Q v s') E s := by
  show wpAny _ _ (field (.ref z) 2 >>= _) _ _ _
  refine wpAny_bind (wpAny_field hz rfl (x := .bool false) rfl ?_)
  show wpAny _ _ (field (.ref z) 3 >>= _) _ _ _
  refine wpAny_bind (wpAny_field hz rfl (x := .ref TI) rfl ?_)
  refine wpAny_bind (wpAny_seqItems hTI rfl ?_)
  show wpAny _ _ (Builtin.SmallTypes.ownedTupleIsFree (.ref z) >>= _) _ _ _
  refine wpAny_bind ?_
  unfold Builtin.SmallTypes.ownedTupleIsFree
  refine wpAny_bind (wpAny_field hz rfl (x := .none) rfl (wpAny_pure ?_))
  simp only [if_true]
  refine wpAny_bind (wpAny_rule ?_)
  refine wpAny_bind (wpAny_field hz rfl (x := .ref TO) rfl ?_)
  refine wpAny_bind (wpAny_setField_rec hz (by simp) fun ha za ka => ?_)
  replace za : IsZip ha z TI TO .ellipsis := za
  refine wpAny_bind ?_
  simp only [List.zipIdx_cons, List.zipIdx_nil, List.forIn_cons, List.forIn_nil]
  refine wpAny_bind (wpAny_bind (wpAny_onRaise ?_))
  show wpAny _ _ (Builtin.SmallTypes.nextOf (.ref i1) >>= _) _ _ _
  refine wpAny_bind (D1.item k1 { s with heap := ha } _ _ l1 (fr D1 ka p.zf1 h1) fun x hb tb px sb kb => wpAny_pure ?_)
  have ob : IsPair hb TO a b := kb.extBut _ _ p.TOi1 (ka.extBut _ _ p.TOz hTO)
  refine wpAny_bind (wpAny_seqItems ob rfl ?_)
  refine wpAny_bind (wpAny_updateSeq_pair ob fun hc oc kc => ?_)
  replace oc : IsPair hc TO x b := oc
  refine wpAny_bind (wpAny_letGo (wpAny_pure ?_))
  refine wpAny_bind (wpAny_bind (wpAny_onRaise ?_))
  show wpAny _ _ (Builtin.SmallTypes.nextOf (.ref i2) >>= _) _ _ _
  refine wpAny_bind (D2.item k2 { s with heap := hc, toks := tb } _ _ l2 (fr D2 kc p.of2 (fr D2 kb p.if2 (fr D2 ka p.zf2 h2))) fun y hd td py sd kd => wpAny_pure ?_)
  have od : IsPair hd TO x b := kd.extBut _ _ p.TOi2 oc
  refine wpAny_bind (wpAny_seqItems od rfl ?_)
  refine wpAny_bind (wpAny_updateSeq_pair od fun he oe ke => ?_)
  replace oe : IsPair he TO x y := oe
  refine wpAny_bind (wpAny_letGo (wpAny_pure (wpAny_pure ?_)))
  refine wpAny_bind (wpAny_seqItems oe rfl ?_)
  refine wpAny_bind (wpAny_newTuple ?_)
  have n : he.objs.size = s.heap.objs.size := by rw [ke.1, kd.1, kc.1, kb.1, ka.1]
  have ze : IsZip he z TI TO .ellipsis := ke.extBut _ _ p.TOz.symm (kd.extBut _ _ p.i2z.symm (kc.extBut _ _ p.TOz.symm (kb.extBut _ _ p.i1z.symm za)))
  have all : ∀ c o, c ≠ z → c ≠ TO → c ≠ i1 → c ≠ i2 → s.heap.get? c = some o → he.get? c = some o := fun c o c1 c2 c3 c4 e =>
    ke.extBut _ _ c2 (kd.extBut _ _ c4 (kc.extBut _ _ c2 (kb.extBut _ _ c3 (ka.extBut _ _ c1 e))))
  have s1 : S1 (k1 + 1) he := fr D1 ke p.of1 (fr D1 kd p.if1 (fr D1 kc p.of1 sb))
  have s2 : S2 (k2 + 1) he := fr D2 ke p.of2 sd
  have zl : z < he.objs.size := Heap.lt_size ze
  show wpAny _ _ (Builtin.SmallTypes.ownedTupleHandOut (.ref z) (.ref he.objs.size) >>= _) _ _ _
  refine wpAny_bind ?_
  unfold Builtin.SmallTypes.ownedTupleHandOut
  have zf : IsZip (he.push { cls := .type "tuple", data := .seq #[x, y] }) z TI TO .ellipsis := Heap.get?_push_of_some _ ze
  refine wpAny_bind (wpAny_setField_rec zf (by simp) fun hg zg kg => ?_)
  replace zg : IsZip hg z TI TO (rawInt he.objs.size) := zg
  refine wpAny_setField_rec zg (by simp) fun hh zh kh => ?_
  replace zh : IsZip hh z TI TO (rawInt he.objs.size) := zh
  have up : ∀ c o, c ≠ z → he.get? c = some o → hh.get? c = some o := fun c o c1 e => kh.extBut _ _ c1 (kg.extBut _ _ c1 (Heap.get?_push_of_some _ e))
  have new : IsPair hh he.objs.size x y := kh.extBut _ _ (Nat.ne_of_gt zl) (kg.extBut _ _ (Nat.ne_of_gt zl) (Heap.get?_push_size _ rfl))
  have m : hh.objs.size = he.objs.size + 1 := by rw [kh.1, kg.1, Heap.size_push]
  have t1 : S1 (k1 + 1) hh := D1.frame _ _ _ s1 fun b hb o e => up b o (fun q => p.zf1 (q ▸ hb)) e
  have t2 : S2 (k2 + 1) hh := D2.frame _ _ _ s2 fun b hb o e => up b o (fun q => p.zf2 (q ▸ hb)) e
  rw [n] at zh new m
  refine wpAny_pure ⟨_, rfl, ?_⟩
  show Q (.ref he.objs.size) _
  rw [n]
  exact hQ x y hh _ px py zh (up _ _ p.TOz oe) t1 t2 new m fun c o c1 c2 c3 c4 e => up c o c1 (all c o c1 c2 c3 c4 e)
theorem end0 {z TI TO i1 i2 : Addr} {f1 f2 : List Addr} {n1 n2 k1 k2 : Nat} {P1 P2 : Nat → Value → Prop} {S1 S2 : Nat → Heap → Prop} {a b : Value} {Q : Fin → Shared → Prop}
    (p : Ap z TI TO i1 i2 f1 f2) (D1 : Draws prog w A i1 f1 n1 P1 S1) (D2 : Draws prog w A i2 f2 n2 P2 S2)
    (hz : IsZip s.heap z TI TO .none) (hTI : IsPair s.heap TI (.ref i1) (.ref i2)) (hTO : IsPair s.heap TO a b) (h1 : S1 k1 s.heap) (h2 : S2 k2 s.heap) (l : k1 = n1 ∨ (k1 < n1 ∧ k2 = n2))
    (hE : ∀ h' e tk, (∀ c o, c ≠ z → c ≠ TO → c ≠ i1 → c ≠ i2 → s.heap.get? c = some o → h'.get? c = some o) → (∃ o, h'.get? e = some o ∧ o.cls = .type "StopIteration") → E (.ref e) { s with heap := h', toks := tk }) :
    wpAny (model prog w) A (Builtin.«zip.__next__» ⟨[.ref z], []⟩) Q E s := by
  show wpAny _ _ (field (.ref z) 2 >>= _) _ _ _
  refine wpAny_bind (wpAny_field hz rfl (x := .bool false) rfl ?_)
  show wpAny _ _ (field (.ref z) 3 >>= _) _ _ _
  refine wpAny_bind (wpAny_field hz rfl (x := .ref TI) rfl ?_)
  refine wpAny_bind (wpAny_seqItems hTI rfl ?_)
  show wpAny _ _ (Builtin.SmallTypes.ownedTupleIsFree (.ref z) >>= _) _ _ _
  refine wpAny_bind ?_
  unfold Builtin.SmallTypes.ownedTupleIsFree
  refine wpAny_bind (wpAny_field hz rfl (x := .none) rfl (wpAny_pure ?_))
  simp only [if_true]
  refine wpAny_bind (wpAny_rule ?_)
  refine wpAny_bind (wpAny_field hz rfl (x := .ref TO) rfl ?_)
  refine wpAny_bind (wpAny_setField_rec hz (by simp) fun ha za ka => ?_)
  replace za : IsZip ha z TI TO .ellipsis := za
  refine wpAny_bind ?_
  simp only [List.zipIdx_cons, List.zipIdx_nil, List.forIn_cons, List.forIn_nil]
  refine wpAny_bind (wpAny_bind (wpAny_onRaise ?_))
  show wpAny _ _ (Builtin.SmallTypes.nextOf (.ref i1) >>= _) _ _ _
  rcases l with l | ⟨l1, l2⟩
  · subst l
    refine wpAny_bind (D1.done { s with heap := ha } _ _ (fr D1 ka p.zf1 h1) fun hb e kb he => ?_)
    obtain ⟨oe, ge, ce⟩ := he
    have zb : IsZip hb z TI TO .ellipsis := kb _ _ p.i1z.symm za
    have ez : e ≠ z := fun q => by subst q; rw [zb] at ge; cases ge; simp at ce
    exact wpAny_setField_rec zb (by simp) fun hc _ kc => hE hc e _ (fun c o c1 _ c3 _ g => kc.extBut _ _ c1 (kb _ _ c3 (ka.extBut _ _ c1 g))) ⟨oe, kc.extBut _ _ ez ge, ce⟩
  · subst l2
    refine wpAny_bind (D1.item k1 { s with heap := ha } _ _ l1 (fr D1 ka p.zf1 h1) fun x hb tb px sb kb => wpAny_pure ?_)
    have ob : IsPair hb TO a b := kb.extBut _ _ p.TOi1 (ka.extBut _ _ p.TOz hTO)
    refine wpAny_bind (wpAny_seqItems ob rfl ?_)
    refine wpAny_bind (wpAny_updateSeq_pair ob fun hc oc kc => ?_)
    refine wpAny_bind (wpAny_letGo (wpAny_pure ?_))
    refine wpAny_bind (wpAny_bind (wpAny_onRaise ?_))
    show wpAny _ _ (Builtin.SmallTypes.nextOf (.ref i2) >>= _) _ _ _
    refine wpAny_bind (D2.done { s with heap := hc, toks := tb } _ _ (fr D2 kc p.of2 (fr D2 kb p.if2 (fr D2 ka p.zf2 h2))) fun hd e kd he => ?_)
    obtain ⟨oe, ge, ce⟩ := he
    have zd : IsZip hd z TI TO .ellipsis := kd _ _ p.i2z.symm (kc.extBut _ _ p.TOz.symm (kb.extBut _ _ p.i1z.symm za))
    have ez : e ≠ z := fun q => by subst q; rw [zd] at ge; cases ge; simp at ce
    exact wpAny_setField_rec zd (by simp) fun hf _ kf => hE hf e _ (fun c o c1 c2 c3 c4 g => kf.extBut _ _ c1 (kd _ _ c4 (kc.extBut _ _ c2 (kb.extBut _ _ c3 (ka.extBut _ _ c1 g))))) ⟨oe, kf.extBut _ _ ez ge, ce⟩
theorem next {z TI TO i1 i2 : Addr} {f1 f2 : List Addr} {n1 n2 k1 k2 : Nat} {P1 P2 : Nat → Value → Prop} {S1 S2 : Nat → Heap → Prop} {a b : Value} {Q : Option Value → Shared → Prop}
    (p : Ap z TI TO i1 i2 f1 f2) (D1 : ∀ A : Around, A.handled = none → Draws prog w A i1 f1 n1 P1 S1) (D2 : ∀ A : Around, A.handled = none → Draws prog w A i2 f2 n2 P2 S2) (hh : A.handled = none)
    (hz : IsZip s.heap z TI TO .none) (hTI : IsPair s.heap TI (.ref i1) (.ref i2)) (hTO : IsPair s.heap TO a b) (h1 : S1 k1 s.heap) (h2 : S2 k2 s.heap) (l1 : k1 < n1) (l2 : k2 < n2)
    (hQ : ∀ x y h' tk, P1 k1 x → P2 k2 y → IsZip h' z TI TO (rawInt s.heap.objs.size) → IsPair h' TO x y → S1 (k1 + 1) h' → S2 (k2 + 1) h' → IsPair h' s.heap.objs.size x y → h'.objs.size = s.heap.objs.size + 1 →
      (∀ c o, c ≠ z → c ≠ TO → c ≠ i1 → c ≠ i2 → s.heap.get? c = some o → h'.get? c = some o) → Q (some (.ref s.heap.objs.size)) { s with heap := h', toks := tk }) :
    wpAny (model prog w) A (pyNext (.ref z)) Q E s := by
  have hT : s.TypeIs (.ref z) "zip" := ⟨_, hz, rfl⟩
  unfold pyNext
  exact wpAny_bind (wpAny_attempt (wpAny_callSpecial?_slot (name := Str.ofString "__next__") hT F.slot_zip_next
    (wpAny_call_entry F.slot_zip_next hT F.entry_zip_next
      (item0 p (D1 _ hh) (D2 _ hh) hz hTI hTO h1 h2 l1 l2 fun x y h' tk a1 a2 a3 a4 a5 a6 a7 a8 a9 => wpAny_pure (hQ x y h' tk a1 a2 a3 a4 a5 a6 a7 a8 a9)) (F.args_zip_next_1 _))))
theorem stop {z TI TO i1 i2 : Addr} {f1 f2 : List Addr} {n1 n2 k1 k2 : Nat} {P1 P2 : Nat → Value → Prop} {S1 S2 : Nat → Heap → Prop} {a b : Value} {Q : Option Value → Shared → Prop}
    (p : Ap z TI TO i1 i2 f1 f2) (D1 : ∀ A : Around, A.handled = none → Draws prog w A i1 f1 n1 P1 S1) (D2 : ∀ A : Around, A.handled = none → Draws prog w A i2 f2 n2 P2 S2) (hh : A.handled = none)
    (hz : IsZip s.heap z TI TO .none) (hTI : IsPair s.heap TI (.ref i1) (.ref i2)) (hTO : IsPair s.heap TO a b) (h1 : S1 k1 s.heap) (h2 : S2 k2 s.heap) (l : k1 = n1 ∨ (k1 < n1 ∧ k2 = n2))
    (hQ : ∀ h' tk, (∀ c o, c ≠ z → c ≠ TO → c ≠ i1 → c ≠ i2 → s.heap.get? c = some o → h'.get? c = some o) → Q none { s with heap := h', toks := tk }) :
    wpAny (model prog w) A (pyNext (.ref z)) Q E s := by
  have hT : s.TypeIs (.ref z) "zip" := ⟨_, hz, rfl⟩
  unfold pyNext
  refine wpAny_bind (wpAny_attempt (wpAny_callSpecial?_slot (name := Str.ofString "__next__") hT F.slot_zip_next
    (wpAny_call_entry F.slot_zip_next hT F.entry_zip_next (end0 p (D1 _ hh) (D2 _ hh) hz hTI hTO h1 h2 l fun h' e tk hk he => ?_) (F.args_zip_next_1 _))))
  obtain ⟨o, ho, hc⟩ := he
  refine wpAny_bind (wpAny_isInstance (T := "StopIteration") (b := true) ⟨o, ho, hc⟩ isSubtype_stop ?_)
  exact wpAny_pure (hQ _ _ hk)
end
end ZS
/-! zip of two sources of any kinds: its making; what a tuple draws -/
namespace ZS
open PySem
theorem draws_tup {prog : Program} {w : World} {A : Around} (hh : A.handled = none) (it l : Addr) (hl : l ≠ it) (items : Array Value) :
    Draws prog w A it [it, l] items.size (fun i v => items[i]? = some v) fun i h => h.IsTupleIter it l i ∧ h.IsTuple l items where
  live := fun i h st => by obtain ⟨⟨o, e, _⟩, _⟩ := st; exact ⟨o, e⟩
  frame := fun i h h' st k => ⟨st.1.at fun o e => k it (by simp) o e, by obtain ⟨o, e, r⟩ := st.2; exact ⟨o, k l (by simp) o e, r⟩⟩
  item := fun i s Q E hi st q => by
    obtain ⟨x, hx⟩ : ∃ x, items[i]? = some x := ⟨items[i], Array.getElem?_eq_getElem hi⟩
    refine RZ.nextOf_tuple_item st.1 st.2 hx fun h' a k => q x h' s.toks hx ⟨a, ?_⟩ k
    obtain ⟨o, e, r⟩ := st.2
    exact ⟨o, k.extBut _ _ hl e, r⟩
  done := fun s Q E st q => RZ.nextOf_tuple_end hh st.1 st.2 (Array.getElem?_eq_none (Nat.le_refl _)) fun h' e a b => q h' e a b
abbrev h2 (h : Heap) (o1 o2 : Obj) : Heap := (h.push o1).push o2
abbrev h3 (h : Heap) (o1 o2 : Obj) : Heap := (h2 h o1 o2).push { cls := .type "tuple", data := .seq #[.ref h.objs.size, .ref (h.push o1).objs.size] }
abbrev h4 (h : Heap) (o1 o2 : Obj) : Heap := (h3 h o1 o2).push { cls := .type "tuple", data := .seq #[.none, .none] }
abbrev h5 (h : Heap) (o1 o2 : Obj) : Heap := (h4 h o1 o2).push { cls := .type "zip", data := .fields #[.none, .bool false, .bool false, .ref (h2 h o1 o2).objs.size, .ref (h3 h o1 o2).objs.size] }
/-- what iter(v) makes -/
def Mk (v : Value) (o : Obj) (U : Heap → Prop) : Prop := ∀ {prog : Program} {w : World} {A : Around} {E : Value → Shared → Prop} {s : Shared} {Q : Value → Shared → Prop}, U s.heap →
  Q (.ref s.heap.objs.size) { s with heap := s.heap.push o } → wpAny (model prog w) A (pyIter v) Q E s
theorem meets_new (v1 v2 : Value) (o1 o2 : Obj) (U1 U2 : Heap → Prop) (hU : ∀ h o, U2 h → U2 (h.push o)) (m1 : Mk v1 o1 U1) (m2 : Mk v2 o2 U2) :
    Meets (Builtin.«zip.__new__» ⟨[.type "zip", v1, v2], []⟩) (fun _ R s => U1 s.heap ∧ U2 s.heap ∧
      R (.ok (.ret (.ref (h4 s.heap o1 o2).objs.size))) { s with heap := h5 s.heap o1 o2 }) :=
  .of_wp fun prog w A R s h => by
    obtain ⟨hp, g, d, tk, os⟩ := s; obtain ⟨u1, u2, h⟩ := h
    have hsub := sub_zip
    have i1 : ∀ {A : Around} {E : Value → Shared → Prop} {Q : Value → Shared → Prop}, Q (.ref hp.objs.size) ⟨hp.push o1, g, d, tk, os⟩ → wpAny (model prog w) A (pyIter v1) Q E ⟨hp, g, d, tk, os⟩ := fun q => m1 (s := ⟨hp, g, d, tk, os⟩) u1 q
    have i2 : ∀ {A : Around} {E : Value → Shared → Prop} {Q : Value → Shared → Prop}, Q (.ref (hp.push o1).objs.size) ⟨(hp.push o1).push o2, g, d, tk, os⟩ → wpAny (model prog w) A (pyIter v2) Q E ⟨hp.push o1, g, d, tk, os⟩ := fun q => m2 (s := ⟨hp.push o1, g, d, tk, os⟩) (hU _ _ u2) q
    wp_walk using i1, i2
    exact ⟨_, rfl, h⟩
section
variable {prog : Program} {w : World} {A : Around} {E : Value → Shared → Prop} {s : Shared}
theorem call_new {v1 v2 : Value} {o1 o2 : Obj} {U1 U2 : Heap → Prop} (hU : ∀ h o, U2 h → U2 (h.push o)) (m1 : Mk v1 o1 U1) (m2 : Mk v2 o2 U2) (f1 : Obj.isFreed o1 = false) (f2 : Obj.isFreed o2 = false) {Q : Value → Shared → Prop} (u1 : U1 s.heap) (u2 : U2 s.heap)
    (h : ∀ h', IsZip h' (s.heap.objs.size + 4) (s.heap.objs.size + 2) (s.heap.objs.size + 3) .none → IsPair h' (s.heap.objs.size + 2) (.ref s.heap.objs.size) (.ref (s.heap.objs.size + 1)) →
      IsPair h' (s.heap.objs.size + 3) .none .none → h'.get? s.heap.objs.size = some o1 → h'.get? (s.heap.objs.size + 1) = some o2 →
      (∀ c o, s.heap.get? c = some o → h'.get? c = some o) → Q (.ref (s.heap.objs.size + 4)) { s with heap := h' }) :
    wpAny (model prog w) A (call (.type "zip") [v1, v2]) Q E s := by
  refine callType_new F.called_zip (by decide) (F.typeCall_zip_2 _ _) (F.newCall_zip_2 _ _) (fun obj => F.args_object_init_3 obj _ _) F.entry_zip_new
    (meets_new v1 v2 o1 o2 U1 U2 hU m1 m2) ⟨u1, u2, ?_⟩
  have z1 : (s.heap.push o1).objs.size = s.heap.objs.size + 1 := Heap.size_push ..
  have z2 : (h2 s.heap o1 o2).objs.size = s.heap.objs.size + 2 := by rw [Heap.size_push, z1]
  have z3 : (h3 s.heap o1 o2).objs.size = s.heap.objs.size + 3 := by rw [Heap.size_push, z2]
  have z4 : (h4 s.heap o1 o2).objs.size = s.heap.objs.size + 4 := by rw [Heap.size_push, z3]
  have g5 : (h5 s.heap o1 o2).get? (h4 s.heap o1 o2).objs.size = some _ := Heap.get?_push_size _ rfl
  have g4 : (h5 s.heap o1 o2).get? (h3 s.heap o1 o2).objs.size = some _ := Heap.get?_push_of_some _ (Heap.get?_push_size _ rfl)
  have g3 : (h5 s.heap o1 o2).get? (h2 s.heap o1 o2).objs.size = some _ := Heap.get?_push_of_some _ (Heap.get?_push_of_some _ (Heap.get?_push_size _ rfl))
  have g2 : (h5 s.heap o1 o2).get? (s.heap.push o1).objs.size = some _ := Heap.get?_push_of_some _ (Heap.get?_push_of_some _ (Heap.get?_push_of_some _ (Heap.get?_push_size _ f2)))
  have g1 : (h5 s.heap o1 o2).get? s.heap.objs.size = some _ := Heap.get?_push_of_some _ (Heap.get?_push_of_some _ (Heap.get?_push_of_some _ (Heap.get?_push_of_some _ (Heap.get?_push_size _ f1))))
  show _ ∧ _
  rw [z2, z3, z4] at g5
  rw [z1, z2] at g3
  rw [z3] at g4
  rw [z1] at g2
  rw [z4]
  exact ⟨⟨_, g5, rfl⟩, h _ g5 g3 g4 g1 g2 fun c o x =>
    Heap.get?_push_of_some _ (Heap.get?_push_of_some _ (Heap.get?_push_of_some _ (Heap.get?_push_of_some _ (Heap.get?_push_of_some _ x))))⟩
end
end ZS
/-! zip of a text with a list or a tuple -/
namespace ZS
open PySem PySem.Spec PyProof.Rows L2
def sqb (K : PySem.W.Frag) (b : Bool) (H : Hp) (a : Addr) (ys : List V) : Prop := match b with | true => SqT K H a ys | false => SqL K H a ys
def itb (b : Bool) (h : Heap) (it l : Addr) (i : Nat) : Prop := match b with | true => h.IsTupleIter it l i | false => h.IsListIter it l i
def atb (b : Bool) (h : Heap) (l : Addr) (items : Array Value) : Prop := match b with | true => h.IsTuple l items | false => h.IsList l items
def clb : Bool → String | true => "tuple_iterator" | false => "list_iterator"
theorem draws_b {prog : Program} {w : World} {A : Around} (hh : A.handled = none) (b : Bool) (it l : Addr) (hl : l ≠ it) (items : Array Value) :
    Draws prog w A it [it, l] items.size (fun i v => items[i]? = some v) fun i h => itb b h it l i ∧ atb b h l items := by
  cases b
  · exact Draws.list hh it l hl items
  · exact draws_tup hh it l hl items
theorem draws_x {prog : Program} {w : World} {A : Around} (hh : A.handled = none) {ty : String} (hty : ty = "str_ascii_iterator" ∨ ty = "str_iterator") (it : Addr) (x : Str) (t : Tok) :
    Draws prog w A it [it] x.cps.size (fun i v => ∃ c u, x.cps[i]? = some c ∧ v = Value.str ⟨#[c]⟩ u) fun i h => h.IsStrIter it ty x t i := by
  rcases hty with rfl | rfl
  · exact Draws.strAscii hh it x t
  · exact Draws.strWide hh it x t
theorem itb_obj {b : Bool} {h : Heap} {it l : Addr} {i : Nat} (q : itb b h it l i) : ∃ o, h.get? it = some o ∧ o.cls = .type (clb b) ∧ o.data = .fields #[.ref l, .int i 0] := by
  cases b
  · exact q
  · exact q
theorem itb_of {b : Bool} {h : Heap} {it l : Addr} {i : Nat} (q : ∃ o, h.get? it = some o ∧ o.cls = .type (clb b) ∧ o.data = .fields #[.ref l, .int i 0]) : itb b h it l i := by
  cases b
  · exact q
  · exact q
theorem itb_at {b : Bool} {h h' : Heap} {it l : Addr} {i : Nat} (q : itb b h it l i) (k : ∀ o, h.get? it = some o → h'.get? it = some o) : itb b h' it l i :=
  let ⟨o, e, r⟩ := itb_obj q
  itb_of ⟨o, k o e, r⟩
/-- the text's letters and the items of the list or tuple as it stands at each turn, in new pairs -/
def Itq (K : PySem.W.Frag) (b : Bool) (x : Str) (a : Addr) : It :=
  ⟨fun i H => i < x.cps.size ∧ ∃ ys y, sqb K b H a ys ∧ ys[i]? = some y,
    fun i H v H' => ∃ T c y, v = .ref T ∧ H T = none ∧ H' = upd H T (.tup [.str ⟨#[c]⟩, y]) ∧ x.cps[i]? = some c ∧ ∀ ys, sqb K b H a ys → ys[i]? = some y,
    fun i H => ∃ ys, sqb K b H a ys ∧ (i = x.cps.size ∨ (i < x.cps.size ∧ i = ys.length))⟩
section
variable {X : Cx} {pins : List (Addr × Obj)} {σ : L2.St} {H : Hp} {s : Shared} {b : Bool} {a : Addr} {ys zs : List V}
theorem inv_b (I : Inv X pins σ H s) (h : sqb X.K b H a ys) : ∃ its : List Value, Vals ys its ∧ atb b s.heap a its.toArray ∧ a < s.heap.objs.size := by
  cases b
  · obtain ⟨its, rv, p, _⟩ := I.list h
    exact ⟨its, rv, p.isList, p.lt⟩
  · obtain ⟨its, rv, p, _⟩ := I.tuple h
    have q : s.heap.IsTuple a its.toArray := p
    obtain ⟨o, e, _⟩ := id q
    exact ⟨its, rv, q, Heap.lt_size e⟩
theorem inj_b (I : Inv X pins σ H s) (h : sqb X.K b H a ys) (h' : sqb X.K b H a zs) : zs = ys := by
  cases b
  · exact I.list_inj h' h
  · exact I.tuple_inj h' h
end
theorem turn_zs {P : Program} {w : World} {K : PySem.W.Frag} {elts : List Expr} {kk : Nat} {tpos : Pos} {x : Str} {t : Tok} {ty : String} {b : Bool} {a z TI TO i1 i2 : Addr} (hty : ty = "str_ascii_iterator" ∨ ty = "str_iterator")
    (ha : a ≠ i2) (p : Ap z TI TO i1 i2 [i1] [i2, a]) :
    Turn P w K (.Tuple elts kk tpos) (Itq K b x a) [z, TI, TO, i1, i2] z (fun i h => IsZip h z TI TO .none ∧ IsPair h TI (.ref i1) (.ref i2) ∧ (∃ x y, IsPair h TO x y) ∧ h.IsStrIter i1 ty x t i ∧ itb b h i2 a i) where
  mem := by simp
  obj := fun i h st c hc => by
    obtain ⟨hz, hTI, ⟨x0, y0, hTO⟩, ⟨o1, e1, _, d1⟩, q2⟩ := st
    obtain ⟨o2, e2, _, d2⟩ := itb_obj q2
    have e' : c = z ∨ c = TI ∨ c = TO ∨ c = i1 ∨ c = i2 := by simpa using hc
    rcases e' with rfl | rfl | rfl | rfl | rfl
    · exact ⟨_, hz, fun v q => nomatch q⟩
    · exact ⟨_, hTI, fun v q => nomatch q⟩
    · exact ⟨_, hTO, fun v q => nomatch q⟩
    · exact ⟨o1, e1, fun v q => by rw [d1] at q; cases q⟩
    · exact ⟨o2, e2, fun v q => by rw [d2] at q; cases q⟩
  keep := fun i h h' st k => by
    obtain ⟨hz, hTI, ⟨x0, y0, hTO⟩, ⟨o1, e1, r1⟩, q2⟩ := st
    exact ⟨k z (by simp) _ hz, k TI (by simp) _ hTI, ⟨x0, y0, k TO (by simp) _ hTO⟩, ⟨o1, k i1 (by simp) _ e1, r1⟩, itb_at q2 fun o e => k i2 (by simp) o e⟩
  item := by
    intro X hP hw hK hc i pins s σ H E I hf st hg
    subst hP hw hK
    obtain ⟨hz, hTI, ⟨x0, y0, hTO⟩, q1, q2⟩ := st
    obtain ⟨l1, ys, y, hq, hy⟩ := hg
    obtain ⟨its, rv, g, _⟩ := inv_b I hq
    obtain ⟨u, hu, ru⟩ := rv.get hy
    have hu' : its.toArray[i]? = some u := by simpa using hu
    have zl : z < s.heap.objs.size := Heap.lt_size hz
    refine next p (fun A hh => draws_x hh hty i1 x t) (fun A hh => draws_b hh b i2 a ha its.toArray) (I.ok.hd hc) hz hTI hTO q1 ⟨q2, g⟩ l1 (by obtain ⟨h, _⟩ := Array.getElem?_eq_some_iff.mp hu'; exact h) fun vx vy h' tk p1 p2 z' TO' s1 s2 new m k => ?_
    obtain ⟨c, uc, hcx, rfl⟩ := p1
    have e : vy = u := by rw [hu'] at p2; cases p2; rfl
    subst e
    refine ⟨_, rfl, wpAny_letOwnedTupleGo_zip (s := { s with heap := h', toks := tk }) z' fun h'' z'' sb => ?_⟩
    have new2 : h''.get? s.heap.objs.size = some { cls := .type "tuple", data := .seq #[.str ⟨#[c]⟩ uc, vy] } := (sb.2 _ (Nat.ne_of_gt zl)).trans new
    have ob : ObjOk X.prog X.w (upd H s.heap.objs.size (.tup [.str ⟨#[c]⟩, y])) h'' s.heap.objs.size (.tup [.str ⟨#[c]⟩, y]) :=
      ⟨by show 2 ≤ sizeLine; decide, [.str ⟨#[c]⟩ uc, vy], .cons ⟨uc, rfl⟩ (.cons ru .nil), ⟨_, new2, rfl, _, rfl⟩⟩
    have I1 : Inv X pins σ (upd H s.heap.objs.size (.tup [.str ⟨#[c]⟩, y])) { s with heap := h'', toks := tk } :=
      I.turnedNew (t' := tk) (ch := [z, TI, TO, i1, i2]) (fun c o hb q => (sb.2 c (fun q' => hb (by simp [q']))).trans (k c o (fun q' => hb (by simp [q'])) (fun q' => hb (by simp [q'])) (fun q' => hb (by simp [q'])) (fun q' => hb (by simp [q'])) q)) hf (Nat.le_refl _) ob
    refine ⟨.ref s.heap.objs.size, _, I1, rfl, ⟨_, c, y, rfl, I.hok.fresh (Nat.le_refl _), rfl, hcx, fun l hl => by rw [inj_b I hq hl]; exact hy⟩, ⟨z'', ?_, ⟨.str ⟨#[c]⟩ uc, vy, ?_⟩, ?_, ?_⟩, fun d hd => ?_⟩
    · exact (sb.2 _ p.TIz).trans (k _ _ p.TIz p.TITO p.TIi1 p.TIi2 hTI)
    · exact (sb.2 _ p.TOz).trans TO'
    · obtain ⟨o, e, r⟩ := s1
      exact ⟨o, (sb.2 _ p.i1z).trans e, r⟩
    · exact itb_at s2.1 fun o q => (sb.2 _ p.i2z).trans q
    · have hlt : d < s.heap.objs.size := by
        have e' : d = z ∨ d = TI ∨ d = TO ∨ d = i1 ∨ d = i2 := by simpa using hd
        obtain ⟨o1, e1, _⟩ := q1
        obtain ⟨o2, e2, _⟩ := itb_obj q2
        rcases e' with q | q | q | q | q
        · rw [q]; exact zl
        · rw [q]; exact Heap.lt_size hTI
        · rw [q]; exact Heap.lt_size hTO
        · rw [q]; exact Heap.lt_size e1
        · rw [q]; exact Heap.lt_size e2
      rw [upd_ne (Nat.ne_of_lt hlt)]
      exact (hf d hd).1
  done := by
    intro X hP hw hK hc i pins s σ H E I hf st hg
    subst hP hw hK
    obtain ⟨hz, hTI, ⟨x0, y0, hTO⟩, q1, q2⟩ := st
    obtain ⟨ys, hq, l⟩ := hg
    obtain ⟨its, rv, g, _⟩ := inv_b I hq
    have hl : its.toArray.size = ys.length := by have := rv.length; simp; omega
    exact stop p (fun A hh => draws_x hh hty i1 x t) (fun A hh => draws_b hh b i2 a ha its.toArray) (I.ok.hd hc) hz hTI hTO q1 ⟨q2, g⟩ (by rw [hl]; exact l) fun h' tk hk => ⟨rfl, I.turnedL (t' := tk) (ch := [z, TI, TO, i1, i2]) (fun c o hb q =>
      hk c o (fun q' => hb (by simp [q'])) (fun q' => hb (by simp [q'])) (fun q' => hb (by simp [q'])) (fun q' => hb (by simp [q'])) q) hf⟩
  self := fun A i s Q E st h => wpAny_pyIter_zip st.1 h
def iZq (K : PySem.W.Frag) (ta : TA) : TI := fun σ H R => ta σ H fun vs H1 => ∃ x a b ys, vs = [.str x, .ref a] ∧ sqb K b H1 a ys ∧ R (Itq K b x a) H1
theorem mk_x {x : Str} {t : Tok} : ∃ ty, (ty = "str_ascii_iterator" ∨ ty = "str_iterator") ∧ Mk (.str x t) { cls := .type ty, data := .fields #[.str x t, .int 0 0] } fun _ => True := by
  cases ha : x.cps.all (· < 128)
  · exact ⟨_, .inr rfl, fun _ q => wpAny_pyIter_wide ha q⟩
  · exact ⟨_, .inl rfl, fun _ q => wpAny_pyIter_ascii ha q⟩
theorem mk_b {b : Bool} {a : Addr} {items : Array Value} : Mk (.ref a) { cls := .type (clb b), data := .fields #[.ref a, .int 0 0] } fun h => atb b h a items := by
  cases b
  · exact fun u q => wpAny_pyIter_list u q
  · exact fun u q => wpAny_pyIter_tuple u q
theorem atb_push {b : Bool} {a : Addr} {items : Array Value} (h : Heap) (o : Obj) (u : atb b h a items) : atb b (h.push o) a items := by
  cases b
  · exact Heap.IsList.push u _
  · exact Heap.IsTuple.push u _
theorem ap_new {n a : Nat} (h : a < n) : Ap (n + 4) (n + 2) (n + 3) n (n + 1) [n] [n + 1, a] := by
  have m1 : ∀ c : Nat, c ≠ n → c ∉ [n] := fun c h q => h (by simpa using q)
  have m2 : ∀ c : Nat, c ≠ n + 1 → c ≠ a → c ∉ [n + 1, a] := fun c h h' q => by
    have q' : c = n + 1 ∨ c = a := by simpa using q
    omega
  have ne : ∀ {i j : Nat}, (i < j ∨ j < i) → i ≠ j := fun h => by omega
  exact ⟨ne (by omega), ne (by omega), ne (by omega), ne (by omega), ne (by omega), ne (by omega), ne (by omega), ne (by omega), ne (by omega), ne (by omega), m1 _ (by omega), m2 _ (by omega) (by omega), m1 _ (by omega), m2 _ (by omega) (by omega), m1 _ (by omega), m2 _ (by omega) (by omega)⟩
theorem pi_zq {X : Cx} {e e2 : Expr} {ta : TA} {p pos tpos : Pos} {elts : List Expr} {kk : Nat} (hg : Gl X "zip") (hm : X.mg "zip" = none) (ha : PA X [e, e2] ta)
    (hs : starEach [e, e2] X.env = (false, eval e X.env) :: starEach [e2] X.env := by rfl) (hpl : (backTo pos (starEach [e2] X.env)).any (·.1) = false := by rfl) :
    PI X (.Tuple elts kk tpos) (.Call (.Name "zip" p) [e, e2] [] pos) (iZq X.K ta) := by
  refine ⟨fun pins s σ H R I h => ?_⟩
  refine Call_ (ld_blt I hg hm PyProof.Rows.boot_zip (PyProof.Rows.callWith_type1 (thn (ha.run pos pins s σ H _ I h) fun us s1 ⟨vs, H1, I1, r1, q1⟩ => ?_) hs hpl))
  obtain ⟨x, a, b, ys, ex, hq, q⟩ := q1
  subst ex
  cases r1 with
  | cons r rr =>
    cases rr with
    | cons r' rr =>
      cases rr
      obtain ⟨t, rfl⟩ := r
      cases r'
      obtain ⟨its, rv, g, la⟩ := inv_b I1 hq
      obtain ⟨ty, hty, m1⟩ := mk_x (x := x) (t := t)
      have fresh5 : ∀ c, c ∈ [s1.heap.objs.size + 4, s1.heap.objs.size + 2, s1.heap.objs.size + 3, s1.heap.objs.size, s1.heap.objs.size + 1] → FpOk X pins H1 c := fun c hcm => by
        have hle : s1.heap.objs.size ≤ c := by
          simp only [List.mem_cons, List.not_mem_nil, or_false] at hcm
          omega
        exact I1.fpOk hle (I1.hok.fresh hle)
      refine call_new (o1 := { cls := .type ty, data := .fields #[.str x t, .int 0 0] }) (o2 := { cls := .type (clb b), data := .fields #[.ref a, .int 0 0] }) (U1 := fun _ => True) (U2 := fun h => atb b h a its.toArray) (fun h o u => atb_push h o u) (fun u q => m1 u q) (fun u q => mk_b u q) rfl rfl trivial g fun h' hz hTI hTO g1 g2 hk => wpAny_pyIter_zip hz ?_
      have I2 : Inv X pins σ H1 { s1 with heap := h' } := I1.kept (t' := s1.toks) hk
      have la' : a < s1.heap.objs.size := la
      have ap : Ap (s1.heap.objs.size + 4) (s1.heap.objs.size + 2) (s1.heap.objs.size + 3) s1.heap.objs.size (s1.heap.objs.size + 1) [s1.heap.objs.size] [s1.heap.objs.size + 1, a] := by
        exact ap_new la'
      exact ⟨s1.heap.objs.size + 4, [s1.heap.objs.size + 4, s1.heap.objs.size + 2, s1.heap.objs.size + 3, s1.heap.objs.size, s1.heap.objs.size + 1], _, _, H1, rfl, I2, turn_zs (t := t) hty (Nat.ne_of_lt (Nat.lt_succ_of_lt la')) ap, ⟨hz, hTI, ⟨_, _, hTO⟩, ⟨_, g1, rfl, rfl⟩, itb_of ⟨_, g2, rfl, rfl⟩⟩, fresh5, q⟩
end ZS
/-! defs read as functions over data: what is walked, comprehensions of lists -/
namespace DY
open PySem PySem.Spec PyProof.Rows L2 Evl LX XV RX WS
/-! ### what is walked -/
abbrev ltr (x : Str) : List D := x.cps.toList.map fun c => D.str ⟨#[c]⟩
def iPl (f : FE) : FI := fun env m => (f env m).bind fun d m1 => match d with
  | .hdl n => match m1[n]? with
    | some (.lst _) => .ok (.live n) m1
    | _ => .no
  | .lst ds => .ok (.fix ds) m1
  | .frz ds => .ok (.fix ds) m1
  | .tup ds => .ok (.fix ds) m1
  | .str s => .ok (.fix (ltr s)) m1
  | _ => .no
section
variable {z : Z} {X B H : Hp} {μ : List Addr} {m : Mem}
theorem src_l {a : Addr} {xs : List V} {ds : List D} (h : SqL z.K B a xs) (hx : Ats z μ B xs ds) : SrcOk z X μ B (Itl z.K a) (.fix ds) := fun i m' μ' B' H' hsn g M => by
  have h' := ex_l (g.g.ex.trans M.bh) h
  show match (some ds[i]? : Option (Option D)) with
    | none => True
    | some none => (Itl z.K a).stop i H'
    | some (some d) => (Itl z.K a).go i H' ∧ ∀ x H2, (Itl z.K a).yld i H' x H2 → Ex H' H2 ∧ ∃ B2, Gr H' B' B2 ∧ Ex B2 H2 ∧ At z μ' B2 x d
  cases hd : ds[i]? with
  | none => exact ⟨xs, h', by rw [hx.len]; exact List.getElem?_eq_none_iff.mp hd⟩
  | some d =>
    obtain ⟨x, h1, h2⟩ := hx.get hd
    refine ⟨⟨xs, x, h', h1⟩, fun y H2 ⟨e, q⟩ => ?_⟩
    subst e
    have := q xs h'
    rw [h1] at this
    cases this
    exact ⟨Ex.refl _, B', Gr.refl _ _, M.bh, h2.gw g⟩
theorem src_t {a : Addr} {xs : List V} {ds : List D} (h : SqT z.K B a xs) (hx : Ats z μ B xs ds) : SrcOk z X μ B (Itt z.K a) (.fix ds) := fun i m' μ' B' H' hsn g M => by
  have h' := ex_t (g.g.ex.trans M.bh) h
  show match (some ds[i]? : Option (Option D)) with
    | none => True
    | some none => (Itt z.K a).stop i H'
    | some (some d) => (Itt z.K a).go i H' ∧ ∀ x H2, (Itt z.K a).yld i H' x H2 → Ex H' H2 ∧ ∃ B2, Gr H' B' B2 ∧ Ex B2 H2 ∧ At z μ' B2 x d
  cases hd : ds[i]? with
  | none => exact ⟨xs, h', by rw [hx.len]; exact List.getElem?_eq_none_iff.mp hd⟩
  | some d =>
    obtain ⟨x, h1, h2⟩ := hx.get hd
    refine ⟨⟨xs, x, h', h1⟩, fun y H2 ⟨e, q⟩ => ?_⟩
    subst e
    have := q xs h'
    rw [h1] at this
    cases this
    exact ⟨Ex.refl _, B', Gr.refl _ _, M.bh, h2.gw g⟩
theorem src_live {a : Addr} {n : Nat} (h : μ[n]? = some a) : SrcOk z X μ B (Itl z.K a) (.live n) := fun i m' μ' B' H' hsn g M => by
  have ha : μ'[n]? = some a := pre_get g.p h
  unfold Src.at_
  dsimp only
  cases hn : m'[n]? with
  | none => trivial
  | some o =>
    cases o with
    | dic _ _ _ => trivial
    | ins _ _ _ => trivial
    | lok _ _ _ => trivial
    | lst ds =>
      obtain ⟨xs, h0, hx⟩ := M.ob n a _ ha hn
      have h' : SqL z.K H' a xs := sq_of h0
      dsimp only
      cases hd : ds[i]? with
      | none => exact ⟨xs, h', by rw [hx.len]; exact List.getElem?_eq_none_iff.mp hd⟩
      | some d =>
        obtain ⟨x, h1, h2⟩ := hx.get hd
        refine ⟨⟨xs, x, h', h1⟩, fun y H2 ⟨e, q⟩ => ?_⟩
        subst e
        have := q xs h'
        rw [h1] at this
        cases this
        exact ⟨Ex.refl _, B', Gr.refl _ _, M.bh, h2⟩
theorem src_str {s : Str} : SrcOk z X μ B (Its s) (.fix (ltr s)) := fun i m' μ' B' H' hsn g M => by
  unfold Src.at_
  dsimp only
  have hs : (ltr s).length = s.cps.size := by simp [ltr]
  cases hd : (ltr s)[i]? with
  | none => exact (by rw [← hs]; exact List.getElem?_eq_none_iff.mp hd : s.cps.size ≤ i)
  | some d =>
    have hi : i < s.cps.size := by rw [← hs]; exact (List.getElem?_eq_some_iff.mp hd).1
    refine ⟨hi, fun y H2 ⟨e, cc, h1, h2⟩ => ?_⟩
    subst e h2
    have e2 : d = D.str ⟨#[cc]⟩ := by
      have h4 : s.cps.toList[i]? = some cc := by rw [Array.getElem?_toList]; exact h1
      rw [List.getElem?_map, h4] at hd
      exact (Option.some.inj hd).symm
    subst e2
    exact ⟨Ex.refl _, B', Gr.refl _ _, M.bh, .str _⟩
def rngD (lo : Int) (n : Nat) : List D := (List.range n).map fun (k : Nat) => D.int (lo + (k : Int))
theorem src_r {lo : Int} {n : Nat} : SrcOk z X μ B (Itr lo n) (.fix (rngD lo n)) := fun i m' μ' B' H' hsn g M => by
  unfold Src.at_
  dsimp only
  have hs : (rngD lo n).length = n := by simp [rngD]
  cases hd : (rngD lo n)[i]? with
  | none => exact (by rw [← hs]; exact List.getElem?_eq_none_iff.mp hd : n ≤ i)
  | some d =>
    have hi : i < n := by rw [← hs]; exact (List.getElem?_eq_some_iff.mp hd).1
    refine ⟨hi, fun y H2 ⟨e, h2⟩ => ?_⟩
    subst e h2
    have e2 : d = D.int (lo + (i : Int)) := by
      unfold rngD at hd
      rw [List.getElem?_map, List.getElem?_range hi] at hd
      exact (Option.some.inj hd).symm
    subst e2
    exact ⟨Ex.refl _, B', Gr.refl _ _, M.bh, .int _⟩
/-- two sources, item by item, in new pairs -/
def zipD (ds es : List D) : List D := (ds.zip es).map fun p => .tup [p.1, p.2]
theorem zipD_get {ds es : List D} {i : Nat} {d : D} (h : (zipD ds es)[i]? = some d) : ∃ a b, ds[i]? = some a ∧ es[i]? = some b ∧ d = .tup [a, b] := by
  unfold zipD at h
  rw [List.getElem?_map] at h
  obtain ⟨p, h1, h2⟩ := Option.map_eq_some_iff.mp h
  subst h2
  have h3 := List.getElem?_zip_eq_some.mp h1
  exact ⟨p.1, p.2, h3.1, h3.2, rfl⟩
theorem zipD_none {ds es : List D} {i : Nat} (h : (zipD ds es)[i]? = none) : ds.length ≤ i ∨ es.length ≤ i := by
  have := List.getElem?_eq_none_iff.mp h
  unfold zipD at this
  rw [List.length_map, List.length_zip] at this
  omega
theorem pair_new {T : Addr} {x y : V} {a b : D} {B' H' : Hp} {μ' : List Addr} {m' : Mem} (M : Me z X μ' B' H' m') (hT : H' T = none) (ha : At z μ' B' x a) (hb : At z μ' B' y b) : Ex H' (upd H' T (.tup [x, y])) ∧ ∃ B2, Gr H' B' B2 ∧ Ex B2 (upd H' T (.tup [x, y])) ∧ At z μ' B2 (.ref T) (.tup [a, b]) := by
  have g : Gr H' B' (upd B' T (.tup [x, y])) := gr_new (none_of M.bh hT) hT
  exact ⟨Ex.new hT, _, g, ex_both' M.bh, .tup (st_of upd_same) (.cons (ha.ex g.ex) (.cons (hb.ex g.ex) .nil))⟩
theorem src_zl {a b : Addr} {xs ys : List V} {ds es : List D} (h : SqL z.K B a xs) (hx : Ats z μ B xs ds) (k : SqL z.K B b ys) (hy : Ats z μ B ys es) : SrcOk z X μ B (Itz z.K a b) (.fix (zipD ds es)) := fun i m' μ' B' H' hsn g M => by
  have h' := ex_l (g.g.ex.trans M.bh) h
  have k' := ex_l (g.g.ex.trans M.bh) k
  unfold Src.at_
  dsimp only
  cases hd : (zipD ds es)[i]? with
  | none => exact ⟨xs, ys, h', k', by rw [hx.len, hy.len]; exact zipD_none hd⟩
  | some d =>
    obtain ⟨p, q, h1, h2, rfl⟩ := zipD_get hd
    obtain ⟨x, h3, h4⟩ := hx.get h1
    obtain ⟨y, h5, h6⟩ := hy.get h2
    refine ⟨⟨xs, ys, x, y, h', k', h3, h5⟩, fun v H2 ⟨T, x', y', e1, e2, e3, e4, e5⟩ => ?_⟩
    subst e1 e3
    have := e4 xs h'
    rw [h3] at this
    cases this
    have := e5 ys k'
    rw [h5] at this
    cases this
    exact pair_new M e2 (h4.gw g) (h6.gw g)
theorem src_zt {a b : Addr} {xs ys : List V} {ds es : List D} (h : SqT z.K B a xs) (hx : Ats z μ B xs ds) (k : SqT z.K B b ys) (hy : Ats z μ B ys es) : SrcOk z X μ B (RZ.ItzT z.K a b) (.fix (zipD ds es)) := fun i m' μ' B' H' hsn g M => by
  have h' := ex_t (g.g.ex.trans M.bh) h
  have k' := ex_t (g.g.ex.trans M.bh) k
  unfold Src.at_
  dsimp only
  cases hd : (zipD ds es)[i]? with
  | none => exact ⟨xs, ys, h', k', by rw [hx.len, hy.len]; exact zipD_none hd⟩
  | some d =>
    obtain ⟨p, q, h1, h2, rfl⟩ := zipD_get hd
    obtain ⟨x, h3, h4⟩ := hx.get h1
    obtain ⟨y, h5, h6⟩ := hy.get h2
    refine ⟨⟨xs, ys, x, y, h', k', h3, h5⟩, fun v H2 ⟨T, x', y', e1, e2, e3, e4, e5⟩ => ?_⟩
    subst e1 e3
    have := e4 xs h'
    rw [h3] at this
    cases this
    have := e5 ys k'
    rw [h5] at this
    cases this
    exact pair_new M e2 (h4.gw g) (h6.gw g)
theorem ltr_get {s : Str} {i : Nat} {d : D} (h : (ltr s)[i]? = some d) : ∃ cc, s.cps[i]? = some cc ∧ d = .str ⟨#[cc]⟩ := by
  rw [List.getElem?_map] at h
  obtain ⟨cc, h1, h2⟩ := Option.map_eq_some_iff.mp h
  rw [Array.getElem?_toList] at h1
  exact ⟨cc, h1, h2.symm⟩
theorem src_zs {b : Bool} {s : Str} {a : Addr} {ys : List V} {es : List D} (h : ∀ H, Ex B H → ZS.sqb z.K b H a ys) (hy : Ats z μ B ys es) : SrcOk z X μ B (ZS.Itq z.K b s a) (.fix (zipD (ltr s) es)) := fun i m' μ' B' H' hsn g M => by
  have h' := h H' (g.g.ex.trans M.bh)
  have hs : (ltr s).length = s.cps.size := by simp [ltr]
  unfold Src.at_
  dsimp only
  cases hd : (zipD (ltr s) es)[i]? with
  | none =>
    have h1 := zipD_none hd
    have h2 : i ≤ (zipD (ltr s) es).length := hsn
    unfold zipD at h2
    rw [List.length_map, List.length_zip, hs] at h2
    rw [hs] at h1
    exact ⟨ys, h', by rw [hy.len]; omega⟩
  | some d =>
    obtain ⟨p, q, h1, h2, rfl⟩ := zipD_get hd
    obtain ⟨cc, h3, rfl⟩ := ltr_get h1
    obtain ⟨y, h5, h6⟩ := hy.get h2
    have hi : i < s.cps.size := by rw [← hs]; exact (List.getElem?_eq_some_iff.mp h1).1
    refine ⟨⟨hi, ys, y, h', h5⟩, fun v H2 ⟨T, c', y', e1, e2, e3, e4, e5⟩ => ?_⟩
    subst e1 e3
    rw [h3] at e4
    cases e4
    have := e5 ys h'
    rw [h5] at this
    cases this
    exact pair_new M e2 (.str _) (h6.gw g)
end
section
variable {X : Cx} {c : Cc} {tg e : Expr} {f : FE} {fa : FA} {p pos : Pos}
theorem kz (hz : zx X = c.z) : X.K = c.z.K := congrArg Z.K hz
theorem d_iPl (h : PE X e (teF c f)) (hz : zx X = c.z := by rfl) : PI X tg e (tiF c (iPl f)) := by
  have hK := kz hz
  refine pi_mono (pi_alt (pi_list h) (pi_alt (pi_tup h) (pi_str h))) fun σ H T ⟨X1, env, m, μ, B, I, o⟩ => ?_
  unfold iPl at o
  cases hf : f env m with
  | no => rw [hf] at o; exact o.elim
  | ex x m' => exact .inl ⟨X1, env, m, μ, B, I, by rw [hf] at o ⊢; exact o⟩
  | ok d m' =>
    rw [hf] at o
    have go : ∀ {Q : VK} , (∀ v H' B' μ', Gw X1 B μ B' μ' → At c.z μ' B' v d → En c.z c.xi X1 env m' μ' σ B' H' → Q v H') → teF c f σ H Q := fun {Q} q => ⟨X1, env, m, μ, B, I, by rw [hf]; exact q⟩
    cases d with
    | hdl n =>
      simp only [Rs.bind] at o
      split at o
      · rename_i ds hn
        refine .inl (go fun v H' B' μ' g a I' => ?_)
        cases a with
        | hdl ha =>
          obtain ⟨xs, h1, h2⟩ := I'.me.ob _ _ _ ha hn
          rw [hK]
          exact ⟨_, rfl, ⟨xs, sq_of h1⟩, o _ H' B' μ' g (src_live ha) I'⟩
      · exact o.elim
    | lst ds =>
      refine .inl (go fun v H' B' μ' g a I' => ?_)
      cases a with
      | lst h1 h2 => rw [hK]; exact ⟨_, rfl, ⟨_, ex_l I'.me.bh (sq_of h1)⟩, o _ H' B' μ' g (src_l (sq_of h1) h2) I'⟩
    | frz ds =>
      refine .inl (go fun v H' B' μ' g a I' => ?_)
      cases a with
      | frz h1 h2 => rw [hK]; exact ⟨_, rfl, ⟨_, ex_l I'.me.bh h1⟩, o _ H' B' μ' g (src_l h1 h2) I'⟩
    | tup ds =>
      refine .inr (.inl (go fun v H' B' μ' g a I' => ?_))
      cases a with
      | tup h1 h2 => rw [hK]; exact ⟨_, rfl, ⟨_, ex_t I'.me.bh h1⟩, o _ H' B' μ' g (src_t h1 h2) I'⟩
    | str s =>
      refine .inr (.inr (go fun v H' B' μ' g a I' => ?_))
      cases a with
      | str => exact ⟨s, rfl, o _ H' B' μ' g src_str I'⟩
    | non => exact o.elim
    | bl _ => exact o.elim
    | int _ => exact o.elim
    | dic _ _ _ => exact o.elim
    | ins _ _ _ => exact o.elim
noncomputable def iR1 (fa : FA) : FI := fun env m => (fa env m).bind fun ds m1 => match ds with
  | [.int n] => @ite _ (-1000000 ≤ n ∧ n ≤ 1000000) (Classical.propDecidable _) (.ok (.fix (rngD 0 n.toNat)) m1) .no
  | _ => .no
theorem d_rng1 {a : Expr} (hm : X.mg "range" = none) (ha : PA X [a] (taF c fa)) (hg : Gl X "range" := by rfl) (hs : starEach [a] X.env = [(false, eval a X.env)] := by rfl) : PI X tg (.Call (.Name "range" p) [a] [] pos) (tiF c (iR1 fa)) := pi_mono (pi_range1 hg hm ha hs) fun σ H T ⟨X1, env, m, μ, B, I, o⟩ => ⟨X1, env, m, μ, B, I, out_seq o fun ds m1 xs H1 B1 μ1 g1 hx I1 o1 => by
  split at o1
  · rename_i n
    split at o1
    · rename_i hn
      cases hx with
      | cons h1 h2 =>
        cases h1
        cases h2
        exact ⟨n, rfl, by omega, by omega, o1 _ H1 B1 μ1 Gw.refl src_r I1⟩
    · exact o1.elim
  · exact o1.elim⟩
def zipS : List D → Option (List D)
  | [.lst a, .lst b] => some (zipD a b)
  | [.tup a, .tup b] => some (zipD a b)
  | [.str s, .lst b] => some (zipD (ltr s) b)
  | [.str s, .tup b] => some (zipD (ltr s) b)
  | _ => none
def iZip (fa : FA) : FI := fun env m => (fa env m).bind fun ds m1 => match zipS ds with
  | some es => .ok (.fix es) m1
  | none => .no
theorem d_zip {e2 : Expr} {elts : List Expr} {kk : Nat} {tpos : Pos} (hm : X.mg "zip" = none) (ha : PA X [e, e2] (taF c fa)) (hz : zx X = c.z := by rfl) (hg : Gl X "zip" := by rfl) (hs : starEach [e, e2] X.env = (false, eval e X.env) :: starEach [e2] X.env := by rfl) (hpl : (backTo pos (starEach [e2] X.env)).any (·.1) = false := by rfl) :
    PI X (.Tuple elts kk tpos) (.Call (.Name "zip" p) [e, e2] [] pos) (tiF c (iZip fa)) := by
  have hK := kz hz
  refine pi_mono (pi_alt (RZ.pi_zipA hg hm ha hs hpl) (ZS.pi_zq hg hm ha hs hpl)) fun σ H T ⟨X1, env, m, μ, B, I, o⟩ => ?_
  rw [hK]
  unfold iZip at o
  cases hf : fa env m with
  | no => rw [hf] at o; exact o.elim
  | ex x m' => exact .inl ⟨X1, env, m, μ, B, I, by rw [hf] at o ⊢; exact o⟩
  | ok ds m' =>
    rw [hf] at o
    have go : ∀ {Q : List V → Hp → Prop}, (∀ v H' B' μ', Gw X1 B μ B' μ' → Ats c.z μ' B' v ds → En c.z c.xi X1 env m' μ' σ B' H' → Q v H') → taF c fa σ H Q := fun {Q} q => ⟨X1, env, m, μ, B, I, by rw [hf]; exact q⟩
    simp only [Rs.bind] at o
    split at o
    · rename_i es he
      unfold zipS at he
      split at he
      · cases he
        refine .inl (go fun v H' B' μ' g a I' => ?_)
        cases a with
        | cons a1 a2 => cases a2 with
          | cons a2 a3 =>
            cases a3
            cases a1 with
            | lst h1 h2 => cases a2 with
              | lst h3 h4 => exact ⟨_, _, _, _, rfl, .inl ⟨ex_l I'.me.bh (sq_of h1), ex_l I'.me.bh (sq_of h3), o _ H' B' μ' g (src_zl (sq_of h1) h2 (sq_of h3) h4) I'⟩⟩
      · cases he
        refine .inl (go fun v H' B' μ' g a I' => ?_)
        cases a with
        | cons a1 a2 => cases a2 with
          | cons a2 a3 =>
            cases a3
            cases a1 with
            | tup h1 h2 => cases a2 with
              | tup h3 h4 => exact ⟨_, _, _, _, rfl, .inr ⟨ex_t I'.me.bh h1, ex_t I'.me.bh h3, o _ H' B' μ' g (src_zt h1 h2 h3 h4) I'⟩⟩
      · cases he
        refine .inr (go fun v H' B' μ' g a I' => ?_)
        cases a with
        | cons a1 a2 => cases a2 with
          | cons a2 a3 =>
            cases a3
            cases a1 with
            | str => cases a2 with
              | lst h3 h4 => exact ⟨_, _, false, _, rfl, ex_l I'.me.bh (sq_of h3), o _ H' B' μ' g (src_zs (b := false) (fun H e => ex_l e (sq_of h3)) h4) I'⟩
      · cases he
        refine .inr (go fun v H' B' μ' g a I' => ?_)
        cases a with
        | cons a1 a2 => cases a2 with
          | cons a2 a3 =>
            cases a3
            cases a1 with
            | str => cases a2 with
              | tup h3 h4 => exact ⟨_, _, true, _, rfl, ex_t I'.me.bh h3, o _ H' B' μ' g (src_zs (b := true) (fun H e => ex_t e h3) h4) I'⟩
      · exact nomatch he
    · exact o.elim
end
/-! ### comprehensions -/
def wipeE (e : Sv) : List Nat → Sv
  | [] => e
  | v :: vs => (wipeE e vs).set v none
def noex {α : Type} (r : Rs α) : Rs α := match r with
  | .ex _ _ => .no
  | r => r
theorem En.wipe {z : Z} {xi : XI} {X : Hp} {env : Sv} {m : Mem} {μ : List Addr} {σ : L2.St} {B H : Hp} (I : En z xi X env m μ σ B H) : ∀ vs : List Nat, (∀ v ∈ vs, v ≠ xi.i) → En z xi X (wipeE env vs) m μ (L2.wipe σ vs) B H
  | [], _ => I
  | v :: vs, h => (En.wipe I vs fun x hx => h x (List.mem_cons_of_mem _ hx)).unset v none (h v List.mem_cons_self)
theorem wipe_get {σ : L2.St} {j : Nat} : ∀ {vs : List Nat}, j ∉ vs → (L2.wipe σ vs)[j]? = σ[j]?
  | [], _ => rfl
  | v :: vs, h => by
    show ((L2.wipe σ vs).set v none)[j]? = _
    rw [List.getElem?_set_ne (fun (c : v = j) => h (by rw [← c]; exact List.mem_cons_self))]
    exact wipe_get fun c => h (List.mem_cons_of_mem _ c)
theorem wipe_in {σ : L2.St} {j : Nat} : ∀ {vs : List Nat}, j ∈ vs → (L2.wipe σ vs)[j]? = if j < σ.length then some none else none
  | v :: vs, h => by
    show ((L2.wipe σ vs).set v none)[j]? = _
    by_cases c : v = j
    · subst c
      by_cases l : v < σ.length
      · rw [if_pos l, List.getElem?_set_self (by rw [wipe_length]; exact l)]
      · rw [if_neg l, List.getElem?_eq_none (by rw [List.length_set, wipe_length]; omega)]
    · rw [List.getElem?_set_ne c]
      exact wipe_in (by rcases List.mem_cons.mp h with e | e
                        · exact absurd e.symm c
                        · exact e)
theorem wipe_eq {σ σ' : L2.St} {vs js : List Nat} (hl : σ'.length = σ.length) (hj : ∀ j ∈ js, j ∈ vs) (h : ∀ j, j ∉ js → σ'[j]? = (L2.wipe σ vs)[j]?) : L2.wipe σ' vs = L2.wipe σ vs := by
  apply List.ext_getElem?
  intro j
  by_cases c : j ∈ vs
  · rw [wipe_in c, wipe_in c, hl]
  · rw [wipe_get c]
    exact h j fun k => c (hj j k)
def cl (env : Sv) (g : FG) (t : FT) (f : FE) (src : Src) : Nat → Nat → Mem → List D → Rs (List D)
  | 0, _, _, _ => .no
  | n + 1, i, m, acc => match src.at_ m i with
    | none => .no
    | some none => .ok acc m
    | some (some d) => match g d env m with
      | none => .no
      | some e1 => (noex (t e1 m)).bind fun b m2 => if b = true then (noex (f e1 m2)).bind fun r m3 => if acc.length < big then cl env g t f src n (i + 1) m3 (acc ++ [r]) else .no
        else cl env g t f src n (i + 1) m2 acc
def asL : List D → Mem → Rs Ob := fun acc m => .ok (.lst acc) m
def nLc (vs : List Nat) (fi : FI) (g : FG) (t : FT) (f : FE) : FN := fun env m => (fi env m).bind fun src m1 => (cl (wipeE env vs) g t f src turns 0 m1 []).bind asL
section
variable {c : Cc}
/-- within a block: what the element does, told around -/
theorem out_blk {α β : Type} {A : List Addr → Hp → β → α → Prop} {X1 B : Hp} {Dl : Addr} {o : HO} {env e1 : Sv} {σ σ2 : L2.St} {μ : List Addr} {r : Rs α} {k : α → Mem → Rs Ob} {Q : VK} {Q1 : β → Hp → Prop} (hX : X1 Dl = none) (h : OutN c X1 env σ μ B ((noex r).bind k) Q)
    (q : ∀ d m' v H' B' μ', Gw (upd X1 Dl o) B μ B' μ' → Gw X1 B μ B' μ' → A μ' B' v d → En c.z c.xi (upd X1 Dl o) e1 m' μ' σ2 B' H' → OutN c X1 env σ μ' B' (k d m') Q → Q1 v H') : Out c.no (upd X1 Dl o) e1 σ2 μ B A r Q1 := by
  cases r with
  | no => exact h
  | ex x m' => exact h.elim
  | ok d m' =>
    intro v H1 B1 μ1 g1 a I
    have g2 : Gw X1 B μ B1 μ1 := ⟨⟨g1.g.ex, fun b hb hxb => g1.g.av b hb (by
        by_cases e : b = Dl
        · subst e; exact absurd hX hxb
        · rw [upd_ne e]; exact hxb)⟩, g1.p⟩
    exact q d m' v H1 B1 μ1 g1 g2 a I (OutN.grow h g2)
theorem tn_lc {wi : TI} {tg : TG} {tt : TT} {te : TE} {vs js : List Nat} {fi : FI} {g : FG} {t : FT} {f : FE} (hi : ∀ σ H T, tiF c fi σ H T → wi σ H T) (hg : ∀ v σ H Q, tgF c.no js g v σ H Q → tg v σ H Q) (ht : ∀ σ H Q, ttF c.no t σ H Q → tt σ H Q) (he : ∀ σ H Q, teF c.no f σ H Q → te σ H Q)
    (hj : ∀ j ∈ js, j ∈ vs) (hv : ∀ v ∈ vs, v ≠ c.xi.i) {σ : L2.St} {H : Hp} {Q : VK} : tnF c (nLc vs fi g t f) σ H Q → tLc wi tg tt te vs σ H Q := fun ⟨X1, env, m, μ, B, I, o⟩ => by
  refine hi _ _ _ ⟨X1, env, m, μ, B, I, out_seqN o fun src m1 J H1 B1 μ1 g1 sok I1 o1 => fun Dl hD => ?_⟩
  obtain ⟨hB1, hX1, hμ1⟩ := I1.me.new hD
  -- what is borne: i the place, k what is left of the turns
  refine ⟨fun i k H' => src.seen i ∧ ∃ m' μ' B' ys acc, Gw X1 B1 μ1 B' μ' ∧ En c.z c.xi (upd X1 Dl (.lst ys)) (wipeE env vs) m' μ' (L2.wipe σ vs) B' H' ∧ B' Dl = none ∧ Ats c.z μ' B' ys acc ∧ OutN c X1 env σ μ' B' ((cl (wipeE env vs) g t f src k i m' acc).bind asL) Q, ⟨turns, src.seen0, m1, μ1, B1, [], [], Gw.refl, ?_, hB1, .nil, o1⟩, ?_⟩
  · have I2 : En c.z c.xi X1 env m1 μ1 σ B1 (upd H1 Dl (.lst [])) := I1.up (Ex.new hD) (Gr.refl _ _) (I1.me.bh.trans (Ex.new hD))
    exact (I2.wipe vs hv).wid (ex_both' I1.me.xh) fun a ha => by
      rw [upd_ne (fun (e : a = Dl) => hμ1 (by rw [← e]; exact ha))]
      exact I1.me.nx a ha
  rintro i k H' ⟨hsn, m', μ', B', ys, acc, g2, I', hBD, hys, o'⟩
  have hxs : Ex X1 (upd X1 Dl (.lst ys)) := Ex.new hX1
  have hD' : H' Dl = some (.lst ys) := I'.me.xh _ _ upd_same
  have nar : ∀ {μ B H m ys}, Me c.z (upd X1 Dl (.lst ys)) μ B H m → Me c.z X1 μ B H m ∧ Dl ∉ μ := fun {μ B H m ys} M =>
    ⟨M.wid ((Ex.new hX1).trans M.xh) fun a ha => by
      have e := M.nx a ha
      by_cases c : a = Dl
      · subst c; exact hX1
      · rw [upd_ne c] at e; exact e, fun ha => by
      have e := M.nx Dl ha
      rw [upd_same] at e
      exact nomatch e⟩
  cases k with
  | zero => exact o'.elim
  | succ k =>
    unfold cl at o'
    have hs := sok i m' μ' B' H' hsn g2 (nar I'.me).1
    cases ha : src.at_ m' i with
    | none => rw [ha] at o'; exact o'.elim
    | some od =>
      cases od with
      | none =>
        rw [ha] at o' hs
        obtain ⟨M', hn⟩ := nar I'.me
        exact .inl ⟨hs, o' Dl H' B' μ' Gw.refl ⟨ys, hD', hys⟩ hBD hX1 hn (I1.mem M' g2.g.ex g2.p)⟩
      | some d =>
        rw [ha] at o' hs
        refine .inr ⟨hs.1, fun H'' => ∃ m' μ' B' ys acc, Gw X1 B1 μ1 B' μ' ∧ En c.z c.xi (upd X1 Dl (.lst ys)) (wipeE env vs) m' μ' (L2.wipe σ vs) B' H'' ∧ B' Dl = none ∧ Ats c.z μ' B' ys acc ∧ OutN c X1 env σ μ' B' ((cl (wipeE env vs) g t f src k (i + 1) m' acc).bind asL) Q, fun H'' h => ⟨k, Nat.lt_succ_self _, Src.seen1 ha, h⟩, fun x H2 y => ?_⟩
        obtain ⟨e2, B2, gr, b2, ax⟩ := hs.2 x H2 y
        have I2 := I'.up e2 gr b2
        have gw2 : Gw X1 B' μ' B2 μ' := (nar I'.me).1.gw gr
        have hBD2 : B2 Dl = none := gr.av Dl hBD (by rw [hD']; exact Option.some_ne_none _)
        cases hgd : g d (wipeE env vs) m' with
        | none => simp only [hgd] at o'; exact o'.elim
        | some e1 =>
          simp only [hgd] at o'
          rw [Rs.bind_assoc] at o'
          have o3 := OutN.grow o' gw2
          refine hg _ _ _ _ ⟨_, wipeE env vs, m', μ', B2, d, e1, I2, ax, hgd, fun σ2 hσ hl I3 => ⟨wipe_eq (hl.trans (wipe_length ..)) hj hσ, ht _ _ _ ⟨_, e1, m', μ', B2, I3, out_blk hX1 o3 fun b m4 v H4 B4 μ4 g4' g4 hv4 I4 o4 => ?_⟩⟩⟩
          subst hv4
          have av4 : ∀ {B5 μ5}, Gw (upd X1 Dl (.lst ys)) B2 μ' B5 μ5 → B5 Dl = none := fun g5 => g5.g.av Dl hBD2 (by rw [upd_same]; exact Option.some_ne_none _)
          cases v with
          | false => exact ⟨m4, μ4, B4, ys, acc, (g2.trans gw2).trans g4, I2.mem I4.me g4.g.ex g4.p, av4 g4', (hys.gw gw2).gw g4, o4⟩
          | true =>
            simp only [if_true] at o4 ⊢
            rw [Rs.bind_assoc] at o4
            refine he _ _ _ ⟨_, e1, m4, μ4, B4, I4, out_blk hX1 o4 fun r m5 w H5 B5 μ5 g5' g5 hw5 I5 o5 => ?_⟩
            have hys5 : Ats c.z μ5 B5 ys acc := ((hys.gw gw2).gw g4).gw g5
            have hD5 : H5 Dl = some (.lst ys) := I5.me.xh _ _ upd_same
            have hB5 : B5 Dl = none := av4 (g4'.trans g5')
            split at o5
            · rename_i hlen
              refine ⟨ys, hD5, lt_big (by rw [hys5.len]; exact hlen), m5, μ5, B5, ys ++ [w], acc ++ [r], ((g2.trans gw2).trans g4).trans g5, ?_, hB5, hys5.snoc hw5, o5⟩
              obtain ⟨M5, hn5⟩ := nar I5.me
              refine I2.mem ⟨?_, ?_, M5.len, M5.nd, fun n a ob h1 h2 => (M5.ob n a ob h1 h2).gr (Ex.refl _) (List.prefix_refl _) fun u hu => ?_, M5.nb, fun a ha => ?_⟩ (g4.g.ex.trans g5.g.ex) (g4.p.trans g5.p)
              · exact fun a u hu => by
                  have hne : a ≠ Dl := fun e => by subst e; rw [hB5] at hu; exact nomatch hu
                  rw [upd_ne hne]; exact M5.bh a u hu
              · exact ex_both' M5.xh
              · have hne : a ≠ Dl := fun e => by subst e; exact hn5 (List.mem_of_getElem? h1)
                rw [upd_ne hne]; exact hu
              · have hne : a ≠ Dl := fun e => by subst e; exact hn5 ha
                rw [upd_ne hne]; exact M5.nx a ha
            · exact o5.elim
end
section
variable {X : Cx} {c : Cc}
theorem dts_nil : PTs X [] (ttF c cTrue) := ⟨fun pins s σ H Q I ⟨X1, env, m, μ, B, I1, o⟩ => pts_nil.run pins s σ H Q I (o true H B μ Gw.refl rfl I1)⟩
theorem dts_one {e : Expr} {t : FT} (h : PT X e (ttF c t)) : PTs X [e] (ttF c t) := pts_one h
theorem d_lc {elt tg iter : Expr} {ifs : List Expr} {scope : Scope} {pos : Pos} {fi : FI} {js : List Nat} {g : FG} {t : FT} {f : FE} (own : List (Str × Nat)) (hc : X.calm = true) (hN : X.N.Nodup) (hi : PI X tg iter (tiF c fi)) (ok : BlkOk X.N X.env.scope scope own)
    (hg : ∀ (s : Shared) (H : Hp) (C : Addr) (cl : List (Str × Addr)) (fp : List Addr), PG (X.blk s H scope (compEnvC scope cl C X.env) fp) tg (tgF c.no js g)) (ht : ∀ (s : Shared) (H : Hp) (C : Addr) (cl : List (Str × Addr)) (fp : List Addr), PTs (X.blk s H scope (compEnvC scope cl C X.env) fp) ifs (ttF c.no t))
    (he : ∀ (s : Shared) (H : Hp) (C : Addr) (cl : List (Str × Addr)) (fp : List Addr), PE (X.blk s H scope (compEnvC scope cl C X.env) fp) elt (teF c.no f)) (hj : ∀ j ∈ js, j ∈ own.map (·.2) := by decide) (hv : ∀ v ∈ own.map (·.2), v ≠ c.xi.i := by exact all_ne (by rfl)) (hs : ∀ x, foldedSetIterable iter X.env x = pure x := by intro _; rfl) :
    PE X (.ListComp elt [⟨tg, iter, ifs, 0⟩] scope pos) (tnF c (nLc (own.map (·.2)) fi g t f)) := pe_mono (pe_lc hc hN hi ok hg ht he hs) fun σ H Q h => tn_lc (fun _ _ _ h => h) (fun _ _ _ _ h => h) (fun _ _ _ h => h) (fun _ _ _ h => h) hj hv h
theorem te_fz {f : FN} {te : TE} (h : ∀ σ H Q, tnF c f σ H Q → te σ H Q) {σ : L2.St} {H : Hp} {Q : VK} : teF c (eFz f) σ H Q → te σ H Q := fun ⟨X1, env, m, μ, B, I, o⟩ => h _ _ _ ⟨X1, env, m, μ, B, I, by
  unfold eFz at o
  cases hf : f env m with
  | no => rw [hf] at o; exact o
  | ex x m' => rw [hf] at o; exact o
  | ok ob m' =>
    rw [hf] at o
    exact fun p H' B' μ' g ho hb hx hm I' => by
      obtain ⟨u, h1, h2⟩ := ob_fz ho hb
      obtain ⟨g2, I2⟩ := I'.fz h1 hb hx hm
      exact o (.ref p) H' (upd B' p u) μ' (g.trans g2) h2 I2⟩
theorem te_new {f : FN} {te : TE} (h : ∀ σ H Q, tnF c f σ H Q → te σ H Q) {σ : L2.St} {H : Hp} {Q : VK} : teF c (eNew f) σ H Q → te σ H Q := fun ⟨X1, env, m, μ, B, I, o⟩ => h _ _ _ ⟨X1, env, m, μ, B, I, by
  unfold eNew at o
  cases hf : f env m with
  | no => rw [hf] at o; exact o
  | ex x m' => rw [hf] at o; exact o
  | ok ob m' =>
    rw [hf] at o
    exact fun p H' B' μ' g ho hb hx hm I' => by
      refine o (.ref p) H' B' (μ' ++ [p]) (g.trans ⟨Gr.refl _ _, List.prefix_append _ _⟩) (.hdl ?_) (I'.push ho hb hx hm)
      rw [← I'.me.len, List.getElem?_append_right (Nat.le_refl _), Nat.sub_self]
      rfl⟩
/-- name = [..] on one line, the name a local; nw: the list changes -/
def eBy (nw : Bool) (f : FN) : FE := match nw with
  | true => eNew f
  | false => eFz f
theorem te_by {nw : Bool} {f : FN} {te : TE} (h : ∀ σ H Q, tnF c f σ H Q → te σ H Q) {σ : L2.St} {H : Hp} {Q : VK} : teF c (eBy nw f) σ H Q → te σ H Q := by
  cases nw
  · exact te_fz h
  · exact te_new h
theorem ds_setLc (nw : Bool) {i : Nat} {y : Str} {py : Pos} {elt tg iter : Expr} {ifs : List Expr} {scope : Scope} {pos spos : Pos} {fi : FI} {js : List Nat} {g : FG} {t : FT} {f : FE} (own : List (Str × Nat)) (hc : X.calm = true) (hN : X.N.Nodup) (hi : PI X tg iter (tiF c fi)) (ok : BlkOk X.N X.env.scope scope own)
    (hg : ∀ (s : Shared) (H : Hp) (C : Addr) (cl : List (Str × Addr)) (fp : List Addr), PG (X.blk s H scope (compEnvC scope cl C X.env) fp) tg (tgF c.no js g)) (ht : ∀ (s : Shared) (H : Hp) (C : Addr) (cl : List (Str × Addr)) (fp : List Addr), PTs (X.blk s H scope (compEnvC scope cl C X.env) fp) ifs (ttF c.no t))
    (he : ∀ (s : Shared) (H : Hp) (C : Addr) (cl : List (Str × Addr)) (fp : List Addr), PE (X.blk s H scope (compEnvC scope cl C X.env) fp) elt (teF c.no f)) (hsw : swapsWith (.ListComp elt [⟨tg, iter, ifs, 0⟩] scope pos) (some (.Name y py)) spos.line X.env = pure true) (hy : X.N[i]? = some y := by rfl) (hyl : X.env.scope.names.lookup y = some .local := by rfl)
    (hxi : i ≠ c.xi.i := by exact ne_xi (by rfl)) (hj : ∀ j ∈ js, j ∈ own.map (·.2) := by decide) (hv : ∀ v ∈ own.map (·.2), v ≠ c.xi.i := by exact all_ne (by rfl)) (hs : ∀ x, foldedSetIterable iter X.env x = pure x := by intro _; rfl) :
    PS X (.Assign [.Name y py] (.ListComp elt [⟨tg, iter, ifs, 0⟩] scope pos) spos) (tsF c (sAsg i (eBy nw (nLc (own.map (·.2)) fi g t f)))) := ps_mono (ps_setLc hc hN hy hyl hsw hi ok hg ht he hs) fun Dn σ H h => ts_asg hxi (fun _ _ _ => te_by fun σ H Q h => tn_lc (fun _ _ _ h => h) (fun _ _ _ _ h => h) (fun _ _ _ h => h) (fun _ _ _ h => h) hj hv h) h
end
end DY
/-! defs read as functions over data: contracts, calls -/
namespace DY
open PySem PySem.Spec PyProof.Rows L2 Evl LX XV RX WS
/-! ### leaving a def: its own objects are values from then on -/
mutual
def old (n : Nat) : D → Bool
  | .hdl k => decide (k < n)
  | .lst ds => olds n ds
  | .frz ds => olds n ds
  | .tup ds => olds n ds
  | .dic _ ks vs => olds n ks && olds n vs
  | .ins _ _ ds => olds n ds
  | _ => true
def olds (n : Nat) : List D → Bool
  | [] => true
  | d :: ds => old n d && olds n ds
end
def Ob.ds : Ob → List D
  | .lst ds => ds
  | .dic _ ks vs => ks ++ vs
  | .ins _ _ ds => ds
  | .lok _ ks vs => ks ++ vs
def rz (n : Nat) (m : Mem) : Nat → D → Option D
  | 0, _ => none
  | f + 1, d => if old n d = true then some d else match d with
    | .lst ds => (ds.mapM (rz n m f)).map .lst
    | .tup ds => (ds.mapM (rz n m f)).map .tup
    | .dic b ks vs => if olds n ks = true then (vs.mapM (rz n m f)).map (.dic b ks) else none
    | .ins c ns ds => (ds.mapM (rz n m f)).map (.ins c ns)
    | .hdl k => match m[k]? with
      | some (.lst ds) => (ds.mapM (rz n m f)).map .lst
      | some (.dic b ks vs) => if olds n ks = true then (vs.mapM (rz n m f)).map (.dic b ks) else none
      | some (.ins c ns ds) => (ds.mapM (rz n m f)).map (.ins c ns)
      | _ => none
    | _ => none
def rzO (n : Nat) (m : Mem) : Ob → Option Ob
  | .lst ds => (ds.mapM (rz n m 60)).map .lst
  | .dic b ks vs => if olds n ks = true then (vs.mapM (rz n m 60)).map (.dic b ks) else none
  | .ins c ns ds => (ds.mapM (rz n m 60)).map (.ins c ns)
  | .lok _ _ _ => none
open Classical in
noncomputable def cutL (n : Nat) (m : Mem) : List Ob → List Ob → Option (List Ob)
  | o0 :: r0, o :: r => (if o = o0 then some o else rzO n m o).bind fun o' => (cutL n m r0 r).map (o' :: ·)
  | [], _ => some []
  | _ :: _, [] => none
noncomputable def exit_ (m0 : Mem) (d : D) (m : Mem) : Rs D := if m.length = m0.length then .ok d m else match rz m0.length m 60 d, cutL m0.length m m0 m with
  | some d', some m' => .ok d' m'
  | _, _ => .no
noncomputable def exitX (m0 : Mem) (x : Exn) (m : Mem) : Rs D := if m.length = m0.length then .ex x m else match x.ds.mapM (rz m0.length m 60), cutL m0.length m m0 m with
  | some ds, some m' => .ex ⟨x.c, x.ns, ds⟩ m'
  | _, _ => .no
section
variable {z : Z} {X B H : Hp} {μ ν : List Addr} {m m0 : Mem}
/-- what is known besides: the own objects as they stand -/
def bcut (ν : List Addr) (B H : Hp) : Hp := fun a => if a ∈ ν then H a else B a
theorem bcut_ex (h : ∀ a ∈ ν, B a = none) : Ex B (bcut ν B H) := fun a o ha => by
  unfold bcut
  rw [if_neg fun c => by rw [h a c] at ha; exact nomatch ha]
  exact ha
theorem bcut_gr (h : ∀ a ∈ ν, B a = none) (hx : ∀ a ∈ ν, X a = none) : Gr X B (bcut ν B H) := ⟨bcut_ex h, fun a ha hxa => by
  unfold bcut
  rw [if_neg fun c => hxa (hx a c)]
  exact ha⟩
theorem bcut_h (e : Ex B H) : Ex (bcut ν B H) H := fun a o ha => by
  unfold bcut at ha
  split at ha
  · exact ha
  · exact e a o ha
mutual
theorem At.old (e : Ex B H) : ∀ {v : V} {d : D}, At z (μ ++ ν) B v d → DY.old μ.length d = true → At z μ H v d
  | _, _, .non, _ => .non
  | _, _, .bl b, _ => .bl b
  | _, _, .int i, _ => .int i
  | _, _, .str x, _ => .str x
  | _, _, .lst h hs, k => .lst (e _ _ h) (Ats.old e hs (by unfold DY.old at k; exact k))
  | _, _, .frz h hs, k => .frz (ex_l e h) (Ats.old e hs (by unfold DY.old at k; exact k))
  | _, _, .tup h hs, k => .tup (ex_t e h) (Ats.old e hs (by unfold DY.old at k; exact k))
  | _, _, .dicK h k1 hs, k => .dicK (rd_ex e h) k1 (Ats.old e hs (by unfold DY.old at k; exact (Bool.and_eq_true_iff.mp k).2))
  | _, _, .dicM h k1 hs, k => .dicM h k1 (Ats.old e hs (by unfold DY.old at k; exact (Bool.and_eq_true_iff.mp k).2))
  | _, _, .dicN h k1 k2 hk hs, k => .dicN (rd_ex e h) (dnk_ex e k1) k2 (Ats.old e hk (by unfold DY.old at k; exact (Bool.and_eq_true_iff.mp k).1)) (Ats.old e hs (by unfold DY.old at k; exact (Bool.and_eq_true_iff.mp k).2))
  | _, _, .ins h k1 hs, k => .ins (e _ _ h) k1 (Ats.old e hs (by unfold DY.old at k; exact k))
  | _, _, .hdl h, k => .hdl (by
      unfold DY.old at k
      rw [List.getElem?_append_left (of_decide_eq_true k)] at h
      exact h)
theorem Ats.old (e : Ex B H) : ∀ {xs : List V} {ds : List D}, Ats z (μ ++ ν) B xs ds → olds μ.length ds = true → Ats z μ H xs ds
  | _, _, .nil, _ => .nil
  | _, _, .cons h hs, k => by
    unfold olds at k
    obtain ⟨k1, k2⟩ := Bool.and_eq_true_iff.mp k
    exact .cons (At.old e h k1) (Ats.old e hs k2)
end
theorem keys_old {n : Nat} : ∀ {α : Type} {kvs : List α} {f : α → Key} {ks : List D}, kvs.map (fun p => some (f p)) = ks.map dKey → olds n ks = true
  | _, _, _, [], _ => rfl
  | _, [], _, _ :: _, h => nomatch h
  | _, p :: r, f, d :: ds, h => by
    rw [List.map_cons, List.map_cons] at h
    obtain ⟨h1, h2⟩ := List.cons.inj h
    have h3 : DY.old n d = true := by cases d <;> first | rfl | exact nomatch h1
    show (DY.old n d && olds n ds) = true
    rw [h3, keys_old h2]
    rfl
theorem str_old {n : Nat} {l : List (Str × V)} : olds n (l.map fun q => D.str q.1) = true := by
  induction l with
  | nil => rfl
  | cons q r ih => exact ih
mutual
/-- what is described has no handle of later -/
theorem At.is_old : ∀ {v : V} {d : D}, At z μ B v d → DY.old μ.length d = true
  | _, _, .non => rfl
  | _, _, .bl b => rfl
  | _, _, .int i => rfl
  | _, _, .str x => rfl
  | _, _, .lst h hs => Ats.is_old hs
  | _, _, .frz h hs => Ats.is_old hs
  | _, _, .tup h hs => Ats.is_old hs
  | _, _, .dicK h k hs => Bool.and_eq_true_iff.mpr ⟨keys_old (f := fun (p : Key × V) => p.1) k, Ats.is_old hs⟩
  | _, _, .dicM h k hs => Bool.and_eq_true_iff.mpr ⟨by rw [k]; exact str_old, Ats.is_old hs⟩
  | _, _, .dicN h k1 k2 hk hs => Bool.and_eq_true_iff.mpr ⟨Ats.is_old hk, Ats.is_old hs⟩
  | _, _, .ins h k hs => Ats.is_old hs
  | _, _, .hdl h => decide_eq_true (List.getElem?_eq_some_iff.mp h).1
theorem Ats.is_old : ∀ {xs : List V} {ds : List D}, Ats z μ B xs ds → olds μ.length ds = true
  | _, _, .nil => rfl
  | _, _, .cons h hs => Bool.and_eq_true_iff.mpr ⟨At.is_old h, Ats.is_old hs⟩
end
section
variable (M : Me z X (μ ++ ν) B H m)
include M
theorem nuB : ∀ a ∈ ν, B a = none := fun a ha => M.nb a (List.mem_append_right _ ha)
theorem bc_ex : Ex B (bcut ν B H) := bcut_ex (nuB M)
theorem rzs_ok {f : D → Option D} (hf : ∀ (v : V) (d e : D), At z (μ ++ ν) B v d → f d = some e → At z μ (bcut ν B H) v e) : ∀ {xs : List V} {ds es : List D}, Ats z (μ ++ ν) B xs ds → ds.mapM f = some es → Ats z μ (bcut ν B H) xs es
  | _, _, es, .nil, h => by
    have h : some ([] : List D) = some es := h
    cases h
    exact .nil
  | _, d :: ds, es, .cons hx hs, h => by
    rw [List.mapM_cons] at h
    obtain ⟨v, h1, h⟩ := Option.bind_eq_some_iff.mp h
    obtain ⟨ws, h2, h⟩ := Option.bind_eq_some_iff.mp h
    cases h
    exact .cons (hf _ _ _ hx h1) (rzs_ok hf hs h2)
theorem rz_ok : ∀ (f : Nat) (v : V) (d e : D), At z (μ ++ ν) B v d → rz μ.length m f d = some e → At z μ (bcut ν B H) v e
  | 0, _, _, _, _, h => nomatch h
  | f + 1, v, d, e, a, h => by
    unfold rz at h
    split at h
    · rename_i ho
      cases h
      exact a.old (bc_ex M) ho
    · rename_i ho
      have ex := bc_ex M
      split at h
      · rename_i ds
        obtain ⟨es, h1, rfl⟩ := Option.map_eq_some_iff.mp h
        cases a with
        | lst h2 h3 => exact .lst (ex _ _ h2) (rzs_ok M (rz_ok f) h3 h1)
      · rename_i ds
        obtain ⟨es, h1, rfl⟩ := Option.map_eq_some_iff.mp h
        cases a with
        | tup h2 h3 => exact .tup (ex_t ex h2) (rzs_ok M (rz_ok f) h3 h1)
      · rename_i b ks vs
        split at h
        · rename_i hk
          obtain ⟨es, h1, rfl⟩ := Option.map_eq_some_iff.mp h
          cases a with
          | dicK h2 h3 h4 => exact .dicK (rd_ex ex h2) h3 (rzs_ok M (rz_ok f) h4 h1)
          | dicM h2 h3 h4 => exact .dicM h2 h3 (rzs_ok M (rz_ok f) h4 h1)
          | dicN h2 h3 h4 h5 h6 => exact .dicN (rd_ex ex h2) (dnk_ex ex h3) h4 (h5.old ex hk) (rzs_ok M (rz_ok f) h6 h1)
        · exact nomatch h
      · rename_i cc ns ds
        obtain ⟨es, h1, rfl⟩ := Option.map_eq_some_iff.mp h
        cases a with
        | ins h2 h3 h4 => exact .ins (ex _ _ h2) h3 (rzs_ok M (rz_ok f) h4 h1)
      · rename_i k
        cases a with
        | hdl ha =>
          rename_i a
          have hk : ¬ k < μ.length := fun c => ho (decide_eq_true c)
          have hn : a ∈ ν := by
            rw [List.getElem?_append_right (by omega)] at ha
            exact List.mem_of_getElem? ha
          have hb : ∀ u, H a = some u → bcut ν B H a = some u := fun u hu => by unfold bcut; rw [if_pos hn]; exact hu
          split at h
          · rename_i ds hm
            obtain ⟨es, h1, rfl⟩ := Option.map_eq_some_iff.mp h
            obtain ⟨xs, h2, h3⟩ := M.ob _ _ _ ha hm
            exact .lst (hb _ h2) (rzs_ok M (rz_ok f) h3 h1)
          · rename_i b ks vs hm
            split at h
            · rename_i hks
              obtain ⟨es, h1, rfl⟩ := Option.map_eq_some_iff.mp h
              cases b with
              | false =>
                obtain ⟨kvs, h2, h3, h4⟩ := M.ob _ _ _ ha hm
                exact .dicK (.inl (hb _ h2)) h3 (rzs_ok M (rz_ok f) h4 h1)
              | true =>
                obtain ⟨kvs, h2, h3, h4, h5, h6⟩ := M.ob _ _ _ ha hm
                exact .dicN (.inl (hb _ h2)) (dnk_ex ex h3) h4 (h5.old ex hks) (rzs_ok M (rz_ok f) h6 h1)
            · exact nomatch h
          · rename_i cc ns ds hm
            obtain ⟨es, h1, rfl⟩ := Option.map_eq_some_iff.mp h
            obtain ⟨dx, fs, h2, h3, h4⟩ := M.ob _ _ _ ha hm
            exact .ins (hb _ h2) h3 (rzs_ok M (rz_ok f) h4 h1)
          · exact nomatch h
      · exact nomatch h
theorem rzO_ok {a : Addr} {o o' : Ob} (h : ObAt z (μ ++ ν) B H a o) (e : rzO μ.length m o = some o') : ObAt z μ (bcut ν B H) H a o' := by
  have ex := bc_ex M
  cases o with
  | lst ds =>
    obtain ⟨es, h1, rfl⟩ := Option.map_eq_some_iff.mp e
    obtain ⟨xs, h2, h3⟩ := h
    exact ⟨xs, h2, rzs_ok M (rz_ok M 60) h3 h1⟩
  | dic b ks vs =>
    have e : (if olds μ.length ks = true then (vs.mapM (rz μ.length m 60)).map (Ob.dic b ks) else none) = some o' := e
    split at e
    · rename_i hks
      obtain ⟨es, h1, rfl⟩ := Option.map_eq_some_iff.mp e
      cases b with
      | false =>
        obtain ⟨kvs, h2, h3, h4⟩ := h
        exact ⟨kvs, h2, h3, rzs_ok M (rz_ok M 60) h4 h1⟩
      | true =>
        obtain ⟨kvs, h2, h3, h4, h5, h6⟩ := h
        exact ⟨kvs, h2, dnk_ex ex h3, h4, h5.old ex hks, rzs_ok M (rz_ok M 60) h6 h1⟩
    · exact nomatch e
  | ins cc ns ds =>
    obtain ⟨es, h1, rfl⟩ := Option.map_eq_some_iff.mp e
    obtain ⟨dx, fs, h2, h3, h4⟩ := h
    exact ⟨dx, fs, h2, h3, rzs_ok M (rz_ok M 60) h4 h1⟩
  | lok n ks vs => exact nomatch e
/-- an object that is described with what was known at the entry -/
theorem ob_old {a : Addr} {o : Ob} {B0 H0 : Hp} (h : ObAt z (μ ++ ν) B H a o) (k : ObAt z μ B0 H0 a o) : ObAt z μ (bcut ν B H) H a o := by
  have ex := bc_ex M
  cases o with
  | lst ds =>
    obtain ⟨xs, h2, h3⟩ := h
    obtain ⟨_, _, k3⟩ := k
    exact ⟨xs, h2, h3.old ex k3.is_old⟩
  | dic b ks vs =>
    cases b with
    | false =>
      obtain ⟨kvs, h2, h3, h4⟩ := h
      obtain ⟨_, _, _, k4⟩ := k
      exact ⟨kvs, h2, h3, h4.old ex k4.is_old⟩
    | true =>
      obtain ⟨kvs, h2, h3, h4, h5, h6⟩ := h
      obtain ⟨_, _, _, _, k5, k6⟩ := k
      exact ⟨kvs, h2, dnk_ex ex h3, h4, h5.old ex k5.is_old, h6.old ex k6.is_old⟩
  | ins cc ns ds =>
    obtain ⟨dx, fs, h2, h3, h4⟩ := h
    obtain ⟨_, _, _, _, k4⟩ := k
    exact ⟨dx, fs, h2, h3, h4.old ex k4.is_old⟩
  | lok n ks vs =>
    cases n with
    | false =>
      obtain ⟨o, kvs, h2, h3, h4⟩ := h
      obtain ⟨_, _, _, _, k4⟩ := k
      exact ⟨o, kvs, h2, h3, h4.old ex k4.is_old⟩
    | true =>
      obtain ⟨o, kvs, h2, h3, h4, h5, h6⟩ := h
      obtain ⟨_, _, _, _, _, k5, k6⟩ := k
      exact ⟨o, kvs, h2, dnk_ex ex h3, h4, h5.old ex k5.is_old, h6.old ex k6.is_old⟩
end
theorem cutL_at {n : Nat} : ∀ {m0 mm m' : List Ob}, cutL n m m0 mm = some m' → m'.length = m0.length ∧ ∀ (k : Nat) (o' : Ob), m'[k]? = some o' → ∃ o0 o, m0[k]? = some o0 ∧ mm[k]? = some o ∧ ((o = o0 ∧ o' = o) ∨ rzO n m o = some o')
  | [], _, m', h => by
    unfold cutL at h
    cases h
    exact ⟨rfl, fun k o h => nomatch h⟩
  | _ :: _, [], _, h => by unfold cutL at h; exact nomatch h
  | o0 :: r0, o :: r, m', h => by
    unfold cutL at h
    obtain ⟨o', h1, h2⟩ := Option.bind_eq_some_iff.mp h
    obtain ⟨r', h3, rfl⟩ := Option.map_eq_some_iff.mp h2
    obtain ⟨h4, h5⟩ := cutL_at h3
    refine ⟨congrArg (· + 1) h4, fun k u hu => ?_⟩
    cases k with
    | zero =>
      cases hu
      refine ⟨o0, o, rfl, rfl, ?_⟩
      split at h1
      · rename_i e; cases h1; exact .inl ⟨e, rfl⟩
      · exact .inr h1
    | succ k => exact h5 k u hu
/-- the end of a def: what was its own is known and stays -/
theorem Me.cut {B0 H0 : Hp} {m' : Mem} (M0 : Me z X μ B0 H0 m0) (M : Me z X (μ ++ ν) B H m) (hm : cutL m0.length m m0 m = some m') : Gw X B (μ ++ ν) (bcut ν B H) (μ ++ ν) ∧ Me z X μ (bcut ν B H) H m' := by
  obtain ⟨h1, h2⟩ := cutL_at hm
  refine ⟨⟨bcut_gr (nuB M) fun a ha => M.nx a (List.mem_append_right _ ha), List.prefix_refl _⟩, bcut_h M.bh, M.xh, by rw [h1, M0.len], M0.nd, fun n a o hn ho => ?_, fun a ha => ?_, fun a ha => M.nx a (List.mem_append_left _ ha)⟩
  · obtain ⟨o0, o1, h3, h4, h5⟩ := h2 n o ho
    have hn' : (μ ++ ν)[n]? = some a := by rw [List.getElem?_append_left (List.getElem?_eq_some_iff.mp hn).1]; exact hn
    have ob := M.ob n a o1 hn' h4
    rcases h5 with ⟨rfl, rfl⟩ | h5
    · exact ob_old M ob (M0.ob n a _ hn h3)
    · rw [← M0.len] at h5
      exact rzO_ok M ob h5
  · have hni : a ∉ ν := fun c => (List.nodup_append.mp M.nd).2.2 a ha a c rfl
    unfold bcut
    rw [if_neg hni]
    exact M.nb a (List.mem_append_left _ ha)
end
/-! ### contracts -/
abbrev Fn := List D → Mem → Rs D
def OutF (z : Z) (X : Hp) (μ : List Addr) (B : Hp) (r : Rs D) (Q : VK) (E : XK) : Prop := match r with
  | .no => False
  | .ok d m' => ∀ v H' B' μ', Gw X B μ B' μ' → At z μ' B' v d → Me z X μ' B' H' m' → Q v H'
  | .ex x m' => ∀ cls dd H' B' μ', Gw X B μ B' μ' → XAt z μ' B' cls dd x → Me z X μ' B' H' m' → E cls dd H'
def spF (z : Z) (fn : Fn) : Sp := fun vs H Q E => ∃ X B μ m ds, Me z X μ B H m ∧ Ats z μ B vs ds ∧ OutF z X μ B (fn ds m) Q E
/-- n slots, k parameters; its own objects are values behind it -/
def start0 (n : Nat) (ds : List D) : Sv := ds.map some ++ List.replicate (n - ds.length) none
noncomputable def run (n k : Nat) (s : FS) : Fn := fun ds m => if ds.length = k ∧ k ≤ n then match s (start0 n ds) m with
    | .rt d m' => exit_ m d m'
    | .nx _ m' => exit_ m .non m'
    | .ex x _ m' => exitX m x m'
    | _ => .no
  else .no
section
variable {z : Z} {X B H : Hp} {μ : List Addr} {m : Mem}
theorem En.start {xi : XI} {vs : List V} {ds : List D} {N : List Str} (M : Me z X μ B H m) (h : Ats z μ B vs ds) (hx : xi.x = none) (hN : ds.length ≤ N.length) : En z xi X (start0 N.length ds) m μ (L2.start N vs) B H := by
  have hl := h.len
  refine ⟨M, ?_, fun j d hj => ?_, fun x hx' => by rw [hx] at hx'; exact nomatch hx'⟩
  · unfold start0 L2.start
    rw [List.length_append, List.length_append, List.length_map, List.length_map, List.length_replicate, List.length_replicate]
    omega
  · unfold start0 at hj
    by_cases c : j < (ds.map some).length
    · rw [List.getElem?_append_left c, List.getElem?_map] at hj
      cases q : ds[j]? with
      | none => rw [q] at hj; exact nomatch hj
      | some d' =>
        rw [q] at hj
        cases hj
        obtain ⟨v, h1, h2⟩ := h.get q
        refine ⟨v, ?_, h2⟩
        unfold L2.start
        rw [List.getElem?_append_left (by rw [List.length_map]; exact (List.getElem?_eq_some_iff.mp h1).1), List.getElem?_map, h1]
        rfl
    · rw [List.getElem?_append_right (by omega)] at hj
      have := (List.mem_replicate.mp (List.mem_of_getElem? hj)).2
      exact nomatch this
theorem exit_ok {d : D} {m' : Mem} {Q : VK} {E : XK} (M0 : Me z X μ B H m) (h : OutF z X μ B (exit_ m d m') Q E) : ∀ v H' B' μ', Gw X B μ B' μ' → At z μ' B' v d → Me z X μ' B' H' m' → Q v H' := fun v H' B' μ' g a M => by
  unfold exit_ at h
  split at h
  · exact h v H' B' μ' g a M
  · split at h
    · rename_i d' m2 h1 h2
      obtain ⟨ν, rfl⟩ := g.p
      obtain ⟨g2, M2⟩ := Me.cut M0 M h2
      rw [← M0.len] at h1
      exact h v H' _ μ ⟨g.g.trans g2.g, List.prefix_refl _⟩ (rz_ok M 60 v d d' a h1) M2
    · exact h.elim
theorem exitX_ok {x : Exn} {m' : Mem} {Q : VK} {E : XK} (M0 : Me z X μ B H m) (h : OutF z X μ B (exitX m x m') Q E) : ∀ cls dd H' B' μ', Gw X B μ B' μ' → XAt z μ' B' cls dd x → Me z X μ' B' H' m' → E cls dd H' := fun cls dd H' B' μ' g a M => by
  unfold exitX at h
  split at h
  · exact h cls dd H' B' μ' g a M
  · split at h
    · rename_i ds m2 h1 h2
      obtain ⟨ν, rfl⟩ := g.p
      obtain ⟨g2, M2⟩ := Me.cut M0 M h2
      rw [← M0.len] at h1
      refine h cls dd H' _ μ ⟨g.g.trans g2.g, List.prefix_refl _⟩ ⟨a.1, ?_⟩ M2
      obtain ⟨_, a⟩ := a
      cases dd with
      | none =>
        obtain ⟨a1, a2⟩ := a
        rw [a2] at h1
        have h1 : some ([] : List D) = some ds := h1
        cases h1
        exact ⟨a1, rfl⟩
      | some e =>
        obtain ⟨fs, a1, a2, a3⟩ := a
        exact ⟨fs, g2.g.ex _ _ a1, a2, rzs_ok M (rz_ok M 60) a3 h1⟩
    · exact h.elim
end
/-- the context of a def's body -/
abbrev cOf (P : Program) (w : World) (K : PySem.W.Frag) (E : XK) : Cc := ⟨⟨P, w, K⟩, ⟨1000000, 0, .none, none, none⟩, fun cls d _ H => E cls d H⟩
section
variable {P : Program} {w : World} {K : PySem.W.Frag}
theorem run_len {n k : Nat} {s : FS} {vs : List V} {H : Hp} {Q : VK} {E : XK} (h : spF ⟨P, w, K⟩ (run n k s) vs H Q E) : vs.length = k := by
  obtain ⟨X, B, μ, m, ds, M, a, o⟩ := h
  unfold run at o
  split at o
  · rename_i hc; rw [a.len]; exact hc.1
  · exact o.elim
theorem run_ok {n k : Nat} {N : List Str} {s : FS} {vs : List V} {H : Hp} {Q : VK} {E : XK} (h : spF ⟨P, w, K⟩ (run n k s) vs H Q E) (hN : N.length = n) : tsF (cOf P w K E) s { nx := fun _ H' => Q .non H', rt := Q } (L2.start N vs) H := by
  subst hN
  obtain ⟨X, B, μ, m, ds, M, a, o⟩ := h
  unfold run at o
  split at o
  · rename_i hc
    refine ⟨X, start0 N.length ds, m, μ, B, En.start M a rfl (by omega), ?_⟩
    cases hs : s (start0 N.length ds) m with
    | no => rw [hs] at o; exact o.elim
    | bk e m' => rw [hs] at o; exact o.elim
    | ct e m' => rw [hs] at o; exact o.elim
    | nx e m' => rw [hs] at o; exact fun σ' H' B' μ' g I => exit_ok M o .non H' B' μ' g .non I.me
    | rt d m' => rw [hs] at o; exact fun v H' B' μ' g a I => exit_ok M o v H' B' μ' g a I
    | ex x e m' => rw [hs] at o; exact fun cls dd σ' H' B' μ' g a I => exitX_ok M o cls dd H' B' μ' g a I.me
  · exact o.elim
end
/-! ### calls -/
structure OkG (P : Program) (w : World) (K : PySem.W.Frag) (mg : Str → Option Value) (base : Heap) (k : Nat) (x : Str) (ps : List Str) (sp : Sp) : Prop where
  ex : ∃ (f : Addr) (fd : FuncData), mg x = some (.ref f) ∧ PySem.W.keepIn K (.ref f) = true ∧ FnOk P w K mg base (L2.CX P w) k f fd ps sp ∧ Binds K fd ps []
def eCall (fn : Fn) (fa : FA) : FE := fun env m => (fa env m).bind fun ds m1 => fn ds m1
section
variable {c : Cc} {fn : Fn} {fa : FA}
/-- at the call: what stands besides is all but the objects that change -/
theorem call_out {X B H : Hp} {env : Sv} {σ : L2.St} {μ : List Addr} {m : Mem} {ds : List D} {vs : List V} {Q : VK} (I : En c.z c.xi X env m μ σ B H) (a : Ats c.z μ B vs ds) (o : Out c X env σ μ B (At c.z) (fn ds m) Q) : spF c.z fn vs H Q (fun cls d H' => c.W cls d σ H') := by
  refine ⟨fun a => if a ∈ μ then none else H a, B, μ, m, ds, I.me.wid (fun a o h => ?_) (fun a ha => if_pos ha), a, ?_⟩
  · have h : (if a ∈ μ then none else H a) = some o := h
    split at h
    · exact nomatch h
    · exact h
  · have back : ∀ {B' μ'}, Gw (fun a => if a ∈ μ then none else H a) B μ B' μ' → Gw X B μ B' μ' := fun {B' μ'} g => ⟨⟨g.g.ex, fun a ha hxa => g.g.av a ha (by
      show (if a ∈ μ then none else H a) ≠ none
      rw [if_neg fun k => hxa (I.me.nx a k)]
      exact ex_ne I.me.xh hxa)⟩, g.p⟩
    have mem : ∀ {B' μ' H' m'}, Gw (fun a => if a ∈ μ then none else H a) B μ B' μ' → Me c.z (fun a => if a ∈ μ then none else H a) μ' B' H' m' → En c.z c.xi X env m' μ' σ B' H' := fun {B' μ' H' m'} g M => I.mem (M.wid (fun a o h => M.xh a o (by
      show (if a ∈ μ then none else H a) = some o
      rw [if_neg fun k => by rw [I.me.nx a k] at h; exact nomatch h]
      exact I.me.xh a o h)) fun a ha => by
        have e := M.nx a ha
        have e : (if a ∈ μ then none else H a) = none := e
        split at e
        · rename_i k; exact I.me.nx a k
        · exact none_of I.me.xh e) g.g.ex g.p
    cases hf : fn ds m with
    | no => rw [hf] at o; exact o
    | ok d m' => rw [hf] at o; exact fun v H' B' μ' g a M => o v H' B' μ' (back g) a (mem g M)
    | ex x m' => rw [hf] at o; exact fun cls dd H' B' μ' g a M => o cls dd H' B' μ' (back g) a (mem g M)
theorem te_call {σ : L2.St} {H : Hp} {Q : VK} : teF c (eCall fn fa) σ H Q → tCallS (spF c.z fn) (WE c.W) (taF c fa) σ H Q := fun ⟨X1, env, m, μ, B, I, o⟩ => ⟨X1, env, m, μ, B, I, out_seq o fun ds m1 vs H1 B1 μ1 g1 a I1 o1 => call_out I1 a o1⟩
variable {X : Cx}
theorem d_call {x : Str} {e : Expr} {es : List Expr} {p pos : Pos} {k j : Nat} {ps : List Str} (O : OkG X.prog X.w X.K X.mg X.base k x ps (spF c.z fn)) (tk : Takes X c.W) (hr : Room j X.A) (hj : k ≤ j) (ha : PA X (e :: es) (taF c fa)) (hg : Gl X x := by rfl)
    (hdb : (x == ("__debug__" : Str)) = false := by decide) (he : starEach (e :: es) X.env = (false, eval e X.env) :: starEach es X.env := by rfl) (hpl : (backTo pos (starEach es X.env)).any (·.1) = false := by rfl) :
    PE X (.Call (.Name x p) (e :: es) [] pos) (teF c (eCall fn fa)) := by
  obtain ⟨f, fd, gm, kp, F, b⟩ := O.ex
  exact pe_mono (pe_callS F (hr.mono hj) hg gm kp b (fun σ => passAt tk σ) ha hdb he hpl) fun σ H Q h => te_call h
theorem d_call0 {x : Str} {p pos : Pos} {k j : Nat} {ps : List Str} (O : OkG X.prog X.w X.K X.mg X.base k x ps (spF c.z fn)) (tk : Takes X c.W) (hr : Room j X.A) (hj : k ≤ j) (hg : Gl X x := by rfl)
    (hdb : (x == ("__debug__" : Str)) = false := by decide) : PE X (.Call (.Name x p) [] [] pos) (teF c (eCall fn aN)) := by
  obtain ⟨f, fd, gm, kp, F, b⟩ := O.ex
  refine ⟨fun pins s σ H Q I h => ?_⟩
  obtain ⟨X1, env, m, μ, B, I1, o⟩ := h
  refine wpAny_Call_Name_kw (ld_glob I hg gm ?_ hdb)
  exact PySem.W.callWith_K0 I.kIn kp (run_fnS (us := []) F (hr.mono hj) b (passAt tk σ) I .nil (call_out I1 .nil o))
end
/-- from a def of the text -/
theorem okG {gloN freeN : List Str} {fnD : List He.DefD} {intN : List (Str × Int)} {tupN : List (Str × List He.Dv)} {ex : PySem.W.Frag → Bool} {K : PySem.W.Frag} {mg : Str → Option Value} {P : Program} {w : World} {base : Heap} {k : Nat} {ps : List Str} {sp : Sp} (T : TxC gloN freeN fnD intN tupN ex K mg) (i : Nat) {x : Str} {st : Stmt}
    (h : fnD[i]? = some (KH.dat (x, none) x st)) (hx : x ∈ gloN) (hF : ∀ f fd, Fun K x x st f fd → FnOk P w K mg base (L2.CX P w) k f fd ps sp)
    (hb : ∀ (kV doc pm : Value) (an : Option Addr) (cdv ct : Value) (us : List Value), us.length = ps.length → bindArgs (PySem.W.fnOf x x (defArgs st) (defBody st) (defScope st) .none kV doc pm an cdv ct) ⟨us, []⟩ = pure (ps.zip us)) : OkG P w K mg base k x ps sp := by
  obtain ⟨fd, F⟩ := T.t.fn i h
  exact ⟨_, fd, T.t.g x hx, F.kp, hF _ fd F, F.binds hb⟩
end DY
/-! defs read as functions over data: operators, builtins -/
namespace DY
open PySem PySem.Spec PyProof.Rows L2 Evl LX XV RX WS
/-- room for what is weighed by units only -/
def RoomU (A : Around) : Prop := A.units + 200 < cLine
theorem RoomU.units {A : Around} (r : RoomU A) : A.units + 64 < cLine := by unfold RoomU at r; omega
theorem RoomU.u65 {A : Around} (r : RoomU A) : A.units + 65 < cLine := by unfold RoomU at r; omega
theorem roomU {k : Nat} {A : Around} (r : Room k A) : RoomU A := by have := r.un; unfold RoomU; omega
section
variable {z : Z} {X B H : Hp} {μ : List Addr} {m : Mem} {x : V} {d : D} {Q : VK}
theorem flat (M : Me z X μ B H m) {v : V} (a : ∀ B, At z μ B v d) (q : ∀ v H' B', Ex H H' → Gr H B B' → Ex B' H' → At z μ B' v d → Q v H') : Q v H := q v H B (Ex.refl H) (Gr.refl _ _) M.bh (a B)
theorem same_ (M : Me z X μ B H m) {v : V} (a : At z μ B v d) (q : ∀ v H' B', Ex H H' → Gr H B B' → Ex B' H' → At z μ B' v d → Q v H') : Q v H := q v H B (Ex.refl H) (Gr.refl _ _) M.bh a
theorem newL (M : Me z X μ B H m) {xs : List V} {ds : List D} (a : Ats z μ B xs ds) (q : ∀ v H' B', Ex H H' → Gr H B B' → Ex B' H' → At z μ B' v (.lst ds) → Q v H') {p : Addr} (hp : H p = none) : Q (.ref p) (upd H p (.lst xs)) :=
  have g : Gr H B (upd B p (.lst xs)) := gr_new (none_of M.bh hp) hp
  q _ _ _ (Ex.new hp) g (ex_both' M.bh) (.lst upd_same (a.ex g.ex))
theorem newT (M : Me z X μ B H m) {xs : List V} {ds : List D} (a : Ats z μ B xs ds) (q : ∀ v H' B', Ex H H' → Gr H B B' → Ex B' H' → At z μ B' v (.tup ds) → Q v H') {p : Addr} (hp : H p = none) : Q (.ref p) (upd H p (.tup xs)) :=
  have g : Gr H B (upd B p (.tup xs)) := gr_new (none_of M.bh hp) hp
  q _ _ _ (Ex.new hp) g (ex_both' M.bh) (.tup (st_of upd_same) (a.ex g.ex))
end
/-! ### + -/
def gAdd (m : Mem) (a b : D) : Option D := match lk m a, lk m b with
  | .int i, .int j => some (.int (i + j))
  | .str i, .str j => if i.length + j.length ≤ big then some (.str (i ++ j)) else none
  | .tup xs, .tup ys => if xs.length + ys.length ≤ big then some (.tup (xs ++ ys)) else none
  | .lst xs, .lst ys => if xs.length + ys.length ≤ big then some (.lst (xs ++ ys)) else none
  | _, _ => none
def rAddU (K : PySem.W.Frag) : R2 := fun x y H Q => (rI0 (fun i j => V.int (i + j)) x y H Q ∨ ∃ i j, x = .str i ∧ y = .str j ∧ i.length + j.length ≤ sizeLine ∧ Q (.str (i ++ j)) H) ∨ rCatA K x y H Q ∨ rCat x y H Q
theorem r_add {z : Z} : R2ok z (rAddU z.K) gAdd := fun {X B H μ m x y a b d} M ha hb hg Q q => by
  unfold gAdd at hg
  split at hg
  · rename_i i j h1 h2
    cases hg
    cases vw_int ha h1
    cases vw_int hb h2
    exact .inl (.inl ⟨i, j, rfl, rfl, flat M (fun B => .int _) q⟩)
  · rename_i i j h1 h2
    split at hg
    · rename_i hl
      cases hg
      cases vw_str ha h1
      cases vw_str hb h2
      exact .inl (.inr ⟨i, j, rfl, rfl, le_big hl, flat M (fun B => .str _) q⟩)
    · exact nomatch hg
  · rename_i xs ys h1 h2
    split at hg
    · rename_i hl
      cases hg
      obtain ⟨p, us, rfl, k1, k0, k2, k3⟩ := vw_tup M ha h1
      obtain ⟨r, ws, rfl, k4, k6, k5, k7⟩ := vw_tup M hb h2
      refine .inr (.inl ⟨p, r, us, ws, rfl, rfl, k1, k4, le_big (by rw [k2.len, k5.len]; exact hl), fun e => ?_, fun _ e => ?_, fun _ _ l hn => newT M (k2.append k5) q hn⟩)
      · subst e
        cases k2
        exact same_ M (.tup k6 k5) q
      · subst e
        cases k5
        rw [List.append_nil] at q
        exact same_ M (.tup k0 k2) q
    · exact nomatch hg
  · rename_i xs ys h1 h2
    split at hg
    · rename_i hl
      cases hg
      obtain ⟨p, us, rfl, k1, k2⟩ := vw_lst M ha h1
      obtain ⟨r, ws, rfl, k4, k5⟩ := vw_lst M hb h2
      exact .inr (.inr ⟨p, r, us, ws, rfl, rfl, k1, k4, le_big (by rw [k2.len, k5.len]; exact hl), fun l hn => newL M (k2.append k5) q hn⟩)
    · exact nomatch hg
  · exact nomatch hg
/-! ### - * // % ** & -/
def gI (f : Int → Int → Int) (_ : Mem) (a b : D) : Option D := match a, b with
  | .int i, .int j => some (.int (f i j))
  | _, _ => none
def gCmp (f : Int → Int → Bool) (_ : Mem) (a b : D) : Option D := match a, b with
  | .int i, .int j => some (.bl (f i j))
  | _, _ => none
def gIc (C : Int → Int → Bool) (f : Int → Int → Int) (_ : Mem) (a b : D) : Option D := match a, b with
  | .int i, .int j => if C i j = true then some (.int (f i j)) else none
  | _, _ => none
theorem r_int {z : Z} {f : Int → Int → Int} : R2ok z (rI0 fun i j => V.int (f i j)) (gI f) := fun {X B H μ m x y a b d} M ha hb hg Q q => by
  unfold gI at hg
  split at hg
  · cases hg; cases ha; cases hb
    exact ⟨_, _, rfl, rfl, flat M (fun B => .int _) q⟩
  · exact nomatch hg
theorem r_cmp {z : Z} {f : Int → Int → Bool} : R2ok z (rI0 fun i j => V.bl (f i j)) (gCmp f) := fun {X B H μ m x y a b d} M ha hb hg Q q => by
  unfold gCmp at hg
  split at hg
  · cases hg; cases ha; cases hb
    exact ⟨_, _, rfl, rfl, flat M (fun B => .bl _) q⟩
  · exact nomatch hg
theorem r_intC {z : Z} {C : Int → Int → Prop} {cc : Int → Int → Bool} {f : Int → Int → Int} (h : ∀ i j, cc i j = true → C i j) : R2ok z (rI C fun i j => V.int (f i j)) (gIc cc f) := fun {X B H μ m x y a b d} M ha hb hg Q q => by
  unfold gIc at hg
  split at hg
  · split at hg
    · rename_i hc
      cases hg; cases ha; cases hb
      exact ⟨_, _, rfl, rfl, h _ _ hc, flat M (fun B => .int _) q⟩
    · exact nomatch hg
  · exact nomatch hg
/-- not to be evaluated by the kernel: Classical.propDecidable stands in their way -/
noncomputable def cMul (i j : Int) : Bool := @decide ((-(2 ^ 64) < i ∧ i < 2 ^ 64) ∨ (-(2 ^ 64) < j ∧ j < 2 ^ 64)) (Classical.propDecidable _)
def cMod (_ j : Int) : Bool := decide (0 < j)
noncomputable def cDiv (_ j : Int) : Bool := @decide (0 < j ∧ j < 1073741824) (Classical.propDecidable _)
noncomputable def cPow (i j : Int) : Bool := @decide (0 ≤ j ∧ j ≤ 1000000 ∧ i.natAbs < 2 ^ 64) (Classical.propDecidable _)
def gNeg (_ : Mem) : D → Option D
  | .int i => some (.int (-i))
  | _ => none
theorem r_neg {z : Z} : R1ok z (rU fun i => .int (-i)) gNeg := fun {X B H μ m x a d} M ha hg Q q => by
  unfold gNeg at hg
  split at hg
  · cases hg; cases ha
    exact ⟨_, rfl, flat M (fun B => .int _) q⟩
  · exact nomatch hg
section
variable {X : Cx} {c : Cc} {a b : Expr} {fa fb : FE} {pos : Pos}
theorem d_add (ha : PE X a (teF c fa)) (hb : PE X b (teF c fb)) (hz : zx X = c.z := by rfl) : PE X (.BinOp a .Add b pos) (teF c (e2 gAdd fa fb)) := by
  have hK := kz hz
  exact d_bin (by rw [← hK]; exact opr_or (opr_or op_add op_add_str) (opr_or op_catA op_cat)) r_add ha hb
theorem d_sub (ha : PE X a (teF c fa)) (hb : PE X b (teF c fb)) : PE X (.BinOp a .Sub b pos) (teF c (e2 (gI fun i j => i - j) fa fb)) := d_bin op_sub r_int ha hb
theorem d_mul (ha : PE X a (teF c fa)) (hb : PE X b (teF c fb)) : PE X (.BinOp a .Mult b pos) (teF c (e2 (gIc cMul fun i j => i * j) fa fb)) := d_bin op_mul (r_intC fun i j h => @of_decide_eq_true _ (Classical.propDecidable _) h) ha hb
theorem d_fdiv (ha : PE X a (teF c fa)) (hb : PE X b (teF c fb)) : PE X (.BinOp a .FloorDiv b pos) (teF c (e2 (gIc cDiv fun i j => i / j) fa fb)) := d_bin op_fdiv (r_intC fun i j h => @of_decide_eq_true _ (Classical.propDecidable _) h) ha hb
theorem d_mod (ha : PE X a (teF c fa)) (hb : PE X b (teF c fb)) : PE X (.BinOp a .Mod b pos) (teF c (e2 (gIc cMod fun i j => i % j) fa fb)) := d_bin op_mod (r_intC fun i j h => of_decide_eq_true h) ha hb
theorem d_pow (ha : PE X a (teF c fa)) (hb : PE X b (teF c fb)) : PE X (.BinOp a .Pow b pos) (teF c (e2 (gIc cPow fun i j => i ^ j.toNat) fa fb)) := d_bin op_pow (r_intC fun i j h => @of_decide_eq_true _ (Classical.propDecidable _) h) ha hb
theorem d_neg (ha : PE X a (teF c fa)) : PE X (.UnaryOp .USub a pos) (teF c (e1 gNeg fa)) := d_unR un_neg r_neg ha
end
/-! ### comparisons -/
abbrev pLt : Int → Int → Bool := fun i j => decide (i < j)
abbrev pLe : Int → Int → Bool := fun i j => decide (i ≤ j)
abbrev pGt : Int → Int → Bool := fun i j => decide (j < i)
abbrev pGe : Int → Int → Bool := fun i j => decide (j ≤ i)
section
variable {X : Cx} {c : Cc} {a b e : Expr} {fa fb fe : FE} {pos : Pos}
theorem dt_lt (ha : PE X a (teF c fa)) (hb : PE X b (teF c fb)) : PT X (.Compare a [.Lt] [b] pos) (ttF c (tB' (e2 (gCmp pLt) fa fb))) := dt_cmpR op_lt r_cmp ha hb (nomark _)
theorem dt_le (ha : PE X a (teF c fa)) (hb : PE X b (teF c fb)) : PT X (.Compare a [.LtE] [b] pos) (ttF c (tB' (e2 (gCmp pLe) fa fb))) := dt_cmpR op_le r_cmp ha hb (nomark _)
theorem dt_gt (ha : PE X a (teF c fa)) (hb : PE X b (teF c fb)) : PT X (.Compare a [.Gt] [b] pos) (ttF c (tB' (e2 (gCmp pGt) fa fb))) := dt_cmpR op_gt r_cmp ha hb (nomark _)
theorem dt_ge (ha : PE X a (teF c fa)) (hb : PE X b (teF c fb)) : PT X (.Compare a [.GtE] [b] pos) (ttF c (tB' (e2 (gCmp pGe) fa fb))) := dt_cmpR op_ge r_cmp ha hb (nomark _)
/-- a < b < c, of numbers -/
def eChain (p q : Int → Int → Bool) (fa fb fe : FE) : FE := fun env m => (fa env m).bind fun a m1 => (fb env m1).bind fun b m2 => match a, b with
  | .int i, .int j => if p i j = true then (fe env m2).bind fun e m3 => match e with
      | .int k => .ok (.bl (q j k)) m3
      | _ => .no
    else .ok (.bl false) m2
  | _, _ => .no
theorem te_chain {p q : Int → Int → Bool} {σ : L2.St} {H : Hp} {Q : VK} : teF c (eChain p q fa fb fe) σ H Q → tChain (rI0 fun i j => V.bl (p i j)) (rI0 fun i j => V.bl (q i j)) (teF c fa) (teF c fb) (teF c fe) σ H Q := fun ⟨X1, env, m, μ, B, I, o⟩ =>
  ⟨X1, env, m, μ, B, I, out_seq o fun a m1 x H1 B1 μ1 g1 hx I1 o1 => ⟨X1, env, m1, μ1, B1, I1, out_seq o1 fun b m2 y H2 B2 μ2 g2 hy I2 o2 => by
    split at o2
    · rename_i i j
      cases hx
      cases hy
      refine ⟨i, j, rfl, rfl, p i j, rfl, ?_⟩
      split at o2
      · rename_i hp
        rw [if_pos hp]
        refine ⟨X1, env, m2, μ2, B2, I2, out_seq o2 fun e m3 w H3 B3 μ3 g3 hw I3 o3 => ?_⟩
        split at o3
        · cases hw
          exact ⟨_, _, rfl, rfl, o3 _ H3 B3 μ3 Gw.refl (.bl _) I3⟩
        · exact o3.elim
      · rename_i hp
        rw [if_neg hp]
        exact o2 _ H2 B2 μ2 Gw.refl (.bl _) I2
    · exact o2.elim⟩⟩
theorem d_chain {op op' : CmpOp} {p q : Int → Int → Bool} (h : OpR X (compareOp op) (rI0 fun i j => V.bl (p i j))) (h' : OpR X (compareOp op') (rI0 fun i j => V.bl (q i j))) (ha : PE X a (teF c fa)) (hb : PE X b (teF c fb)) (he : PE X e (teF c fe)) (hm : lastMarks [op, op'] [b, e] = false := by with_unfolding_all rfl) : PE X (.Compare a [op, op'] [b, e] pos) (teF c (eChain p q fa fb fe)) := pe_mono (pe_chain h h' ha hb he hm) fun _ _ _ h => te_chain h
theorem dt_chain {op op' : CmpOp} {p q : Int → Int → Bool} (h : OpR X (compareOp op) (rI0 fun i j => V.bl (p i j))) (h' : OpR X (compareOp op') (rI0 fun i j => V.bl (q i j))) (ha : PE X a (teF c fa)) (hb : PE X b (teF c fb)) (he : PE X e (teF c fe)) (hm : lastMarks [op, op'] [b, e] = false := by with_unfolding_all rfl) : PT X (.Compare a [op, op'] [b, e] pos) (ttF c (tB' (eChain p q fa fb fe))) := pt_mono (pt_chain h h' ha hb he hm) fun _ _ _ h => tt_of (fun _ _ _ h => te_chain h) h
end
/-- == (n: !=) of data -/
def eqM (m : Mem) (a b : D) : Option Bool := match a.sv, b.sv with
  | some x, some y => if scal x y = true then some (decide (x = y)) else match pyM m a, pyM m b with
    | some p, some q => if SeqAt.shaped p = true ∧ SeqAt.shaped q = true then some (PyData.eqv p q) else none
    | _, _ => none
  | _, _ => match pyM m a, pyM m b with
    | some p, some q => if SeqAt.shaped p = true ∧ SeqAt.shaped q = true then some (PyData.eqv p q) else none
    | _, _ => none
def gEq (n : Bool) (m : Mem) (a b : D) : Option D := (eqM m a b).map fun r => .bl (xor n r)
theorem eqM_ok {z : Z} {X B H : Hp} {μ : List Addr} {m : Mem} {x y : V} {a b : D} {r : Bool} (M : Me z X μ B H m) (ha : At z μ B x a) (hb : At z μ B y b) (e : eqM m a b = some r) : (scal x y = true ∧ decide (x = y) = r) ∨ ∃ p q, Dp z.K H x p ∧ Dp z.K H y q ∧ SeqAt.shaped p = true ∧ SeqAt.shaped q = true ∧ PyData.eqv p q = r := by
  have deep : (match pyM m a, pyM m b with
    | some p, some q => if SeqAt.shaped p = true ∧ SeqAt.shaped q = true then some (PyData.eqv p q) else none
    | _, _ => none) = some r → ∃ p q, Dp z.K H x p ∧ Dp z.K H y q ∧ SeqAt.shaped p = true ∧ SeqAt.shaped q = true ∧ PyData.eqv p q = r := fun h => by
    split at h
    · rename_i p q h1 h2
      split at h
      · rename_i hs
        cases h
        exact ⟨p, q, pyM_ok M ha h1, pyM_ok M hb h2, hs.1, hs.2, rfl⟩
      · exact nomatch h
    · exact nomatch h
  unfold eqM at e
  split at e
  · rename_i u v h1 h2
    split at e
    · rename_i hs
      cases e
      rw [at_sv ha h1, at_sv hb h2]
      exact .inl ⟨hs, rfl⟩
    · exact .inr (deep e)
  · exact .inr (deep e)
def rEqU (K : PySem.W.Frag) : R2 := fun x y H Q => rEq x y H Q ∨ rEqD K x y H Q
def rNeU (K : PySem.W.Frag) : R2 := fun x y H Q => rNe x y H Q ∨ rNeD K x y H Q
theorem r_eq {z : Z} : R2ok z (rEqU z.K) (gEq false) := fun {X B H μ m x y a b d} M ha hb hg Q q => by
  obtain ⟨r, h1, rfl⟩ := Option.map_eq_some_iff.mp hg
  rw [Bool.false_xor] at q
  rcases eqM_ok M ha hb h1 with ⟨h2, h3⟩ | ⟨p, p', h2, h3, h4, h5, h6⟩
  · exact .inl ⟨h2, by rw [h3]; exact flat M (fun B => .bl _) q⟩
  · exact .inr ⟨p, p', h2, h3, h4, h5, by rw [h6]; exact flat M (fun B => .bl _) q⟩
theorem r_ne {z : Z} : R2ok z (rNeU z.K) (gEq true) := fun {X B H μ m x y a b d} M ha hb hg Q q => by
  obtain ⟨r, h1, rfl⟩ := Option.map_eq_some_iff.mp hg
  rw [Bool.true_xor] at q
  rcases eqM_ok M ha hb h1 with ⟨h2, h3⟩ | ⟨p, p', h2, h3, h4, h5, h6⟩
  · exact .inl ⟨h2, by rw [h3]; exact flat M (fun B => .bl _) q⟩
  · exact .inr ⟨p, p', h2, h3, h4, h5, by rw [h6]; exact flat M (fun B => .bl _) q⟩
section
variable {X : Cx} {c : Cc} {a b e : Expr} {fa fb fe : FE} {pos : Pos}
theorem o_eq (hu : X.A.units + 64 < cLine) (hz : zx X = c.z) : OpR X (compareOp .Eq) (rEqU c.z.K) := by
  have hK := kz hz
  rw [← hK]; exact opr_or op_eq (op_eqD hu)
theorem o_ne (hu : X.A.units + 64 < cLine) (hz : zx X = c.z) : OpR X (compareOp .NotEq) (rNeU c.z.K) := by
  have hK := kz hz
  rw [← hK]; exact opr_or op_ne (op_neD hu)
theorem d_eq (hr : RoomU X.A) (ha : PE X a (teF c fa)) (hb : PE X b (teF c fb)) (hz : zx X = c.z := by rfl) : PE X (.Compare a [.Eq] [b] pos) (teF c (e2 (gEq false) fa fb)) := d_cmpR (o_eq hr.units hz) r_eq ha hb (nomark _)
theorem d_ne (hr : RoomU X.A) (ha : PE X a (teF c fa)) (hb : PE X b (teF c fb)) (hz : zx X = c.z := by rfl) : PE X (.Compare a [.NotEq] [b] pos) (teF c (e2 (gEq true) fa fb)) := d_cmpR (o_ne hr.units hz) r_ne ha hb (nomark _)
theorem dt_eq (hr : RoomU X.A) (ha : PE X a (teF c fa)) (hb : PE X b (teF c fb)) (hz : zx X = c.z := by rfl) : PT X (.Compare a [.Eq] [b] pos) (ttF c (tB' (e2 (gEq false) fa fb))) := dt_cmpR (o_eq hr.units hz) r_eq ha hb (nomark _)
theorem dt_ne (hr : RoomU X.A) (ha : PE X a (teF c fa)) (hb : PE X b (teF c fb)) (hz : zx X = c.z := by rfl) : PT X (.Compare a [.NotEq] [b] pos) (ttF c (tB' (e2 (gEq true) fa fb))) := dt_cmpR (o_ne hr.units hz) r_ne ha hb (nomark _)
end
/-! ### in -/
def seqOf (m : Mem) (d : D) : Option (List D) := match lk m d with
  | .lst ds => some ds
  | .frz ds => some ds
  | .tup ds => some ds
  | _ => none
/-- flat values in lists and tuples, signs in texts, data in lists -/
def inM (m : Mem) (a b : D) : Option Bool := match a, b with
  | .str i, .str j => some (!(Builtin.Str.occurrences j i 0 j.length 1).isEmpty)
  | _, _ => match a.sv, (seqOf m b).bind fun ds => ds.mapM D.sv with
    | some v, some vs => some (inV v vs)
    | _, _ => match pyM m a, pyM m b with
      | some p, some (.list ps) => if SeqAt.shaped p = true ∧ SeqAt.shaped (.list ps) = true then some (ps.any fun q => PyData.eqv q p) else none
      | _, _ => none
def gIn (n : Bool) (m : Mem) (a b : D) : Option D := (inM m a b).map fun r => .bl (xor n r)
theorem vw_seq {z : Z} {X B H : Hp} {μ : List Addr} {m : Mem} {x : V} {d : D} {ds : List D} (M : Me z X μ B H m) (h : At z μ B x d) (e : seqOf m d = some ds) : ∃ p xs, x = .ref p ∧ (SqL z.K H p xs ∨ SqT z.K H p xs) ∧ Ats z μ B xs ds := by
  unfold seqOf at e
  split at e
  · rename_i es q; cases e
    obtain ⟨p, xs, rfl, h1, h2⟩ := vw_lst M h q
    exact ⟨p, xs, rfl, .inl (sq_of h1), h2⟩
  · rename_i es q; cases e
    obtain ⟨p, xs, rfl, h1, h2⟩ := vw_frz M h q
    exact ⟨p, xs, rfl, .inl h1, h2⟩
  · rename_i es q; cases e
    obtain ⟨p, xs, rfl, h1, _, h2, _⟩ := vw_tup M h q
    exact ⟨p, xs, rfl, .inr h1, h2⟩
  · exact nomatch e
theorem inM_ok {z : Z} {X B H : Hp} {μ : List Addr} {m : Mem} {x y : V} {a b : D} {r : Bool} (M : Me z X μ B H m) (ha : At z μ B x a) (hb : At z μ B y b) (e : inM m a b = some r) :
    (∃ i j, x = .str i ∧ y = .str j ∧ (!(Builtin.Str.occurrences j i 0 j.length 1).isEmpty) = r) ∨ (∃ p xs, y = .ref p ∧ (SqL z.K H p xs ∨ SqT z.K H p xs) ∧ flatV x = true ∧ xs.all flatV = true ∧ inV x xs = r) ∨ ∃ d ds, Dp z.K H x d ∧ Dp z.K H y (.list ds) ∧ SeqAt.shaped d = true ∧ SeqAt.shaped (.list ds) = true ∧ (ds.any fun w => PyData.eqv w d) = r := by
  unfold inM at e
  split at e
  · cases e; cases ha; cases hb
    exact .inl ⟨_, _, rfl, rfl, rfl⟩
  · split at e
    · rename_i v vs h1 h2
      cases e
      obtain ⟨ds, h3, h4⟩ := Option.bind_eq_some_iff.mp h2
      obtain ⟨p, xs, rfl, h5, h6⟩ := vw_seq M hb h3
      obtain ⟨rfl, h7⟩ := ats_sv h6 h4
      have := at_sv ha h1
      subst this
      exact .inr (.inl ⟨p, xs, rfl, h5, sv_flat h1, h7, rfl⟩)
    · split at e
      · rename_i p ps h1 h2
        split at e
        · rename_i hs
          cases e
          exact .inr (.inr ⟨p, ps, pyM_ok M ha h1, pyM_ok M hb h2, hs.1, hs.2, rfl⟩)
        · exact nomatch e
      · exact nomatch e
def rInU (K : PySem.W.Frag) : R2 := fun x y H Q => (∃ i j, x = .str i ∧ y = .str j ∧ Q (.bl (!(Builtin.Str.occurrences j i 0 j.length 1).isEmpty)) H) ∨ rIn K false x y H Q ∨ rInD K x y H Q
def rNinU (K : PySem.W.Frag) : R2 := fun x y H Q => rIn K true x y H Q ∨ rNotInD K x y H Q
theorem r_in {z : Z} : R2ok z (rInU z.K) (gIn false) := fun {X B H μ m x y a b d} M ha hb hg Q q => by
  obtain ⟨r, h1, rfl⟩ := Option.map_eq_some_iff.mp hg
  rw [Bool.false_xor] at q
  rcases inM_ok M ha hb h1 with ⟨i, j, rfl, rfl, h2⟩ | ⟨p, xs, rfl, h2, h3, h4, h5⟩ | ⟨p, ps, h2, h3, h4, h5, h6⟩
  · exact .inl ⟨i, j, rfl, rfl, by rw [h2]; exact flat M (fun B => .bl _) q⟩
  · exact .inr (.inl ⟨p, xs, rfl, h2, h3, h4, by rw [h5]; exact flat M (fun B => .bl _) q⟩)
  · exact .inr (.inr ⟨p, ps, h2, h3, h4, h5, by rw [h6]; exact flat M (fun B => .bl _) q⟩)
/-- not in, of lists and tuples -/
def gNin (m : Mem) (a b : D) : Option D := match a, b with
  | .str _, .str _ => none
  | a, b => gIn true m a b
theorem r_nin {z : Z} : R2ok z (rNinU z.K) gNin := fun {X B H μ m x y a b d} M ha hb hg Q q => by
  unfold gNin at hg
  split at hg
  · exact nomatch hg
  · rename_i hn
    obtain ⟨r, h1, rfl⟩ := Option.map_eq_some_iff.mp hg
    rw [Bool.true_xor] at q
    rcases inM_ok M ha hb h1 with ⟨i, j, rfl, rfl, h2⟩ | ⟨p, xs, rfl, h2, h3, h4, h5⟩ | ⟨p, ps, h2, h3, h4, h5, h6⟩
    · cases ha; cases hb
      exact absurd rfl (hn _ _ rfl)
    · exact .inl ⟨p, xs, rfl, h2, h3, h4, by rw [h5]; exact flat M (fun B => .bl _) q⟩
    · exact .inr ⟨p, ps, h2, h3, h4, h5, by rw [h6]; exact flat M (fun B => .bl _) q⟩
section
variable {X : Cx} {c : Cc} {a b e : Expr} {fa fb fe : FE} {pos : Pos}
theorem o_in (hr : RoomU X.A) (hz : zx X = c.z) : OpR X (compareOp .In) (rInU c.z.K) := by
  have hK := kz hz
  rw [← hK]; exact opr_or op_in_str (opr_or op_in_seq (op_inD hr.u65))
theorem o_nin (hr : RoomU X.A) (hz : zx X = c.z) : OpR X (compareOp .NotIn) (rNinU c.z.K) := by
  have hK := kz hz
  rw [← hK]; exact opr_or op_notIn_seq (op_notInD hr.u65)
theorem d_in (hr : RoomU X.A) (ha : PE X a (teF c fa)) (hb : PE X b (teF c fb)) (hz : zx X = c.z := by rfl) (hm : behindInMarks .In b = false := by rfl) : PE X (.Compare a [.In] [b] pos) (teF c (e2 (gIn false) fa fb)) := d_cmpR (o_in hr hz) r_in ha hb hm
end
/-! ### is None -/
end DY
/-! defs read as functions over data: places, slices, builtins, methods of lists and texts -/
namespace DY
open PySem PySem.Spec PyProof.Rows L2 Evl LX XV RX WS
/-! ### places -/
def gIx (m : Mem) (a b : D) : Option D := match lk m a, b with
  | .lst ds, .int i => atI ds i
  | .frz ds, .int i => atI ds i
  | .tup ds, .int i => atI ds i
  | .str s, .int i => if s.length ≤ big then (atI s.cps.toList i).map fun cc => .str ⟨#[cc]⟩ else none
  | _, _ => none
def rIxU (K : PySem.W.Frag) : R2 := fun x y H Q => (rIxL K x y H Q ∨ rIxT K x y H Q) ∨ rIxS x y H Q
section
variable {z : Z} {X B H : Hp} {μ : List Addr} {m : Mem}
theorem atI_ats {xs : List V} {ds : List D} {i : Int} {d : D} (h : Ats z μ B xs ds) (hd : atI ds i = some d) : ∃ x, atI xs i = some x ∧ At z μ B x d := by
  unfold atI at hd ⊢
  rw [h.len]
  obtain ⟨k, h1, h2⟩ := Option.bind_eq_some_iff.mp hd
  obtain ⟨x, h3, h4⟩ := h.get h2
  exact ⟨x, by rw [h1]; exact h3, h4⟩
theorem r_ix : R2ok z (rIxU z.K) gIx := fun {X B H μ m x y a b d} M ha hb hg Q q => by
  unfold gIx at hg
  split at hg
  · rename_i ds i h1
    obtain ⟨p, xs, rfl, h2, h3⟩ := vw_lst M ha h1
    cases hb
    obtain ⟨v, h4, h5⟩ := atI_ats h3 hg
    exact .inl (.inl ⟨p, xs, i, v, rfl, rfl, sq_of h2, h4, same_ M h5 q⟩)
  · rename_i ds i h1
    obtain ⟨p, xs, rfl, h2, h3⟩ := vw_frz M ha h1
    cases hb
    obtain ⟨v, h4, h5⟩ := atI_ats h3 hg
    exact .inl (.inl ⟨p, xs, i, v, rfl, rfl, h2, h4, same_ M h5 q⟩)
  · rename_i ds i h1
    obtain ⟨p, xs, rfl, h2, _, h3, _⟩ := vw_tup M ha h1
    cases hb
    obtain ⟨v, h4, h5⟩ := atI_ats h3 hg
    exact .inl (.inr ⟨p, xs, i, v, rfl, rfl, h2, h4, same_ M h5 q⟩)
  · rename_i s i h1
    split at hg
    · rename_i hl
      obtain ⟨cc, h2, rfl⟩ := Option.map_eq_some_iff.mp hg
      cases vw_str ha h1
      cases hb
      exact .inr ⟨s, i, cc, rfl, rfl, le_big hl, h2, flat M (fun B => .str _) q⟩
    · exact nomatch hg
  · exact nomatch hg
end
section
variable {X : Cx} {c : Cc} {a b : Expr} {fa fb : FE} {pos : Pos}
theorem o_ix (hz : zx X = c.z) : IxR X (rIxU c.z.K) := by
  have hK := kz hz
  rw [← hK]; exact (ix_list.or ix_tup).or ix_str
end
/-! ### slices -/
def oN : FO := fun _ m => .ok none m
def oS (f : FE) : FO := fun env m => (f env m).bind fun d m1 => match d with
  | .int i => .ok (some i) m1
  | _ => .no
section
variable {X : Cx} {c : Cc} {e : Expr} {f : FE} {pos p2 : Pos}
theorem do_none : PO X none (toF c oN) := po_mono po_none fun σ H Q ⟨X1, env, m, μ, B, I, o⟩ => o none H B μ Gw.refl rfl I
theorem do_some (h : PE X e (teF c f)) : PO X (some e) (toF c (oS f)) := po_mono (po_some h) fun σ H Q ⟨X1, env, m, μ, B, I, o⟩ => ⟨X1, env, m, μ, B, I, out_seq o fun d m1 x H1 B1 μ1 g1 hx I1 o1 => by
  split at o1
  · cases hx
    exact ⟨_, rfl, o1 _ H1 B1 μ1 Gw.refl rfl I1⟩
  · exact o1.elim⟩
def cutD (ds : List D) (lo hi : Option Int) : List D := (ds.drop (HT.sIx ds.length 0 lo)).take (HT.sIx ds.length ds.length hi - HT.sIx ds.length 0 lo)
theorem Ats.cut {z : Z} {B : Hp} {μ : List Addr} {xs : List V} {ds : List D} (h : Ats z μ B xs ds) (lo hi : Option Int) : Ats z μ B (cutV xs lo hi) (cutD ds lo hi) := by
  unfold cutV cutD
  rw [h.len]
  exact (h.drop _).take _
theorem cutV_all {xs : List V} {lo hi : Option Int} (h : HT.sIx xs.length 0 lo = 0 ∧ HT.sIx xs.length xs.length hi = xs.length) : cutV xs lo hi = xs := by
  unfold cutV
  rw [h.1, h.2, Nat.sub_zero, List.drop_zero, List.take_length]
def gSl (m : Mem) (a : D) (lo hi : Option Int) : Option D := match lk m a with
  | .lst ds => some (.lst (cutD ds lo hi))
  | .tup ds => some (.tup (cutD ds lo hi))
  | .str s => if s.length ≤ big then some (.str (cutS s lo hi)) else none
  | _ => none
def eSl (f : FE) (l h : FO) : FE := fun env m => (f env m).bind fun a m1 => (l env m1).bind fun lo m2 => (h env m2).bind fun hi m3 => lift (gSl m3 a lo hi) m3
def rSlU (K : PySem.W.Frag) : V → Option Int → Option Int → Hp → VK → Prop := fun x lo hi H Q => (rSlL K x lo hi H Q ∨ rSlA K x lo hi H Q) ∨ rSlS x lo hi H Q
theorem d_sl {lo hi : Option Expr} {l h : FO} (he : PE X e (teF c f)) (hl : PO X lo (toF c l)) (hh : PO X hi (toF c h)) (hz : zx X = c.z := by rfl) : PE X (.Subscript e (.Slice lo hi none p2) pos) (teF c (eSl f l h)) := by
  have hK := kz hz
  have hr : SlR X (rSlU c.z.K) := by rw [← hK]; exact (sl_list.or sl_tupA).or sl_str
  refine pe_mono (pe_slice hr he hl hh) fun σ H Q ⟨X1, env, m, μ, B, I, o⟩ => ⟨X1, env, m, μ, B, I, out_seq o fun a m1 x H1 B1 μ1 g1 hx I1 o1 => ⟨X1, env, m1, μ1, B1, I1, out_seq o1 fun lo m2 lo' H2 B2 μ2 g2 h2 I2 o2 => ⟨X1, env, m2, μ2, B2, I2, out_seq o2 fun hi m3 hi' H3 B3 μ3 g3 h3 I3 o3 => ?_⟩⟩⟩
  subst h2 h3
  obtain ⟨d, h4, q⟩ := o3.lift I3
  have hx3 := (hx.gw g2).gw g3
  unfold gSl at h4
  split at h4
  · rename_i ds h5
    cases h4
    obtain ⟨p, xs, rfl, h6, h7⟩ := vw_lst I3.me hx3 h5
    exact .inl (.inl ⟨p, xs, rfl, sq_of h6, fun l hn => newL I3.me (h7.cut _ _) q hn⟩)
  · rename_i ds h5
    cases h4
    obtain ⟨p, xs, rfl, h6, h0, h7, _⟩ := vw_tup I3.me hx3 h5
    refine .inl (.inr ⟨p, xs, rfl, h6, fun hw => ?_, fun hw l hn => newT I3.me (h7.cut _ _) q hn⟩)
    have := cutV_all hw
    exact same_ I3.me (.tup h0 (by rw [← this]; exact h7.cut _ _)) q
  · rename_i s h5
    split at h4
    · rename_i hl
      cases h4
      cases vw_str hx3 h5
      exact .inr ⟨s, rfl, le_big hl, flat I3.me (fun B => .str _) q⟩
    · exact nomatch h4
  · exact nomatch h4
end
/-! ### builtins -/
def gLen (m : Mem) (as : List D) : Option D := match as with
  | [a] => match lk m a with
    | .lst ds => some (.int (ds.length : Nat))
    | .frz ds => some (.int (ds.length : Nat))
    | .tup ds => some (.int (ds.length : Nat))
    | .str s => if s.length ≤ big then some (.int (s.length : Nat)) else none
    | .dic _ _ _ => (obDic m a).map fun p => .int (p.1.length : Nat)
    | _ => none
  | _ => none
def rLenU (K : PySem.W.Frag) : List V → Hp → VK → Prop := fun xs H Q => (rLenS K xs H Q ∨ ∃ s, xs = [V.str s] ∧ s.length ≤ sizeLine ∧ Q (.int s.length) H) ∨ ∃ d kvs, xs = [V.ref d] ∧ H d = some (.dK kvs) ∧ Q (.int kvs.length) H
theorem r_len {z : Z} : RCok z (rLenU z.K) gLen := fun {X B H μ m xs as d} M ha hg Q q => by
  unfold gLen at hg
  split at hg
  · rename_i a
    cases ha with
    | cons ha hn =>
      cases hn
      split at hg
      · rename_i ds h1; cases hg
        obtain ⟨p, ys, rfl, h2, h3⟩ := vw_lst M ha h1
        exact .inl (.inl ⟨p, ys, rfl, .inl (sq_of h2), flat M (fun B => by rw [h3.len]; exact .int _) q⟩)
      · rename_i ds h1; cases hg
        obtain ⟨p, ys, rfl, h2, h3⟩ := vw_frz M ha h1
        exact .inl (.inl ⟨p, ys, rfl, .inl h2, flat M (fun B => by rw [h3.len]; exact .int _) q⟩)
      · rename_i ds h1; cases hg
        obtain ⟨p, ys, rfl, h2, _, h3, _⟩ := vw_tup M ha h1
        exact .inl (.inl ⟨p, ys, rfl, .inr h2, flat M (fun B => by rw [h3.len]; exact .int _) q⟩)
      · rename_i s h1
        split at hg
        · rename_i hl; cases hg
          cases vw_str ha h1
          exact .inl (.inr ⟨s, rfl, le_big hl, flat M (fun B => .int _) q⟩)
        · exact nomatch hg
      · rename_i h1
        obtain ⟨⟨ks, vs⟩, h1, rfl⟩ := Option.map_eq_some_iff.mp hg
        obtain ⟨p, kvs, rfl, h2, h3, h4⟩ := ob_dicK M ha h1
        refine .inr ⟨p, kvs, rfl, h2, ?_⟩
        have : kvs.length = ks.length := by simpa using congrArg List.length h3
        rw [this]
        exact flat M (fun B => .int _) q
      · exact nomatch hg
  · exact nomatch hg
def gInt (_ : Mem) : List D → Option D
  | [.int i] => some (.int i)
  | [.bl b] => some (.int (if b then 1 else 0))
  | _ => none
theorem r_intOf {z : Z} : RCok z (fun xs H Q => (∃ i, xs = [V.int i] ∧ Q (.int i) H) ∨ ∃ k, xs = [V.bl k] ∧ Q (.int (if k then 1 else 0)) H) gInt := fun {X B H μ m xs as d} M ha hg Q q => by
  unfold gInt at hg
  split at hg
  · cases hg
    cases ha with
    | cons ha hn => cases hn; cases ha; exact .inl ⟨_, rfl, flat M (fun B => .int _) q⟩
  · cases hg
    cases ha with
    | cons ha hn => cases hn; cases ha; exact .inr ⟨_, rfl, flat M (fun B => .int _) q⟩
  · exact nomatch hg
def gTuple (m : Mem) (as : List D) : Option D := match as with
  | [a] => match lk m a with
    | .lst ds => some (.tup ds)
    | .frz ds => some (.tup ds)
    | .tup ds => some (.tup ds)
    | _ => none
  | _ => none
theorem r_tuple {z : Z} : RCok z (rTupOf z.K) gTuple := fun {X B H μ m xs as d} M ha hg Q q => by
  unfold gTuple at hg
  split at hg
  · cases ha with
    | cons ha hn =>
      cases hn
      split at hg
      · rename_i ds h1; cases hg
        obtain ⟨p, ys, rfl, h2, h3⟩ := vw_lst M ha h1
        exact ⟨p, ys, rfl, .inl ⟨sq_of h2, fun l hn => newT M h3 q hn⟩⟩
      · rename_i ds h1; cases hg
        obtain ⟨p, ys, rfl, h2, h3⟩ := vw_frz M ha h1
        exact ⟨p, ys, rfl, .inl ⟨h2, fun l hn => newT M h3 q hn⟩⟩
      · rename_i ds h1; cases hg
        obtain ⟨p, ys, rfl, h2, h0, h3, _⟩ := vw_tup M ha h1
        exact ⟨p, ys, rfl, .inr ⟨h2, same_ M (.tup h0 h3) q⟩⟩
      · exact nomatch hg
  · exact nomatch hg
def gStr (_ : Mem) : List D → Option D
  | [.int i] => if i.natAbs.log2 < 1920 then some (.str (toString i)) else none
  | _ => none
theorem r_str {z : Z} : RCok z (fun xs H Q => ∃ i : Int, xs = [V.int i] ∧ i.natAbs.log2 < 1920 ∧ Q (.str (toString i)) H) gStr := fun {X B H μ m xs as d} M ha hg Q q => by
  unfold gStr at hg
  split at hg
  · split at hg
    · rename_i hl
      cases hg
      cases ha with
      | cons ha hn => cases hn; cases ha; exact ⟨_, rfl, hl, flat M (fun B => .str _) q⟩
    · exact nomatch hg
  · exact nomatch hg
def gMax2 (_ : Mem) : List D → Option D
  | [.int i, .int j] => some (.int (if j > i then j else i))
  | _ => none
def gMin2 (_ : Mem) : List D → Option D
  | [.int i, .int j] => some (.int (if j < i then j else i))
  | _ => none
def dBls : List D → Option (List Bool)
  | [] => some []
  | .bl b :: ds => (dBls ds).map (b :: ·)
  | _ :: _ => none
theorem dBls_eq : ∀ {ds : List D} {bs : List Bool}, dBls ds = some bs → ds = bs.map D.bl
  | [], _, h => by cases h; rfl
  | .bl b :: ds, bs, h => by
    obtain ⟨cs, h1, h2⟩ := Option.map_eq_some_iff.mp h
    subst h2
    rw [dBls_eq h1]
    rfl
  | .non :: _, _, h => nomatch h
  | .int _ :: _, _, h => nomatch h
  | .str _ :: _, _, h => nomatch h
  | .lst _ :: _, _, h => nomatch h
  | .tup _ :: _, _, h => nomatch h
  | .dic _ _ _ :: _, _, h => nomatch h
  | .ins _ _ _ :: _, _, h => nomatch h
  | .frz _ :: _, _, h => nomatch h
  | .hdl _ :: _, _, h => nomatch h
def gAllAny (f : List Bool → Bool) (m : Mem) (as : List D) : Option D := match as with
  | [a] => match lk m a with
    | .lst ds => (dBls ds).map fun bs => .bl (f bs)
    | _ => none
  | _ => none
theorem r_all {z : Z} : RCok z (rAll z.K) (gAllAny fun bs => bs.all id) := fun {X B H μ m xs as d} M ha hg Q q => by
  unfold gAllAny at hg
  split at hg
  · cases ha with
    | cons ha hn =>
      cases hn
      split at hg
      · rename_i ds h1
        obtain ⟨bs, h2, rfl⟩ := Option.map_eq_some_iff.mp hg
        obtain ⟨p, ys, rfl, h3, h4⟩ := vw_lst M ha h1
        rw [dBls_eq h2] at h4
        exact ⟨p, bs, rfl, by rw [← ats_bl h4]; exact sq_of h3, flat M (fun B => .bl _) q⟩
      · exact nomatch hg
  · exact nomatch hg
theorem r_any {z : Z} : RCok z (rAny z.K) (gAllAny fun bs => bs.any id) := fun {X B H μ m xs as d} M ha hg Q q => by
  unfold gAllAny at hg
  split at hg
  · cases ha with
    | cons ha hn =>
      cases hn
      split at hg
      · rename_i ds h1
        obtain ⟨bs, h2, rfl⟩ := Option.map_eq_some_iff.mp hg
        obtain ⟨p, ys, rfl, h3, h4⟩ := vw_lst M ha h1
        rw [dBls_eq h2] at h4
        exact ⟨p, bs, rfl, by rw [← ats_bl h4]; exact sq_of h3, flat M (fun B => .bl _) q⟩
      · exact nomatch hg
  · exact nomatch hg
section
variable {X : Cx} {c : Cc} {e : Expr} {es : List Expr} {fs : FA} {p pos : Pos}
theorem d_len (hm : X.mg "len" = none) (ha : PA X (e :: es) (taF c fs)) (hz : zx X = c.z := by rfl) (hgl : Gl X "len" := by rfl)
    (he : starEach (e :: es) X.env = (false, eval e X.env) :: starEach es X.env := by rfl) (hpl : (backTo pos (starEach es X.env)).any (·.1) = false := by rfl) : PE X (.Call (.Name "len" p) (e :: es) [] pos) (teF c (eB gLen fs)) := by
  have hK := kz hz
  exact d_callB (id := "len") (by rw [← hK]; exact callr_or (callr_or call_len_seq call_len_str) call_lenD) r_len hm ha hgl (by decide +kernel) (by decide) (by decide) he hpl
theorem d_int1 (hm : X.mg "int" = none) (ha : PA X (e :: es) (taF c fs)) (hgl : Gl X "int" := by rfl)
    (he : starEach (e :: es) X.env = (false, eval e X.env) :: starEach es X.env := by rfl) (hpl : (backTo pos (starEach es X.env)).any (·.1) = false := by rfl) : PE X (.Call (.Name "int" p) (e :: es) [] pos) (teF c (eB gInt fs)) := d_callTy (T := "int") call_int1 r_intOf hm ha hgl (by decide +kernel) (by decide) (by decide) he hpl
theorem d_tuple (hm : X.mg "tuple" = none) (ha : PA X (e :: es) (taF c fs)) (hz : zx X = c.z := by rfl) (hgl : Gl X "tuple" := by rfl)
    (he : starEach (e :: es) X.env = (false, eval e X.env) :: starEach es X.env := by rfl) (hpl : (backTo pos (starEach es X.env)).any (·.1) = false := by rfl) : PE X (.Call (.Name "tuple" p) (e :: es) [] pos) (teF c (eB gTuple fs)) := d_callTy (T := "tuple") (LX.k_tupOf (kz hz)) r_tuple hm ha hgl (by decide +kernel) (by decide) (by decide) he hpl
theorem d_strI (hm : X.mg "str" = none) (ha : PA X (e :: es) (taF c fs)) (hgl : Gl X "str" := by rfl)
    (he : starEach (e :: es) X.env = (false, eval e X.env) :: starEach es X.env := by rfl) (hpl : (backTo pos (starEach es X.env)).any (·.1) = false := by rfl) : PE X (.Call (.Name "str" p) (e :: es) [] pos) (teF c (eB gStr fs)) := d_callTy (T := "str") call_str_int r_str hm ha hgl (by decide +kernel) (by decide) (by decide) he hpl
theorem d_all (hc : X.calm = true) (hm : X.mg "all" = none) (ha : PA X (e :: es) (taF c fs)) (hz : zx X = c.z := by rfl) (hgl : Gl X "all" := by rfl)
    (he : starEach (e :: es) X.env = (false, eval e X.env) :: starEach es X.env := by rfl) (hpl : (backTo pos (starEach es X.env)).any (·.1) = false := by rfl) : PE X (.Call (.Name "all" p) (e :: es) [] pos) (teF c (eB (gAllAny fun bs => bs.all id) fs)) := d_callB (id := "all") (RX.k_all hc (kz hz)) r_all hm ha hgl (by decide +kernel) (by decide) (by decide) he hpl
theorem d_any (hc : X.calm = true) (hm : X.mg "any" = none) (ha : PA X (e :: es) (taF c fs)) (hz : zx X = c.z := by rfl) (hgl : Gl X "any" := by rfl)
    (he : starEach (e :: es) X.env = (false, eval e X.env) :: starEach es X.env := by rfl) (hpl : (backTo pos (starEach es X.env)).any (·.1) = false := by rfl) : PE X (.Call (.Name "any" p) (e :: es) [] pos) (teF c (eB (gAllAny fun bs => bs.any id) fs)) := d_callB (id := "any") (RX.k_any hc (kz hz)) r_any hm ha hgl (by decide +kernel) (by decide) (by decide) he hpl
/-- list(..): a new list -/
def gList (m : Mem) (as : List D) : Option Ob := match as with
  | [a] => (seqOf m a).map .lst
  | _ => none
def nB (g : Mem → List D → Option Ob) (fa : FA) : FN := fun env m => (fa env m).bind fun as m1 => lift (g m1 as) m1
theorem d_list (hm : X.mg "list" = none) (ha : PA X (e :: es) (taF c fs)) (hz : zx X = c.z := by rfl) (hgl : Gl X "list" := by rfl)
    (he : starEach (e :: es) X.env = (false, eval e X.env) :: starEach es X.env := by rfl) (hpl : (backTo pos (starEach es X.env)).any (·.1) = false := by rfl) : PE X (.Call (.Name "list" p) (e :: es) [] pos) (tnF c (nB gList fs)) := by
  refine pe_mono (pe_callTy (T := "list") (LX.k_listOf (kz hz)) hgl hm (by decide +kernel) ha (by decide) (by decide) he hpl) fun σ H Q ⟨X1, env, m, μ, B, I, o⟩ => ⟨X1, env, m, μ, B, I, out_seqN o fun as m1 xs H1 B1 μ1 g1 hx I1 o1 => ?_⟩
  obtain ⟨ob, h1, q⟩ := o1.lift I1
  unfold gList at h1
  split at h1
  · obtain ⟨ds, h2, rfl⟩ := Option.map_eq_some_iff.mp h1
    cases hx with
    | cons hx hn =>
      cases hn
      obtain ⟨p, ys, rfl, h3, h4⟩ := vw_seq I1.me hx h2
      exact ⟨p, ys, rfl, h3, fun l hl => q l _ hl ⟨ys, upd_same, h4⟩⟩
  · exact nomatch h1
end
/-! ### isinstance, of builtin kinds -/
inductive Bt where
  | int | bool | str | list | tuple | dict
  deriving DecidableEq
def Bt.nm : Bt → String
  | .int => "int" | .bool => "bool" | .str => "str" | .list => "list" | .tuple => "tuple" | .dict => "dict"
def btOf (m : Mem) (d : D) : Option (Option Bt) := match lk m d with
  | .non => some none
  | .bl _ => some (some .bool)
  | .int _ => some (some .int)
  | .str _ => some (some .str)
  | .lst _ => some (some .list)
  | .frz _ => some (some .list)
  | .tup _ => some (some .tuple)
  | .dic _ _ _ => (obDic m d).map fun _ => some .dict
  | _ => none
def btIs (t : Bt) : Option Bt → Bool
  | none => false
  | some .bool => decide (t = .bool) || decide (t = .int)
  | some u => decide (t = u)
def isB (t : Bt) (m : Mem) (d : D) : Option Bool := (btOf m d).map (btIs t)
theorem bt_ok {z : Z} {X B H : Hp} {μ : List Addr} {m : Mem} {x : V} {d : D} {o : Option Bt} (M : Me z X μ B H m) (h : At z μ B x d) (e : btOf m d = some o) : ∃ ty : String, TyX z.K H x (.type ty) ∧ ∀ t : Bt, kitB ty t.nm = some (btIs t o) := by
  unfold btOf at e
  split at e
  · rename_i q; cases e; rw [vw_non h q]; exact ⟨"NoneType", .base .non, fun t => by cases t <;> decide +kernel⟩
  · rename_i q; cases e; rw [vw_bl h q]; exact ⟨"bool", .base (.bl _), fun t => by cases t <;> decide +kernel⟩
  · rename_i q; cases e; rw [vw_int h q]; exact ⟨"int", .base (.int _), fun t => by cases t <;> decide +kernel⟩
  · rename_i q; cases e; rw [vw_str h q]; exact ⟨"str", .base (.str _), fun t => by cases t <;> decide +kernel⟩
  · rename_i q; cases e
    obtain ⟨p, xs, rfl, h1, _⟩ := vw_lst M h q
    exact ⟨"list", sql_ty (sq_of h1), fun t => by cases t <;> decide +kernel⟩
  · rename_i q; cases e
    obtain ⟨p, xs, rfl, h1, _⟩ := vw_frz M h q
    exact ⟨"list", sql_ty h1, fun t => by cases t <;> decide +kernel⟩
  · rename_i q; cases e
    obtain ⟨p, xs, rfl, h1, _⟩ := vw_tup M h q
    exact ⟨"tuple", sqt_ty h1, fun t => by cases t <;> decide +kernel⟩
  · rename_i q
    obtain ⟨⟨ks, vs⟩, h1, rfl⟩ := Option.map_eq_some_iff.mp e
    obtain ⟨p, kvs, rfl, h2, _⟩ := ob_dicK M h h1
    exact ⟨"dict", .base (.dK h2), fun t => by cases t <;> decide +kernel⟩
  · exact nomatch e
def eIs (t : Bt) (f : FE) : FE := fun env m => (f env m).bind fun d m1 => lift ((isB t m1 d).map .bl) m1
def eIs2 (t u : Bt) (f : FE) : FE := fun env m => (f env m).bind fun d m1 => lift ((btOf m1 d).map fun o => .bl (btIs t o || btIs u o)) m1
section
variable {X : Cx} {c : Cc} {e : Expr} {f : FE} {p p1 p2 p3 pos : Pos} {kk : Nat}
theorem d_isi (t : Bt) (hm : X.mg "isinstance" = none) (ha : PE X e (teF c f)) (ht : PE X (.Name (Str.ofString t.nm) p1) (tC (.ty t.nm))) (hz : zx X = c.z := by rfl) (hgl : Gl X "isinstance" := by rfl)
    (hs1 : starEach [.Name (Str.ofString t.nm) p1] X.env = (false, eval (.Name (Str.ofString t.nm) p1) X.env) :: starEach [] X.env := by rfl) (he : starEach [e, .Name (Str.ofString t.nm) p1] X.env = (false, eval e X.env) :: starEach [.Name (Str.ofString t.nm) p1] X.env := by rfl) (hpl : (backTo pos (starEach [.Name (Str.ofString t.nm) p1] X.env)).any (·.1) = false := by rfl) :
    PE X (.Call (.Name "isinstance" p) [e, .Name (Str.ofString t.nm) p1] [] pos) (teF c (eIs t f)) := by
  refine pe_mono (pe_callB (id := "isinstance") (LX.k_isi (kz hz)) hgl hm (by decide +kernel) (pa_cons ha (pa_cons ht pa_nil hs1) he) (by decide) (by decide) he hpl) fun σ H Q ⟨X1, env, m, μ, B, I, o⟩ => ⟨X1, env, m, μ, B, I, out_seq o fun a m1 x H1 B1 μ1 g1 hx I1 o1 => ?_⟩
  obtain ⟨d, h1, q⟩ := o1.lift I1
  obtain ⟨b, h2, rfl⟩ := Option.map_eq_some_iff.mp h1
  obtain ⟨o', h5, rfl⟩ := Option.map_eq_some_iff.mp h2
  obtain ⟨ty, h3, h4⟩ := bt_ok I1.me hx h5
  exact ⟨x, .ty t.nm, .type ty, .type t.nm, _, rfl, .ty t.nm, h3, kit_ty (h4 t), flat I1.me (fun B => .bl _) q⟩
theorem d_isi2 (t u : Bt) (hm : X.mg "isinstance" = none) (ha : PE X e (teF c f)) (ht : PE X (.Name (Str.ofString t.nm) p1) (tC (.ty t.nm))) (hu : PE X (.Name (Str.ofString u.nm) p2) (tC (.ty u.nm))) (hz : zx X = c.z := by rfl) (hgl : Gl X "isinstance" := by rfl)
    (hs0 : starEach [.Name (Str.ofString u.nm) p2] X.env = (false, eval (.Name (Str.ofString u.nm) p2) X.env) :: starEach [] X.env := by rfl) (hs1 : starEach [.Name (Str.ofString t.nm) p1, .Name (Str.ofString u.nm) p2] X.env = (false, eval (.Name (Str.ofString t.nm) p1) X.env) :: starEach [.Name (Str.ofString u.nm) p2] X.env := by rfl)
    (hs2 : starEach [.Tuple [.Name (Str.ofString t.nm) p1, .Name (Str.ofString u.nm) p2] kk p3] X.env = (false, eval (.Tuple [.Name (Str.ofString t.nm) p1, .Name (Str.ofString u.nm) p2] kk p3) X.env) :: starEach [] X.env := by rfl)
    (he : starEach [e, .Tuple [.Name (Str.ofString t.nm) p1, .Name (Str.ofString u.nm) p2] kk p3] X.env = (false, eval e X.env) :: starEach [.Tuple [.Name (Str.ofString t.nm) p1, .Name (Str.ofString u.nm) p2] kk p3] X.env := by rfl) (hpl : (backTo pos (starEach [.Tuple [.Name (Str.ofString t.nm) p1, .Name (Str.ofString u.nm) p2] kk p3] X.env)).any (·.1) = false := by rfl) :
    PE X (.Call (.Name "isinstance" p) [e, .Tuple [.Name (Str.ofString t.nm) p1, .Name (Str.ofString u.nm) p2] kk p3] [] pos) (teF c (eIs2 t u f)) := by
  refine pe_mono (pe_callB (id := "isinstance") (RX.k_isiT (kz hz)) hgl hm (by decide +kernel) (pa_cons ha (pa_cons (pe_tup (pa_cons ht (pa_cons hu pa_nil hs0) hs1)) pa_nil hs2) he) (by decide) (by decide) he hpl) fun σ H Q ⟨X1, env, m, μ, B, I, o⟩ => ⟨X1, env, m, μ, B, I, out_seq o fun a m1 x H1 B1 μ1 g1 hx I1 o1 => ?_⟩
  obtain ⟨d, h1, q⟩ := o1.lift I1
  obtain ⟨o', h2, rfl⟩ := Option.map_eq_some_iff.mp h1
  refine ⟨by show 2 ≤ sizeLine; decide, fun tp htp => ?_⟩
  have I2 := I1.up (Ex.new (o := .tup [.ty t.nm, .ty u.nm]) htp) (Gr.refl _ _) (I1.me.bh.trans (Ex.new htp))
  obtain ⟨ty, h3, h4⟩ := bt_ok I2.me hx h2
  refine ⟨x, tp, _, _, _, btIs t o' || btIs u o', rfl, upd_same, .cons (.ty t.nm) (.cons (.ty u.nm) .nil), h3, ?_, ?_⟩
  · refine kitAny_cons (kit_ty (h4 t)) (fun e => ?_) (fun e => by rw [e]; rfl)
    refine kitAny_cons (kit_ty (h4 u)) (fun e2 => by rw [e, e2]; rfl) (fun e2 => by rw [e2, Bool.or_true])
  · exact q _ _ _ (Ex.new htp) (Gr.refl _ _) (I1.me.bh.trans (Ex.new htp)) (.bl _)
end
end DY
/-! sorted texts: there is one order -/
namespace SS
open PySem PySem.Spec PyProof.Rows
theorem lt_asymm : ∀ {a b : List Nat}, ltCps a b = true → ltCps b a = false
  | [], [], h => nomatch h
  | [], _ :: _, _ => rfl
  | _ :: _, [], h => nomatch h
  | x :: a, y :: b, h => by
    have h : (decide (x < y) || (x == y && ltCps a b)) = true := h
    show (decide (y < x) || (y == x && ltCps b a)) = false
    rw [Bool.or_eq_true] at h
    rcases h with h | h
    · have h := of_decide_eq_true h
      rw [decide_eq_false (by omega), beq_eq_false_iff_ne.mpr (by omega)]
      rfl
    · rw [Bool.and_eq_true] at h
      have e := eq_of_beq h.1
      subst e
      rw [decide_eq_false (by omega), lt_asymm h.2]
      simp
theorem eq_of : ∀ {a b : List Nat}, ltCps a b = false → ltCps b a = false → a = b
  | [], [], _, _ => rfl
  | [], _ :: _, h, _ => nomatch h
  | _ :: _, [], _, h => nomatch h
  | x :: a, y :: b, h, h' => by
    have h : (decide (x < y) || (x == y && ltCps a b)) = false := h
    have h' : (decide (y < x) || (y == x && ltCps b a)) = false := h'
    rw [Bool.or_eq_false_iff] at h h'
    have h1 := of_decide_eq_false h.1
    have h2 := of_decide_eq_false h'.1
    have e : x = y := by omega
    subst e
    have h3 := h.2
    have h4 := h'.2
    rw [beq_self_eq_true, Bool.true_and] at h3 h4
    rw [eq_of h3 h4]
theorem lt_trans : ∀ {a b c : List Nat}, ltCps a b = true → ltCps b c = true → ltCps a c = true
  | [], [], _, h, _ => nomatch h
  | [], _ :: _, [], _, h => nomatch h
  | [], _ :: _, _ :: _, _, _ => rfl
  | _ :: _, [], _, h, _ => nomatch h
  | _ :: _, _ :: _, [], _, h => nomatch h
  | x :: a, y :: b, z :: c, h, h' => by
    have h : (decide (x < y) || (x == y && ltCps a b)) = true := h
    have h' : (decide (y < z) || (y == z && ltCps b c)) = true := h'
    show (decide (x < z) || (x == z && ltCps a c)) = true
    rw [Bool.or_eq_true] at h h' ⊢
    rcases h with h | h
    · have h := of_decide_eq_true h
      rcases h' with h' | h'
      · have h' := of_decide_eq_true h'
        exact .inl (decide_eq_true (by omega))
      · rw [Bool.and_eq_true] at h'
        have e := eq_of_beq h'.1
        exact .inl (decide_eq_true (by omega))
    · rw [Bool.and_eq_true] at h
      have e := eq_of_beq h.1
      subst e
      rcases h' with h' | h'
      · exact .inl h'
      · rw [Bool.and_eq_true] at h'
        exact .inr (by rw [Bool.and_eq_true]; exact ⟨h'.1, lt_trans h.2 h'.2⟩)
def le (p x : Str) : Prop := ltCps x.cps.toList p.cps.toList = false
theorem le_trans {a b c : Str} (h : le a b) (h' : le b c) : le a c := by
  unfold le at *
  cases q : ltCps c.cps.toList a.cps.toList with
  | false => rfl
  | true =>
    cases q2 : ltCps a.cps.toList b.cps.toList with
    | true => rw [lt_trans q q2] at h'; exact nomatch h'
    | false =>
      have e := eq_of q2 h
      rw [e] at q
      rw [q] at h'
      exact nomatch h'
theorem le_antisymm {a b : Str} (h : le a b) (h' : le b a) : a = b := by
  have e : a.cps.toList = b.cps.toList := eq_of h' h
  cases a
  cases b
  exact congrArg Str.mk (Array.toList_inj.mp e)
end SS
/-! sorted of texts, any number of them: a list, a dict -/
namespace ST
open PySem PySem.Spec PyProof.Rows L2
def sv : Value → List Nat
  | .str x _ => x.cps.toList
  | _ => []
def ltV (v u : Value) : Bool := decide (sv v < sv u)
theorem swo : SrtO.Swo ltV := by
  refine ⟨fun x y h => ?_, fun x y z h1 h2 => ?_⟩
  · exact decide_eq_false (List.lt_asymm (of_decide_eq_true h))
  · have a := of_decide_eq_false h1
    have b := of_decide_eq_false h2
    refine decide_eq_false fun c => ?_
    exact (List.not_lt.mpr (List.le_trans (List.not_lt.mp a) (List.not_lt.mp b))) c
theorem str_mem : ∀ {vs : List Value} {ss : List Str}, StrsAre vs ss → ∀ v ∈ vs, ∃ x t, v = Value.str x t
  | _, _, .nil, v, h => absurd h (by simp)
  | _, _, .cons n t r, v, h => by
    rcases List.mem_cons.mp h with e | h
    · exact ⟨n, t, e⟩
    · exact str_mem r v h
def sx : Value → Str
  | .str x _ => x
  | _ => Str.empty
theorem strs_of : ∀ {vs : List Value}, (∀ v ∈ vs, ∃ x t, v = Value.str x t) → StrsAre vs (vs.map sx)
  | [], _ => .nil
  | v :: vs, h => by
    obtain ⟨i, t, e⟩ := h v List.mem_cons_self
    subst e
    exact .cons i t (strs_of fun u hu => h u (List.mem_cons_of_mem _ hu))
theorem sx_strs : ∀ {vs : List Value} {ss : List Str}, StrsAre vs ss → vs.map sx = ss
  | _, _, .nil => rfl
  | _, _, .cons n t r => congrArg (n :: ·) (sx_strs r)
section
variable {prog : Program} {w : World} {A : Around} {E : Value → Shared → Prop} {s : Shared}
theorem cmp {vs : List Value} {ss : List Str} (hI : StrsAre vs ss) : SrtO.Cmp prog w A s oneType' (fun p => p.1 ∈ vs) (SrtO.lt2 ltV) := by
  intro p q hm hm'
  obtain ⟨a, t, e⟩ := str_mem hI _ hm
  obtain ⟨b, u, e'⟩ := str_mem hI _ hm'
  show wpAny (model prog w) A (keyLt' oneType' p.1 q.1) (fun r s' => s' = s ∧ r = ltV p.1 q.1) (fun _ _ => False) s
  rw [e, e', keyLt'_oneType]
  exact oneLt_str ⟨rfl, rfl⟩
theorem sortable {a : Addr} {vs : List Value} {ss : List Str} (hI : StrsAre vs ss) (h2 : 2 ≤ vs.length) : SrtO.SortableO prog w A s a vs ltV := by
  intro h' _
  refine ⟨oneType', fun Q E hq => ?_, cmp hI⟩
  match vs, hI, h2 with
  | v1 :: v2 :: rest, hI, _ =>
    rw [keyKind_strs hI]
    exact wpAny_pure hq
  | [], _, h => exact absurd h (by decide)
  | [v], _, h => exact absurd h (by simp)
end
/-- in the order of their letters -/
def Ord (ys : List Str) : Prop := ys.Pairwise fun a b => ¬ b.cps.toList < a.cps.toList
theorem out {vs o : List Value} {ss : List Str} (hI : StrsAre vs ss) (hs : SrtO.Srtd ltV o) (hb : SrtO.Stb ltV o vs) : StrsAre o (o.map sx) ∧ (o.map sx).Perm ss ∧ Ord (o.map sx) := by
  have hm : ∀ v ∈ o, ∃ x t, v = Value.str x t := fun v hv => str_mem hI v (hb.perm.mem_iff.mp hv)
  refine ⟨strs_of hm, ?_, ?_⟩
  · have q := hb.perm.map sx
    rw [sx_strs hI] at q
    exact q
  · refine List.pairwise_map.mpr (List.Pairwise.imp_of_mem (fun {x y} hx hy h => ?_) hs)
    obtain ⟨a, t, rfl⟩ := hm x hx
    obtain ⟨b, u, rfl⟩ := hm y hy
    exact of_decide_eq_false h
def rSortedX (K : PySem.W.Frag) : List V → Hp → VK → Prop := fun vs H Q => ∃ (a : Addr) (xs : List Str), vs = [V.ref a] ∧ SqL K H a (xs.map V.str) ∧ ∀ (ys : List Str) (p : Addr), ys.Perm xs → Ord ys → H p = none → Q (.ref p) (upd H p (.lst (ys.map V.str)))
section
variable {X : Cx}
theorem cr_sortedX : CallR X (.builtin "sorted") (rSortedX X.K) := by
  intro pins s σ H vs us Q I r h
  obtain ⟨a, ns, rfl, hs, q⟩ := h
  obtain ⟨its, rv, hl, hz⟩ := I.list hs
  rw [Vals.ref1 r]
  have hi := rv.strs
  refine SrtO.sorted_ord swo hl.isList (by rw [← rv.length]; exact hz) (fun h2 h₁ a' _ _ => sortable hi h2) fun o h1 h2 => ?_
  obtain ⟨k1, k2, k3⟩ := out hi h1 h2
  obtain ⟨ep, he'⟩ := PyProof.Rows.sortedAll_at s.heap its o.toArray
  have hlen : ((o.map sx).map V.str).length ≤ sizeLine := by
    rw [List.length_map, k2.length_eq]
    rw [List.length_map] at hz
    exact hz
  exact ⟨.ref _, upd H (s.heap.objs.size + 1) (.lst ((o.map sx).map V.str)), I.laid (t' := s.toks) (fun _ _ => PyProof.Rows.sortedAll_old) (Nat.le_succ _) ⟨hlen, o, ep, vals_of_strs k1, he'⟩, rfl, q _ _ k2 k3 (I.hok.fresh (Nat.le_succ _))⟩
/-- sorted(d), d a dict with texts as keys -/
def rSortedDX : List V → Hp → VK → Prop := fun xs H Q => ∃ (a : Addr) (kvs : List (Key × V)) (ks : List Str), xs = [.ref a] ∧ Rd H a (.dK kvs) ∧ kvs.map (·.1) = ks.map Sum.inr ∧ ks.length ≤ 100000 ∧
  ∀ ys p, ys.Perm ks → Ord ys → H p = none → Q (.ref p) (upd H p (.lst (ys.map V.str)))
theorem cr_sortedDX (hc : X.calm = true) : CallR X (.builtin "sorted") rSortedDX := by
  intro pins s σ H xs us Q I r q
  obtain ⟨a, kvs, ks, ex, hd, hks, hz, q⟩ := q
  subst ex
  obtain ⟨u, eu, rx⟩ := vals1 r
  subst eu
  cases rx
  obtain ⟨z, lo, vs, rel, dd⟩ := dk_rd I.hok hd
  obtain ⟨ep, at_⟩ := dd.dictAt
  have keys : vs.map (·.1) = ks.map Sum.inr := rel.keys.symm.trans hks
  have len : vs.length = ks.length := by
    have e := congrArg List.length keys
    rw [List.length_map, List.length_map] at e
    exact e
  refine Calls.call_function_entry PyProof.Rows.kind_sorted PyProof.Rows.plain_sorted PyProof.Rows.entry_sorted (PyProof.Rows.args_sorted1 _) ?_
  unfold Builtin.«sorted»
  refine wpAny_bind (m := checkCount "sorted" 1 1 _) (wpAny_pure ?_)
  refine wpAny_bind (PySem.W.kdu_collect (A := X.A.in1) (PySem.W.kdl_dict (knd := mixKind X.prog X.w) (kvs := vs) (ep := ep) lo) (I.ok.hd hc) at_ (by rw [len, sizeLine_eq]; omega) fun h' tk acc hk hacc => ?_)
  have al : acc.toList.length = ks.length := by rw [Array.length_toList, hacc.1, len]
  have hS : StrsAre acc.toList ks := L2.strs_at al fun j v e => by
    obtain ⟨k, x, e1, e2⟩ := hacc.2 j v (by rw [← Array.getElem?_toList]; exact e)
    have e3 : (vs.map (·.1))[j]? = some k := by rw [List.getElem?_map, e1]; all_goals rfl
    rw [keys, List.getElem?_map] at e3
    cases e4 : ks[j]? with
    | none => rw [e4] at e3; cases e3
    | some y =>
      rw [e4] at e3
      have e5 : Sum.inr y = k := Option.some.inj e3
      subst e5
      obtain ⟨t, ev⟩ := Value.isStrOf_shape (x := y) (v := v) e2
      exact ⟨y, t, rfl, ev⟩
  have I1 : Inv X pins σ H { s with heap := h', toks := tk } := I.kept hk
  refine wpAny_bind (wpAny_newList ?_ (by rw [al, sizeLine_eq]; omega))
  have ho : (h'.push (seqObj "list" acc.toList.toArray 0)).get? h'.objs.size = some (seqObj "list" acc.toList.toArray 0) := Heap.get?_push_size _ rfl
  show wpAny _ _ _ _ _ { s with heap := h'.push (seqObj "list" acc.toList.toArray 0), toks := tk }
  refine wpAny_bind (wpAny_holding (wpAny_call_entry PyProof.Rows.slot_list_sort ⟨_, ho, rfl⟩ PyProof.Rows.entry_list_sort
    (SrtO.list_sort_ord swo (s := { s with heap := h'.push (seqObj "list" acc.toList.toArray 0), toks := tk }) ho (by rw [al, sizeLine_eq]; omega) (fun h2 => sortable hS h2) fun o h1 h2 => ⟨_, rfl, ?_⟩)
    (PyProof.Rows.args_list_sort _)))
  obtain ⟨k1, k2, k3⟩ := out hS h1 h2
  obtain ⟨e', he'⟩ := PyProof.Rows.sortedHeap_at (vs := acc.toList) (out := o.toArray) ho
  have hlen : ((o.map sx).map V.str).length ≤ sizeLine := by
    rw [List.length_map, k2.length_eq, sizeLine_eq]
    omega
  refine wpAny_pure ⟨_, rfl, .ref h'.objs.size, upd H h'.objs.size (.lst ((o.map sx).map V.str)), I1.laid (t' := tk) (fun b u e => ?_) (Nat.le_refl _)
    (show ObjOk X.prog X.w _ _ _ (.lst ((o.map sx).map V.str)) from ⟨hlen, o, e', vals_of_strs k1, he'⟩), rfl, q _ _ k2 k3 (I1.hok.fresh (Nat.le_refl _))⟩
  have hb : b < h'.objs.size := Heap.lt_size e
  rw [PyProof.Rows.sortedHeap_old (Nat.ne_of_lt hb) (by rw [size_push']; exact Nat.lt_succ_of_lt hb)]
  exact Heap.get?_push_of_some _ e
end
end ST
/-! defs read as functions over data: methods of lists and texts, stores, dicts, sorted -/
namespace DY
open PySem PySem.Spec PyProof.Rows L2 Evl LX XV RX WS
/-! ### methods that change a list -/
def isL (m : Mem) (n : Nat) : Bool := match m[n]? with
  | some (.lst _) => true
  | _ => false
abbrev MG := List D → List D → Option (D × List D)
def eMt (g : MG) (fo : FE) (fa : FA) : FE := fun env m => (fo env m).bind fun o m1 => match o with
  | .hdl n => if isL m1 n = true then (fa env m1).bind fun as m2 => match m2[n]? with
      | some (.lst ds) => match g ds as with
        | some (d, es) => .ok d (m2.set n (.lst es))
        | none => .no
      | _ => .no
    else .no
  | _ => .no
def eMt0 (g : MG) (fo : FE) : FE := eMt g fo aN
def RMt (z : Z) (r : V → List V → Hp → VK → Prop) (g : MG) : Prop := ∀ {X B H : Hp} {μ : List Addr} {m : Mem} {p : Addr} {xs : List V} {ds : List D} {ys : List V} {as : List D} {d : D} {es : List D}, Me z X μ B H m → H p = some (.lst xs) → Ats z μ B xs ds → Ats z μ B ys as → g ds as = some (d, es) → ∀ Q : VK, (∀ v zs, At z μ B v d → Ats z μ B zs es → Q v (upd H p (.lst zs))) → r (.ref p) ys H Q
section
variable {X : Cx} {c : Cc} {fo : FE} {fa : FA} {r : V → List V → Hp → VK → Prop} {g : MG}
theorem isL_ok {m : Mem} {n : Nat} (h : isL m n = true) : ∃ ds, m[n]? = some (.lst ds) := by
  unfold isL at h
  split at h
  · rename_i ds hm; exact ⟨ds, hm⟩
  · exact nomatch h
theorem mt_fin {z : Z} {xi : XI} {X1 B H : Hp} {env : Sv} {m : Mem} {μ : List Addr} {σ : L2.St} {W : WX} {n : Nat} {ys : List V} {as : List D} {p : Addr} {Q : VK} (hg : RMt z r g) (I : En z xi X1 env m μ σ B H) (hp : μ[n]? = some p) (hy : Ats z μ B ys as) (o : Out ⟨z, xi, W⟩ X1 env σ μ B (At z) (match m[n]? with
      | some (.lst ds) => match g ds as with
        | some (d, es) => .ok d (m.set n (.lst es))
        | none => .no
      | _ => .no) Q) : r (.ref p) ys H Q := by
  split at o
  · rename_i ds hm
    split at o
    · rename_i d es hgd
      obtain ⟨xs, h1, h2⟩ := I.me.ob n p _ hp hm
      exact hg I.me h1 h2 hy hgd Q fun v zs hv hz => o v _ B μ Gw.refl hv (I.put hp fun H' hH => ⟨zs, hH, hz⟩)
    · exact o.elim
  · exact o.elim
theorem te_mt (hg : RMt c.z r g) {σ : L2.St} {H : Hp} {Q : VK} : teF c (eMt g fo fa) σ H Q → tBM c.z.K "list" r (teF c fo) (taF c fa) σ H Q := fun ⟨X1, env, m, μ, B, I, o⟩ => ⟨X1, env, m, μ, B, I, out_seq o fun ob m1 x H1 B1 μ1 g1 hx I1 o1 => by
  split at o1
  · rename_i n
    split at o1
    · rename_i hl
      obtain ⟨ds, hm⟩ := isL_ok hl
      cases hx with
      | hdl hp =>
        obtain ⟨xs, h1, h2⟩ := I1.me.ob n _ _ hp hm
        refine ⟨.inl ⟨rfl, xs, sq_of h1⟩, ⟨X1, env, m1, μ1, B1, I1, out_seq o1 fun as m2 ys H2 B2 μ2 g2 hy I2 o2 => ?_⟩⟩
        exact mt_fin (W := c.W) hg I2 (pre_get g2.p hp) hy o2
    · exact o1.elim
  · exact o1.elim⟩
theorem te_mt0 (hg : RMt c.z r g) {σ : L2.St} {H : Hp} {Q : VK} : teF c (eMt0 g fo) σ H Q → tBM0 c.z.K "list" r (teF c fo) σ H Q := fun ⟨X1, env, m, μ, B, I, o⟩ => ⟨X1, env, m, μ, B, I, out_seq o fun ob m1 x H1 B1 μ1 g1 hx I1 o1 => by
  split at o1
  · rename_i n
    split at o1
    · rename_i hl
      obtain ⟨ds, hm⟩ := isL_ok hl
      cases hx with
      | hdl hp =>
        obtain ⟨xs, h1, h2⟩ := I1.me.ob n _ _ hp hm
        exact ⟨.inl ⟨rfl, xs, sq_of h1⟩, mt_fin (W := c.W) hg I1 hp .nil o1⟩
    · exact o1.elim
  · exact o1.elim⟩
end
def mApp : MG := fun ds as => match as with
  | [d] => if ds.length < big then some (.non, ds ++ [d]) else none
  | _ => none
theorem rm_app {z : Z} : RMt z rAppend mApp := fun {X B H μ m p xs ds ys as d es} M hp hx hy hg Q q => by
  unfold mApp at hg
  split at hg
  · split at hg
    · rename_i d hl
      cases hg
      cases hy with
      | cons h1 h2 => cases h2; exact ⟨p, xs, _, rfl, rfl, hp, lt_big (by rw [hx.len]; exact hl), q _ _ .non (hx.snoc h1)⟩
    · exact nomatch hg
  · exact nomatch hg
def mPop : MG := fun ds as => match as with
  | [] => (ds[ds.length - 1]?).map fun d => (d, ds.dropLast)
  | _ => none
theorem Ats.dropLast {z : Z} {B : Hp} {μ : List Addr} {xs : List V} {ds : List D} (h : Ats z μ B xs ds) : Ats z μ B xs.dropLast ds.dropLast := by
  rw [List.dropLast_eq_take, List.dropLast_eq_take, h.len]
  exact h.take _
theorem rm_pop {z : Z} : RMt z rPop mPop := fun {X B H μ m p xs ds ys as d es} M hp hx hy hg Q q => by
  unfold mPop at hg
  split at hg
  · obtain ⟨d', h1, h2⟩ := Option.map_eq_some_iff.mp hg
    cases h2
    cases hy
    obtain ⟨y, h3, h4⟩ := hx.get h1
    exact ⟨p, xs, y, rfl, rfl, hp, by rw [hx.len]; exact h3, q _ _ h4 hx.dropLast⟩
  · exact nomatch hg
section
variable {X : Cx} {c : Cc} {o e : Expr} {es : List Expr} {fo : FE} {fa : FA} {apos cpos : Pos}
theorem d_append (ho : PE X o (teF c fo)) (ha : PA X (e :: es) (taF c fa)) (hz : zx X = c.z := by rfl)
    (hbase : attributeBase o "append" X.env (eval o X.env) = eval o X.env := by rfl)
    (hfew : ((backTo cpos (starEach (e :: es) X.env)).all (fun x => !x.1) && (backToKw cpos (keywordEach [] X.env)).all (fun x => x.1.isSome) && decide ((e :: es).length + ([] : List Keyword).length + (if ([] : List Keyword).isEmpty then 0 else 1) < 30)) = true := by rfl)
    (hline : (apos.endLine == cpos.line) = true := by rfl) (hs : starEach (e :: es) X.env = (false, eval e X.env) :: starEach es X.env := by rfl) (hplain : (backTo cpos (starEach es X.env)).any (·.1) = false := by rfl) :
    PE X (.Call (.Attribute o "append" apos) (e :: es) [] cpos) (teF c (eMt mApp fo fa)) := by
  have hK := kz hz
  exact pe_mono (pe_bm PySem.F.plainAttrs_list PySem.F.slot_list_append PySem.F.type_list_append mt_append ho ha hbase hfew hline hs hplain) fun σ H Q h => by rw [hK]; exact te_mt rm_app h
theorem d_pop (ho : PE X o (teF c fo)) (hz : zx X = c.z := by rfl) (hbase : attributeBase o "pop" X.env (eval o X.env) = eval o X.env := by rfl) (hline : (apos.endLine == cpos.line) = true := by rfl) : PE X (.Call (.Attribute o "pop" apos) [] [] cpos) (teF c (eMt0 mPop fo)) := by
  have hK := kz hz
  exact pe_mono (pe_bm0 PySem.F.plainAttrs_list PySem.F.slot_list_pop PySem.F.type_list_pop mt_pop ho hbase hline) fun σ H Q h => by rw [hK]; exact te_mt0 rm_pop h
end
/-! ### o[i] = e, of lists -/
section
variable {X : Cx} {c : Cc} {e o i : Expr} {fv fo fi : FE} {pos p1 : Pos}
/-- x += e, of numbers -/
def sAugI (j : Nat) (f : FE) : FS := fun env m => match env[j]? with
  | some (some (.int a)) => (f env m).toS env fun d m1 => match d with
    | .int b => .nx (env.set j (some (.int (a + b)))) m1
    | _ => .no
  | _ => .no
theorem ds_aug {f : FE} {j : Nat} {x : Str} {pos' : Pos} (hN : X.N.Nodup) (he : PE X e (teF c f)) (hi : X.N[j]? = some x := by rfl) (hx : Loc X.env.scope x := by first | exact .inl rfl | exact .inr rfl) (hxi : j ≠ c.xi.i := by exact ne_xi (by rfl)) (hf : X.fn x = true ∨ X.env.scope.names.lookup x = some .local := by first | exact .inl rfl | exact .inr rfl | assumption) :
    PS X (.AugAssign (.Name x pos') .Add e pos) (tsF c (sAugI j f)) := ps_mono (ps_aug hN hi hx he ip_add hf) fun Dn σ H ⟨X1, env, m, μ, B, I, o⟩ => by
  unfold sAugI at o
  split at o
  · rename_i a ha
    obtain ⟨v, h1, h2⟩ := I.val j _ ha
    cases h2
    refine ⟨_, h1, ⟨X1, env, m, μ, B, I, out_S o fun d m1 y H1 B1 μ1 g1 hy I1 o1 => ?_⟩⟩
    split at o1
    · rename_i b
      cases hy
      exact ⟨a, b, rfl, rfl, o1 _ H1 B1 μ1 Gw.refl (I1.asg (.int _) hxi)⟩
    · exact o1.elim
  · exact o.elim
end
/-! ### methods of texts -/
def eM0 (g : Str → D) (f : FE) : FE := fun env m => (f env m).bind fun d m1 => match d with
  | .str s => .ok (g s) m1
  | _ => .no
section
variable {X : Cx} {c : Cc} {o e : Expr} {f fe : FE} {apos pos : Pos}
theorem d_m0 {id : String} {name : Str} {g : Str → V} {gd : Str → D} (slot : Slot "str" name id) (ty : typeOf (.builtin id) = pure (.type "method_descriptor")) (rule : MtR X id (fun x xs H Q => ∃ a, x = .str a ∧ xs = [] ∧ True ∧ Q (g a) H)) (hg : ∀ s μ B, At c.z μ B (g s) (gd s)) (ho : PE X o (teF c f))
    (hbase : attributeBase o name X.env (eval o X.env) = eval o X.env := by rfl) (hline : (apos.endLine == pos.line) = true := by rfl) : PE X (.Call (.Attribute o name apos) [] [] pos) (teF c (eM0 gd f)) := pe_mono (pe_m0 slot ty rule ho hbase hline) fun σ H Q ⟨X1, env, m, μ, B, I, o⟩ => ⟨X1, env, m, μ, B, I, out_seq o fun d m1 x H1 B1 μ1 g1 hx I1 o1 => by
  split at o1
  · rename_i s
    cases hx
    exact ⟨⟨s, rfl⟩, s, rfl, rfl, trivial, o1 _ H1 B1 μ1 Gw.refl (hg s μ1 B1) I1⟩
  · exact o1.elim⟩
theorem d_isascii (ho : PE X o (teF c f)) (hbase : attributeBase o "isascii" X.env (eval o X.env) = eval o X.env := by rfl) (hline : (apos.endLine == pos.line) = true := by rfl) : PE X (.Call (.Attribute o "isascii" apos) [] [] pos) (teF c (eM0 (fun s => .bl (Txt.isascii s)) f)) := d_m0 (g := fun s => .bl (Txt.isascii s)) PySem.F.slot_str_isascii PySem.F.type_str_isascii mt_isascii (fun _ _ _ => .bl _) ho hbase hline
theorem d_isalnum (ho : PE X o (teF c f)) (hbase : attributeBase o "isalnum" X.env (eval o X.env) = eval o X.env := by rfl) (hline : (apos.endLine == pos.line) = true := by rfl) : PE X (.Call (.Attribute o "isalnum" apos) [] [] pos) (teF c (eM0 (fun s => .bl (Txt.isalnum s)) f)) := d_m0 (g := fun s => .bl (Txt.isalnum s)) PySem.F.slot_str_isalnum PySem.F.type_str_isalnum mt_isalnum (fun _ _ _ => .bl _) ho hbase hline
theorem d_islower (ho : PE X o (teF c f)) (hbase : attributeBase o "islower" X.env (eval o X.env) = eval o X.env := by rfl) (hline : (apos.endLine == pos.line) = true := by rfl) : PE X (.Call (.Attribute o "islower" apos) [] [] pos) (teF c (eM0 (fun s => .bl (Txt.islower s)) f)) := d_m0 (g := fun s => .bl (Txt.islower s)) PySem.F.slot_str_islower PySem.F.type_str_islower mt_islower (fun _ _ _ => .bl _) ho hbase hline
theorem d_isdigit (ho : PE X o (teF c f)) (hbase : attributeBase o "isdigit" X.env (eval o X.env) = eval o X.env := by rfl) (hline : (apos.endLine == pos.line) = true := by rfl) : PE X (.Call (.Attribute o "isdigit" apos) [] [] pos) (teF c (eM0 (fun s => .bl (Txt.isdigit s)) f)) := d_m0 (g := fun s => .bl (Txt.isdigit s)) PySem.F.slot_str_isdigit PySem.F.type_str_isdigit mt_isdigit (fun _ _ _ => .bl _) ho hbase hline
def dStrs : List D → Option (List Str)
  | [] => some []
  | .str b :: ds => (dStrs ds).map (b :: ·)
  | _ :: _ => none
theorem dStrs_eq : ∀ {ds : List D} {bs : List Str}, dStrs ds = some bs → ds = bs.map D.str
  | [], _, h => by cases h; rfl
  | .str b :: ds, bs, h => by
    obtain ⟨cs, h1, h2⟩ := Option.map_eq_some_iff.mp h
    subst h2
    rw [dStrs_eq h1]
    rfl
  | .non :: _, _, h => nomatch h
  | .int _ :: _, _, h => nomatch h
  | .bl _ :: _, _, h => nomatch h
  | .lst _ :: _, _, h => nomatch h
  | .tup _ :: _, _, h => nomatch h
  | .dic _ _ _ :: _, _, h => nomatch h
  | .ins _ _ _ :: _, _, h => nomatch h
  | .frz _ :: _, _, h => nomatch h
  | .hdl _ :: _, _, h => nomatch h
def dInts : List D → Option (List Int)
  | [] => some []
  | .int b :: ds => (dInts ds).map (b :: ·)
  | _ :: _ => none
theorem dInts_eq : ∀ {ds : List D} {bs : List Int}, dInts ds = some bs → ds = bs.map D.int
  | [], _, h => by cases h; rfl
  | .int b :: ds, bs, h => by
    obtain ⟨cs, h1, h2⟩ := Option.map_eq_some_iff.mp h
    subst h2
    rw [dInts_eq h1]
    rfl
  | .non :: _, _, h => nomatch h
  | .str _ :: _, _, h => nomatch h
  | .bl _ :: _, _, h => nomatch h
  | .lst _ :: _, _, h => nomatch h
  | .tup _ :: _, _, h => nomatch h
  | .dic _ _ _ :: _, _, h => nomatch h
  | .ins _ _ _ :: _, _, h => nomatch h
  | .frz _ :: _, _, h => nomatch h
  | .hdl _ :: _, _, h => nomatch h
/-- s.join(texts) -/
def eJoin (fo fe : FE) : FE := fun env m => (fo env m).bind fun d m1 => match d with
  | .str s => (fe env m1).bind fun l m2 => match (seqOf m2 l).bind dStrs with
    | some ys => if (ys.map (·.length)).sum + ys.length * s.length ≤ 16777216 then .ok (.str (Txt.join s ys)) m2 else .no
    | none => .no
  | _ => .no
theorem d_join (ho : PE X o (teF c f)) (he : PE X e (teF c fe)) (hz : zx X = c.z := by rfl) (hs : starEach [e] X.env = [(false, eval e X.env)] := by rfl) (hbase : attributeBase o "join" X.env (eval o X.env) = eval o X.env := by rfl) (hline : (apos.endLine == pos.line) = true := by rfl) : PE X (.Call (.Attribute o "join" apos) [e] [] pos) (teF c (eJoin f fe)) := by
  have hK := kz hz
  refine pe_mono (pe_join ho he hs hbase hline) fun σ H Q ⟨X1, env, m, μ, B, I, o⟩ => ⟨X1, env, m, μ, B, I, out_seq o fun d m1 x H1 B1 μ1 g1 hx I1 o1 => ?_⟩
  split at o1
  · rename_i s
    cases hx
    refine ⟨⟨s, rfl⟩, ⟨X1, env, m1, μ1, B1, I1, out_seq o1 fun l m2 y H2 B2 μ2 g2 hy I2 o2 => ?_⟩⟩
    split at o2
    · rename_i ys hys
      split at o2
      · rename_i hl
        obtain ⟨ds, h1, h2⟩ := Option.bind_eq_some_iff.mp hys
        obtain ⟨p, xs, rfl, h3, h4⟩ := vw_seq I2.me hy h1
        rw [dStrs_eq h2] at h4
        rw [ats_str h4] at h3
        exact ⟨s, p, ys, rfl, rfl, by rw [hK]; exact h3, hl, o2 _ H2 B2 μ2 Gw.refl (.str _) I2⟩
      · exact o2.elim
    · exact o2.elim
  · exact o1.elim
end
end DY
/-! defs read as functions over data: dicts -/
namespace DY
open PySem PySem.Spec PyProof.Rows L2 Evl LX XV RX WS
/-! ### by keys -/
def sameK (n : Bool) (a b : D) : Bool := match n with
  | false => decide (dKey a = dKey b)
  | true => decide (dNk a = dNk b)
def kf (n : Bool) : List D → List D → D → Option D
  | k :: ks, v :: vs, q => if sameK n k q = true then some v else kf n ks vs q
  | _, _, _ => none
def kr (n : Bool) : List D → List D → D → D → List D
  | k :: ks, v :: vs, q, x => (if sameK n k q = true then x else v) :: kr n ks vs q x
  | _, _, _, _ => []
/-- a[q] = x -/
def kp (n : Bool) (ks vs : List D) (q x : D) : List D × List D := if (kf n ks vs q).isSome = true then (ks, kr n ks vs q x) else (ks ++ [q], vs ++ [x])
def OAt (z : Z) (μ : List Addr) (B : Hp) : Option V → Option D → Prop
  | some v, some d => At z μ B v d
  | none, none => True
  | _, _ => False
theorem OAt.is {z : Z} {μ : List Addr} {B : Hp} {o : Option V} {p : Option D} (h : OAt z μ B o p) : o.isSome = p.isSome := by
  cases o <;> cases p <;> first | rfl | exact h.elim
theorem OAt.get {z : Z} {μ : List Addr} {B : Hp} {o : Option V} {d : D} (h : OAt z μ B o (some d)) : ∃ v, o = some v ∧ At z μ B v d := by
  cases o with
  | none => exact h.elim
  | some v => exact ⟨v, rfl, h⟩
theorem OAt.none {z : Z} {μ : List Addr} {B : Hp} {o : Option V} (h : OAt z μ B o Option.none) : o = Option.none := by
  cases o with
  | none => rfl
  | some v => exact h.elim
section
variable {z : Z} {X B H : Hp} {μ : List Addr} {m : Mem} {x : V} {q d : D}
theorem at_key {k : Key} (h : At z μ B x q) (e : dKey q = some k) : x = kV k := by
  unfold dKey at e
  split at e
  · cases e; cases h; rfl
  · cases e; cases h; rfl
  · exact nomatch e
mutual
theorem at_nk : ∀ {x : V} {q : D} {k : NestedKey}, At z μ B x q → dNk q = some k → NK z.K B x k
  | _, _, k, .int i, e => by unfold dNk at e; cases e; exact .num i
  | _, _, k, .str s, e => by unfold dNk at e; cases e; exact .text s
  | _, _, k, .tup h hs, e => by
    unfold dNk at e
    obtain ⟨ks, h1, rfl⟩ := Option.map_eq_some_iff.mp e
    exact .tup h (ats_nk hs h1)
  | _, _, _, .non, e => by unfold dNk at e; exact nomatch e
  | _, _, _, .bl _, e => by unfold dNk at e; exact nomatch e
  | _, _, _, .lst _ _, e => by unfold dNk at e; exact nomatch e
  | _, _, _, .frz _ _, e => by unfold dNk at e; exact nomatch e
  | _, _, _, .dicK _ _ _, e => by unfold dNk at e; exact nomatch e
  | _, _, _, .dicM _ _ _, e => by unfold dNk at e; exact nomatch e
  | _, _, _, .dicN _ _ _ _ _, e => by unfold dNk at e; exact nomatch e
  | _, _, _, .ins _ _ _, e => by unfold dNk at e; exact nomatch e
  | _, _, _, .hdl _, e => by unfold dNk at e; exact nomatch e
theorem ats_nk : ∀ {xs : List V} {ds : List D} {ks : List NestedKey}, Ats z μ B xs ds → dNks ds = some ks → NKs z.K B xs ks
  | _, _, _, .nil, e => by unfold dNks at e; cases e; exact .nil
  | _, d :: ds, _, .cons h hs, e => by
    unfold dNks at e
    split at e
    · rename_i k ks h1 h2
      cases e
      exact .cons (at_nk h h1) (ats_nk hs h2)
    · exact nomatch e
end
theorem kfK {k : Key} (e : dKey q = some k) : ∀ {kvs : List (Key × V)} {ks vs : List D}, kvs.map (fun p => some p.1) = ks.map dKey → Ats z μ B (kvs.map (·.2)) vs → OAt z μ B (valV kvs k) (kf false ks vs q)
  | [], [], _, _, .nil => trivial
  | p :: kvs, c :: ks, _, h, .cons hv hs => by
    obtain ⟨h1, h2⟩ := List.cons.inj h
    have h1 : some p.1 = dKey c := h1
    unfold kf sameK
    by_cases t : p.1 = k
    · rw [valV_pos t, if_pos (decide_eq_true (by rw [← h1, e, t]))]
      exact hv
    · rw [valV_neg t, if_neg (by rw [← h1, e]; simpa using t)]
      exact kfK e h2 hs
  | _ :: _, [], _, h, _ => nomatch h
  | [], _ :: _, _, h, _ => nomatch h
theorem krK {k : Key} {y : V} {dy : D} (e : dKey q = some k) (hy : At z μ B y dy) : ∀ {kvs : List (Key × V)} {ks vs : List D}, kvs.map (fun p => some p.1) = ks.map dKey → Ats z μ B (kvs.map (·.2)) vs →
    (kvs.map fun kv => if kv.1 = k then (kv.1, y) else kv).map (fun p => some p.1) = ks.map dKey ∧ Ats z μ B ((kvs.map fun kv => if kv.1 = k then (kv.1, y) else kv).map (·.2)) (kr false ks vs q dy)
  | [], [], _, _, .nil => ⟨rfl, .nil⟩
  | p :: kvs, c :: ks, _, h, .cons hv hs => by
    obtain ⟨h1, h2⟩ := List.cons.inj h
    have h1 : some p.1 = dKey c := h1
    obtain ⟨i1, i2⟩ := krK e hy h2 hs
    unfold kr sameK
    by_cases t : p.1 = k
    · rw [if_pos (decide_eq_true (by rw [← h1, e, t])), List.map_cons, if_pos t, List.map_cons, List.map_cons, i1]
      exact ⟨by rw [h1], .cons hy i2⟩
    · rw [if_neg (by rw [← h1, e]; simpa using t), List.map_cons, if_neg t, List.map_cons, List.map_cons, i1]
      exact ⟨by rw [h1], .cons hv i2⟩
  | _ :: _, [], _, h, _ => nomatch h
  | [], _ :: _, _, h, _ => nomatch h
theorem putK_eq {kvs : List (Key × V)} {k : Key} {y : V} : putK kvs k y = if (valV kvs k).isSome = true then kvs.map (fun kv => if kv.1 = k then (kv.1, y) else kv) else kvs ++ [(k, y)] := by
  unfold putK
  rw [valV_any]
theorem kpK {k : Key} {y : V} {dy : D} (e : dKey q = some k) (hy : At z μ B y dy) {kvs : List (Key × V)} {ks vs : List D} (h : kvs.map (fun p => some p.1) = ks.map dKey) (hs : Ats z μ B (kvs.map (·.2)) vs) :
    (putK kvs k y).map (fun p => some p.1) = (kp false ks vs q dy).1.map dKey ∧ Ats z μ B ((putK kvs k y).map (·.2)) (kp false ks vs q dy).2 := by
  have o := (kfK e h hs).is
  rw [putK_eq]
  unfold kp
  rw [o]
  split
  · exact krK e hy h hs
  · rw [List.map_append, List.map_append, List.map_append, h]
    exact ⟨by rw [List.map_cons, List.map_cons, e]; rfl, hs.snoc hy⟩
/-- the same, keys nested -/
theorem kfN {k : NestedKey} (e : dNk q = some k) : ∀ {kvs : List (NestedKey × Addr × V)} {ks vs : List D}, kvs.map (fun p => some p.1) = ks.map dNk → Ats z μ B (kvs.map (·.2.2)) vs → OAt z μ B ((kvs.find? fun p => decide (p.1 = k)).map (·.2.2)) (kf true ks vs q)
  | [], [], _, _, .nil => trivial
  | p :: kvs, c :: ks, _, h, .cons hv hs => by
    obtain ⟨h1, h2⟩ := List.cons.inj h
    have h1 : some p.1 = dNk c := h1
    unfold kf sameK
    rw [List.find?_cons]
    by_cases t : p.1 = k
    · rw [decide_eq_true t, if_pos (decide_eq_true (by rw [← h1, e, t]))]
      exact hv
    · rw [decide_eq_false t, if_neg (by rw [← h1, e]; simpa using t)]
      exact kfN e h2 hs
  | _ :: _, [], _, h, _ => nomatch h
  | [], _ :: _, _, h, _ => nomatch h
theorem krN {k : NestedKey} {y : V} {dy : D} (e : dNk q = some k) (hy : At z μ B y dy) : ∀ {kvs : List (NestedKey × Addr × V)} {ks vs : List D}, kvs.map (fun p => some p.1) = ks.map dNk → Ats z μ B (kvs.map (fun p => V.ref p.2.1)) ks → Ats z μ B (kvs.map (·.2.2)) vs →
    (kvs.map fun p => if p.1 = k then (p.1, p.2.1, y) else p).map (fun p => some p.1) = ks.map dNk ∧ Ats z μ B ((kvs.map fun p => if p.1 = k then (p.1, p.2.1, y) else p).map (fun p => V.ref p.2.1)) ks ∧ Ats z μ B ((kvs.map fun p => if p.1 = k then (p.1, p.2.1, y) else p).map (·.2.2)) (kr true ks vs q dy)
  | [], [], _, _, .nil, .nil => ⟨rfl, .nil, .nil⟩
  | p :: kvs, c :: ks, _, h, .cons hc hr, .cons hv hs => by
    obtain ⟨h1, h2⟩ := List.cons.inj h
    have h1 : some p.1 = dNk c := h1
    obtain ⟨i1, i2, i3⟩ := krN e hy h2 hr hs
    unfold kr sameK
    by_cases t : p.1 = k
    · rw [if_pos (decide_eq_true (by rw [← h1, e, t])), List.map_cons, if_pos t, List.map_cons, List.map_cons, List.map_cons, i1]
      exact ⟨by rw [h1], .cons hc i2, .cons hy i3⟩
    · rw [if_neg (by rw [← h1, e]; simpa using t), List.map_cons, if_neg t, List.map_cons, List.map_cons, List.map_cons, i1]
      exact ⟨by rw [h1], .cons hc i2, .cons hv i3⟩
  | _ :: _, [], _, h, _, _ => nomatch h
  | [], _ :: _, _, h, _, _ => nomatch h
theorem kpN {k : NestedKey} {a : Addr} {y : V} {dy : D} (e : dNk q = some k) (hq : At z μ B (.ref a) q) (hy : At z μ B y dy) {kvs : List (NestedKey × Addr × V)} {ks vs : List D} (h : kvs.map (fun p => some p.1) = ks.map dNk) (hr : Ats z μ B (kvs.map (fun p => V.ref p.2.1)) ks) (hs : Ats z μ B (kvs.map (·.2.2)) vs) :
    (putN kvs k a y).map (fun p => some p.1) = (kp true ks vs q dy).1.map dNk ∧ Ats z μ B ((putN kvs k a y).map (fun p => V.ref p.2.1)) (kp true ks vs q dy).1 ∧ Ats z μ B ((putN kvs k a y).map (·.2.2)) (kp true ks vs q dy).2 := by
  have o := (kfN e h hs).is
  rw [Option.isSome_map] at o
  unfold putN kp
  rw [o]
  split
  · exact krN e hy h hr hs
  · rw [List.map_append, List.map_append, List.map_append, List.map_append, h]
    exact ⟨by rw [List.map_cons, List.map_cons, e]; rfl, hr.snoc hq, hs.snoc hy⟩
theorem putN_keys {K : PySem.W.Frag} {kvs : List (NestedKey × Addr × V)} {k : NestedKey} {a : Addr} {y : V} (h : DnKeys K H kvs) (hk : NK K H (.ref a) k) (hd : k.depth ≤ 8) : DnKeys K H (putN kvs k a y) := by
  unfold putN
  split
  · intro p hp
    obtain ⟨q, hq, rfl⟩ := List.mem_map.mp hp
    have := h q hq
    split <;> exact this
  · intro p hp
    rcases List.mem_append.mp hp with c | c
    · exact h p c
    · rw [List.mem_singleton.mp c]; exact ⟨hk, hd⟩
theorem putN_len {kvs : List (NestedKey × Addr × V)} {k : NestedKey} {a : Addr} {y : V} : (putN kvs k a y).length ≤ kvs.length + 1 := by
  unfold putN
  split
  · rw [List.length_map]; omega
  · simp
/-- a dict of the module -/
theorem kfM {l : List (Str × V)} {s : Str} : ∀ {l : List (Str × V)} {vs : List D}, Ats z μ B (l.map (·.2)) vs → (∀ d, kf false (l.map fun p => D.str p.1) vs (.str s) = some d → ∃ p ∈ l, p.1 = s ∧ At z μ B p.2 d) ∧ (kf false (l.map fun p => D.str p.1) vs (.str s) = none → s ∉ l.map (·.1))
  | [], _, .nil => ⟨fun d h => (nomatch h), fun _ h => (nomatch h)⟩
  | p :: l, _, .cons hv hs => by
    obtain ⟨h1, h2⟩ := kfM (l := l) (s := s) hs
    rw [List.map_cons, List.map_cons]
    unfold kf sameK
    by_cases t : p.1 = s
    · rw [if_pos (decide_eq_true (by rw [t]))]
      refine ⟨fun d e => ?_, fun e => nomatch e⟩
      cases e
      exact ⟨p, List.mem_cons_self, t, hv⟩
    · have hn : ¬ decide (dKey (D.str p.1) = dKey (.str s)) = true := fun c => by
        have := of_decide_eq_true c
        unfold dKey at this
        exact t (by injection this with e; injection e)
      rw [if_neg hn]
      refine ⟨fun d e => ?_, fun e c => ?_⟩
      · obtain ⟨q, hq, r⟩ := h1 d e
        exact ⟨q, List.mem_cons_of_mem _ hq, r⟩
      · rcases List.mem_cons.mp c with c | c
        · exact t c.symm
        · exact h2 e c
end
/-! ### k in d -/
def isStr : D → Bool
  | .str _ => true
  | _ => false
def isVal : D → Bool
  | .hdl _ => false
  | _ => true
/-- may q be asked as a key of d -/
def okK (n : Bool) (d q : D) : Bool := match n with
  | false => if isVal d = true then isStr q else (dKey q).isSome
  | true => match q with
    | .tup _ => match dNk q with
      | some k => decide (k.depth ≤ 8)
      | none => false
    | _ => false
theorem okK_N {d q : D} (h : okK true d q = true) : ∃ ds k, q = .tup ds ∧ dNk q = some k ∧ k.depth ≤ 8 := by
  unfold okK at h
  simp only at h
  split at h
  · split at h
    · rename_i ds _ k hk
      exact ⟨ds, k, rfl, hk, of_decide_eq_true h⟩
    · exact nomatch h
  · exact nomatch h
theorem okK_K {d q : D} (h : okK false d q = true) : (∃ k, dKey q = some k) ∧ (isVal d = true → ∃ s, q = .str s) := by
  unfold okK at h
  simp only at h
  split at h
  · unfold isStr at h
    split at h
    · exact ⟨⟨_, rfl⟩, fun _ => ⟨_, rfl⟩⟩
    · exact nomatch h
  · rename_i hn
    exact ⟨Option.isSome_iff_exists.mp h, fun c => absurd c hn⟩
def gInA (n : Bool) (m : Mem) (a b : D) : Option D := match lk m b with
  | .dic s ks vs => if okK s b a = true then some (.bl (xor n (kf s ks vs a).isSome)) else none
  | _ => match n with
    | false => gIn false m a b
    | true => gNin m a b
/-- what is asked of k in d -/
def rInDic (neg : Bool) (K : PySem.W.Frag) (P : Program) (w : World) : R2 := fun x y H Q => (∃ a o, y = .ref a ∧ DGet H a x o ∧ Q (.bl (xor neg o.isSome)) H) ∨ (∃ d es n z r, KDict K w d es n ∧ x = .str z ∧ y = .ref d ∧ PySem.W.nsIn K d z = some r ∧ Q (.bl (xor neg r.isSome)) H) ∨
  ∃ (a E : Addr) (k : NestedKey) (kvs : List (NestedKey × Addr × V)), x = .ref a ∧ y = .ref E ∧ NK K H x k ∧ k.depth ≤ 8 ∧ Rd H E (DnO P w E kvs) ∧ DnKeys K H kvs ∧ Q (.bl (xor neg (kvs.find? fun p => decide (p.1 = k)).isSome)) H
theorem dn_rd {X : Cx} {pins : List (Addr × Obj)} {σ : L2.St} {H : Hp} {s : Shared} (I : Inv X pins σ H s) {E : Addr} {kvs : List (NestedKey × Addr × V)} (h : Rd H E (DnO X.prog X.w E kvs)) : DnAt X.prog X.w E kvs s.heap := (h.ok I.hok).1
theorem op_inDic {X : Cx} {K : PySem.W.Frag} {P : Program} {w : World} (hu : X.A.units + 64 < cLine) (hK : X.K = K) (hP : X.prog = P) (hw : X.w = w) : OpR X (compareOp .In) (rInDic false K P w) := by
  subst hK hP hw
  intro pins s σ H x y v u Q I rx ry h
  rcases h with ⟨a, o, rfl, g, q⟩ | ⟨d, es, n, z, r, D, rfl, rfl, e, q⟩ | ⟨a, E, k, kvs, rfl, rfl, hk, hd, hE, hks, q⟩
  · obtain rfl : u = Value.ref a := ry
    rw [Bool.false_xor] at q
    exact L2.d_in (by omega) I g rx fun s' I' => ⟨.bl o.isSome, H, I', rfl, q⟩
  · rw [Bool.false_xor] at q
    exact op_in_kd D pins s σ H _ _ v u Q I rx ry ⟨z, r, rfl, rfl, e, q⟩
  · cases rx
    cases ry
    obtain ⟨xs, rel, dd, hz, hsm⟩ := (dn_rd I hE).full I hks
    refine wpAny_in_heap (knd := nestedKind X.prog X.w) (k := k) (by show X.A.units + 1 + 8 < cLine; omega) ⟨NK.at I hk rfl, hd⟩ hsm dd ?_
    rw [rel.find]
    exact ⟨.bl _, H, I.tok _, rfl, by rw [Bool.false_xor] at q; exact q⟩
theorem op_ninDic {X : Cx} {K : PySem.W.Frag} {P : Program} {w : World} (hu : X.A.units + 64 < cLine) (hK : X.K = K) (hP : X.prog = P) (hw : X.w = w) : OpR X (compareOp .NotIn) (rInDic true K P w) := by
  subst hK hP hw
  intro pins s σ H x y v u Q I rx ry h
  rcases h with ⟨a, o, rfl, g, q⟩ | ⟨d, es, n, z, r, D, rfl, rfl, e, q⟩ | ⟨a, E, k, kvs, rfl, rfl, hk, hd, hE, hks, q⟩
  · obtain rfl : u = Value.ref a := ry
    rw [Bool.true_xor] at q
    exact L2.d_notIn (by omega) I g rx fun s' I' => ⟨.bl (!o.isSome), H, I', rfl, q⟩
  · rw [Bool.true_xor] at q
    exact op_notIn_kd D pins s σ H _ _ v u Q I rx ry ⟨z, r, rfl, rfl, e, q⟩
  · cases rx
    cases ry
    obtain ⟨xs, rel, dd, hz, hsm⟩ := (dn_rd I hE).full I hks
    refine wpAny_notIn_heap (knd := nestedKind X.prog X.w) (k := k) (by show X.A.units + 1 + 8 < cLine; omega) ⟨NK.at I hk rfl, hd⟩ hsm dd ?_
    rw [rel.find]
    exact ⟨.bl _, H, I.tok _, rfl, by rw [Bool.true_xor] at q; exact q⟩
theorem in_dic {z : Z} {X B H : Hp} {μ : List Addr} {m : Mem} {x y : V} {a b : D} {s : Bool} {ks vs : List D} {neg : Bool} {Q : VK} (M : Me z X μ B H m) (ha : At z μ B x a) (hb : At z μ B y b) (h : lk m b = .dic s ks vs) (ok : okK s b a = true) (q : Q (.bl (xor neg (kf s ks vs a).isSome)) H) : rInDic neg z.K z.P z.w x y H Q := by
  cases s with
  | false =>
    obtain ⟨⟨k, hk⟩, hv⟩ := okK_K ok
    rcases vw_dicK M hb h with ⟨p, kvs, rfl, h1, h2, h3⟩ | ⟨p, l, rfl, rfl, h1, rfl, h3⟩
    · have o := (kfK (z := z) hk h2 h3).is
      have := at_key ha hk
      subst this
      exact .inl ⟨p, valV kvs k, rfl, .inl ⟨kvs, k, h1, rfl, rfl⟩, by rw [o]; exact q⟩
    · obtain ⟨w, rfl⟩ := hv rfl
      cases ha
      obtain ⟨⟨es, n, K⟩, k1, k2, k3⟩ := h1
      obtain ⟨f1, f2⟩ := kfM (l := l) (s := w) h3
      refine .inr (.inl ?_)
      cases hf : kf false (l.map fun q => D.str q.1) vs (.str w) with
      | some d =>
        obtain ⟨e, he, rfl, _⟩ := f1 d hf
        obtain ⟨u, h4, _⟩ := k1 e he
        rw [hf] at q
        exact ⟨p, es, n, _, some u, K, rfl, rfl, h4, q⟩
      | none =>
        rw [hf] at q
        exact ⟨p, es, n, _, none, K, rfl, rfl, k3 _ (f2 hf), q⟩
  | true =>
    obtain ⟨ds, k, rfl, hk, hd⟩ := okK_N ok
    obtain ⟨p, kvs, rfl, h1, h2, h3, h4, h5⟩ := vw_dicN M hb h
    have o := (kfN (z := z) hk h3 h5).is
    rw [Option.isSome_map] at o
    cases ha with
    | tup t1 t2 =>
      refine .inr (.inr ⟨_, p, k, kvs, rfl, rfl, ?_, hd, h1, h2, by rw [o]; exact q⟩)
      have := at_nk (z := z) (.tup t1 t2) hk
      exact nk_ex M.bh this
def rInAll (K : PySem.W.Frag) (P : Program) (w : World) : R2 := fun x y H Q => rInU K x y H Q ∨ rInDic false K P w x y H Q
def rNinAll (K : PySem.W.Frag) (P : Program) (w : World) : R2 := fun x y H Q => rNinU K x y H Q ∨ rInDic true K P w x y H Q
theorem r_inA {z : Z} : R2ok z (rInAll z.K z.P z.w) (gInA false) := fun {X B H μ m x y a b d} M ha hb hg Q q => by
  unfold gInA at hg
  split at hg
  · rename_i s ks vs h
    split at hg
    · rename_i ok
      cases hg
      exact .inr (in_dic M ha hb h ok (flat M (fun B => .bl _) q))
    · exact nomatch hg
  · exact .inl (r_in M ha hb hg Q q)
theorem r_ninA {z : Z} : R2ok z (rNinAll z.K z.P z.w) (gInA true) := fun {X B H μ m x y a b d} M ha hb hg Q q => by
  unfold gInA at hg
  split at hg
  · rename_i s ks vs h
    split at hg
    · rename_i ok
      cases hg
      exact .inr (in_dic M ha hb h ok (flat M (fun B => .bl _) q))
    · exact nomatch hg
  · exact .inl (r_nin M ha hb hg Q q)
section
variable {X : Cx} {c : Cc} {a b e : Expr} {fa fb fe : FE} {pos : Pos}
theorem o_inA (hr : RoomU X.A) (hz : zx X = c.z) : OpR X (compareOp .In) (rInAll c.z.K c.z.P c.z.w) := opr_or (o_in hr hz) (op_inDic hr.units (congrArg Z.K hz) (congrArg Z.P hz) (congrArg Z.w hz))
theorem o_ninA (hr : RoomU X.A) (hz : zx X = c.z) : OpR X (compareOp .NotIn) (rNinAll c.z.K c.z.P c.z.w) := opr_or (o_nin hr hz) (op_ninDic hr.units (congrArg Z.K hz) (congrArg Z.P hz) (congrArg Z.w hz))
theorem d_inA (hr : RoomU X.A) (ha : PE X a (teF c fa)) (hb : PE X b (teF c fb)) (hz : zx X = c.z := by rfl) (hm : behindInMarks .In b = false := by rfl) : PE X (.Compare a [.In] [b] pos) (teF c (e2 (gInA false) fa fb)) := d_cmpR (o_inA hr hz) r_inA ha hb hm
theorem d_ninA (hr : RoomU X.A) (ha : PE X a (teF c fa)) (hb : PE X b (teF c fb)) (hz : zx X = c.z := by rfl) (hm : behindInMarks .NotIn b = false := by rfl) : PE X (.Compare a [.NotIn] [b] pos) (teF c (e2 (gInA true) fa fb)) := d_cmpR (o_ninA hr hz) r_ninA ha hb hm
theorem dt_inA (hr : RoomU X.A) (ha : PE X a (teF c fa)) (hb : PE X b (teF c fb)) (hz : zx X = c.z := by rfl) (hm : behindInMarks .In b = false := by rfl) : PT X (.Compare a [.In] [b] pos) (ttF c (tB' (e2 (gInA false) fa fb))) := dt_cmpR (o_inA hr hz) r_inA ha hb hm
theorem dt_ninA (hr : RoomU X.A) (ha : PE X a (teF c fa)) (hb : PE X b (teF c fb)) (hz : zx X = c.z := by rfl) (hm : behindInMarks .NotIn b = false := by rfl) : PT X (.Compare a [.NotIn] [b] pos) (ttF c (tB' (e2 (gInA true) fa fb))) := dt_cmpR (o_ninA hr hz) r_ninA ha hb hm
end
end DY
/-! defs read as functions over data: dicts, read and changed -/
namespace DY
open PySem PySem.Spec PyProof.Rows L2 Evl LX XV RX WS
/-! ### d[k] -/
def gIxA (m : Mem) (a b : D) : Option D := match lk m a with
  | .dic s ks vs => if okK s a b = true then kf s ks vs b else none
  | _ => gIx m a b
def rIxDic (K : PySem.W.Frag) (P : Program) (w : World) : R2 := fun x y H Q => (∃ a v, x = .ref a ∧ DGet H a y (some v) ∧ Q v H) ∨ rIxD K w x y H Q ∨
  ∃ (a E : Addr) (k : NestedKey) (kvs : List (NestedKey × Addr × V)) (v : V), x = .ref E ∧ y = .ref a ∧ NK K H y k ∧ k.depth ≤ 8 ∧ Rd H E (DnO P w E kvs) ∧ DnKeys K H kvs ∧ (kvs.find? fun p => decide (p.1 = k)).map (·.2.2) = some v ∧ Q v H
theorem DnRel.val {k : NestedKey} {v : V} : ∀ {kvs : List (NestedKey × Addr × V)} {xs : List (NestedKey × Addr × Value)}, DnRel kvs xs → (kvs.find? fun p => decide (p.1 = k)).map (·.2.2) = some v → ∃ p, atKey xs k = some p ∧ RelV v p.2
  | _, _, .nil, h => nomatch h
  | _, _, .cons (a := p) (b := q) r t, h => by
    unfold atKey
    rw [List.find?_cons, ← r.1]
    rw [List.find?_cons] at h
    by_cases c : p.1 = k
    · rw [decide_eq_true c] at h ⊢
      cases h
      exact ⟨_, rfl, r.2.2⟩
    · rw [decide_eq_false c] at h ⊢
      exact DnRel.val t h
theorem ix_dic {X : Cx} {K : PySem.W.Frag} {P : Program} {w : World} (hu : X.A.units + 64 < cLine) (hK : X.K = K) (hP : X.prog = P) (hw : X.w = w) : IxR X (rIxDic K P w) := by
  subst hK hP hw
  intro value slice pins s σ H x y v u Q I rx ry h hs
  rcases h with ⟨a, z, rfl, g, q⟩ | h | ⟨a, E, k, kvs, z, rfl, rfl, hk, hd, hE, hks, hv, q⟩
  · obtain rfl : v = Value.ref a := rx
    exact tail_any (dict_typeIs I g) slot_dict_getitem.lookup (d_getItem (by omega) I g ry fun w' s' I' rw' => ⟨z, H, I', rw', q⟩) hs
  · exact ix_kdict value slice pins s σ H x y v u Q I rx ry h hs
  · cases rx
    cases ry
    obtain ⟨xs, rel, dd, hz, hsm⟩ := (dn_rd I hE).full I hks
    obtain ⟨p, hp, rp⟩ := DnRel.val rel hv
    exact tail_any dd.typeIs slot_dict_getitem.lookup (wpAny_getItem_heap (knd := nestedKind X.prog X.w) (k := k) (by show X.A.units + 1 + 8 < cLine; omega) ⟨NK.at I hk rfl, hd⟩ dd hp ⟨z, H, I.tok _, rp, q⟩) hs
def rIxAll (K : PySem.W.Frag) (P : Program) (w : World) : R2 := fun x y H Q => rIxU K x y H Q ∨ rIxDic K P w x y H Q
theorem r_ixA {z : Z} : R2ok z (rIxAll z.K z.P z.w) gIxA := fun {X B H μ m x y a b d} M ha hb hg Q q => by
  unfold gIxA at hg
  split at hg
  · rename_i s ks vs h
    split at hg
    · rename_i ok
      refine .inr ?_
      cases s with
      | false =>
        obtain ⟨⟨k, hk⟩, hv⟩ := okK_K ok
        rcases vw_dicK M ha h with ⟨p, kvs, rfl, h1, h2, h3⟩ | ⟨p, l, rfl, rfl, h1, rfl, h3⟩
        · have o := kfK (z := z) hk h2 h3
          rw [hg] at o
          obtain ⟨v, e, hv⟩ := o.get
          have := at_key hb hk
          subst this
          exact .inl ⟨p, v, rfl, .inl ⟨kvs, k, h1, rfl, e.symm⟩, same_ M hv q⟩
        · obtain ⟨w, rfl⟩ := hv rfl
          cases hb
          obtain ⟨⟨es, n, K⟩, k1, k2, k3⟩ := h1
          obtain ⟨e, he, rfl, hat⟩ := (kfM (l := l) (s := w) h3).1 d hg
          obtain ⟨u, h4, h5⟩ := k1 e he
          exact .inr (.inl ⟨p, _, _, rfl, rfl, ⟨es, n, u, K.at_, K.lit, h4, h5⟩, same_ M hat q⟩)
      | true =>
        obtain ⟨ds, k, rfl, hk, hd⟩ := okK_N ok
        obtain ⟨p, kvs, rfl, h1, h2, h3, h4, h5⟩ := vw_dicN M ha h
        have o := kfN (z := z) hk h3 h5
        rw [hg] at o
        obtain ⟨v, e, hv⟩ := o.get
        cases hb with
        | tup t1 t2 => exact .inr (.inr ⟨_, p, k, kvs, v, rfl, rfl, nk_ex M.bh (at_nk (z := z) (.tup t1 t2) hk), hd, h1, h2, e, same_ M hv q⟩)
    · exact nomatch hg
  · exact .inl (r_ix M ha hb hg Q q)
/-! ### {} -/
/-- n: its keys are tuples -/
def nD (n : Bool) : FN := fun _ m => .ok (.dic n [] []) m
section
variable {X : Cx} {c : Cc} {a b : Expr} {fa fb : FE} {pos : Pos}
theorem d_ixA (hr : RoomU X.A) (ha : PE X a (teF c fa)) (hb : PE X b (teF c fb)) (hz : zx X = c.z := by rfl) (hs : PlainIx b := by intro _ _; rfl) : PE X (.Subscript a b pos) (teF c (e2 gIxA fa fb)) := by
  have h := ix_dic (X := X) hr.units (congrArg Z.K hz) (congrArg Z.P hz) (congrArg Z.w hz)
  exact d_ixR ((o_ix hz).or h) r_ixA ha hb hs
theorem pe_dnewN : PE X (.Dict [] [] pos) (fun _ H Q => ∀ p, H p = none → Q (.ref p) (upd H p (DnO X.prog X.w p []))) := ⟨fun pins s σ H Q I h =>
  wpAny_Dict_empty ⟨.ref _, _, I.laid (a := s.heap.objs.size) (o := DnO X.prog X.w s.heap.objs.size []) (t' := s.toks) (fun _ _ q => Heap.get?_push_of_some _ q) (Nat.le_refl _) (newNk_ok _ s.heap I.big), rfl, h _ (I.hok.fresh (Nat.le_refl _))⟩⟩
theorem d_dict0 (n : Bool) (hz : zx X = c.z := by rfl) : PE X (.Dict [] [] pos) (tnF c (nD n)) := by
  cases n with
  | false =>
    refine pe_mono pe_dnewK fun σ H Q ⟨X1, env, m, μ, B, I, o⟩ => fun p hp => ?_
    obtain ⟨h1, h2, h3⟩ := I.me.new hp
    exact o p _ B μ Gw.refl ⟨[], upd_same, rfl, .nil⟩ h1 h2 h3 (I.up (Ex.new hp) (Gr.refl _ _) (I.me.bh.trans (Ex.new hp)))
  | true =>
    refine pe_mono pe_dnewN fun σ H Q ⟨X1, env, m, μ, B, I, o⟩ => fun p hp => ?_
    obtain ⟨h1, h2, h3⟩ := I.me.new hp
    have e : DnO X.prog X.w p [] = DnO c.z.P c.z.w p [] := by rw [← hz]
    rw [e]
    exact o p _ B μ Gw.refl ⟨[], upd_same, (fun p hp => nomatch hp), rfl, .nil, .nil⟩ h1 h2 h3 (I.up (Ex.new hp) (Gr.refl _ _) (I.me.bh.trans (Ex.new hp)))
end
/-! ### o[i] = e -/
/-- what the object n becomes -/
def putO (m : Mem) (n : Nat) (i d : D) : Option Mem := match m[n]? with
  | some (.lst ds) => match i with
    | .int k => (ixN ds.length k).map fun j => m.set n (.lst (ds.set j d))
    | _ => none
  | some (.dic s ks vs) => if okK s (.hdl n) i = true ∧ vs.length < big then some (m.set n (.dic s (kp s ks vs i d).1 (kp s ks vs i d).2)) else none
  | _ => none
def sSet (fv fo fi : FE) : FS := fun env m => (fv env m).toS env fun d m1 => (fo env m1).toS env fun o m2 => (fi env m2).toS env fun i m3 => match o with
  | .hdl n => match putO m3 n i d with
    | some m4 => .nx env m4
    | none => .no
  | _ => .no
def rSetDic (K : PySem.W.Frag) (P : Program) (w : World) : TSet := fun o i v H Q => ∃ (a E : Addr) (k : NestedKey) (kvs : List (NestedKey × Addr × V)), o = .ref E ∧ i = .ref a ∧ NK K H i k ∧ k.depth ≤ 8 ∧ H E = some (DnO P w E kvs) ∧ DnKeys K H kvs ∧ (putN kvs k a v).length ≤ sizeLine ∧ Q (upd H E (DnO P w E (putN kvs k a v)))
theorem set_dicN {X : Cx} {K : PySem.W.Frag} {P : Program} {w : World} (hu : X.A.units + 64 < cLine) (hK : X.K = K) (hP : X.prog = P) (hw : X.w = w) : PSet X (rSetDic K P w) := by
  subst hK hP hw
  intro pins s σ H o i v ov iv u Q I ro ri rv h
  obtain ⟨a, E, k, kvs, rfl, rfl, hk, hd, hE, hks, hl, q⟩ := h
  cases ro
  cases ri
  obtain ⟨xs, rel, dd, hz, hsm⟩ := (dn_rd I (.inl hE)).full I hks
  refine wpAny_setItem_heap (knd := nestedKind X.prog X.w) (k := k) (hsz := hz) (by show X.A.units + 1 + 8 < cLine; omega) ⟨NK.at I hk rfl, hd⟩ dd fun h' dd' sb => ?_
  obtain ⟨o, es, ep, ho, hx, hdat, he, _, hn⟩ := dd'
  exact ⟨_, I.write (x := E) (e := E) (by rw [hE]; trivial) (.inl rfl) (fun b q hb z => (sb.2 b hb).trans z) ⟨o, ho⟩ (dn_new ⟨_, rel.put rv, hl, hsm, o, es, ep, ho, hx, hdat, he, hn⟩), q⟩
def rSetAll (K : PySem.W.Frag) (P : Program) (w : World) : TSet := fun o i v H Q => rSetL o i v H Q ∨ rSetD o i v H Q ∨ rSetDic K P w o i v H Q
theorem set_all {X : Cx} {K : PySem.W.Frag} {P : Program} {w : World} (hu : X.A.units + 64 < cLine) (hK : X.K = K) (hP : X.prog = P) (hw : X.w = w) : PSet X (rSetAll K P w) := fun pins s σ H o i v ov iv u Q I ro ri rv h => by
  rcases h with h | h | h
  · exact set_list pins s σ H o i v ov iv u Q I ro ri rv h
  · exact set_dict (by omega) pins s σ H o i v ov iv u Q I ro ri rv h
  · exact set_dicN hu hK hP hw pins s σ H o i v ov iv u Q I ro ri rv h
/-- the object n at a takes d at i -/
theorem put_all {z : Z} {xi : XI} {X1 B H : Hp} {env : Sv} {m m' : Mem} {μ : List Addr} {σ : L2.St} {n : Nat} {a : Addr} {y v : V} {i d : D} {Q : Hp → Prop} (I : En z xi X1 env m μ σ B H) (ha : μ[n]? = some a) (hi : At z μ B y i) (hv : At z μ B v d) (h : putO m n i d = some m') (q : ∀ H', En z xi X1 env m' μ σ B H' → Q H') : rSetAll z.K z.P z.w (.ref a) y v H Q := by
  unfold putO at h
  split at h
  · rename_i ds hm
    split at h
    · rename_i k
      obtain ⟨j, h1, rfl⟩ := Option.map_eq_some_iff.mp h
      cases hi
      obtain ⟨xs, h2, h3⟩ := I.me.ob n _ _ ha hm
      exact .inl ⟨a, xs, k, j, rfl, rfl, h2, by rw [h3.len]; exact h1, q _ (I.put ha fun H' hH => ⟨_, hH, h3.set hv j⟩)⟩
    · exact nomatch h
  · rename_i s ks vs hm
    split at h
    · rename_i ok
      cases h
      obtain ⟨ok, hl⟩ := ok
      cases s with
      | false =>
        obtain ⟨⟨k, hk⟩, _⟩ := okK_K ok
        have := at_key hi hk
        subst this
        obtain ⟨kvs, h1, h2, h3⟩ := I.me.ob n _ _ ha hm
        obtain ⟨p1, p2⟩ := kpK hk hv h2 h3
        have : kvs.length = vs.length := by have := h3.len; rwa [List.length_map] at this
        exact .inr (.inl ⟨a, _, rfl, DPut.k h1 (by rw [this]; exact lt_big hl), q _ (I.put ha fun H' hH => ⟨_, hH, p1, p2⟩)⟩)
      | true =>
        obtain ⟨es, k, rfl, hk, hd⟩ := okK_N ok
        obtain ⟨kvs, h1, h2, h3, h4, h5⟩ := I.me.ob n _ _ ha hm
        cases hi with
        | tup t1 t2 =>
          have hnk := at_nk (z := z) (.tup t1 t2) hk
          obtain ⟨p1, p2, p3⟩ := kpN hk (.tup t1 t2) hv h3 h4 h5
          have e0 : kvs.length = vs.length := by have := h5.len; rwa [List.length_map] at this
          have hle := lt_big hl
          refine .inr (.inr ⟨_, a, k, kvs, rfl, rfl, nk_ex I.me.bh hnk, hd, h1, dnk_ex I.me.bh h2, ?_, q _ (I.put ha fun H' hH => ⟨_, hH, putN_keys h2 hnk hd, p1, p2, p3⟩)⟩)
          exact Nat.le_trans putN_len (by rw [e0]; exact hle)
    · exact nomatch h
  · exact nomatch h
section
variable {X : Cx} {c : Cc} {e o i : Expr} {fv fo fi : FE} {pos p1 : Pos}
theorem ds_set (hr : RoomU X.A) (hv : PE X e (teF c fv)) (ho : PE X o (teF c fo)) (hi : PE X i (teF c fi)) (hz : zx X = c.z := by rfl) (hs : swapsWithSole [.Subscript o i p1] e pos.line X.env = pure false := by rfl) (hw : swappedStores [.Subscript o i p1] e X.env = pure none := by rfl)
    (h1 : (assignEach [.Subscript o i p1] X.env).map (·.2) = [assign (.Subscript o i p1) X.env] := by rfl)
    (ha : ∀ v, assign (.Subscript o i p1) X.env v = (do
      let ov ← holding [v] (eval o X.env)
      let iv ← holding [v, ov] (eval i X.env)
      standAt p1
      holding [v, ov, iv] (setItem ov iv v)
      release [v, ov, iv] []) := by intro _; rfl) : PS X (.Assign [.Subscript o i p1] e pos) (tsF c (sSet fv fo fi)) := by
  have hset := set_all (X := X) hr.units (congrArg Z.K hz) (congrArg Z.P hz) (congrArg Z.w hz)
  refine ps_mono (ps_asg hv (pg_sub ho hi hset ha) hs hw h1) fun Dn σ H ⟨X1, env, m, μ, B, I, o⟩ => ⟨X1, env, m, μ, B, I, out_S o fun d m1 x H1 B1 μ1 g1 hx I1 o1 => ⟨X1, env, m1, μ1, B1, I1, out_S o1 fun ob m2 y H2 B2 μ2 g2 hy I2 o2 => ⟨X1, env, m2, μ2, B2, I2, out_S o2 fun ix m3 w H3 B3 μ3 g3 hw I3 o3 => ?_⟩⟩⟩
  split at o3
  · rename_i n
    split at o3
    · rename_i m4 hp
      cases hy with
      | hdl hn => exact put_all I3 (pre_get g3.p hn) hw ((hx.gw g2).gw g3) hp fun H' I' => o3 σ H' B3 μ3 Gw.refl I'
    · exact o3.elim
  · exact o3.elim
end
end DY
/-! defs read as functions over data: dicts' methods, comprehensions of dicts -/
namespace DY
open PySem PySem.Spec PyProof.Rows L2 Evl LX XV RX WS
/-! ### d.setdefault(k, v), d.get(k, v) -/
def isK (m : Mem) (n : Nat) : Bool := match m[n]? with
  | some (.dic false _ _) => true
  | _ => false
theorem isK_ok {m : Mem} {n : Nat} (h : isK m n = true) : ∃ ks vs, m[n]? = some (.dic false ks vs) := by
  unfold isK at h
  split at h
  · rename_i ks vs hm; exact ⟨ks, vs, hm⟩
  · exact nomatch h
def eSetd (fo fk fv : FE) : FE := fun env m => (fo env m).bind fun o m1 => match o with
  | .hdl n => if isK m1 n = true then (fk env m1).bind fun k m2 => (fv env m2).bind fun v m3 => match m3[n]? with
      | some (.dic false ks vs) => if okK false (.hdl n) k = true ∧ vs.length < big then match kf false ks vs k with
          | some d => .ok d m3
          | none => .ok v (m3.set n (.dic false (kp false ks vs k v).1 (kp false ks vs k v).2))
        else .no
      | _ => .no
    else .no
  | _ => .no
section
variable {X : Cx} {c : Cc} {o e f : Expr} {fo fk fv : FE} {apos cpos : Pos}
theorem d_setd (ho : PE X o (teF c fo)) (he : PE X e (teF c fk)) (hf : PE X f (teF c fv)) (h1 : attributeBase o "setdefault" X.env (eval o X.env) = eval o X.env := by rfl)
    (h2 : ((backTo cpos (starEach [e, f] X.env)).all (fun x => !x.1) && (backToKw cpos (keywordEach [] X.env)).all (fun x => x.1.isSome) && decide (([e, f] : List Expr).length + ([] : List Keyword).length + (if ([] : List Keyword).isEmpty then 0 else 1) < 30)) = true := by rfl)
    (h3 : (apos.endLine == cpos.line) = true := by rfl) (h4 : backTo cpos (starEach [e, f] X.env) = [(false, eval e X.env), (false, eval f X.env)] := by rfl) : PE X (.Call (.Attribute o "setdefault" apos) [e, f] [] cpos) (teF c (eSetd fo fk fv)) := pe_mono (pe_dsetd ho he hf ⟨h1, h2, h3, h4⟩) fun σ H Q ⟨X1, env, m, μ, B, I, o⟩ => ⟨X1, env, m, μ, B, I, out_seq o fun ob m1 x H1 B1 μ1 g1 hx I1 o1 => by
  split at o1
  · rename_i n
    split at o1
    · rename_i hl
      obtain ⟨ks0, vs0, hm0⟩ := isK_ok hl
      cases hx with
      | hdl hp =>
        obtain ⟨kvs0, h1, _⟩ := I1.me.ob n _ _ hp hm0
        refine ⟨_, rfl, .inl ⟨kvs0, .inl h1⟩, ⟨X1, env, m1, μ1, B1, I1, out_seq o1 fun k m2 y H2 B2 μ2 g2 hy I2 o2 => ⟨X1, env, m2, μ2, B2, I2, out_seq o2 fun v m3 w H3 B3 μ3 g3 hw I3 o3 => ?_⟩⟩⟩
        split at o3
        · rename_i ks vs hm
          split at o3
          · rename_i ok
            obtain ⟨ok, hlen⟩ := ok
            have hp3 := pre_get g3.p (pre_get g2.p hp)
            obtain ⟨⟨kk, hk⟩, _⟩ := okK_K ok
            obtain ⟨kvs, h4, h5, h6⟩ := I3.me.ob n _ _ hp3 hm
            have hy3 := hy.gw g3
            have := at_key hy3 hk
            subst this
            have ov := kfK (z := c.z) hk h5 h6
            have e0 : kvs.length = vs.length := by have := h6.len; rwa [List.length_map] at this
            refine ⟨kvs, kk, h4, rfl, by rw [e0]; exact lt_big hlen, fun v' hv' => ?_, fun hn => ?_⟩
            · split at o3
              · rename_i d hd
                rw [hd] at ov
                obtain ⟨u, eu, au⟩ := ov.get
                rw [hv'] at eu
                cases eu
                exact o3 _ H3 B3 μ3 Gw.refl au I3
              · rename_i hd
                rw [hd] at ov
                rw [ov.none] at hv'
                exact nomatch hv'
            · split at o3
              · rename_i d hd
                rw [hd] at ov
                obtain ⟨u, eu, au⟩ := ov.get
                rw [hn] at eu
                exact nomatch eu
              · obtain ⟨p1, p2⟩ := kpK hk hw h5 h6
                exact o3 _ _ B3 μ3 Gw.refl hw (I3.put hp3 fun H' hH => ⟨_, hH, p1, p2⟩)
          · exact o3.elim
        · exact o3.elim
    · exact o1.elim
  · exact o1.elim⟩
end
/-! ### comprehensions of dicts -/
/-- u holds these keys and values -/
def DcU (z : Z) (μ : List Addr) (B : Hp) (a : Addr) (n : Bool) (ks vs : List D) (u : HO) : Prop := match n with
  | false => ∃ kvs, u = .dK kvs ∧ kvs.map (fun p => some p.1) = ks.map dKey ∧ Ats z μ B (kvs.map (·.2)) vs
  | true => ∃ kvs, u = DnO z.P z.w a kvs ∧ DnKeys z.K B kvs ∧ kvs.map (fun p => some p.1) = ks.map dNk ∧ Ats z μ B (kvs.map (fun p => V.ref p.2.1)) ks ∧ Ats z μ B (kvs.map (·.2.2)) vs
theorem DcU.gr {z : Z} {μ μ' : List Addr} {B B' : Hp} {a : Addr} {n : Bool} {ks vs : List D} {u : HO} (h : DcU z μ B a n ks vs u) (e : Ex B B') (p : μ <+: μ') : DcU z μ' B' a n ks vs u := by
  cases n with
  | false => obtain ⟨kvs, rfl, h1, h2⟩ := h; exact ⟨kvs, rfl, h1, h2.gr e p⟩
  | true => obtain ⟨kvs, rfl, h1, h2, h3, h4⟩ := h; exact ⟨kvs, rfl, dnk_ex e h1, h2, h3.gr e p, h4.gr e p⟩
theorem DcU.ob {z : Z} {μ : List Addr} {B H : Hp} {a : Addr} {n : Bool} {ks vs : List D} {u : HO} (h : DcU z μ B a n ks vs u) (hu : H a = some u) : ObAt z μ B H a (.dic n ks vs) := by
  cases n with
  | false => obtain ⟨kvs, rfl, h1, h2⟩ := h; exact ⟨kvs, hu, h1, h2⟩
  | true => obtain ⟨kvs, rfl, h1, h2, h3, h4⟩ := h; exact ⟨kvs, hu, h1, h2, h3, h4⟩
def putKk : PutR := fun y z H D Nx => ∃ kvs k, y = kV k ∧ H D = some (.dK kvs) ∧ kvs.length < sizeLine ∧ Nx (upd H D (.dK (putK kvs k z)))
theorem putKk_ok {X : Cx} : PutOk X putKk := by
  intro Y hP hw hK hA hcm pins σ H s D y z u r Nx E I ry rz h
  obtain ⟨kvs, k, rfl, hD, hl, q⟩ := h
  have g := d_dictSet (X := Y) (E := E) (Q := fun _ s' => ∃ H', L2.Inv Y pins σ H' s' ∧ Nx H') I hD hl ry rz fun s' I' => ⟨_, I', q⟩
  rw [hP, hw, hA] at g
  exact g
def nu0 (P : Program) (w : World) : Bool → Addr → HO
  | false => fun _ => .dK []
  | true => fun a => DnO P w a []
def nuP (K : PySem.W.Frag) (P : Program) (w : World) : Bool → PutR
  | false => putKk
  | true => putNk K P w
theorem nu0_ok {X : Cx} {n : Bool} : NewDOk X (nu0 X.prog X.w n) := by
  cases n
  · exact fun H h hb => dk_empty h hb
  · exact newNk_ok
theorem nuP_ok {X : Cx} {n : Bool} (hu : X.A.units + 64 < cLine) : PutOk X (nuP X.K X.prog X.w n) := by
  cases n
  · exact putKk_ok
  · exact putNk_ok hu
theorem DcU.new {z : Z} {μ : List Addr} {B : Hp} {a : Addr} {n : Bool} : DcU z μ B a n [] [] (nu0 z.P z.w n a) := by
  cases n
  · exact ⟨[], rfl, rfl, .nil⟩
  · exact ⟨[], rfl, (fun p h => nomatch h), rfl, .nil, .nil⟩
theorem DcU.put {z : Z} {μ : List Addr} {B H : Hp} {a : Addr} {n : Bool} {ks vs : List D} {u : HO} {y v : V} {k d : D} {Nx : Hp → Prop} (h : DcU z μ B a n ks vs u) (e : Ex B H) (hu : H a = some u) (hy : At z μ B y k) (hv : At z μ B v d) (ok : okK n (.hdl 0) k = true) (hl : vs.length < big)
    (q : ∀ u', DcU z μ B a n (kp n ks vs k d).1 (kp n ks vs k d).2 u' → Nx (upd H a u')) : nuP z.K z.P z.w n y v H a Nx := by
  cases n with
  | false =>
    obtain ⟨kvs, rfl, h1, h2⟩ := h
    obtain ⟨⟨kk, hk⟩, _⟩ := okK_K ok
    have := at_key hy hk
    subst this
    have e0 : kvs.length = vs.length := by have := h2.len; rwa [List.length_map] at this
    obtain ⟨p1, p2⟩ := kpK hk hv h1 h2
    exact ⟨kvs, kk, rfl, hu, by rw [e0]; exact lt_big hl, q _ ⟨_, rfl, p1, p2⟩⟩
  | true =>
    obtain ⟨kvs, rfl, h1, h2, h3, h4⟩ := h
    obtain ⟨es, kk, rfl, hk, hd⟩ := okK_N ok
    cases hy with
    | tup t1 t2 =>
      have hnk := at_nk (z := z) (.tup t1 t2) hk
      obtain ⟨p1, p2, p3⟩ := kpN hk (.tup t1 t2) hv h2 h3 h4
      have e0 : kvs.length = vs.length := by have := h4.len; rwa [List.length_map] at this
      exact ⟨_, kk, kvs, rfl, nk_ex e hnk, hd, hu, dnk_ex e h1, Nat.le_trans putN_len (by rw [e0]; exact lt_big hl), q _ ⟨_, rfl, putN_keys h1 hnk hd, p1, p2, p3⟩⟩
def cld (n : Bool) (env : Sv) (g : FG) (t : FT) (fk fv : FE) (src : Src) : Nat → Nat → Mem → List D → List D → Rs (List D × List D)
  | 0, _, _, _, _ => .no
  | f + 1, i, m, ks, vs => match src.at_ m i with
    | none => .no
    | some none => .ok (ks, vs) m
    | some (some d) => match g d env m with
      | none => .no
      | some e1 => (noex (t e1 m)).bind fun b m2 => if b = true then (noex (fk e1 m2)).bind fun k m3 => (noex (fv e1 m3)).bind fun v m4 => if okK n (.hdl 0) k = true ∧ vs.length < big then cld n env g t fk fv src f (i + 1) m4 (kp n ks vs k v).1 (kp n ks vs k v).2 else .no
        else cld n env g t fk fv src f (i + 1) m2 ks vs
def asDc (n : Bool) : List D × List D → Mem → Rs Ob := fun p m => .ok (.dic n p.1 p.2) m
def nDc (n : Bool) (vs : List Nat) (fi : FI) (g : FG) (t : FT) (fk fv : FE) : FN := fun env m => (fi env m).bind fun src m1 => (cld n (wipeE env vs) g t fk fv src turns 0 m1 [] []).bind (asDc n)
section
variable {c : Cc}
theorem tn_dc (nn : Bool) {wi : TI} {tg : TG} {tt : TT} {tk tv : TE} {vs js : List Nat} {fi : FI} {g : FG} {t : FT} {fk fv : FE} (hi : ∀ σ H T, tiF c fi σ H T → wi σ H T) (hg : ∀ v σ H Q, tgF c.no js g v σ H Q → tg v σ H Q) (ht : ∀ σ H Q, ttF c.no t σ H Q → tt σ H Q) (hk : ∀ σ H Q, teF c.no fk σ H Q → tk σ H Q) (he : ∀ σ H Q, teF c.no fv σ H Q → tv σ H Q)
    (hj : ∀ j ∈ js, j ∈ vs) (hv : ∀ v ∈ vs, v ≠ c.xi.i) {σ : L2.St} {H : Hp} {Q : VK} : tnF c (nDc nn vs fi g t fk fv) σ H Q → tDcG (nu0 c.z.P c.z.w nn) (nuP c.z.K c.z.P c.z.w nn) wi tg tt tk tv vs σ H Q := fun ⟨X1, env, m, μ, B, I, o⟩ => by
  refine hi _ _ _ ⟨X1, env, m, μ, B, I, out_seqN o fun src m1 J H1 B1 μ1 g1 sok I1 o1 => fun Dl hD => ?_⟩
  obtain ⟨hB1, hX1, hμ1⟩ := I1.me.new hD
  refine ⟨fun i k H' => src.seen i ∧ ∃ m' μ' B' u ks ws, Gw X1 B1 μ1 B' μ' ∧ En c.z c.xi (upd X1 Dl u) (wipeE env vs) m' μ' (L2.wipe σ vs) B' H' ∧ B' Dl = none ∧ DcU c.z μ' B' Dl nn ks ws u ∧ OutN c X1 env σ μ' B' ((cld nn (wipeE env vs) g t fk fv src k i m' ks ws).bind (asDc nn)) Q, ⟨turns, src.seen0, m1, μ1, B1, _, [], [], Gw.refl, ?_, hB1, .new, o1⟩, ?_⟩
  · have I2 : En c.z c.xi X1 env m1 μ1 σ B1 (upd H1 Dl (nu0 c.z.P c.z.w nn Dl)) := I1.up (Ex.new hD) (Gr.refl _ _) (I1.me.bh.trans (Ex.new hD))
    exact (I2.wipe vs hv).wid (ex_both' I1.me.xh) fun a ha => by
      rw [upd_ne (fun (e : a = Dl) => hμ1 (by rw [← e]; exact ha))]
      exact I1.me.nx a ha
  rintro i k H' ⟨hsn, m', μ', B', u, ks, ws, g2, I', hBD, hys, o'⟩
  have hD' : H' Dl = some u := I'.me.xh _ _ upd_same
  have nar : ∀ {μ B H m u}, Me c.z (upd X1 Dl u) μ B H m → Me c.z X1 μ B H m ∧ Dl ∉ μ := fun {μ B H m u} M =>
    ⟨M.wid ((Ex.new hX1).trans M.xh) fun a ha => by
      have e := M.nx a ha
      by_cases c : a = Dl
      · subst c; exact hX1
      · rw [upd_ne c] at e; exact e, fun ha => by
      have e := M.nx Dl ha
      rw [upd_same] at e
      exact nomatch e⟩
  cases k with
  | zero => exact o'.elim
  | succ k =>
    unfold cld at o'
    have hs := sok i m' μ' B' H' hsn g2 (nar I'.me).1
    cases ha : src.at_ m' i with
    | none => rw [ha] at o'; exact o'.elim
    | some od =>
      cases od with
      | none =>
        rw [ha] at o' hs
        obtain ⟨M', hn⟩ := nar I'.me
        exact .inl ⟨hs, o' Dl H' B' μ' Gw.refl (hys.ob hD') hBD hX1 hn (I1.mem M' g2.g.ex g2.p)⟩
      | some d =>
        rw [ha] at o' hs
        refine .inr ⟨hs.1, fun H'' => ∃ m' μ' B' u ks ws, Gw X1 B1 μ1 B' μ' ∧ En c.z c.xi (upd X1 Dl u) (wipeE env vs) m' μ' (L2.wipe σ vs) B' H'' ∧ B' Dl = none ∧ DcU c.z μ' B' Dl nn ks ws u ∧ OutN c X1 env σ μ' B' ((cld nn (wipeE env vs) g t fk fv src k (i + 1) m' ks ws).bind (asDc nn)) Q, fun H'' h => ⟨k, Nat.lt_succ_self _, Src.seen1 ha, h⟩, fun x H2 y => ?_⟩
        obtain ⟨e2, B2, gr, b2, ax⟩ := hs.2 x H2 y
        have I2 := I'.up e2 gr b2
        have gw2 : Gw X1 B' μ' B2 μ' := (nar I'.me).1.gw gr
        have hBD2 : B2 Dl = none := gr.av Dl hBD (by rw [hD']; exact Option.some_ne_none _)
        cases hgd : g d (wipeE env vs) m' with
        | none => simp only [hgd] at o'; exact o'.elim
        | some e1 =>
          simp only [hgd] at o'
          rw [Rs.bind_assoc] at o'
          have o3 := OutN.grow o' gw2
          refine hg _ _ _ _ ⟨_, wipeE env vs, m', μ', B2, d, e1, I2, ax, hgd, fun σ2 hσ hl I3 => ⟨wipe_eq (hl.trans (wipe_length ..)) hj hσ, ht _ _ _ ⟨_, e1, m', μ', B2, I3, out_blk hX1 o3 fun b m4 v H4 B4 μ4 g4' g4 hv4 I4 o4 => ?_⟩⟩⟩
          subst hv4
          have av4 : ∀ {B5 μ5}, Gw (upd X1 Dl u) B2 μ' B5 μ5 → B5 Dl = none := fun g5 => g5.g.av Dl hBD2 (by rw [upd_same]; exact Option.some_ne_none _)
          cases v with
          | false => exact ⟨m4, μ4, B4, u, ks, ws, (g2.trans gw2).trans g4, I2.mem I4.me g4.g.ex g4.p, av4 g4', (hys.gr gw2.g.ex gw2.p).gr g4.g.ex g4.p, o4⟩
          | true =>
            simp only [if_true] at o4 ⊢
            rw [Rs.bind_assoc] at o4
            refine hk _ _ _ ⟨_, e1, m4, μ4, B4, I4, out_blk hX1 o4 fun kd m5 yk H5 B5 μ5 g5' g5 hyk I5 o5 => ?_⟩
            rw [Rs.bind_assoc] at o5
            refine he _ _ _ ⟨_, e1, m5, μ5, B5, I5, out_blk hX1 o5 fun vd m6 yv H6 B6 μ6 g6' g6 hyv I6 o6 => ?_⟩
            have hys6 := (((hys.gr gw2.g.ex gw2.p).gr g4.g.ex g4.p).gr g5.g.ex g5.p).gr g6.g.ex g6.p
            have hD6 : H6 Dl = some u := I6.me.xh _ _ upd_same
            have hB6 : B6 Dl = none := av4 ((g4'.trans g5').trans g6')
            split at o6
            · rename_i hc
              refine hys6.put I6.me.bh hD6 (hyk.gw g6) hyv hc.1 hc.2 fun u' hu' => ⟨m6, μ6, B6, u', _, _, (((g2.trans gw2).trans g4).trans g5).trans g6, ?_, hB6, hu', o6⟩
              obtain ⟨M5, hn5⟩ := nar I6.me
              refine I2.mem ⟨?_, ?_, M5.len, M5.nd, fun n a ob h1 h2 => (M5.ob n a ob h1 h2).gr (Ex.refl _) (List.prefix_refl _) fun u hu => ?_, M5.nb, fun a ha => ?_⟩ ((g4.g.ex.trans g5.g.ex).trans g6.g.ex) ((g4.p.trans g5.p).trans g6.p)
              · exact fun a u hu => by
                  have hne : a ≠ Dl := fun e => by subst e; rw [hB6] at hu; exact nomatch hu
                  rw [upd_ne hne]; exact M5.bh a u hu
              · exact ex_both' M5.xh
              · have hne : a ≠ Dl := fun e => by subst e; exact hn5 (List.mem_of_getElem? h1)
                rw [upd_ne hne]; exact hu
              · have hne : a ≠ Dl := fun e => by subst e; exact hn5 ha
                rw [upd_ne hne]; exact M5.nx a ha
            · exact o6.elim
end
section
variable {X : Cx}
theorem ps_setDcG {O0 : Addr → HO} {put : PutR} {i : Nat} {y : Str} {py : Pos} {kx vx tg iter : Expr} {ifs : List Expr} {scope : Scope} {own : List (Str × Nat)} {pos spos : Pos} {wi : TI} {g : TG} {tt : TT} {tk tv : TE} (hA : PutOk X put) (h0 : NewDOk X O0) (hc : X.calm = true) (hN : X.N.Nodup) (hy : X.N[i]? = some y) (hyl : X.env.scope.names.lookup y = some .local)
    (hsw : swapsWith (.DictComp kx vx [⟨tg, iter, ifs, 0⟩] scope pos) (some (.Name y py)) spos.line X.env = pure true) (hi : PI X tg iter wi) (ok : BlkOk X.N X.env.scope scope own)
    (hg : ∀ (s : Shared) (H : Hp) (C : Addr) (cl : List (Str × Addr)) (fp : List Addr), PG (X.blk s H scope (compEnvC scope cl C X.env) fp) tg g) (ht : ∀ (s : Shared) (H : Hp) (C : Addr) (cl : List (Str × Addr)) (fp : List Addr), PTs (X.blk s H scope (compEnvC scope cl C X.env) fp) ifs tt)
    (hk : ∀ (s : Shared) (H : Hp) (C : Addr) (cl : List (Str × Addr)) (fp : List Addr), PE (X.blk s H scope (compEnvC scope cl C X.env) fp) kx tk)
    (he : ∀ (s : Shared) (H : Hp) (C : Addr) (cl : List (Str × Addr)) (fp : List Addr), PE (X.blk s H scope (compEnvC scope cl C X.env) fp) vx tv) (hs : ∀ x, foldedSetIterable iter X.env x = pure x := by intro _; rfl) :
    PS X (.Assign [.Name y py] (.DictComp kx vx [⟨tg, iter, ifs, 0⟩] scope pos) spos) (tAsg (tDcG O0 put wi g tt tk tv (own.map (·.2))) (gName i)) := by
  refine ⟨fun pins s σ H D I h => ?_⟩
  rw [exec_Assign_Name_used _ _ _ _ hsw]
  refine wpAny_bind (wpAny_standAt (wpAny_bind ?_))
  show wpAny _ X.A (do let _ ← comprehension (.DictComp kx vx [⟨tg, iter, ifs, 0⟩] scope pos) scope X.env (firstIterPos [⟨tg, iter, ifs, 0⟩] pos) newDict false (eval iter X.env) (some (assign (.Name y py) X.env))) _ _ s
  have h : tDcG O0 put wi g tt tk tv (own.map (·.2)) σ H (fun x H1 => gName i x σ H1 D.nx) := h
  refine wpAny_bind (thn (dcG_core (Qf := fun _ s' => SP X pins D .next s') hA h0 hc hN I hi ok hg ht hk he hs h fun L C s' m H' I' q hn f => ?_) fun _ s' hq => wpAny_pure (wpAny_pure hq))
  show wpAny _ _ (assign (.Name y py) X.env (.ref L)) _ _ _
  refine wpAny_assign_Name (store_ok2 (v := V.ref L) I' hN hy (.inl hyl) rfl (fun s2 I2 ⟨a, sb, ha⟩ => ?_) (.inr hyl))
  obtain ⟨f0, f1, f2, f3, f4, f5⟩ := f
  have ne : C ≠ a := by
    rcases ha with z | z
    · rw [z]; exact f1
    · exact fun e => f4 y a z e.symm
  refine ⟨m, hn.sameBut sb ne, fun h3 sb3 => ?_⟩
  exact ⟨_, H', I2.turned (t' := s2.toks) (fun b o hb e => (sb3.2 b hb).trans e) f0 f1 f3 f4 f5, q⟩
variable {c : Cc}
theorem ds_setDc (nw n : Bool) {i : Nat} {y : Str} {py : Pos} {kx vx tg iter : Expr} {ifs : List Expr} {scope : Scope} {pos spos : Pos} {fi : FI} {js : List Nat} {g : FG} {t : FT} {fk fv : FE} (own : List (Str × Nat)) (hr : RoomU X.A) (hc : X.calm = true) (hN : X.N.Nodup) (hi : PI X tg iter (tiF c fi)) (ok : BlkOk X.N X.env.scope scope own)
    (hg : ∀ (s : Shared) (H : Hp) (C : Addr) (cl : List (Str × Addr)) (fp : List Addr), PG (X.blk s H scope (compEnvC scope cl C X.env) fp) tg (tgF c.no js g)) (ht : ∀ (s : Shared) (H : Hp) (C : Addr) (cl : List (Str × Addr)) (fp : List Addr), PTs (X.blk s H scope (compEnvC scope cl C X.env) fp) ifs (ttF c.no t))
    (hk : ∀ (s : Shared) (H : Hp) (C : Addr) (cl : List (Str × Addr)) (fp : List Addr), PE (X.blk s H scope (compEnvC scope cl C X.env) fp) kx (teF c.no fk)) (he : ∀ (s : Shared) (H : Hp) (C : Addr) (cl : List (Str × Addr)) (fp : List Addr), PE (X.blk s H scope (compEnvC scope cl C X.env) fp) vx (teF c.no fv))
    (hsw : swapsWith (.DictComp kx vx [⟨tg, iter, ifs, 0⟩] scope pos) (some (.Name y py)) spos.line X.env = pure true) (hy : X.N[i]? = some y := by rfl) (hyl : X.env.scope.names.lookup y = some .local := by rfl) (hz : zx X = c.z := by rfl)
    (hxi : i ≠ c.xi.i := by exact ne_xi (by rfl)) (hj : ∀ j ∈ js, j ∈ own.map (·.2) := by decide) (hv : ∀ v ∈ own.map (·.2), v ≠ c.xi.i := by exact all_ne (by rfl)) (hs : ∀ x, foldedSetIterable iter X.env x = pure x := by intro _; rfl) :
    PS X (.Assign [.Name y py] (.DictComp kx vx [⟨tg, iter, ifs, 0⟩] scope pos) spos) (tsF c (sAsg i (eBy nw (nDc n (own.map (·.2)) fi g t fk fv)))) := by
  have h := ps_setDcG (X := X) (pos := pos) (spos := spos) (py := py) (own := own) (nuP_ok (n := n) hr.units) (nu0_ok (n := n)) hc hN hy hyl hsw hi ok hg ht hk he hs
  have e1 : X.K = c.z.K := congrArg Z.K hz
  have e2 : X.prog = c.z.P := congrArg Z.P hz
  have e3 : X.w = c.z.w := congrArg Z.w hz
  rw [e1, e2, e3] at h
  exact ps_mono h fun Dn σ H h => ts_asg hxi (fun _ _ _ => te_by fun σ H Q h => tn_dc n (fun _ _ _ h => h) (fun _ _ _ _ h => h) (fun _ _ _ h => h) (fun _ _ _ h => h) (fun _ _ _ h => h) hj hv h) h
end
end DY
/-! defs read as functions over data: own classes -/
namespace DY
open PySem PySem.Spec PyProof.Rows L2 Evl LX XV RX WS
/-! ### what the text says of its classes -/
structure CD where
  nm : Str
  flds : List Str
  mths : List Str
  prps : List Str
def pAd (K : PySem.W.Frag) (x f : Str) : Addr := He.ma K (He.ga K x) f
def gAd (K : PySem.W.Frag) (x f : Str) : Addr := match PySem.W.recIn K (pAd K x f) "property" with
  | some (.ref g :: _) => g
  | _ => 0
def recB (K : PySem.W.Frag) (x f : Str) : Bool := match PySem.W.recIn K (pAd K x f) "property" with
  | some (.ref _ :: _) => true
  | _ => false
def prpB (K : PySem.W.Frag) (x f : Str) : Bool := He.eqO (PySem.W.findIn K (.ref (He.ga K x)) f) (some (some (.ref (pAd K x f)))) && (He.eqO (PySem.W.specialIn K (.ref (pAd K x f)) "__get__") (some (some (.builtin "property.__get__"))) && (decide (PySem.W.takesIn K (.ref (pAd K x f)) = some true) && recB K x f))
def cdOk (K : PySem.W.Frag) (d : CD) : Bool := (He.Fa.cls d.nm).ok K && ((He.Fa.mkr d.nm).ok K && ((d.flds.all fun f => (He.Fa.noat d.nm f).ok K) && ((d.mths.all fun m => (He.Fa.meth d.nm m).ok K) && d.prps.all fun p => prpB K d.nm p)))
section
variable {K : PySem.W.Frag} {d : CD}
theorem cd_cls (h : cdOk K d = true) : Cls K (He.ga K d.nm) := He.cls_ok (He.ba h).1
theorem cd_mk (h : cdOk K d = true) : Mk K (He.ga K d.nm) (He.ma K (He.ga K d.nm) "__init__") := He.mkr_ok (He.ba (He.ba h).2).1
theorem cd_fld (h : cdOk K d = true) {f : Str} (hf : f ∈ d.flds) : NoAttr K (He.ga K d.nm) f := He.noat_ok (List.all_eq_true.mp (He.ba (He.ba (He.ba h).2).2).1 f hf)
end
/-! ### e.f -/
def look : List Str → List D → Str → Option D
  | n :: ns, d :: ds, f => if n = f then some d else look ns ds f
  | _, _, _ => none
def hasF (cs : List CD) (c f : Str) : Bool := cs.any fun d => decide (d.nm = c) && decide (f ∈ d.flds)
theorem hasF_ok {K : PySem.W.Frag} {cs : List CD} (hcs : ∀ d ∈ cs, cdOk K d = true) {c f : Str} (h : hasF cs c f = true) : Cls K (He.ga K c) ∧ NoAttr K (He.ga K c) f := by
  obtain ⟨d, hd, h⟩ := List.any_eq_true.mp h
  obtain ⟨h1, h2⟩ := He.ba h
  have := of_decide_eq_true h1
  subst this
  exact ⟨cd_cls (hcs d hd), cd_fld (hcs d hd) (of_decide_eq_true h2)⟩
def gFld (cs : List CD) (f : Str) (m : Mem) (a : D) : Option D := match lk m a with
  | .ins c ns ds => if hasF cs c f = true then look ns ds f else none
  | _ => none
section
variable {z : Z} {X B H : Hp} {μ : List Addr} {m : Mem} {x : V} {d : D}
theorem vw_ins {c : Str} {ns : List Str} {ds : List D} (M : Me z X μ B H m) (h : At z μ B x d) (e : lk m d = .ins c ns ds) : ∃ p dx fs, x = .ref p ∧ H p = some (.ins (He.ga z.K c) dx fs) ∧ fs.map (·.1) = ns ∧ Ats z μ B (fs.map (·.2)) ds := by
  rcases lk_inv e with rfl | ⟨n, o, rfl, ho, h2⟩
  · cases h with
    | ins h1 h2 h3 => exact ⟨_, _, _, rfl, M.bh _ _ h1, h2, h3⟩
  · cases h with
    | hdl h1 =>
      cases o <;> cases h2
      obtain ⟨dx, fs, h2, h3, h4⟩ := M.ob _ _ _ h1 ho
      exact ⟨_, dx, fs, rfl, h2, h3, h4⟩
theorem look_at {f : Str} : ∀ {fs : List (Str × V)} {ns : List Str} {ds : List D}, fs.map (·.1) = ns → Ats z μ B (fs.map (·.2)) ds → look ns ds f = some d → ∃ v, fs.lookup f = some v ∧ At z μ B v d
  | [], _, _, rfl, .nil, h => nomatch h
  | p :: fs, _, e :: ds, rfl, .cons hv hs, h => by
    have h : (if p.1 = f then some e else look (fs.map (·.1)) ds f) = some d := h
    rw [List.lookup_cons]
    by_cases t : p.1 = f
    · rw [if_pos t] at h
      cases h
      have : (f == p.1) = true := beq_iff_eq.mpr t.symm
      rw [this]
      exact ⟨_, rfl, hv⟩
    · rw [if_neg t] at h
      have : (f == p.1) = false := by
        rw [beq_eq_false_iff_ne]
        exact fun e => t e.symm
      rw [this]
      exact look_at rfl hs h
end
section
variable {X : Cx} {c : Cc} {e o : Expr} {f : Str} {fo fv : FE} {pos pos' : Pos}
theorem te_fld {cs : List CD} (hcs : ∀ d ∈ cs, cdOk c.z.K d = true) {σ : L2.St} {H : Hp} {Q : VK} : teF c (e1 (gFld cs f) fo) σ H Q → tFld c.z.K (teF c fo) f σ H Q := fun ⟨X1, env, m, μ, B, I, o⟩ => ⟨X1, env, m, μ, B, I, out_seq o fun a m1 x H1 B1 μ1 g1 hx I1 o1 => by
  obtain ⟨d, h1, q⟩ := o1.lift I1
  unfold gFld at h1
  split at h1
  · rename_i cn ns ds hl
    split at h1
    · rename_i hf
      obtain ⟨k1, k2⟩ := hasF_ok hcs hf
      obtain ⟨p, dx, fs, rfl, h2, h3, h4⟩ := vw_ins I1.me hx hl
      obtain ⟨v, h5, h6⟩ := look_at h3 h4 h1
      exact ⟨p, _, dx, fs, v, rfl, h2, k1, k2, h5, same_ I1.me h6 q⟩
    · exact nomatch h1
  · exact nomatch h1⟩
theorem d_fld (cs : List CD) (hcs : ∀ d ∈ cs, cdOk c.z.K d = true) (ho : PE X o (teF c fo)) (hz : zx X = c.z := by rfl) (hb : attributeBase o f X.env (eval o X.env) = eval o X.env := by rfl) : PE X (.Attribute o f pos) (teF c (e1 (gFld cs f) fo)) := pe_mono (k_fld ho hb (kz hz)) fun _ _ _ h => te_fld hcs h
/-! ### o.f = e -/
def putL : List Str → List D → Str → D → List Str × List D
  | n :: ns, e :: ds, f, d => if n = f then (n :: ns, d :: ds) else (n :: (putL ns ds f d).1, e :: (putL ns ds f d).2)
  | _, _, f, d => ([f], [d])
theorem putL_at {z : Z} {μ : List Addr} {B : Hp} {v : V} {d : D} (hv : At z μ B v d) : ∀ {fs : List (Str × V)} {ns : List Str} {ds : List D}, fs.map (·.1) = ns → Ats z μ B (fs.map (·.2)) ds → (putF f v fs).map (·.1) = (putL ns ds f d).1 ∧ Ats z μ B ((putF f v fs).map (·.2)) (putL ns ds f d).2
  | [], _, _, rfl, .nil => ⟨rfl, .cons hv .nil⟩
  | p :: fs, _, _, rfl, .cons hx hs => by
    obtain ⟨i1, i2⟩ := putL_at hv (fs := fs) rfl hs
    rw [List.map_cons]
    unfold putL putF
    by_cases t : p.1 = f
    · rw [if_pos t, if_pos t]
      exact ⟨rfl, .cons hv hs⟩
    · rw [if_neg t, if_neg t, List.map_cons, List.map_cons, i1]
      exact ⟨rfl, .cons hx i2⟩
def sStF (cs : List CD) (f : Str) (fo fv : FE) : FS := fun env m => (fv env m).toS env fun d m1 => (fo env m1).toS env fun o m2 => match o with
  | .hdl n => match m2[n]? with
    | some (.ins c ns ds) => if hasF cs c f = true ∧ ds.length < 900 then .nx env (m2.set n (.ins c (putL ns ds f d).1 (putL ns ds f d).2)) else .no
    | _ => .no
  | _ => .no
theorem ds_stF (cs : List CD) (hcs : ∀ d ∈ cs, cdOk c.z.K d = true) (ho : PE X o (teF c fo)) (hv : PE X e (teF c fv)) (hz : zx X = c.z := by rfl) (hs : swapsWith e (some (.Attribute o f pos')) pos.line X.env = pure false := by rfl) : PS X (.Assign [.Attribute o f pos'] e pos) (tsF c (sStF cs f fo fv)) := by
  refine ps_mono (k_sfld ho hv hs (kz hz)) fun Dn σ H ⟨X1, env, m, μ, B, I, o⟩ => ⟨X1, env, m, μ, B, I, out_S o fun d m1 y H1 B1 μ1 g1 hy I1 o1 => ⟨X1, env, m1, μ1, B1, I1, out_S o1 fun ob m2 x H2 B2 μ2 g2 hx I2 o2 => ?_⟩⟩
  split at o2
  · rename_i n
    split at o2
    · rename_i cn ns ds hm
      split at o2
      · rename_i hf
        obtain ⟨k1, k2⟩ := hasF_ok hcs hf.1
        cases hx with
        | hdl hp =>
          obtain ⟨dx, fs, h2, h3, h4⟩ := I2.me.ob n _ _ hp hm
          obtain ⟨p1, p2⟩ := putL_at (f := f) (hy.gw g2) h3 h4
          have e0 : fs.length = ds.length := by have := h4.len; rwa [List.length_map] at this
          exact ⟨_, _, dx, fs, rfl, h2, k1, k2, by rw [e0]; omega, o2 σ _ B2 μ2 Gw.refl (I2.put hp fun H' hH => ⟨dx, _, hH, p1, p2⟩)⟩
      · exact o2.elim
    · exact o2.elim
  · exact o2.elim
end
/-! ### a property -/
end DY
/-! defs read as functions over data: methods, instances made -/
namespace DY
open PySem PySem.Spec PyProof.Rows L2 Evl LX XV RX WS
/-! ### o.m(..) -/
/-! ### C(..) -/
def tMakeS (C : Addr) (sp : Sp) (E : L2.St → XK) (t : TA) : TE := fun σ H Q => t σ H fun vs H1 => ∀ x dx, H1 x = none → H1 dx = none → dx ≠ x → sp (.ref x :: vs) (upd (upd H1 dx (.own x)) x (.ins C dx [])) (fun v H2 => v = .non ∧ Q (.ref x) H2) (E σ)
section
variable {X : Cx} {C fI : Addr} {k : Nat} {fd : FuncData} {ps : List Str} {sp : Sp} {E : L2.St → XK}
theorem run_makeS {pins : List (Addr × Obj)} {σ : L2.St} {H : Hp} {s : Shared} {Q : VK} {us : List Value} {vs : List V} (M : Mk X.K C fI) (F : FnOk X.prog X.w X.K X.mg X.base (L2.CX X.prog X.w) k fI fd ps sp) (hr : Room (k + 1) X.A) (hb : Binds X.K fd ps []) (hx : PassesAt (L2.CX X.prog X.w) X σ (E σ)) (I : Inv X pins σ H s) (r : Vals vs us)
    (h : ∀ x dx, H x = none → H dx = none → dx ≠ x → sp (.ref x :: vs) (upd (upd H dx (.own x)) x (.ins C dx [])) (fun v H2 => v = .non ∧ Q (.ref x) H2) (E σ)) : wpAny (model X.prog X.w) X.A (call (.ref C) us) (EP X pins σ Q) X.xe s := by
  have new : ∀ a, s.heap.objs.size ≤ a → H a = none := fun a ha => I.hok.fresh ha
  have q0 := h (s.heap.objs.size + 1) s.heap.objs.size (new _ (Nat.le_succ _)) (new _ (Nat.le_refl _)) (Nat.ne_of_lt (Nat.lt_succ_self _))
  have I2 := L2.Inv.made (C := C) I
  have r2 : Vals (V.ref (s.heap.objs.size + 1) :: vs) (Value.ref (s.heap.objs.size + 1) :: us) := .cons rfl r
  have len : (Value.ref (s.heap.objs.size + 1) :: us).length = ps.length := by rw [← F.len _ _ _ _ q0]; exact r2.length.symm
  have bd := hb _ (Value.ref (s.heap.objs.size + 1) :: us) I2.kIn (by rw [List.append_nil]; exact len)
  rw [List.append_nil] at bd
  refine wpAny_call (make_map (f := fI) I.kIn M.makes M.init (beq_iff_eq.mp M.fn) (codeAny_mono (F.run _ X.stack _ _ _ _ _ _ (E σ) (hr.make C us []) (I2.env0.make C us []) bd r2 q0) fun res s' hq => ?_))
  rcases res with er | fl
  · exact hx pins _ _ er s' I2 hq
  · cases fl with
    | ret u =>
      obtain ⟨v, H', I3, rv, ev, q3⟩ := I2.after hq
      subst ev
      exact ⟨rv, ⟨V.ref (s.heap.objs.size + 1), H', I3, rfl, q3⟩⟩
    | next => exact hq.elim
    | brk => exact hq.elim
    | cont => exact hq.elim
theorem pe_makeS {x : Str} {e : Expr} {es : List Expr} {p pos : Pos} {t : TA} (M : Mk X.K C fI) (F : FnOk X.prog X.w X.K X.mg X.base (L2.CX X.prog X.w) k fI fd ps sp) (hr : Room (k + 1) X.A) (hg : Gl X x) (hm : X.mg x = some (.ref C)) (hb : Binds X.K fd ps []) (hx : ∀ σ, PassesAt (L2.CX X.prog X.w) X σ (E σ))
    (ha : PA X (e :: es) t) (hdb : (x == ("__debug__" : Str)) = false := by decide) (he : starEach (e :: es) X.env = (false, eval e X.env) :: starEach es X.env := by rfl) (hpl : (backTo pos (starEach es X.env)).any (·.1) = false := by rfl) :
    PE X (.Call (.Name x p) (e :: es) [] pos) (tMakeS C sp E t) := by
  refine ⟨fun pins s σ H Q I h => wpAny_Call_Name_kw (ld_glob I hg hm ?_ hdb)⟩
  exact PySem.W.callWith_K (h₀ := X.base) I.ok.mod.kin M.kp (thn (ha.run pos pins s σ H _ I h) fun us s1 ⟨vs, H1, I1, r, q⟩ => ⟨I1.kIn, run_makeS M F hr hb (hx σ) I1 r q⟩) he hpl
end
/-- kp: the instance goes on changing -/
noncomputable def eMk (kp : Bool) (c : Str) (fn : Fn) (fa : FA) : FE := fun env m => (fa env m).bind fun ds m1 => match fn (.hdl m1.length :: ds) (m1 ++ [.ins c [] []]) with
  | .ok .non m2 => if kp = true then .ok (.hdl m1.length) m2 else exit_ m1 (.hdl m1.length) m2
  | .ex x m2 => exitX m1 x m2
  | _ => .no
section
variable {X : Cx} {c : Cc} {fn : Fn} {fa : FA}
theorem te_mk {kp : Bool} {cn : Str} {σ : L2.St} {H : Hp} {Q : VK} : teF c (eMk kp cn fn fa) σ H Q → tMakeS (He.ga c.z.K cn) (spF c.z fn) (WE c.W) (taF c fa) σ H Q := fun ⟨X1, env, m, μ, B, I, o⟩ => ⟨X1, env, m, μ, B, I, out_seq o fun ds m1 vs H1 B1 μ1 g1 a I1 o1 => fun x dx hx hdx hne => by
  have e1 : Ex H1 (upd (upd H1 dx (.own x)) x (.ins (He.ga c.z.K cn) dx [])) := fun a o h => by
    have c1 : a ≠ x := fun e => by subst e; rw [hx] at h; exact nomatch h
    have c2 : a ≠ dx := fun e => by subst e; rw [hdx] at h; exact nomatch h
    rw [upd_ne c1, upd_ne c2]; exact h
  obtain ⟨n1, n2, n3⟩ := I1.me.new hx
  have I2 : En c.z c.xi X1 env m1 μ1 σ B1 (upd (upd H1 dx (.own x)) x (.ins (He.ga c.z.K cn) dx [])) := I1.up e1 (Gr.refl _ _) (I1.me.bh.trans e1)
  have I3 : En c.z c.xi X1 env (m1 ++ [.ins cn [] []]) (μ1 ++ [x]) σ B1 (upd (upd H1 dx (.own x)) x (.ins (He.ga c.z.K cn) dx [])) := I2.push ⟨dx, [], upd_same, rfl, .nil⟩ n1 n2 n3
  have pre : μ1 <+: μ1 ++ [x] := List.prefix_append _ _
  have hself : At c.z (μ1 ++ [x]) B1 (.ref x) (.hdl m1.length) := .hdl (by rw [← I1.me.len, List.getElem?_append_right (Nat.le_refl _), Nat.sub_self]; rfl)
  have h3 := call_out (c := c) (fn := fn) (Q := fun v H2 => v = .non ∧ Q (.ref x) H2) I3 (.cons hself (a.gr (Ex.refl _) pre)) (ds := .hdl m1.length :: ds) ?_
  · exact h3
  -- what it leaves
  have gw : ∀ {B' μ'}, Gw X1 B1 (μ1 ++ [x]) B' μ' → Gw X1 B1 μ1 B' μ' := fun g => ⟨g.g, pre.trans g.p⟩
  cases hf : fn (.hdl m1.length :: ds) (m1 ++ [.ins cn [] []]) with
  | no => rw [hf] at o1; exact o1.elim
  | ok d m2 =>
    rw [hf] at o1
    cases d <;> first | exact o1.elim | skip
    intro v H' B' μ' g hv I4
    cases hv
    refine ⟨rfl, ?_⟩
    simp only at o1
    have hs4 := hself.gw g
    split at o1
    · exact o1 _ H' B' μ' (gw g) hs4 (I1.mem I4.me g.g.ex (pre.trans g.p))
    · have h5 : OutF c.z X1 μ1 B1 (exit_ m1 (.hdl m1.length) m2) Q (fun _ _ _ => False) := by
        cases hx5 : exit_ m1 (.hdl m1.length) m2 with
        | no => rw [hx5] at o1; exact o1
        | ok d5 m5 => rw [hx5] at o1; exact fun v H' B' μ' g a M => o1 v H' B' μ' g a (I1.mem M g.g.ex g.p)
        | ex x5 m5 =>
          unfold exit_ at hx5
          split at hx5
          · exact nomatch hx5
          · split at hx5 <;> exact nomatch hx5
      exact exit_ok I1.me h5 _ H' B' μ' (gw g) hs4 I4.me
  | ex xx m2 =>
    rw [hf] at o1
    intro cls dd H' B' μ' g ax I4
    have h5 : OutF c.z X1 μ1 B1 (exitX m1 xx m2) (fun _ _ => False) (fun cls dd H' => c.W cls dd σ H') := by
      simp only at o1
      cases hx5 : exitX m1 xx m2 with
      | no => rw [hx5] at o1; exact o1
      | ok d5 m5 =>
        unfold exitX at hx5
        split at hx5
        · exact nomatch hx5
        · split at hx5 <;> exact nomatch hx5
      | ex x5 m5 => rw [hx5] at o1; exact fun cls dd H' B' μ' g a M => o1 cls dd H' B' μ' g a (I1.mem M g.g.ex g.p)
    exact exitX_ok I1.me h5 cls dd H' B' μ' (gw g) ax I4.me⟩
/-- a class's __init__ -/
structure OkI (P : Program) (w : World) (K : PySem.W.Frag) (mg : Str → Option Value) (base : Heap) (k : Nat) (x : Str) (ps : List Str) (sp : Sp) : Prop where
  ex : ∃ fd : FuncData, mg x = some (.ref (He.ga K x)) ∧ FnOk P w K mg base (L2.CX P w) k (He.ma K (He.ga K x) "__init__") fd ps sp ∧ Binds K fd ps []
theorem d_mk (kp : Bool) {k j : Nat} {d : CD} {ps : List Str} {e : Expr} {es : List Expr} {p pos : Pos} {x : Str} (hn : d.nm = x) (hd : cdOk c.z.K d = true) (O : OkI X.prog X.w X.K X.mg X.base k x ps (spF c.z fn)) (tk : Takes X c.W) (hr : Room j X.A) (hj : k + 1 ≤ j) (ha : PA X (e :: es) (taF c fa)) (hz : zx X = c.z := by rfl) (hg : Gl X x := by rfl)
    (hdb : (x == ("__debug__" : Str)) = false := by decide) (he : starEach (e :: es) X.env = (false, eval e X.env) :: starEach es X.env := by rfl) (hpl : (backTo pos (starEach es X.env)).any (·.1) = false := by rfl) : PE X (.Call (.Name x p) (e :: es) [] pos) (teF c (eMk kp x fn fa)) := by
  subst hn
  obtain ⟨fd, gm, F, b⟩ := O.ex
  have hK : X.K = c.z.K := kz hz
  rw [hK] at gm F
  have h := pe_makeS (pos := pos) (p := p) (by rw [hK]; exact cd_mk hd) (by rw [hK]; exact F) (hr.mono hj) hg gm b (fun σ => passAt tk σ) ha hdb he hpl
  exact pe_mono h fun _ _ _ h => te_mk h
end
end DY
/-! defs read as functions over data: exceptions -/
namespace DY
open PySem PySem.Spec PyProof.Rows L2 Evl LX XV RX WS
/-! ### what the text says of its exceptions -/
/-- fld: the one field that __init__ stores; anc: the own classes above it, and itself -/
structure XD where
  nm : Str
  fld : Option Str
  anc : List Str
def xiB (K : PySem.W.Frag) (d : XD) : Bool := match d.fld with
  | some f => He.eqO (PySem.W.findIn K (.ref (He.ga K d.nm)) "__init__") (some (some (.ref (He.ma K (He.ga K d.nm) "__init__")))) && (decide (PySem.W.typeIn K (.ref (He.ma K (He.ga K d.nm) "__init__")) = some (.type "function")) && He.eqO (PySem.W.findIn K (.ref (He.ga K d.nm)) f) (some none))
  | none => PySem.W.excIn K (He.ga K d.nm) veB "ValueError.__new__"
/-- d beside the classes of names -/
def xkB (K : PySem.W.Frag) (d : XD) (x : Str) : Bool := decide (PySem.W.kitOne K (.ref (He.ga K d.nm)) (.ref (He.ga K x)) = some (decide (x ∈ d.anc))) && decide (PySem.W.exmOne K (.ref (He.ga K d.nm)) (.ref (He.ga K x)) = some (decide (x ∈ d.anc)))
def xvB (K : PySem.W.Frag) (d : XD) : Bool := decide (PySem.W.kitOne K (.ref (He.ga K d.nm)) (.type "ValueError") = some true) && decide (PySem.W.exmOne K (.ref (He.ga K d.nm)) (.type "ValueError") = some true)
def xdOk (K : PySem.W.Frag) (xs : List XD) (d : XD) : Bool := exB K (He.ga K d.nm) && (xiB K d && (xvB K d && xs.all fun e => xkB K d e.nm))
section
variable {K : PySem.W.Frag} {xs : List XD} {d : XD}
theorem xd_k (h : xdOk K xs d = true) : ExK K (He.ga K d.nm) := exB_ok (He.ba h).1
theorem xd_none (h : xdOk K xs d = true) (hf : d.fld = none) : PySem.W.excIn K (He.ga K d.nm) veB "ValueError.__new__" = true := by
  have h1 := (He.ba (He.ba h).2).1
  unfold xiB at h1
  rw [hf] at h1
  exact h1
end
/-! ### raise -/
def sRaise0 (cn : Str) : FS := fun env m => .ex ⟨cn, [], []⟩ env m
section
variable {X : Cx} {c : Cc} {cn : Str} {p pos : Pos}
theorem ds_raise0 {xs : List XD} {d : XD} {pos2 : Pos} (hn : d.nm = cn) (hd : xdOk c.z.K xs d = true) (hf : d.fld = none) (hm : X.mg cn = some (.ref (He.ga c.z.K cn))) (tk : Takes X c.W) (hc : X.calm = true) (hz : zx X = c.z := by rfl) (hg : Gl X cn := by rfl) (hdb : (cn == ("__debug__" : Str)) = false := by decide) :
    PS X (.Raise (some (.Call (.Name cn p) [] [] pos)) none pos2) (tsF c (sRaise0 cn)) := by
  subst hn
  have hK : X.K = c.z.K := kz hz
  have h := ps_raise (pos := pos2) hc tk (pmk_ex0 (C := He.ga c.z.K d.nm) (p := p) (pos := pos) (by rw [hK]; exact (xd_k hd).o) (by rw [hK]; exact xd_none hd hf) hm hg hdb)
  exact ps_mono h fun Dn σ H ⟨X1, env, m, μ, B, I, o⟩ => o _ none σ H B μ Gw.refl ⟨rfl, rfl, rfl⟩ I
end
/-! ### try -/
def fin (i : Nat) : Fl → Fl
  | .nx e m => .nx (e.set i none) m
  | .bk e m => .bk (e.set i none) m
  | .ct e m => .ct (e.set i none) m
  | .rt d m => .rt d m
  | _ => .no
/-- how the name of an except clause stands: an own class, ValueError -/
def hv (K : PySem.W.Frag) : Option Str → Value
  | some h => .ref (He.ga K h)
  | none => .type "ValueError"
end DY
/-! defs read as functions over data: the exception that a suite holds -/
namespace DY
open PySem PySem.Spec PyProof.Rows L2 Evl LX XV RX WS
/-! ### e.f -/
/-! ### isinstance(e, C), isinstance(e, (C, ..)) -/
end DY
/-! sorted(l), l a list of tuples of whole numbers and texts -/
namespace TM
open PySem PySem.Spec PyProof.Rows L2
def rSortedTL (K : PySem.W.Frag) : List V → Hp → VK → Prop := fun vs H Q => ∃ (a : Addr) (L : ML) (b : Bool) (sh : List Bool), vs = [V.ref a] ∧ SqL K H a (L.map fun p => V.ref p.1) ∧ (∀ p ∈ L, SqT K H p.1 (p.2.map kV) ∧ p.2.map tx = b :: sh) ∧
  ∀ (M : ML) (p : Addr), M.Perm L → M.Pairwise (fun q r => ltT r.2 q.2 = false) → H p = none → Q (.ref p) (upd H p (.lst (M.map fun q => V.ref q.1)))
theorem refs_of : ∀ {L : ML} {vs : List Value}, Vals (L.map fun p => V.ref p.1) vs → vs = L.map fun p => Value.ref p.1
  | [], _, .nil => rfl
  | p :: L, _, .cons h hs => by
    cases h
    rw [refs_of hs]
    rfl
/-- pairs in another order: out of references that are exchanged -/
theorem lift_perm {L : ML} {vs : List Value} (h : vs.Perm (L.map fun p => Value.ref p.1)) : ∃ M : ML, M.Perm L ∧ vs = M.map fun p => Value.ref p.1 := by
  generalize hl : (L.map fun p => Value.ref p.1) = ws at h
  induction h generalizing L with
  | nil =>
    cases L with
    | nil => exact ⟨[], .nil, rfl⟩
    | cons p L => exact nomatch hl
  | cons x _ ih =>
    cases L with
    | nil => exact nomatch hl
    | cons p L =>
      obtain ⟨h1, h2⟩ := List.cons.inj hl
      obtain ⟨M, m1, m2⟩ := ih h2
      exact ⟨p :: M, m1.cons p, by rw [List.map_cons, ← m2]; rw [show Value.ref p.1 = x from h1]⟩
  | swap x y l =>
    match L, hl with
    | p :: q :: L, hl =>
      obtain ⟨h1, h2⟩ := List.cons.inj hl
      obtain ⟨h2, h3⟩ := List.cons.inj h2
      exact ⟨q :: p :: L, .swap p q L, by rw [List.map_cons, List.map_cons, h3]; rw [show Value.ref p.1 = x from h1, show Value.ref q.1 = y from h2]⟩
  | trans _ _ i1 i2 =>
    obtain ⟨M, m1, m2⟩ := i2 hl
    obtain ⟨N, n1, n2⟩ := i1 m2.symm
    exact ⟨N, n1.trans m1, n2⟩
theorem cr_sortedTL {X : Cx} : CallR X (.builtin "sorted") (rSortedTL X.K) := by
  intro pins s σ H vs us Q I r h
  obtain ⟨a, L, b, sh, rfl, ha, hk, q⟩ := h
  obtain ⟨its, rv, hl, hz⟩ := I.list ha
  have hits := refs_of rv
  rw [Vals.ref1 r]
  have tu : ∀ p ∈ L, IsM X.prog X.w s.heap p.2 p.1 := fun p hp => isM I (hk p hp).1
  have hv : ∀ h₁ : Heap, (∀ b o, s.heap.get? b = some o → h₁.get? b = some o) → Sh X.prog X.w h₁ (b :: sh) its := fun h₁ keep v hv => by
    rw [hits] at hv
    obtain ⟨p, hp, rfl⟩ := List.mem_map.mp hv
    obtain ⟨o, us, n, ho, r⟩ := tu p hp
    exact ⟨p.1, p.2, rfl, ⟨o, us, n, keep _ _ ho, r⟩, (hk p hp).2⟩
  refine SrtO.sorted_ord (swo s.heap) hl.isList (by rw [← rv.length]; exact hz) (fun h2 h₁ a' ho keep => ?_) fun o h1 h2 => ?_
  · refine sortable (P := X.prog) (w := X.w) (s := { s with heap := h₁ }) (by omega) (hv h₁ fun b o e => (keep b o e).2) (fun v hm => ?_) fun o e c => ?_
    · rw [hits] at hm
      obtain ⟨p, hp, rfl⟩ := List.mem_map.mp hm
      have t1 := tu p hp
      rw [kOf_is t1]
      obtain ⟨o, us, n, ho, r⟩ := t1
      exact (kOf_is ⟨o, us, n, (keep _ _ ho).2, r⟩).symm
    · have e : h₁.get? a' = some o := e
      rw [ho] at e
      cases e
      exact absurd (Value.type.inj c) (by decide)
  · have pm := h2.perm
    rw [hits] at pm
    obtain ⟨M, m1, m2⟩ := lift_perm pm
    obtain ⟨ep, he'⟩ := PyProof.Rows.sortedAll_at s.heap its o.toArray
    have pw : M.Pairwise fun q r => ltT r.2 q.2 = false := by
      rw [m2] at h1
      refine List.Pairwise.imp_of_mem (fun {q r} hq hr h => ?_) (List.pairwise_map.mp h1)
      have h : ltT (kOf _ (.ref r.1)) (kOf _ (.ref q.1)) = false := h
      rwa [kOf_is (tu q (m1.mem_iff.mp hq)), kOf_is (tu r (m1.mem_iff.mp hr))] at h
    have hlen : (M.map fun q => V.ref q.1).length ≤ sizeLine := by
      rw [List.length_map, m1.length_eq]
      rw [List.length_map] at hz
      exact hz
    exact ⟨.ref _, upd H (s.heap.objs.size + 1) (.lst (M.map fun q => V.ref q.1)), I.laid (t' := s.toks) (fun _ _ => PyProof.Rows.sortedAll_old) (Nat.le_succ _) ⟨hlen, o, ep, by rw [m2]; exact vals_refs M, he'⟩, rfl, q M _ m1 pw (I.hok.fresh (Nat.le_succ _))⟩
end TM
/-! defs read as functions over data: sorted, sets, max, min, index -/
namespace DY
open PySem PySem.Spec PyProof.Rows L2 Evl LX XV RX WS
/-! ### in order -/
theorem srt_uniq {α : Type} {le : α → α → Prop} (anti : ∀ a b, le a b → le b a → a = b) : ∀ {L M : List α}, L.Pairwise le → M.Pairwise le → L.Perm M → L = M
  | [], M, _, _, h => h.nil_eq
  | a :: L, [], _, _, h => absurd h.length_eq (by simp)
  | a :: L, b :: M, h1, h2, h => by
    obtain ⟨p1, q1⟩ := List.pairwise_cons.mp h1
    obtain ⟨p2, q2⟩ := List.pairwise_cons.mp h2
    have e : a = b := by
      rcases List.mem_cons.mp (h.mem_iff.mp List.mem_cons_self) with e | ha
      · exact e
      · rcases List.mem_cons.mp (h.mem_iff.mpr List.mem_cons_self) with e | hb
        · exact e.symm
        · exact anti a b (p1 b hb) (p2 a ha)
    subst e
    rw [srt_uniq anti q1 q2 ((List.perm_cons a).mp h)]
def leI (a b : Int) : Bool := decide (a ≤ b)
def leX (a b : Str) : Bool := !decide (b.cps.toList < a.cps.toList)
def leT (a b : List Key) : Bool := !TM.ltT b a
theorem leX_iff {a b : Str} : leX a b = true ↔ ¬ b.cps.toList < a.cps.toList := by
  unfold leX
  simp
theorem leX_trans (a b c : Str) (h1 : leX a b = true) (h2 : leX b c = true) : leX a c = true := by
  rw [leX_iff] at *
  exact List.not_lt.mpr (List.le_trans (List.not_lt.mp h1) (List.not_lt.mp h2))
theorem leX_total (a b : Str) : (leX a b || leX b a) = true := by
  cases h : leX a b with
  | true => rfl
  | false =>
    have : ¬ (leX a b = true) := by rw [h]; exact Bool.false_ne_true
    rw [leX_iff] at this
    exact leX_iff.mpr (List.lt_asymm (Classical.not_not.mp this))
theorem leX_anti (a b : Str) (h1 : leX a b = true) (h2 : leX b a = true) : a = b := by
  rw [leX_iff] at *
  exact TM.str_ext (List.le_antisymm (List.not_lt.mp h1) (List.not_lt.mp h2))
theorem leI_trans (a b c : Int) (h1 : leI a b = true) (h2 : leI b c = true) : leI a c = true := decide_eq_true (Int.le_trans (of_decide_eq_true h1) (of_decide_eq_true h2))
theorem leI_total (a b : Int) : (leI a b || leI b a) = true := by
  unfold leI
  rcases Int.le_total a b with h | h <;> simp [h]
theorem leT_trans (a b c : List Key) (h1 : leT a b = true) (h2 : leT b c = true) : leT a c = true := by
  unfold leT at *
  rw [Bool.not_eq_true'] at *
  exact TM.t_neg h2 h1
theorem leT_total (a b : List Key) : (leT a b || leT b a) = true := by
  unfold leT
  cases h : TM.ltT b a with
  | false => rfl
  | true => rw [TM.t_asym h]; rfl
theorem leT_anti (a b : List Key) (h1 : leT a b = true) (h2 : leT b a = true) : a = b := by
  unfold leT at *
  rw [Bool.not_eq_true'] at *
  exact TM.t_anti h2 h1
def sortI (ns : List Int) : List Int := ns.mergeSort leI
def sortX (ks : List Str) : List Str := ks.mergeSort leX
def sortT (ks : List (List Key)) : List (List Key) := ks.mergeSort leT
theorem sortI_eq {ns ms : List Int} (h : ms.Perm ns) (o : ms.Pairwise (· ≤ ·)) : ms = sortI ns :=
  srt_uniq (le := fun a b => leI a b = true) (fun a b h1 h2 => Int.le_antisymm (of_decide_eq_true h1) (of_decide_eq_true h2)) (o.imp fun h => decide_eq_true h) (List.pairwise_mergeSort leI_trans leI_total ns) (h.trans (List.mergeSort_perm ns leI).symm)
theorem sortX_eq {ks ys : List Str} (h : ys.Perm ks) (o : ST.Ord ys) : ys = sortX ks :=
  srt_uniq (le := fun a b => leX a b = true) leX_anti (o.imp fun h => leX_iff.mpr h) (List.pairwise_mergeSort leX_trans leX_total ks) (h.trans (List.mergeSort_perm ks leX).symm)
theorem sortT_eq {ks ys : List (List Key)} (h : ys.Perm ks) (o : ys.Pairwise fun a b => TM.ltT b a = false) : ys = sortT ks :=
  srt_uniq (le := fun a b => leT a b = true) leT_anti (o.imp fun h => by unfold leT; rw [h]; rfl) (List.pairwise_mergeSort leT_trans leT_total ks) (h.trans (List.mergeSort_perm ks leT).symm)
/-! ### tuples of numbers and texts -/
def kD : Key → D
  | .inl i => .int i
  | .inr s => .str s
def tupK (k : List Key) : D := .tup (k.map kD)
theorem kD_v {z : Z} {μ : List Addr} {B : Hp} (k : Key) : At z μ B (kV k) (kD k) := by
  cases k
  · exact .int _
  · exact .str _
theorem ks_at {z : Z} {μ : List Addr} {B : Hp} : ∀ {xs : List V} {ds : List D} {k : List Key}, Ats z μ B xs ds → ds.mapM dKey = some k → xs = k.map kV ∧ ds = k.map kD
  | _, _, k, .nil, h => by
    have h : some ([] : List Key) = some k := h
    cases h
    exact ⟨rfl, rfl⟩
  | _, d :: ds, k, .cons hx hs, h => by
    rw [List.mapM_cons] at h
    obtain ⟨v, h1, h⟩ := Option.bind_eq_some_iff.mp h
    obtain ⟨ws, h2, h⟩ := Option.bind_eq_some_iff.mp h
    cases h
    obtain ⟨e1, e2⟩ := ks_at hs h2
    have := at_key hx h1
    subst this e1 e2
    refine ⟨rfl, ?_⟩
    unfold dKey at h1
    split at h1 <;> first | (cases h1; rfl) | exact nomatch h1
theorem ats_mem {z : Z} {μ : List Addr} {B : Hp} {α : Type} {f : α → D} {g : α → V} : ∀ {l : List α}, (∀ a ∈ l, At z μ B (g a) (f a)) → Ats z μ B (l.map g) (l.map f)
  | [], _ => .nil
  | a :: l, h => .cons (h a List.mem_cons_self) (ats_mem fun b hb => h b (List.mem_cons_of_mem _ hb))
/-! ### sorted(list), sorted(dict) -/
/-- tuples of numbers and texts -/
def dTups : List D → Option (List (List Key))
  | [] => some []
  | .tup ds :: r => match ds.mapM dKey, dTups r with
    | some k, some ks => some (k :: ks)
    | _, _ => none
  | _ => none
def shOk : List (List Key) → Bool
  | [] => true
  | k :: r => !k.isEmpty && r.all fun j => decide (j.map TM.tx = k.map TM.tx)
def sortD (ds : List D) : Option (List D) := match dInts ds with
  | some ns => some ((sortI ns).map .int)
  | none => match dStrs ds with
    | some xs => some ((sortX xs).map .str)
    | none => (dTups ds).bind fun ks => if shOk ks = true then some ((sortT ks).map tupK) else none
def gSorted (m : Mem) (as : List D) : Option Ob := match as with
  | [a] => match lk m a with
    | .lst ds => (sortD ds).map .lst
    | .frz ds => (sortD ds).map .lst
    | .dic false ks _ => if isVal a = false ∧ ks.length ≤ 100000 then (dStrs ks).map fun xs => .lst ((sortX xs).map .str) else none
    | _ => none
  | _ => none
def rSortedL (K : PySem.W.Frag) : List V → Hp → VK → Prop := fun xs H Q => ((rSortedI K xs H Q ∨ ST.rSortedX K xs H Q) ∨ ST.rSortedDX xs H Q) ∨ TM.rSortedTL K xs H Q
section
variable {X : Cx} {c : Cc} {e : Expr} {es : List Expr} {fs : FA} {p pos : Pos}
theorem tups_at {z : Z} {μ : List Addr} {B : Hp} : ∀ {xs : List V} {ds : List D} {ks : List (List Key)}, Ats z μ B xs ds → dTups ds = some ks → ∃ L : TM.ML, xs = L.map (fun p => V.ref p.1) ∧ L.map (·.2) = ks ∧ ∀ p ∈ L, SqT z.K B p.1 (p.2.map kV)
  | _, _, ks, .nil, h => by
    have h : some ([] : List (List Key)) = some ks := h
    cases h
    exact ⟨[], rfl, rfl, fun p hp => nomatch hp⟩
  | _, _, ks, .cons (d := d) hx hs, h => by
    cases hx with
    | tup h1 h2 =>
      rename_i a vs es
      unfold dTups at h
      split at h
      · rename_i k r hk hr
        cases h
        obtain ⟨e1, e2⟩ := ks_at h2 hk
        obtain ⟨L, l1, l2, l3⟩ := tups_at hs hr
        refine ⟨(a, k) :: L, by rw [List.map_cons, ← l1], by rw [List.map_cons, l2], fun p hp => ?_⟩
        rcases List.mem_cons.mp hp with rfl | hp
        · rw [← e1]; exact h1
        · exact l3 p hp
      · exact nomatch h
    | _ => exact nomatch h
theorem sort_list {z : Z} {X1 B H : Hp} {μ : List Addr} {m : Mem} {a : Addr} {xs : List V} {ds es : List D} {Q : VK} (hBH : Ex B H) (h : SqL z.K H a xs) (hx : Ats z μ B xs ds) (e : sortD ds = some es) (q : ∀ p zs, H p = none → Ats z μ B zs es → Q (.ref p) (upd H p (.lst zs))) : rSortedL z.K [.ref a] H Q := by
  unfold sortD at e
  split at e
  · rename_i ns hn
    cases e
    rw [dInts_eq hn] at hx
    refine .inl (.inl (.inl ⟨a, ns, rfl, by rw [← ats_int hx]; exact h, fun ms p hp ho hn => ?_⟩))
    rw [sortI_eq hp ho]
    exact q p _ hn (ats_of (f := D.int) (g := V.int) (fun a => .int a) _)
  · split at e
    · rename_i ss hs
      cases e
      rw [dStrs_eq hs] at hx
      refine .inl (.inl (.inr ⟨a, ss, rfl, by rw [← ats_str hx]; exact h, fun ms p hp ho hn => ?_⟩))
      rw [sortX_eq hp ho]
      exact q p _ hn (ats_of (f := D.str) (g := V.str) (fun a => .str a) _)
    · obtain ⟨ks, h1, h2⟩ := Option.bind_eq_some_iff.mp e
      split at h2
      · rename_i hsh
        cases h2
        obtain ⟨L, rfl, l2, l3⟩ := tups_at hx h1
        have fin : ∀ b sh, (∀ p ∈ L, p.2.map TM.tx = b :: sh) → rSortedL z.K [.ref a] H Q := fun b sh hb => .inr ⟨a, L, b, sh, rfl, h, fun p hp => ⟨ex_t hBH (l3 p hp), hb p hp⟩, fun M p pm pw hn => by
          have e1 : M.map (·.2) = sortT ks := sortT_eq (by rw [← l2]; exact pm.map _) (List.pairwise_map.mpr pw)
          refine q p _ hn ?_
          rw [← e1, List.map_map]
          exact ats_mem fun r hr => .tup (l3 r (pm.mem_iff.mp hr)) (ats_of (f := kD) (g := kV) (fun k => kD_v k) _)⟩
        cases L with
        | nil => exact fin true [] fun p hp => nomatch hp
        | cons p0 L =>
          rw [List.map_cons] at l2
          subst l2
          have hs2 : (!p0.2.isEmpty && (L.map (·.2)).all fun j => decide (j.map TM.tx = p0.2.map TM.tx)) = true := hsh
          rw [Bool.and_eq_true, List.all_eq_true] at hs2
          obtain ⟨n1, n2⟩ := hs2
          cases hk : p0.2 with
          | nil => rw [hk] at n1; exact nomatch n1
          | cons k0 r0 =>
            refine fin (TM.tx k0) (r0.map TM.tx) fun p hp => ?_
            rcases List.mem_cons.mp hp with rfl | hp
            · rw [hk]; rfl
            · have := of_decide_eq_true (n2 p.2 (List.mem_map_of_mem hp))
              rw [this, hk]
              rfl
      · exact nomatch h2
theorem keys_str : ∀ {kvs : List (Key × V)} {xs : List Str}, kvs.map (fun p => some p.1) = (xs.map D.str).map dKey → kvs.map (·.1) = xs.map Sum.inr
  | [], [], _ => rfl
  | p :: kvs, x :: xs, h => by
    obtain ⟨h1, h2⟩ := List.cons.inj h
    have h1 : some p.1 = some (Sum.inr x) := h1
    rw [List.map_cons, List.map_cons, keys_str h2, Option.some.inj h1]
  | [], _ :: _, h => nomatch h
  | _ :: _, [], h => nomatch h
theorem d_sorted (hc : X.calm = true) (hm : X.mg "sorted" = none) (ha : PA X (e :: es) (taF c fs)) (hz : zx X = c.z := by rfl) (hgl : Gl X "sorted" := by rfl)
    (he : starEach (e :: es) X.env = (false, eval e X.env) :: starEach es X.env := by rfl) (hpl : (backTo pos (starEach es X.env)).any (·.1) = false := by rfl) : PE X (.Call (.Name "sorted" p) (e :: es) [] pos) (tnF c (nB gSorted fs)) := by
  have hK := kz hz
  refine pe_mono (pe_callB (id := "sorted") (r := rSortedL c.z.K) (by rw [← hK]; exact callr_or (callr_or (callr_or cr_sortedI ST.cr_sortedX) (ST.cr_sortedDX hc)) TM.cr_sortedTL) hgl hm (by decide +kernel) ha (by decide) (by decide) he hpl) fun σ H Q ⟨X1, env, m, μ, B, I, o⟩ => ⟨X1, env, m, μ, B, I, out_seqN o fun as m1 xs H1 B1 μ1 g1 hx I1 o1 => ?_⟩
  obtain ⟨ob, h1, q⟩ := o1.lift I1
  unfold gSorted at h1
  split at h1
  · rename_i a
    cases hx with
    | cons hx hn =>
      cases hn
      split at h1
      · rename_i ds hl
        obtain ⟨es, h2, rfl⟩ := Option.map_eq_some_iff.mp h1
        obtain ⟨p, ys, rfl, h3, h4⟩ := vw_lst I1.me hx hl
        exact sort_list (X1 := X1) (m := m1) I1.me.bh (sq_of h3) h4 h2 fun r zs hr hz => q r _ hr ⟨zs, upd_same, hz⟩
      · rename_i ds hl
        obtain ⟨es, h2, rfl⟩ := Option.map_eq_some_iff.mp h1
        obtain ⟨p, ys, rfl, h3, h4⟩ := vw_frz I1.me hx hl
        exact sort_list (X1 := X1) (m := m1) I1.me.bh h3 h4 h2 fun r zs hr hz => q r _ hr ⟨zs, upd_same, hz⟩
      · rename_i ks vs hl
        split at h1
        · rename_i hc
          obtain ⟨ss, h2, rfl⟩ := Option.map_eq_some_iff.mp h1
          rcases vw_dicK I1.me hx hl with ⟨p, kvs, rfl, h3, h4, h5⟩ | ⟨p, l, rfl, rfl, _⟩
          · rw [dStrs_eq h2] at h4
            refine .inl (.inr ⟨p, kvs, ss, rfl, h3, keys_str h4, ?_, fun ys r perm ord hr => ?_⟩)
            · have := congrArg List.length (dStrs_eq h2)
              rw [List.length_map] at this
              omega
            · rw [sortX_eq perm ord]
              exact q r _ hr ⟨_, upd_same, ats_of (f := D.str) (g := V.str) (fun a => .str a) _⟩
          · exact nomatch hc.1
        · exact nomatch h1
      · exact nomatch h1
  · exact nomatch h1
/-! ### len(set(texts)) -/
def eLenSet (fe : FE) : FE := fun env m => (fe env m).bind fun a m1 => match lk m1 a with
  | .lst ds => match dStrs ds with
    | some zs => if zs.length ≤ 4000 then .ok (.int ((SX.dis zs).length : Nat)) m1 else .no
    | none => .no
  | _ => .no
theorem d_lenSet {fe : FE} {p2 pos2 : Pos} (hc : X.calm = true) (hm : X.mg "len" = none) (hm2 : X.mg "set" = none) (he : PE X e (teF c fe)) (hz : zx X = c.z := by rfl) (hg : Gl X "len" := by rfl) (hg2 : Gl X "set" := by rfl)
    (h1 : starEach [e] X.env = (false, eval e X.env) :: starEach [] X.env := by rfl) (h2 : starEach [.Call (.Name "set" p2) [e] [] pos2] X.env = (false, eval (.Call (.Name "set" p2) [e] [] pos2) X.env) :: starEach [] X.env := by rfl)
    (h3 : (backTo pos2 (starEach [] X.env)).any (·.1) = false := by rfl) (h4 : (backTo pos (starEach [] X.env)).any (·.1) = false := by rfl) : PE X (.Call (.Name "len" p) [.Call (.Name "set" p2) [e] [] pos2] [] pos) (teF c (eLenSet fe)) := by
  have hK := kz hz
  refine pe_mono (pe_callB (id := "len") (r := rLenN) call_lenN hg hm (by decide +kernel) (pa_cons (pe_callTy (T := "set") (r := SX.rSetS c.z.K) (SX.call_setS hc hK) hg2 hm2 (by decide +kernel) (pa_cons he pa_nil h1) (by decide) (by decide) h1 h3) pa_nil h2) (by decide) (by decide) h2 h4) fun σ H Q ⟨X1, env, m, μ, B, I, o⟩ => ⟨X1, env, m, μ, B, I, out_seq o fun a m1 x H1 B1 μ1 g1 hx I1 o1 => ?_⟩
  split at o1
  · rename_i ds hl
    split at o1
    · rename_i zs hzs
      split at o1
      · rename_i hlen
        obtain ⟨p, ys, rfl, h5, h6⟩ := vw_lst I1.me hx hl
        rw [dStrs_eq hzs] at h6
        refine ⟨p, zs, rfl, by rw [← ats_str h6]; exact sq_of h5, hlen, fun r hr => ⟨r, _, rfl, upd_same, ?_⟩⟩
        have I2 := I1.up (Ex.new (o := SetN r (SX.dis zs).length) hr) (Gr.refl _ _) (I1.me.bh.trans (Ex.new hr))
        exact o1 _ _ B1 μ1 Gw.refl (.int _) I2
      · exact o1.elim
    · exact o1.elim
  · exact o1.elim
/-! ### max, min -/
/-! ### l.index(x) -/
/-- the first place that holds it -/
def idxV (v : V) : List V → Option Nat
  | [] => none
  | u :: us => if eqV u v = true then some 0 else (idxV v us).map (· + 1)
def lsOf (m : Mem) (d : D) : Option (List D) := match lk m d with
  | .lst ds => some ds
  | .frz ds => some ds
  | _ => none
def eIdx (fo fe : FE) : FE := fun env m => (fo env m).bind fun o m1 => match lsOf m1 o with
  | some _ => (fe env m1).bind fun a m2 => match (lsOf m2 o).bind fun ds => ds.mapM D.sv, a.sv with
    | some vs, some v => match idxV v vs with
      | some j => .ok (.int (j : Nat)) m2
      | none => .no
    | _, _ => .no
  | none => .no
end
end DY
/-! defs read as functions over data: sorted({..}), the module's tables -/
namespace DY
open PySem PySem.Spec PyProof.Rows L2 Evl LX XV RX WS
/-! ### sorted({elt for ..}), tuples of numbers and texts -/
/-- the keys that are met, each once -/
def memT (acc : List (List Key)) (k : List Key) : Bool := acc.any fun j => decide (j = k)
theorem memT_iff {acc : List (List Key)} {k : List Key} : memT acc k = true ↔ k ∈ acc := by
  unfold memT
  rw [List.any_eq_true]
  exact ⟨fun ⟨j, hj, e⟩ => of_decide_eq_true e ▸ hj, fun h => ⟨k, h, decide_eq_true rfl⟩⟩
def putT (acc : List (List Key)) (k : List Key) : List (List Key) := if memT acc k = true then acc else acc ++ [k]
def csc (env : Sv) (g : FG) (t : FT) (f : FE) (src : Src) : Nat → Nat → Mem → List (List Key) → Rs (List (List Key))
  | 0, _, _, _ => .no
  | n + 1, i, m, acc => match src.at_ m i with
    | none => .no
    | some none => .ok acc m
    | some (some d) => match g d env m with
      | none => .no
      | some e1 => (noex (t e1 m)).bind fun b m2 => if b = true then (noex (f e1 m2)).bind fun r m3 => match r with
          | .tup ds => match ds.mapM dKey with
            | some k => if acc.length + 1 < 64 then csc env g t f src n (i + 1) m3 (putT acc k) else .no
            | none => .no
          | _ => .no
        else csc env g t f src n (i + 1) m2 acc
def asS : List (List Key) → Mem → Rs Ob := fun acc m => if shOk acc = true then .ok (.lst ((sortT acc).map tupK)) m else .no
def nSsc (vs : List Nat) (fi : FI) (g : FG) (t : FT) (f : FE) : FN := fun env m => (fi env m).bind fun src m1 => (csc (wipeE env vs) g t f src turns 0 m1 []).bind asS
/-- the set u holds these keys -/
def ScU (z : Z) (B : Hp) (a : Addr) (acc : List (List Key)) (u : HO) : Prop := ∃ L : TM.ML, u = TM.SetMO z.P z.w a L ∧ (L.map (·.2)).Perm acc ∧ acc.Nodup ∧ ∀ p ∈ L, SqT z.K B p.1 (p.2.map kV)
theorem ScU.ex {z : Z} {B B' : Hp} {a : Addr} {acc : List (List Key)} {u : HO} (h : ScU z B a acc u) (e : Ex B B') : ScU z B' a acc u := by
  obtain ⟨L, h1, h2, h3, h4⟩ := h
  exact ⟨L, h1, h2, h3, fun p hp => ex_t e (h4 p hp)⟩
theorem sh_all {acc : List (List Key)} (h : shOk acc = true) : ∃ (b : Bool) (sh : List Bool), ∀ k ∈ acc, k.map TM.tx = b :: sh := by
  cases acc with
  | nil => exact ⟨true, [], fun k hk => nomatch hk⟩
  | cons k r =>
    unfold shOk at h
    obtain ⟨h1, h2⟩ := He.ba h
    cases k with
    | nil => exact nomatch h1
    | cons c k =>
      refine ⟨TM.tx c, k.map TM.tx, fun j hj => ?_⟩
      rcases List.mem_cons.mp hj with rfl | hj
      · rfl
      · exact of_decide_eq_true (List.all_eq_true.mp h2 j hj)
section
variable {c : Cc}
theorem tn_ssc {wi : TI} {tg : TG} {tt : TT} {te : TE} {vs js : List Nat} {fi : FI} {g : FG} {t : FT} {f : FE} (hi : ∀ σ H T, tiF c fi σ H T → wi σ H T) (hg : ∀ v σ H Q, tgF c.no js g v σ H Q → tg v σ H Q) (ht : ∀ σ H Q, ttF c.no t σ H Q → tt σ H Q) (he : ∀ σ H Q, teF c.no f σ H Q → te σ H Q)
    (hj : ∀ j ∈ js, j ∈ vs) (hv : ∀ v ∈ vs, v ≠ c.xi.i) {σ : L2.St} {H : Hp} {Q : VK} : tnF c (nSsc vs fi g t f) σ H Q → tCB (TM.rSortedM c.z.K c.z.P c.z.w) (tCons (tScG (fun a => TM.SetMO c.z.P c.z.w a []) (TM.addMix c.z.K c.z.P c.z.w) wi tg tt te vs) tNil) σ H Q := fun ⟨X1, env, m, μ, B, I, o⟩ => by
  refine hi _ _ _ ⟨X1, env, m, μ, B, I, out_seqN o fun src m1 J H1 B1 μ1 g1 sok I1 o1 => fun Dl hD => ?_⟩
  obtain ⟨hB1, hX1, hμ1⟩ := I1.me.new hD
  refine ⟨fun i k H' => src.seen i ∧ ∃ m' μ' B' u acc, Gw X1 B1 μ1 B' μ' ∧ En c.z c.xi (upd X1 Dl u) (wipeE env vs) m' μ' (L2.wipe σ vs) B' H' ∧ B' Dl = none ∧ ScU c.z B' Dl acc u ∧ OutN c X1 env σ μ' B' ((csc (wipeE env vs) g t f src k i m' acc).bind asS) Q, ⟨turns, src.seen0, m1, μ1, B1, _, [], Gw.refl, ?_, hB1, ⟨[], rfl, .nil, .nil, (fun p hp => nomatch hp)⟩, o1⟩, ?_⟩
  · have I2 : En c.z c.xi X1 env m1 μ1 σ B1 (upd H1 Dl (TM.SetMO c.z.P c.z.w Dl [])) := I1.up (Ex.new hD) (Gr.refl _ _) (I1.me.bh.trans (Ex.new hD))
    exact (I2.wipe vs hv).wid (ex_both' I1.me.xh) fun a ha => by
      rw [upd_ne (fun (e : a = Dl) => hμ1 (by rw [← e]; exact ha))]
      exact I1.me.nx a ha
  rintro i k H' ⟨hsn, m', μ', B', u, acc, g2, I', hBD, hys, o'⟩
  have hD' : H' Dl = some u := I'.me.xh _ _ upd_same
  have nar : ∀ {μ B H m u}, Me c.z (upd X1 Dl u) μ B H m → Me c.z X1 μ B H m ∧ Dl ∉ μ := fun {μ B H m u} M =>
    ⟨M.wid ((Ex.new hX1).trans M.xh) fun a ha => by
      have e := M.nx a ha
      by_cases c : a = Dl
      · subst c; exact hX1
      · rw [upd_ne c] at e; exact e, fun ha => by
      have e := M.nx Dl ha
      rw [upd_same] at e
      exact nomatch e⟩
  cases k with
  | zero => exact o'.elim
  | succ k =>
    unfold csc at o'
    have hs := sok i m' μ' B' H' hsn g2 (nar I'.me).1
    cases ha : src.at_ m' i with
    | none => rw [ha] at o'; exact o'.elim
    | some od =>
      cases od with
      | none =>
        rw [ha] at o' hs
        obtain ⟨M', hn⟩ := nar I'.me
        refine .inl ⟨hs, ?_⟩
        simp only [Rs.bind, asS] at o'
        split at o'
        · rename_i hsh
          obtain ⟨b, sh, hall⟩ := sh_all hsh
          obtain ⟨L, rfl, hp, hnd, hsq⟩ := hys
          have I2 : En c.z c.xi X1 env m' μ' σ B' H' := I1.mem M' g2.g.ex g2.p
          refine ⟨Dl, L, b, sh, rfl, hD', fun p hpm => ⟨ex_t I2.me.bh (hsq p hpm), hall _ (hp.mem_iff.mp (List.mem_map.mpr ⟨p, hpm, rfl⟩))⟩, fun M r hM _ _ hord hr => ?_⟩
          have e : M.map (·.2) = sortT acc := sortT_eq ((hM.map (·.2)).trans hp) (List.pairwise_map.mpr hord)
          obtain ⟨n1, n2, n3⟩ := I2.me.new hr
          refine o' r _ B' μ' Gw.refl ⟨M.map fun q => V.ref q.1, upd_same, ?_⟩ n1 n2 n3 (I2.up (Ex.new hr) (Gr.refl _ _) (I2.me.bh.trans (Ex.new hr)))
          rw [← e, List.map_map]
          refine ats_mem fun p hpm => ?_
          exact .tup (hsq p (hM.mem_iff.mp hpm)) (ats_of (f := kD) (g := kV) (fun k => kD_v k) _)
        · exact o'.elim
      | some d =>
        rw [ha] at o' hs
        refine .inr ⟨hs.1, fun H'' => ∃ m' μ' B' u acc, Gw X1 B1 μ1 B' μ' ∧ En c.z c.xi (upd X1 Dl u) (wipeE env vs) m' μ' (L2.wipe σ vs) B' H'' ∧ B' Dl = none ∧ ScU c.z B' Dl acc u ∧ OutN c X1 env σ μ' B' ((csc (wipeE env vs) g t f src k (i + 1) m' acc).bind asS) Q, fun H'' h => ⟨k, Nat.lt_succ_self _, Src.seen1 ha, h⟩, fun x H2 y => ?_⟩
        obtain ⟨e2, B2, gr, b2, ax⟩ := hs.2 x H2 y
        have I2 := I'.up e2 gr b2
        have gw2 : Gw X1 B' μ' B2 μ' := (nar I'.me).1.gw gr
        have hBD2 : B2 Dl = none := gr.av Dl hBD (by rw [hD']; exact Option.some_ne_none _)
        cases hgd : g d (wipeE env vs) m' with
        | none => simp only [hgd] at o'; exact o'.elim
        | some e1 =>
          simp only [hgd] at o'
          rw [Rs.bind_assoc] at o'
          have o3 := OutN.grow o' gw2
          refine hg _ _ _ _ ⟨_, wipeE env vs, m', μ', B2, d, e1, I2, ax, hgd, fun σ2 hσ hl I3 => ⟨wipe_eq (hl.trans (wipe_length ..)) hj hσ, ht _ _ _ ⟨_, e1, m', μ', B2, I3, out_blk hX1 o3 fun b m4 v H4 B4 μ4 g4' g4 hv4 I4 o4 => ?_⟩⟩⟩
          subst hv4
          have av4 : ∀ {B5 μ5}, Gw (upd X1 Dl u) B2 μ' B5 μ5 → B5 Dl = none := fun g5 => g5.g.av Dl hBD2 (by rw [upd_same]; exact Option.some_ne_none _)
          cases v with
          | false => exact ⟨m4, μ4, B4, u, acc, (g2.trans gw2).trans g4, I2.mem I4.me g4.g.ex g4.p, av4 g4', (hys.ex gw2.g.ex).ex g4.g.ex, o4⟩
          | true =>
            simp only [if_true] at o4 ⊢
            rw [Rs.bind_assoc] at o4
            refine he _ _ _ ⟨_, e1, m4, μ4, B4, I4, out_blk hX1 o4 fun r m5 yv H5 B5 μ5 g5' g5 hyv I5 o5 => ?_⟩
            have hys5 := ((hys.ex gw2.g.ex).ex g4.g.ex).ex g5.g.ex
            have hD5 : H5 Dl = some u := I5.me.xh _ _ upd_same
            have hB5 : B5 Dl = none := av4 (g4'.trans g5')
            split at o5
            · rename_i ds
              split at o5
              · rename_i kk hkk
                split at o5
                · rename_i hlen
                  cases hyv with
                  | tup t1 t2 =>
                    obtain ⟨rfl, rfl⟩ := ks_at t2 hkk
                    obtain ⟨L, rfl, hp, hnd, hsq⟩ := hys5
                    have hlL : L.length = acc.length := by rw [← hp.length_eq, List.length_map]
                    refine ⟨_, kk, L, rfl, ex_t I5.me.bh t1, hD5, fun p hp => ex_t I5.me.bh (hsq p hp), by omega, fun L' c1 c2 => ⟨m5, μ5, B5, _, putT acc kk, ((g2.trans gw2).trans g4).trans g5, ?_, hB5, ⟨L', rfl, ?_⟩, o5⟩⟩
                    · obtain ⟨M5, hn5⟩ := nar I5.me
                      refine I2.mem ⟨?_, ?_, M5.len, M5.nd, fun n a ob h1 h2 => (M5.ob n a ob h1 h2).gr (Ex.refl _) (List.prefix_refl _) fun u hu => ?_, M5.nb, fun a ha => ?_⟩ (g4.g.ex.trans g5.g.ex) (g4.p.trans g5.p)
                      · exact fun a u hu => by
                          have hne : a ≠ Dl := fun e => by subst e; rw [hB5] at hu; exact nomatch hu
                          rw [upd_ne hne]; exact M5.bh a u hu
                      · exact ex_both' M5.xh
                      · have hne : a ≠ Dl := fun e => by subst e; exact hn5 (List.mem_of_getElem? h1)
                        rw [upd_ne hne]; exact hu
                      · have hne : a ≠ Dl := fun e => by subst e; exact hn5 ha
                        rw [upd_ne hne]; exact M5.nx a ha
                    · unfold putT
                      by_cases hm : kk ∈ acc
                      · rw [if_pos (memT_iff.mpr hm), c1 (hp.mem_iff.mpr hm)]
                        exact ⟨hp, hnd, hsq⟩
                      · have pm := c2 fun z => hm (hp.mem_iff.mp z)
                        rw [if_neg fun z => hm (memT_iff.mp z)]
                        refine ⟨?_, List.nodup_append.mpr ⟨hnd, by simp, fun a ha b hb e => hm (by rw [List.mem_singleton.mp hb] at e; exact e ▸ ha)⟩, fun p hpm => ?_⟩
                        · refine (pm.map (·.2)).trans ?_
                          rw [List.map_cons]
                          exact ((List.perm_cons kk).mpr hp).trans (List.perm_append_comm (l₁ := [kk]))
                        · rcases List.mem_cons.mp (pm.mem_iff.mp hpm) with rfl | q
                          · exact t1
                          · exact hsq p q
                · exact o5.elim
              · exact o5.elim
            · exact o5.elim
variable {X : Cx}
theorem d_sortSc {elt tg iter : Expr} {ifs : List Expr} {scope : Scope} {p pos pos2 : Pos} {fi : FI} {js : List Nat} {g : FG} {t : FT} {f : FE} (own : List (Str × Nat)) (hr : RoomU X.A) (hc : X.calm = true) (hm : X.mg "sorted" = none) (hN : X.N.Nodup) (hi : PI X tg iter (tiF c fi)) (ok : BlkOk X.N X.env.scope scope own)
    (hg : ∀ (s : Shared) (H : Hp) (C : Addr) (cl : List (Str × Addr)) (fp : List Addr), PG (X.blk s H scope (compEnvC scope cl C X.env) fp) tg (tgF c.no js g)) (ht : ∀ (s : Shared) (H : Hp) (C : Addr) (cl : List (Str × Addr)) (fp : List Addr), PTs (X.blk s H scope (compEnvC scope cl C X.env) fp) ifs (ttF c.no t))
    (he : ∀ (s : Shared) (H : Hp) (C : Addr) (cl : List (Str × Addr)) (fp : List Addr), PE (X.blk s H scope (compEnvC scope cl C X.env) fp) elt (teF c.no f)) (hz : zx X = c.z := by rfl) (hgl : Gl X "sorted" := by rfl) (hj : ∀ j ∈ js, j ∈ own.map (·.2) := by decide) (hv : ∀ v ∈ own.map (·.2), v ≠ c.xi.i := by exact all_ne (by rfl)) (hs : ∀ x, foldedSetIterable iter X.env x = pure x := by intro _; rfl)
    (h2 : starEach [.SetComp elt [⟨tg, iter, ifs, 0⟩] scope pos2] X.env = (false, eval (.SetComp elt [⟨tg, iter, ifs, 0⟩] scope pos2) X.env) :: starEach [] X.env := by rfl) (h4 : (backTo pos (starEach [] X.env)).any (·.1) = false := by rfl) :
    PE X (.Call (.Name "sorted" p) [.SetComp elt [⟨tg, iter, ifs, 0⟩] scope pos2] [] pos) (tnF c (nSsc (own.map (·.2)) fi g t f)) := by
  have e1 : X.K = c.z.K := congrArg Z.K hz
  have e2 : X.prog = c.z.P := congrArg Z.P hz
  have e3 : X.w = c.z.w := congrArg Z.w hz
  have h := pe_scG (X := X) (pos := pos2) (own := own) (TM.addMix_ok hr.units) TM.newMix_ok hc hN hi ok hg ht he hs
  rw [e1, e2, e3] at h
  exact pe_mono (pe_callB (id := "sorted") (TM.cr_sortedM hc e1 e2 e3) hgl hm (by decide +kernel) (pa_cons h pa_nil h2) (by decide) (by decide) h2 h4) fun σ H Q h => tn_ssc (fun _ _ _ h => h) (fun _ _ _ _ h => h) (fun _ _ _ h => h) (fun _ _ _ h => h) hj hv h
end
end DY
/-! defs read as functions over data: what the text says -/
namespace DY
open PySem PySem.Spec PyProof.Rows L2 Evl LX XV RX WS
/-! ### data of the module -/
mutual
def dB (K : PySem.W.Frag) : D → Value → Bool
  | .non, .none => true
  | .bl b, .bool c => decide (b = c)
  | .int i, .int j _ => decide (i = j)
  | .str x, .str y _ => decide (x = y)
  | .tup ds, .ref a => match K.lookup a with
    | some ⟨.type c, _, .seq its _, _⟩ => decide (c = "tuple") && (decide (its.size ≤ sizeLine) && dBs K ds its.toList)
    | _ => false
  | .frz ds, .ref a => match K.lookup a with
    | some ⟨.type c, none, .seq its _, _⟩ => decide (c = "list") && (decide (its.size ≤ sizeLine) && dBs K ds its.toList)
    | _ => false
  | _, _ => false
def dBs (K : PySem.W.Frag) : List D → List Value → Bool
  | [], [] => true
  | d :: ds, u :: us => dB K d u && dBs K ds us
  | _, _ => false
end
section
variable {K : PySem.W.Frag}
mutual
theorem dB_ok : ∀ (d : D) (u : Value), dB K d u = true → ∃ v, RelV v u ∧ ∀ P w μ B, At ⟨P, w, K⟩ μ B v d
  | .non, u, h => by
    cases u with
    | none => exact ⟨.non, rfl, fun _ _ _ _ => .non⟩
    | _ => unfold dB at h; exact nomatch h
  | .bl b, u, h => by
    cases u with
    | bool c =>
      unfold dB at h
      have := of_decide_eq_true h
      subst this
      exact ⟨.bl b, rfl, fun _ _ _ _ => .bl b⟩
    | _ => unfold dB at h; exact nomatch h
  | .int b, u, h => by
    cases u with
    | int c t =>
      unfold dB at h
      have := of_decide_eq_true h
      subst this
      exact ⟨.int b, ⟨_, rfl⟩, fun _ _ _ _ => .int b⟩
    | _ => unfold dB at h; exact nomatch h
  | .str b, u, h => by
    cases u with
    | str c t =>
      unfold dB at h
      have := of_decide_eq_true h
      subst this
      exact ⟨.str b, ⟨_, rfl⟩, fun _ _ _ _ => .str b⟩
    | _ => unfold dB at h; exact nomatch h
  | .tup ds, u, h => by
    cases u with
    | ref a =>
      unfold dB at h
      split at h
      · rename_i c od its n sl hl
        obtain ⟨h1, h2⟩ := He.ba h
        obtain ⟨h3, h4⟩ := He.ba h2
        obtain ⟨xs, r, q⟩ := dBs_ok ds _ h4
        exact ⟨.ref a, rfl, fun P w μ B => .tup (.inr ⟨_, its, n, hl, congrArg Value.type (of_decide_eq_true h1), rfl, of_decide_eq_true h3, r⟩) (q P w μ B)⟩
      · exact nomatch h
    | _ => unfold dB at h; exact nomatch h
  | .frz ds, u, h => by
    cases u with
    | ref a =>
      unfold dB at h
      split at h
      · rename_i c its n sl hl
        obtain ⟨h1, h2⟩ := He.ba h
        obtain ⟨h3, h4⟩ := He.ba h2
        obtain ⟨xs, r, q⟩ := dBs_ok ds _ h4
        exact ⟨.ref a, rfl, fun P w μ B => .frz (.inr ⟨_, its, n, hl, congrArg Value.type (of_decide_eq_true h1), rfl, rfl, of_decide_eq_true h3, r⟩) (q P w μ B)⟩
      · exact nomatch h
    | _ => unfold dB at h; exact nomatch h
  | .lst _, u, h => by cases u <;> (unfold dB at h; exact nomatch h)
  | .dic _ _ _, u, h => by cases u <;> (unfold dB at h; exact nomatch h)
  | .ins _ _ _, u, h => by cases u <;> (unfold dB at h; exact nomatch h)
  | .hdl _, u, h => by cases u <;> (unfold dB at h; exact nomatch h)
theorem dBs_ok : ∀ (ds : List D) (us : List Value), dBs K ds us = true → ∃ xs, Vals xs us ∧ ∀ P w μ B, Ats ⟨P, w, K⟩ μ B xs ds
  | [], [], _ => ⟨[], .nil, fun _ _ _ _ => .nil⟩
  | [], _ :: _, h => by unfold dBs at h; exact nomatch h
  | _ :: _, [], h => by unfold dBs at h; exact nomatch h
  | d :: ds, u :: us, h => by
    unfold dBs at h
    obtain ⟨h1, h2⟩ := He.ba h
    obtain ⟨v, r, q⟩ := dB_ok d u h1
    obtain ⟨xs, r2, q2⟩ := dBs_ok ds us h2
    exact ⟨v :: xs, .cons r r2, fun P w μ B => .cons (q P w μ B) (q2 P w μ B)⟩
end
end
/-! ### tables -/
abbrev TabD := Str × List Str × List D
def tvB (K : PySem.W.Frag) (a : Addr) : List Str → List D → Bool
  | [], [] => true
  | k :: ks, d :: ds => (match PySem.W.nsIn K a k with
    | some (some u) => dB K d u
    | _ => false) && tvB K a ks ds
  | _, _ => false
theorem tv_ok {K : PySem.W.Frag} {a : Addr} : ∀ (ks : List Str) (ds : List D), tvB K a ks ds = true → ∃ l : List (Str × V), l.map (·.1) = ks ∧ (∀ q ∈ l, ∃ u, PySem.W.nsIn K a q.1 = some (some u) ∧ RelV q.2 u) ∧ ∀ P w μ B, Ats ⟨P, w, K⟩ μ B (l.map (·.2)) ds
  | [], [], _ => ⟨[], rfl, fun _ h => (nomatch h), fun _ _ _ _ => .nil⟩
  | [], _ :: _, h => by unfold tvB at h; exact nomatch h
  | _ :: _, [], h => by unfold tvB at h; exact nomatch h
  | k :: ks, d :: ds, h => by
    unfold tvB at h
    obtain ⟨h1, h2⟩ := He.ba h
    split at h1
    · rename_i u hu
      obtain ⟨v, r, q⟩ := dB_ok d u h1
      obtain ⟨l, e, r2, q2⟩ := tv_ok ks ds h2
      refine ⟨(k, v) :: l, by rw [List.map_cons, e], fun z hz => ?_, fun P w μ B => .cons (q P w μ B) (q2 P w μ B)⟩
      rcases List.mem_cons.mp hz with rfl | hz
      · exact ⟨u, hu, r⟩
      · exact r2 z hz
    · exact nomatch h1
theorem keyOf_str {e : DictEntry} {p : Str × Int} (h : He.keyOf e = some p) : ∃ t, e.key = .str p.1 t := by
  unfold He.keyOf at h
  split at h
  · rename_i x t q
    have := Option.some.inj h
    subst this
    exact ⟨t, q⟩
  · exact nomatch h
theorem tab_none {K : PySem.W.Frag} {w : World} {a : Addr} {ks : List Str} (h : He.dicW K a = some (He.keysIn w.params ks)) {s : Str} (hs : s ∉ ks) : PySem.W.nsIn K a s = some none := by
  unfold He.dicW at h
  split at h
  · rename_i c es n sl hl
    split at h
    · have h := Option.some.inj h
      have key : ∀ e ∈ es.toList, ∃ k t, k ∈ ks ∧ e.key = .str k t := fun e he => by
        have h1 : He.keyOf e ∈ He.keysIn w.params ks := by rw [← h]; exact List.mem_map_of_mem he
        unfold He.keysIn at h1
        obtain ⟨k, hk, e1⟩ := List.mem_map.mp h1
        obtain ⟨t, ht⟩ := keyOf_str e1.symm
        exact ⟨k, t, hk, ht⟩
      unfold PySem.W.nsIn
      rw [hl]
      dsimp only
      have f1 : es.toList.find? (·.key.isStr s) = none := by
        rw [List.find?_eq_none]
        intro e he
        obtain ⟨k, t, hk, ht⟩ := key e he
        rw [ht, PySem.W.isStr_of]
        intro c
        have : k = s := by simpa [Value.isStrOf] using c
        exact hs (this ▸ hk)
      have f2 : es.toList.any (·.refKey) = false := by
        rw [List.any_eq_false]
        intro e he
        obtain ⟨k, t, hk, ht⟩ := key e he
        unfold DictEntry.refKey
        rw [ht]
        exact Bool.false_ne_true
      rw [f1, f2]
      rfl
    · exact nomatch h
  · exact nomatch h
/-! ### defs -/
/-- one def: where it stands (a global's name; a class and its method, its property), its name, qualified name, the text, defaults -/
structure DfP where
  at_ : Str × Option Str
  prp : Bool
  qual : Str
  st : Stmt
  dfl : List D := []
  kwd : List (Str × D) := []
def DfP.nm (d : DfP) : Str := match d.at_.2 with
  | none => d.at_.1
  | some m => m
def DfP.ad (K : PySem.W.Frag) (d : DfP) : Addr := match d.prp with
  | true => gAd K d.at_.1 d.nm
  | false => He.fAd K d.at_
def fnY (K : PySem.W.Frag) (a : Addr) : He.FnW := match K.lookup a with
  | some ⟨_, _, .func fd, _⟩ => some (fd.name, fd.qualname, fd.params, fd.body, fd.scope, fd.globals, fd.closure, fd.builtins)
  | _ => none
def DfP.val (d : DfP) : He.FnW := some (d.nm, d.qual, defArgs d.st, .stmts (defBody d.st), defScope d.st, mainGlobals, [], builtinsNs)
def dflY (K : PySem.W.Frag) (dV : Value) : List D → Bool
  | [] => (match dV with
    | .none => true
    | _ => false)
  | v :: vs => (match dV with
    | .ref T => (match K.lookup T with
      | some ⟨_, _, .seq its _, _⟩ => dBs K (v :: vs) its.toList
      | _ => false)
    | _ => false)
theorem dBs_len {K : PySem.W.Frag} : ∀ (ds : List D) (us : List Value), dBs K ds us = true → us.length = ds.length
  | [], [], _ => rfl
  | [], _ :: _, h => by unfold dBs at h; exact nomatch h
  | _ :: _, [], h => by unfold dBs at h; exact nomatch h
  | d :: ds, u :: us, h => by
    unfold dBs at h
    exact congrArg (· + 1) (dBs_len ds us (He.ba h).2)
theorem dflY_ok {K : PySem.W.Frag} {dV : Value} {ds : List D} (h : dflY K dV ds = true) : ∃ dvs, DflV K dV dvs ∧ ∀ P w μ B, Ats ⟨P, w, K⟩ μ B dvs ds := by
  cases ds with
  | nil =>
    cases dV with
    | none => exact ⟨[], .inl ⟨rfl, rfl⟩, fun _ _ _ _ => .nil⟩
    | _ => exact nomatch h
  | cons v vs =>
    unfold dflY at h
    cases dV with
    | ref T =>
      dsimp only at h
      split at h
      · rename_i c od its n sl q
        obtain ⟨xs, r, a⟩ := dBs_ok _ _ h
        refine ⟨xs, .inr ⟨?_, T, _, its.toList, n, rfl, q, by simp, r⟩, a⟩
        intro e
        subst e
        have z := r.length.trans (dBs_len _ _ h)
        exact nomatch z
      · exact nomatch h
    | _ => exact nomatch h
end DY
/-! defs read as functions over data: the head's facts -/
namespace DY
open PySem PySem.Spec PyProof.Rows L2 Evl LX XV RX WS
def kwdY (K : PySem.W.Frag) (kV : Value) : List (Str × D) → Bool
  | [] => true
  | q :: qs => (match kV with
    | .ref T => tvB K T ((q :: qs).map (·.1)) ((q :: qs).map (·.2))
    | _ => false)
theorem kwdY_ok {K : PySem.W.Frag} {kV : Value} {ds : List (Str × D)} (h : kwdY K kV ds = true) : ∃ kws : List (Str × V), KwdV K kV kws ∧ kws.map (·.1) = ds.map (·.1) ∧ ∀ P w μ B, Ats ⟨P, w, K⟩ μ B (kws.map (·.2)) (ds.map (·.2)) := by
  cases ds with
  | nil => exact ⟨[], .inl rfl, rfl, fun _ _ _ _ => .nil⟩
  | cons q qs =>
    unfold kwdY at h
    cases kV with
    | ref T =>
      obtain ⟨l, e, r, a⟩ := tv_ok _ _ h
      exact ⟨l, .inr ⟨T, rfl, r⟩, e, a⟩
    | _ => exact nomatch h
def DfP.ok (K : PySem.W.Frag) (d : DfP) : Bool := PySem.W.keepIn K (.ref (d.ad K)) && (match K.lookup (d.ad K) with
  | some ⟨_, _, .func fd, _⟩ => PySem.W.codeIn K fd.code d.qual && (dflY K fd.defaults d.dfl && kwdY K fd.kwdefaults d.kwd)
  | _ => false)
/-- what is known of a def -/
structure FunY (K : PySem.W.Frag) (d : DfP) (fd : FuncData) (dvs : List V) (kws : List (Str × V)) : Prop where
  f : FunD K d.nm d.qual (defArgs d.st) (defBody d.st) (defScope d.st) dvs kws (d.ad K) fd
  dv : ∀ P w μ B, Ats ⟨P, w, K⟩ μ B dvs d.dfl
  kn : kws.map (·.1) = d.kwd.map (·.1)
  k : ∀ P w μ B, Ats ⟨P, w, K⟩ μ B (kws.map (·.2)) (d.kwd.map (·.2))
theorem DfP.funY {K : PySem.W.Frag} {d : DfP} (e : fnY K (d.ad K) = d.val) (c : d.ok K = true) : ∃ fd dvs kws, FunY K d fd dvs kws := by
  obtain ⟨kp, c2⟩ := He.ba c
  unfold fnY at e
  split at c2
  · rename_i oc od fd sl q
    rw [q] at e
    obtain ⟨n1, n2, n3, n4, n5, n6, n7, n8, n9, n10, n11, n12, n13, n14, n15⟩ := fd
    have e2 : (some (n1, n2, n3, n4, n5, n6, n7, n15) : He.FnW) = some (d.nm, d.qual, defArgs d.st, .stmts (defBody d.st), defScope d.st, mainGlobals, [], builtinsNs) := e
    simp only [Option.some.injEq, Prod.mk.injEq] at e2
    obtain ⟨h1, h2, h3, h4, h5, h6, h7, h8⟩ := e2
    subst h1 h2 h3 h4 h5 h6 h7 h8
    obtain ⟨k1, k2⟩ := He.ba c2
    obtain ⟨k3, k4⟩ := He.ba k2
    obtain ⟨dvs, d1, d2⟩ := dflY_ok k3
    obtain ⟨kws, w1, w2, w3⟩ := kwdY_ok k4
    exact ⟨_, dvs, kws, ⟨⟨oc, od, n8, n9, n10, n11, n12, n13, n14, sl, rfl, q, k1, d1, w1⟩, kp⟩, d2, w2, w3⟩
  · exact nomatch c2
/-! ### the text -/
structure Pd where
  glo : List Str
  free : List Str
  cst : List (Str × D)
  fns : List DfP
  tab : List TabD
  cds : List CD
  xds : List XD
def cstB (K : PySem.W.Frag) (q : Str × D) : Bool := match PySem.W.nsIn K mainGlobals q.1 with
  | some (some u) => dB K q.2 u
  | _ => false
def Pd.bB (p : Pd) (K : PySem.W.Frag) : Bool := (p.glo.all fun x => (He.Fa.glo x).ok K) && ((p.free.all fun x => (He.Fa.free x).ok K) && ((p.cst.all fun q => cstB K q) && ((p.fns.all fun d => d.ok K) && ((p.tab.all fun t => (He.Fa.glo t.1).ok K && (tvB K (He.ga K t.1) t.2.1 t.2.2 && decide t.2.1.Nodup)) && ((p.cds.all fun d => cdOk K d) && (p.xds.all fun d => xdOk K p.xds d))))))
abbrev AlY : Type := Bool × List He.FnW × List (Option (List (Option (Str × Int))))
def Pd.obs (p : Pd) (K : PySem.W.Frag) : AlY := (p.bB K, p.fns.map (fun d => fnY K (d.ad K)), p.tab.map fun t => He.dicW K (He.ga K t.1))
def Pd.val (p : Pd) (w : World) : AlY := (true, p.fns.map DfP.val, p.tab.map fun t => some (He.keysIn w.params t.2.1))
def Pd.Says (p : Pd) (w : World) (K : PySem.W.Frag) : Prop := p.obs K = p.val w
def Pd.obsG (p : Pd) (n : Nat) (g : Addr → Option Obj) : AlY := p.obs (He.frG g (He.asD g n))
def Pd.hook (p : Pd) (n : Nat) : PySem.W.Hook where
  α := AlY
  obs := fun s => p.obsG n s.heap.get?
  val := fun w => p.val w
  says := fun w h => ∃ K : PySem.W.Frag, K.In h ∧ p.Says w K
  of := fun _ _ e => ⟨_, He.frG_in, e⟩
  keeps := fun _ _ _ ⟨K, hK, c⟩ k => ⟨K, PySem.W.Frag.In.keeps hK k, c⟩
theorem Pd.obs_eq {p : Pd} {n : Nat} {g : Addr → Option Obj} {s : Shared} (h : ∀ a, g a = s.heap.get? a) : p.obsG n g = (p.hook n).obs s := by
  have e : g = s.heap.get? := funext h
  rw [e] <;> rfl
/-- what a proof may take from the text -/
structure TY (p : Pd) (w : World) (K : PySem.W.Frag) (mg : Str → Option Value) : Prop where
  g : ∀ x ∈ p.glo, mg x = some (.ref (He.ga K x))
  n : ∀ x ∈ p.free, mg x = none
  c : ∀ q ∈ p.cst, ∃ u v, mg q.1 = some u ∧ RelV v u ∧ ∀ P w μ B, At ⟨P, w, K⟩ μ B v q.2
  d : ∀ d ∈ p.fns, ∃ fd dvs kws, FunY K d fd dvs kws
  t : ∀ t ∈ p.tab, mg t.1 = some (.ref (He.ga K t.1)) ∧ ∀ P μ B, At ⟨P, w, K⟩ μ B (.ref (He.ga K t.1)) (.dic false (t.2.1.map .str) t.2.2)
  k : ∀ d ∈ p.cds, cdOk K d = true
  x : ∀ d ∈ p.xds, xdOk K p.xds d = true
theorem TY.of {p : Pd} {w : World} {K : PySem.W.Frag} {h : Heap} {mg : Str → Option Value} (X : K.In h) (G : h.Ns mainGlobals mg) (c : p.Says w K) : TY p w K mg := by
  have c0 : p.bB K = true := congrArg (fun z : AlY => z.1) c
  have c1 : p.fns.map (fun d => fnY K (d.ad K)) = p.fns.map DfP.val := congrArg (fun z : AlY => z.2.1) c
  have c2 : (p.tab.map fun t => He.dicW K (He.ga K t.1)) = p.tab.map fun t => some (He.keysIn w.params t.2.1) := congrArg (fun z : AlY => z.2.2) c
  obtain ⟨h1, c0⟩ := He.ba c0
  obtain ⟨h2, c0⟩ := He.ba c0
  obtain ⟨h3, c0⟩ := He.ba c0
  obtain ⟨h4, c0⟩ := He.ba c0
  obtain ⟨h5, c0⟩ := He.ba c0
  obtain ⟨h6, h7⟩ := He.ba c0
  refine ⟨fun x hx => He.glo_ok X G (List.all_eq_true.mp h1 x hx), fun x hx => He.free_ok X G (List.all_eq_true.mp h2 x hx), fun q hq => ?_, fun d hd => ?_, fun t ht => ?_, fun d hd => List.all_eq_true.mp h6 d hd, fun d hd => List.all_eq_true.mp h7 d hd⟩
  · have z := List.all_eq_true.mp h3 q hq
    unfold cstB at z
    split at z
    · rename_i u hu
      obtain ⟨v, r, a⟩ := dB_ok _ _ z
      exact ⟨u, v, PySem.W.mg_of X G hu, r, a⟩
    · exact nomatch z
  · exact DfP.funY (List.map_inj_left.mp c1 d hd) (List.all_eq_true.mp h4 d hd)
  · have z := List.all_eq_true.mp h5 t ht
    obtain ⟨z1, z⟩ := He.ba z
    obtain ⟨z2, z3⟩ := He.ba z
    have e := List.map_inj_left.mp c2 t ht
    obtain ⟨l, e1, r, a⟩ := tv_ok _ _ z2
    refine ⟨He.glo_ok X G z1, fun P μ B => .dicM (l := l) ⟨He.dicW_ok e, r, by rw [e1]; exact of_decide_eq_true z3, fun s hs => ?_⟩ ?_ (a P w μ B)⟩
    · rw [e1] at hs
      exact tab_none e hs
    · rw [← e1, List.map_map]
      rfl
/-! ### contracts -/
section
variable {p : Pd} {P : Program} {w : World} {K : PySem.W.Frag} {mg : Str → Option Value} {base : Heap} {k : Nat} {ps : List Str} {sp : Sp} {N : List Str} {n m : Nat} {s : FS}
/-- how it binds its arguments -/
abbrev BindY (x q : Str) (st : Stmt) (ps : List Str) : Prop := ∀ (kV doc pm : Value) (an : Option Addr) (cdv ct : Value) (us : List Value), us.length = ps.length → bindArgs (PySem.W.fnOf x q (defArgs st) (defBody st) (defScope st) .none kV doc pm an cdv ct) ⟨us, []⟩ = pure (ps.zip us)
/-- what its body does -/
abbrev BodY (P : Program) (w : World) (K : PySem.W.Frag) (mg : Str → Option Value) (base : Heap) (k : Nat) (q : Str) (st : Stmt) (N : List Str) (s : FS) : Prop := ∀ (f : Addr) (cdv : Value) (A : Around) (outer : List Env) (h0 : Shared) (H : Hp) (E : XK), Room k (A.deeper (envOfC q (defScope st) h0.heap.objs.size f cdv)) →
  PSs (cxOf (L2.CX P w) P w K mg base N q (defScope st) f cdv A outer h0 H E) (defBody st) (tsF (cOf P w K E) s)
theorem fn_run {x q : Str} {st : Stmt} {f : Addr} {fd : FuncData} {kws : List (Str × V)} {dvs : List V} (F : FunD K x q (defArgs st) (defBody st) (defScope st) dvs kws f fd) (S : FnScope N ps (defScope st)) (hN : N.length = n) (hm : ps.length = m) (B : BodY P w K mg base k q st N s) : FnOk P w K mg base (L2.CX P w) (k + 1) f fd ps (spF ⟨P, w, K⟩ (run n m s)) :=
  F.ok S (fun vs H Q E h => (run_len h).trans hm.symm) fun cdv A outer h0 H vs Q E hr h => ⟨_, B f cdv A outer h0 H E hr, run_ok h hN⟩
/-- the promise that nothing is asked of -/
theorem fn_no {x q : Str} {st : Stmt} {f : Addr} {fd : FuncData} {kws : List (Str × V)} {dvs : List V} (F : FunD K x q (defArgs st) (defBody st) (defScope st) dvs kws f fd) : FnOk P w K mg base (L2.CX P w) k f fd ps (spF ⟨P, w, K⟩ fun _ _ => .no) :=
  ⟨fun vs H Q E h => by obtain ⟨_, _, _, _, _, _, _, h⟩ := h; exact h.elim, fun A outer s H args us vs Q E _ _ _ _ h => by obtain ⟨_, _, _, _, _, _, _, h⟩ := h; exact h.elim⟩
variable (T : TY p w K mg) (i : Nat)
include T
theorem TY.fn {d : DfP} (h : p.fns[i]? = some d) : ∃ fd dvs kws, FunY K d fd dvs kws := T.d d (List.mem_of_getElem? h)
/-- a def of the text -/
theorem TY.okG {x : Str} {st : Stmt} (h : p.fns[i]? = some ⟨(x, none), false, x, st, [], []⟩) (hx : x ∈ p.glo) (hF : ∀ f fd dvs kws, FunD K x x (defArgs st) (defBody st) (defScope st) dvs kws f fd → FnOk P w K mg base (L2.CX P w) k f fd ps sp) (hb : BindY x x st ps) : OkG P w K mg base k x ps sp := by
  obtain ⟨fd, dvs, kws, F⟩ := T.fn i h
  have hd : dvs = [] := List.length_eq_zero_iff.mp (F.dv P w [] fun _ => none).len
  subst hd
  have F2 : FunD K x x (defArgs st) (defBody st) (defScope st) [] kws (He.ga K x) fd := F.f
  exact ⟨_, fd, T.g x hx, F2.kp, hF _ fd _ _ F2, (He5.fun_of F2).binds hb⟩
/-- a class's __init__ -/
theorem TY.okI {x q : Str} {st : Stmt} (h : p.fns[i]? = some ⟨(x, some "__init__"), false, q, st, [], []⟩) (hx : x ∈ p.glo) (hF : ∀ f fd dvs kws, FunD K "__init__" q (defArgs st) (defBody st) (defScope st) dvs kws f fd → FnOk P w K mg base (L2.CX P w) k f fd ps sp) (hb : BindY "__init__" q st ps) : OkI P w K mg base k x ps sp := by
  obtain ⟨fd, dvs, kws, F⟩ := T.fn i h
  have hd0 : dvs = [] := List.length_eq_zero_iff.mp (F.dv P w [] fun _ => none).len
  subst hd0
  have F2 : FunD K "__init__" q (defArgs st) (defBody st) (defScope st) [] kws (He.ma K (He.ga K x) "__init__") fd := F.f
  exact ⟨fd, T.g x hx, hF _ fd _ _ F2, (He5.fun_of F2).binds hb⟩
end
/-! ### constants -/
section
variable {X : Cx} {c : Cc} {x : Str} {pos : Pos} {pd : Pd}
theorem d_cst {d : D} (T : TY pd X.w X.K X.mg) (h : (x, d) ∈ pd.cst) (hz : zx X = c.z := by rfl) (hg : Gl X x := by rfl) (hd : (x == ("__debug__" : Str)) = false := by decide) : PE X (.Name x pos) (teF c (eC d)) := by
  obtain ⟨u, v, h1, h2, h3⟩ := T.c _ h
  refine d_k (pe_glob hg h1 h2 hd) fun μ B => ?_
  have a := h3 X.prog X.w μ B
  rw [← hz]
  exact a
theorem d_tab {ks : List Str} {vs : List D} (T : TY pd X.w X.K X.mg) (h : (x, ks, vs) ∈ pd.tab) (hz : zx X = c.z := by rfl) (hg : Gl X x := by rfl) (hd : (x == ("__debug__" : Str)) = false := by decide) : PE X (.Name x pos) (teF c (eC (.dic false (ks.map .str) vs))) := by
  obtain ⟨h1, h2⟩ := T.t _ h
  refine d_k (pe_glob (v := .ref (He.ga X.K x)) hg h1 rfl hd) fun μ B => ?_
  have a := h2 X.prog μ B
  rw [← hz]
  exact a
end
end DY
/-! defs read as functions over data: the law -/
namespace DY
open PySem PySem.Spec PyProof.Rows L2 Evl LX XV RX WS
theorem sw_dc {kx vx : Expr} {gs : List Comprehension} {scope : Scope} {pos py : Pos} {y : Str} {l : Nat} {env : Env} (hk : env.scope.kind = .function) (hy : env.scope.names.lookup y = some .local) (hl : (py.line == pos.line) = true)
    (ha : (scope.names.any fun (n, k) => n == y && (k == .local || k == .cell)) = false) : swapsWith (.DictComp kx vx gs scope pos) (some (.Name y py)) l env = pure true := by
  have ky : env.kindOf y = some .local := hy
  have hb : env.blockKind = .function := by unfold Env.blockKind; rw [hk]; rfl
  unfold swapsWith
  simp only [hb, ky, ha, Expr.pos, hl]
  rfl
/-- the script that is handed in -/
abbrev scr (ns : List Int) : D := .frz (ns.map .int)
theorem law_sp {P : Program} {w : World} {K : PySem.W.Frag} {fn : Fn} {n : Nat} (h : ∀ ns : List Int, ns.length ≤ n → ∃ m, fn [scr ns] [] = .ok (.bl true) m) {H : Hp} {a : Addr} {ns : List Int} (hl : ns.length ≤ n) (hs : SqL K H a (ns.map V.int)) : spF ⟨P, w, K⟩ fn [.ref a] H (fun v _ => v = .bl true) fun _ _ _ => False := by
  obtain ⟨m, e⟩ := h ns hl
  refine ⟨fun _ => none, H, [], [], [scr ns], ⟨Ex.refl H, fun _ _ h => (nomatch h), rfl, List.nodup_nil, fun n a o h => (nomatch h), fun a h => (nomatch h), fun a h => (nomatch h)⟩, .cons (.frz hs (ats_of (fun i => .int i) ns)) .nil, ?_⟩
  rw [e]
  intro v H' B' μ' g hv M
  cases hv
  rfl
/-- nothing is let out -/
theorem fn_down {P : Program} {w : World} {K : PySem.W.Frag} {mg : Str → Option Value} {base : Heap} {k : Nat} {f : Addr} {fd : FuncData} {ps : List Str} {sp : Sp} (F : FnOk P w K mg base (L2.CX P w) k f fd ps sp) : FnOk P w K mg base CX0 k f fd ps (fun vs H Q _ => sp vs H Q E0) :=
  ⟨fun vs H Q E h => F.len vs H Q E0 h, fun A outer s H args us vs Q E hr e0 b r h => codeAny_mono (F.run A outer s H args us vs Q E0 hr e0 b r h) fun res s' hq => by
    rcases res with er | fl
    · obtain ⟨_, _, _, _, _, _, _, _, _, _, _, _, z⟩ := (show L2.CX P w outer H s E0 er s' from hq)
      exact z.elim
    · cases fl <;> exact hq⟩
/-- the law's def by the head's facts -/
theorem law_F {p : Pd} {P : Program} {w : World} {K : PySem.W.Frag} {h : Heap} {mg : Str → Option Value} {f : Addr} {lv n i : Nat} {fn : Fn} {st : Stmt} (X : K.In h) (G : h.Ns mainGlobals mg) (c : p.Says w K) (hfa : mg "law" = some (.ref f))
    (hi : p.fns[i]? = some ⟨("law", none), false, "law", st, [], []⟩) (hx : ("law" : Str) ∈ p.glo) (hb : BindY "law" "law" st ["script"])
    (ok : ∀ (base : Heap) (f : Addr) (fd : FuncData) (dvs : List V) (kws : List (Str × V)), TY p w K mg → FunD K "law" "law" (defArgs st) (defBody st) (defScope st) dvs kws f fd → FnOk P w K mg base (L2.CX P w) lv f fd ["script"] (spF ⟨P, w, K⟩ fn)) (hp : ∀ ns : List Int, ns.length ≤ n → ∃ m, fn [scr ns] [] = .ok (.bl true) m) :
    ∃ (K : PySem.W.Frag) (fd : FuncData) (sp : Sp), K.In h ∧ (∀ (s : Shared) (u : Value), BindsTo s fd ⟨[u], []⟩ [("script", u)]) ∧
      (∀ (H : Hp) (a : Addr) (ns : List Int), ns.length ≤ n → Only H → SqL K H a (ns.map V.int) → sp [.ref a] H (fun v _ => v = .bl true) fun _ _ _ => False) ∧
      ∀ base : Heap, K.In base → base.Ns mainGlobals mg → FnOk P w K mg base CX0 lv f fd ["script"] sp := by
  have T : TY p w K mg := TY.of X G c
  obtain ⟨fd, dvs, kws, F⟩ := T.fn i hi
  have hd : dvs = [] := List.length_eq_zero_iff.mp (F.dv P w [] fun _ => none).len
  subst hd
  have F2 : FunD K "law" "law" (defArgs st) (defBody st) (defScope st) [] kws (He.ga K "law") fd := F.f
  have e := hfa.symm.trans (T.g "law" hx)
  cases e
  have b := FunD.bindsA (ps := ["script"]) F2 hb
  exact ⟨K, fd, fun vs H Q _ => spF ⟨P, w, K⟩ fn vs H Q E0, X, fun s u => b s [u] rfl, fun H a ns hl _ hs => law_sp (P := P) (w := w) hp hl hs, fun base _ _ => fn_down (ok base _ fd [] kws T F2)⟩
end DY
/-! defs read as functions over data: f-strings -/
namespace DY
open PySem PySem.Spec PyProof.Rows L2 Evl LX XV RX WS
/-- {x}: a text or a number -/
def eFmt (f : FE) : FE := fun env m => (f env m).bind fun d m1 => match d with
  | .str s => if s.length ≤ big then .ok (.str s) m1 else .no
  | .int i => if i.natAbs.log2 < 1920 then .ok (.str (toString i)) m1 else .no
  | _ => .no
/-- the texts one behind the other -/
def eJs : List FE → Str → FE
  | [], acc => fun _ m => .ok (.str acc) m
  | f :: fs, acc => fun env m => (f env m).bind fun d m1 => match d with
    | .str y => if (acc ++ y).length ≤ big then eJs fs (acc ++ y) env m1 else .no
    | _ => .no
section
variable {X : Cx} {c : Cc} {e : Expr} {f : FE} {pos : Pos}
theorem d_fmt (he : PE X e (teF c f)) : PE X (.FormattedValue e (-1) none pos) (teF c (eFmt f)) := pe_mono (pe_fmt he) fun σ H Q ⟨X1, env, m, μ, B, I, o⟩ => ⟨X1, env, m, μ, B, I, out_seq o fun d m1 x H1 B1 μ1 g1 hx I1 o1 => by
  split at o1
  · rename_i s
    split at o1
    · rename_i hs
      cases hx
      exact .inl ⟨s, rfl, by rw [sizeLine_eq]; rw [show big = 99999 from rfl] at hs; omega, o1 _ _ B1 μ1 Gw.refl (.str _) I1⟩
    · exact o1.elim
  · rename_i i
    split at o1
    · rename_i hs
      cases hx
      exact .inr ⟨i, rfl, hs, o1 _ _ B1 μ1 Gw.refl (.str _) I1⟩
    · exact o1.elim
  · exact o1.elim⟩
theorem js_ok : ∀ {fs : List FE} {acc : Str} {σ : L2.St} {H : Hp} {Q : VK}, teF c (eJs fs acc) σ H Q → tJs (fs.map (teF c)) acc σ H fun out H1 => Q (.str out) H1
  | [], acc, σ, H, Q, ⟨X1, env, m, μ, B, I, o⟩ => o _ _ B μ Gw.refl (.str _) I
  | f :: fs, acc, σ, H, Q, ⟨X1, env, m, μ, B, I, o⟩ => ⟨X1, env, m, μ, B, I, out_seq o fun d m1 x H1 B1 μ1 g1 hx I1 o1 => by
    split at o1
    · rename_i y
      split at o1
      · rename_i hs
        cases hx
        exact ⟨y, rfl, by rw [sizeLine_eq]; rw [show big = 99999 from rfl] at hs; omega, js_ok ⟨X1, env, m1, μ1, B1, I1, o1⟩⟩
      · exact o1.elim
    · exact o1.elim⟩
theorem d_joined {v1 v2 : Expr} {rest : List Expr} {fs : List FE} (h : PJ X (v1 :: v2 :: rest) (fs.map (teF c))) : PE X (.JoinedStr (v1 :: v2 :: rest) pos) (teF c (eJs fs Str.empty)) := pe_mono (pe_joined h) fun σ H Q h => js_ok h
theorem dj_nil : PJ X [] (([] : List FE).map (teF c)) := .nil
theorem dj_cons {es : List Expr} {fs : List FE} (h : PE X e (teF c f)) (r : PJ X es (fs.map (teF c))) : PJ X (e :: es) ((f :: fs).map (teF c)) := .cons h r
end
end DY
/-! the functions over data: how they are followed -/
namespace DY
open PySem PySem.Spec PyProof.Rows L2
/-! ### lists and tuples -/
inductive Kd where
  | t | l
  deriving DecidableEq
def mk : Kd → List D → D
  | .t, ds => .tup ds
  | .l, ds => .lst ds
section
variable {k : Kd} {ds : List D} {m : Mem} {n : Nat}
theorem lk_mk : lk m (mk k ds) = mk k ds := by cases k <;> rfl
theorem ix_mkI {i : Int} : gIxA m (mk k ds) (.int i) = atI ds i := by cases k <;> rfl
theorem len_mk : gLen m [mk k ds] = some (.int (ds.length : Nat)) := by cases k <;> rfl
theorem bt_mk : btOf m (mk k ds) = some (some (match k with | .t => .tuple | .l => .list)) := by cases k <;> rfl
theorem tuple_mk : gTuple m [mk k ds] = some (.tup ds) := by cases k <;> rfl
theorem list_mk : gList m [mk k ds] = some (.lst ds) := by cases k <;> rfl
theorem seq_mk : seqOf m (mk k ds) = some ds := by cases k <;> rfl
theorem tru_mk : tru m (mk k ds) = some (!ds.isEmpty) := by cases k <;> rfl
theorem ipl_mk {f : FE} {env : Sv} {m1 : Mem} (h : f env m = .ok (mk k ds) m1) : iPl f env m = .ok (.fix ds) m1 := by
  unfold iPl; rw [h]; cases k <;> rfl
theorem old_mk : old n (mk k ds) = olds n ds := by cases k <;> rfl
theorem sl_mk {lo hi : Option Int} : gSl m (mk k ds) lo hi = some (mk k (cutD ds lo hi)) := by cases k <;> rfl
end
/-! ### rules by what stands there -/
section
variable {m : Mem} {ds es : List D} {i j : Int} {s r : Str} {n : Nat}
theorem lk_hdl {o : Ob} (h : m[n]? = some o) : lk m (.hdl n) = o.d := by
  show (match m[n]? with | some o => o.d | none => D.hdl n) = _
  rw [h]
theorem lk_tup : lk m (.tup ds) = .tup ds := rfl
theorem lk_lst : lk m (.lst ds) = .lst ds := rfl
theorem lk_frz : lk m (.frz ds) = .frz ds := rfl
theorem lk_str : lk m (.str s) = .str s := rfl
theorem lk_int : lk m (.int i) = .int i := rfl
theorem lk_bl {b : Bool} : lk m (.bl b) = .bl b := rfl
theorem lk_non : lk m .non = .non := rfl
theorem lk_ins {c : Str} {ns : List Str} : lk m (.ins c ns ds) = .ins c ns ds := rfl
theorem ix_tup : gIxA m (.tup ds) (.int i) = atI ds i := rfl
theorem ix_lst : gIxA m (.lst ds) (.int i) = atI ds i := rfl
theorem ix_frz : gIxA m (.frz ds) (.int i) = atI ds i := rfl
theorem ix_str : gIxA m (.str s) (.int i) = if s.length ≤ 99999 then (atI s.cps.toList i).map fun cc => .str ⟨#[cc]⟩ else none := rfl
theorem ix_hdl (h : m[n]? = some (.lst ds)) : gIxA m (.hdl n) (.int i) = atI ds i := by
  unfold gIxA gIx; rw [lk_hdl h]; rfl
theorem len_tup : gLen m [.tup ds] = some (.int (ds.length : Nat)) := rfl
theorem len_lst : gLen m [.lst ds] = some (.int (ds.length : Nat)) := rfl
theorem len_frz : gLen m [.frz ds] = some (.int (ds.length : Nat)) := rfl
theorem len_str : gLen m [.str s] = if s.length ≤ 99999 then some (.int (s.length : Nat)) else none := rfl
theorem len_hdl (h : m[n]? = some (.lst ds)) : gLen m [.hdl n] = some (.int (ds.length : Nat)) := by
  unfold gLen; dsimp only; rw [lk_hdl h]; rfl
theorem tru_tup : tru m (.tup ds) = some (!ds.isEmpty) := rfl
theorem tru_lst : tru m (.lst ds) = some (!ds.isEmpty) := rfl
theorem tru_bl {b : Bool} : tru m (.bl b) = some b := rfl
theorem tru_int : tru m (.int i) = some (i != 0) := rfl
theorem tru_hdl (h : m[n]? = some (.lst ds)) : tru m (.hdl n) = some (!ds.isEmpty) := by
  unfold tru; rw [lk_hdl h]; rfl
theorem add_int : gAdd m (.int i) (.int j) = some (.int (i + j)) := rfl
theorem add_str : gAdd m (.str s) (.str r) = if s.length + r.length ≤ 99999 then some (.str (s ++ r)) else none := rfl
theorem add_tup : gAdd m (.tup ds) (.tup es) = if ds.length + es.length ≤ 99999 then some (.tup (ds ++ es)) else none := rfl
theorem add_lst : gAdd m (.lst ds) (.lst es) = if ds.length + es.length ≤ 99999 then some (.lst (ds ++ es)) else none := rfl
theorem add_mk {k : Kd} : gAdd m (mk k ds) (mk k es) = if ds.length + es.length ≤ 99999 then some (mk k (ds ++ es)) else none := by cases k <;> rfl
theorem bt_tup : btOf m (.tup ds) = some (some .tuple) := rfl
theorem bt_lst : btOf m (.lst ds) = some (some .list) := rfl
theorem bt_int : btOf m (.int i) = some (some .int) := rfl
theorem bt_str : btOf m (.str s) = some (some .str) := rfl
theorem bt_bl {b : Bool} : btOf m (.bl b) = some (some .bool) := rfl
theorem bt_non : btOf m .non = some none := rfl
theorem tuple_tup : gTuple m [.tup ds] = some (.tup ds) := rfl
theorem tuple_lst : gTuple m [.lst ds] = some (.tup ds) := rfl
theorem tuple_hdl (h : m[n]? = some (.lst ds)) : gTuple m [.hdl n] = some (.tup ds) := by
  unfold gTuple; dsimp only; rw [lk_hdl h]; rfl
theorem list_tup : gList m [.tup ds] = some (.lst ds) := rfl
theorem list_lst : gList m [.lst ds] = some (.lst ds) := rfl
theorem sl_tup {lo hi : Option Int} : gSl m (.tup ds) lo hi = some (.tup (cutD ds lo hi)) := rfl
theorem sl_lst {lo hi : Option Int} : gSl m (.lst ds) lo hi = some (.lst (cutD ds lo hi)) := rfl
end
/-! ### the walks -/
theorem turns_eq : turns = 1000000 := rfl
theorem big_eq : big = 99999 := rfl
section
variable {g : FG} {body : FS} {ds : List D}
/-- a walk that goes to its end -/
theorem loop_nx {I : Nat → Sv → Mem → Prop} (hs : ∀ i d e m, ds[i]? = some d → I i e m → ∃ e1, g d e m = some e1 ∧ ∃ e2 m2, (body e1 m = .nx e2 m2 ∨ body e1 m = .ct e2 m2) ∧ I (i + 1) e2 m2) :
    ∀ (n i : Nat) (e : Sv) (m : Mem), i ≤ ds.length → ds.length < n + i → I i e m → ∃ e' m', loopS g body (.fix ds) n i e m = .nx e' m' ∧ I ds.length e' m'
  | 0, i, e, m, h1, h2, _ => by omega
  | n + 1, i, e, m, h1, h2, h => by
    unfold loopS
    show ∃ e' m', (match (some ds[i]? : Option (Option D)) with
      | none => Fl.no
      | some none => .nx e m
      | some (some d) => match g d e m with
        | none => .no
        | some e1 => match body e1 m with
          | .nx e2 m2 => loopS g body (.fix ds) n (i + 1) e2 m2
          | .ct e2 m2 => loopS g body (.fix ds) n (i + 1) e2 m2
          | .bk e2 m2 => .nx e2 m2
          | r => r) = .nx e' m' ∧ I ds.length e' m'
    cases hd : ds[i]? with
    | none =>
      have : i = ds.length := Nat.le_antisymm h1 (List.getElem?_eq_none_iff.mp hd)
      subst this
      exact ⟨e, m, rfl, h⟩
    | some d =>
      obtain ⟨e1, g1, e2, m2, b1, i1⟩ := hs i d e m hd h
      have hi : i < ds.length := (List.getElem?_eq_some_iff.mp hd).1
      have r := loop_nx hs n (i + 1) e2 m2 hi (by omega) i1
      dsimp only
      rw [g1]
      dsimp only
      rcases b1 with b1 | b1 <;> rw [b1] <;> exact r
/-- .. or returns on its way -/
theorem loop_rt {I : Nat → Sv → Mem → Prop} {R : D → Mem → Prop} (hs : ∀ i d e m, ds[i]? = some d → I i e m → ∃ e1, g d e m = some e1 ∧ ((∃ e2 m2, (body e1 m = .nx e2 m2 ∨ body e1 m = .ct e2 m2) ∧ I (i + 1) e2 m2) ∨ ∃ r m2, body e1 m = .rt r m2 ∧ R r m2)) :
    ∀ (n i : Nat) (e : Sv) (m : Mem), i ≤ ds.length → ds.length < n + i → I i e m → (∃ e' m', loopS g body (.fix ds) n i e m = .nx e' m' ∧ I ds.length e' m') ∨ ∃ r m', loopS g body (.fix ds) n i e m = .rt r m' ∧ R r m'
  | 0, i, e, m, h1, h2, _ => by omega
  | n + 1, i, e, m, h1, h2, h => by
    unfold loopS
    show (∃ e' m', (match (some ds[i]? : Option (Option D)) with
      | none => Fl.no
      | some none => .nx e m
      | some (some d) => match g d e m with
        | none => .no
        | some e1 => match body e1 m with
          | .nx e2 m2 => loopS g body (.fix ds) n (i + 1) e2 m2
          | .ct e2 m2 => loopS g body (.fix ds) n (i + 1) e2 m2
          | .bk e2 m2 => .nx e2 m2
          | r => r) = .nx e' m' ∧ I ds.length e' m') ∨ ∃ r m', (match (some ds[i]? : Option (Option D)) with
      | none => Fl.no
      | some none => .nx e m
      | some (some d) => match g d e m with
        | none => .no
        | some e1 => match body e1 m with
          | .nx e2 m2 => loopS g body (.fix ds) n (i + 1) e2 m2
          | .ct e2 m2 => loopS g body (.fix ds) n (i + 1) e2 m2
          | .bk e2 m2 => .nx e2 m2
          | r => r) = .rt r m' ∧ R r m'
    cases hd : ds[i]? with
    | none =>
      have : i = ds.length := Nat.le_antisymm h1 (List.getElem?_eq_none_iff.mp hd)
      subst this
      exact .inl ⟨e, m, rfl, h⟩
    | some d =>
      obtain ⟨e1, g1, b1⟩ := hs i d e m hd h
      have hi : i < ds.length := (List.getElem?_eq_some_iff.mp hd).1
      dsimp only
      rw [g1]
      dsimp only
      rcases b1 with ⟨e2, m2, b1, i1⟩ | ⟨r, m2, b1, hr⟩
      · have r := loop_rt hs n (i + 1) e2 m2 hi (by omega) i1
        rcases b1 with b1 | b1 <;> rw [b1] <;> exact r
      · rw [b1]
        exact .inr ⟨r, m2, rfl, hr⟩
theorem for_nx {I : Nat → Sv → Mem → Prop} {fi : FI} {env : Sv} {m m1 : Mem} (hi : fi env m = .ok (.fix ds) m1) (hl : ds.length < 1000000) (h0 : I 0 env m1) (hs : ∀ i d e m, ds[i]? = some d → I i e m → ∃ e1, g d e m = some e1 ∧ ∃ e2 m2, (body e1 m = .nx e2 m2 ∨ body e1 m = .ct e2 m2) ∧ I (i + 1) e2 m2) :
    ∃ e' m', sFor fi g body env m = .nx e' m' ∧ I ds.length e' m' := by
  unfold sFor
  rw [hi]
  exact loop_nx hs turns 0 env m1 (Nat.zero_le _) (by rw [turns_eq]; omega) h0
theorem for_rt {I : Nat → Sv → Mem → Prop} {R : D → Mem → Prop} {fi : FI} {env : Sv} {m m1 : Mem} (hi : fi env m = .ok (.fix ds) m1) (hl : ds.length < 1000000) (h0 : I 0 env m1) (hs : ∀ i d e m, ds[i]? = some d → I i e m → ∃ e1, g d e m = some e1 ∧ ((∃ e2 m2, (body e1 m = .nx e2 m2 ∨ body e1 m = .ct e2 m2) ∧ I (i + 1) e2 m2) ∨ ∃ r m2, body e1 m = .rt r m2 ∧ R r m2)) :
    (∃ e' m', sFor fi g body env m = .nx e' m' ∧ I ds.length e' m') ∨ ∃ r m', sFor fi g body env m = .rt r m' ∧ R r m' := by
  unfold sFor
  rw [hi]
  exact loop_rt hs turns 0 env m1 (Nat.zero_le _) (by rw [turns_eq]; omega) h0
/-- while: k bounds the rounds that are left -/
theorem whl_nx {I : Nat → Sv → Mem → Prop} {N : Sv → Mem → Prop} {t : FT} {s : FS} (hs : ∀ k e m, I k e m → (∃ m1, t e m = .ok false m1 ∧ N e m1) ∨ ∃ m1, t e m = .ok true m1 ∧ ∃ j e2 m2, j < k ∧ (s e m1 = .nx e2 m2 ∨ s e m1 = .ct e2 m2) ∧ I j e2 m2) :
    ∀ (n k : Nat) (e : Sv) (m : Mem), k < n → I k e m → ∃ e' m', whl t s n e m = .nx e' m' ∧ N e' m'
  | 0, k, e, m, h, _ => by omega
  | n + 1, k, e, m, h, hI => by
    unfold whl
    rcases hs k e m hI with ⟨m1, t1, hN⟩ | ⟨m1, t1, j, e2, m2, hj, s1, h2⟩
    · rw [t1]
      exact ⟨e, m1, rfl, hN⟩
    · rw [t1]
      have r := whl_nx hs n j e2 m2 (by omega) h2
      show ∃ e' m', (if true = true then (match s e m1 with
        | .nx e' m' => whl t s n e' m'
        | .ct e' m' => whl t s n e' m'
        | .bk e' m' => .nx e' m'
        | r => r) else .nx e m1) = .nx e' m' ∧ N e' m'
      rw [if_pos rfl]
      rcases s1 with s1 | s1 <;> rw [s1] <;> exact r
end
/-! ### comprehensions -/
section
variable {vs : List Nat} {fi : FI} {g : FG} {t : FT} {f : FE} {env : Sv} {m m1 : Mem}
/-- the elements one by one, whatever the memory does -/
theorem cl_st {I : Nat → Mem → List D → Prop} {ds : List D} {w : Sv} (hs : ∀ i d m acc, ds[i]? = some d → I i m acc → ∃ e1, g d w m = some e1 ∧ ∃ b m2, t e1 m = .ok b m2 ∧ ((b = false ∧ I (i + 1) m2 acc) ∨ (b = true ∧ ∃ r m3, f e1 m2 = .ok r m3 ∧ I (i + 1) m3 (acc ++ [r])))) :
    ∀ (n i : Nat) (m : Mem) (acc : List D), i ≤ ds.length → ds.length < n + i → acc.length ≤ i → ds.length ≤ 99999 → I i m acc → ∃ m' out, cl w g t f (.fix ds) n i m acc = .ok out m' ∧ I ds.length m' out
  | 0, i, m, acc, h1, h2, _, _, _ => by omega
  | n + 1, i, m, acc, h1, h2, h3, h4, h => by
    unfold cl
    show ∃ m' out, (match (some ds[i]? : Option (Option D)) with
      | none => Rs.no
      | some none => .ok acc m
      | some (some d) => match g d w m with
        | none => .no
        | some e1 => (noex (t e1 m)).bind fun b m2 => if b = true then (noex (f e1 m2)).bind fun r m3 => if acc.length < big then cl w g t f (.fix ds) n (i + 1) m3 (acc ++ [r]) else .no
          else cl w g t f (.fix ds) n (i + 1) m2 acc) = .ok out m' ∧ I ds.length m' out
    cases hd : ds[i]? with
    | none =>
      have : i = ds.length := Nat.le_antisymm h1 (List.getElem?_eq_none_iff.mp hd)
      subst this
      exact ⟨m, acc, rfl, h⟩
    | some d =>
      obtain ⟨e1, g1, b, m2, t1, hb⟩ := hs i d m acc hd h
      have hi : i < ds.length := (List.getElem?_eq_some_iff.mp hd).1
      dsimp only
      rw [g1]
      dsimp only
      rw [t1]
      rcases hb with ⟨rfl, h5⟩ | ⟨rfl, r, m3, f1, h5⟩
      · exact cl_st hs n (i + 1) m2 acc hi (by omega) (by omega) h4 h5
      · show ∃ m' out, (if true = true then (noex (f e1 m2)).bind fun r m3 => if acc.length < big then cl w g t f (.fix ds) n (i + 1) m3 (acc ++ [r]) else .no
          else cl w g t f (.fix ds) n (i + 1) m2 acc) = .ok out m' ∧ I ds.length m' out
        rw [if_pos rfl, f1]
        show ∃ m' out, (if acc.length < big then cl w g t f (.fix ds) n (i + 1) m3 (acc ++ [r]) else .no) = .ok out m' ∧ I ds.length m' out
        rw [if_pos (by rw [big_eq]; omega)]
        exact cl_st hs n (i + 1) m3 (acc ++ [r]) hi (by omega) (by rw [List.length_append, List.length_singleton]; omega) h4 h5
theorem lc_st {I : Nat → Mem → List D → Prop} {ds : List D} (hi : fi env m = .ok (.fix ds) m1) (hl : ds.length ≤ 99999) (h0 : I 0 m1 []) (hs : ∀ i d m acc, ds[i]? = some d → I i m acc → ∃ e1, g d (wipeE env vs) m = some e1 ∧ ∃ b m2, t e1 m = .ok b m2 ∧ ((b = false ∧ I (i + 1) m2 acc) ∨ (b = true ∧ ∃ r m3, f e1 m2 = .ok r m3 ∧ I (i + 1) m3 (acc ++ [r])))) :
    ∃ m' out, nLc vs fi g t f env m = .ok (.lst out) m' ∧ I ds.length m' out := by
  obtain ⟨m', out, h1, h2⟩ := cl_st (w := wipeE env vs) (f := f) hs turns 0 m1 [] (Nat.zero_le _) (by rw [turns_eq]; omega) (Nat.le_refl _) hl h0
  refine ⟨m', out, ?_, h2⟩
  unfold nLc
  rw [hi]
  show (cl (wipeE env vs) g t f (.fix ds) turns 0 m1 []).bind asL = _
  rw [h1]
  rfl
/-- by elements: those that pass p, each by φ -/
theorem lc_filt {α : Type} {xs : List α} {enc φ : α → D} {p : α → Bool} (hi : fi env m = .ok (.fix (xs.map enc)) m1) (hl : xs.length ≤ 99999) (hs : ∀ x ∈ xs, ∃ e1, g (enc x) (wipeE env vs) m1 = some e1 ∧ t e1 m1 = .ok (p x) m1 ∧ (p x = true → f e1 m1 = .ok (φ x) m1)) :
    nLc vs fi g t f env m = .ok (.lst ((xs.filter p).map φ)) m1 := by
  obtain ⟨m', out, h1, h2, h3⟩ := lc_st (vs := vs) (g := g) (t := t) (f := f) (I := fun i mm acc => mm = m1 ∧ acc = ((xs.take i).filter p).map φ) hi (by rw [List.length_map]; exact hl) ⟨rfl, rfl⟩ fun i d mm acc hd ⟨h1, h2⟩ => by
    subst h1 h2
    rw [List.getElem?_map] at hd
    obtain ⟨x, hx, rfl⟩ := Option.map_eq_some_iff.mp hd
    obtain ⟨e1, g1, t1, f1⟩ := hs x (List.mem_of_getElem? hx)
    have htk : xs.take (i + 1) = xs.take i ++ [x] := by rw [List.take_succ, hx]; rfl
    refine ⟨e1, g1, p x, mm, t1, ?_⟩
    cases hp : p x with
    | false => exact .inl ⟨rfl, rfl, by rw [htk, List.filter_append]; simp [hp]⟩
    | true => exact .inr ⟨rfl, φ x, mm, f1 hp, rfl, by rw [htk, List.filter_append]; simp [hp]⟩
  rw [h1, h2, h3, List.length_map, List.take_length]
theorem lc_map {α : Type} {xs : List α} {enc φ : α → D} (hi : fi env m = .ok (.fix (xs.map enc)) m1) (hl : xs.length ≤ 99999) (hs : ∀ x ∈ xs, ∃ e1, g (enc x) (wipeE env vs) m1 = some e1 ∧ t e1 m1 = .ok true m1 ∧ f e1 m1 = .ok (φ x) m1) :
    nLc vs fi g t f env m = .ok (.lst (xs.map φ)) m1 := by
  have h := lc_filt (vs := vs) (p := fun _ => true) hi hl fun x hx => by
    obtain ⟨e1, g1, t1, f1⟩ := hs x hx
    exact ⟨e1, g1, t1, fun _ => f1⟩
  rw [h, List.filter_eq_self.mpr fun _ _ => rfl]
end
/-! ### at the end of a def -/
theorem rz_old {n f : Nat} {m : Mem} {d : D} (h : old n d = true) : rz n m (f + 1) d = some d := by
  unfold rz; rw [if_pos h]
theorem rzs_old {n f : Nat} {m : Mem} : ∀ {ds : List D}, olds n ds = true → ds.mapM (rz n m (f + 1)) = some ds
  | [], _ => rfl
  | d :: ds, h => by
    unfold olds at h
    obtain ⟨h1, h2⟩ := Bool.and_eq_true_iff.mp h
    rw [List.mapM_cons, rz_old h1, rzs_old h2]
    rfl
theorem cutL_self {n : Nat} {m : Mem} : ∀ {m0 t : List Ob}, cutL n m m0 (m0 ++ t) = some m0
  | [], t => by unfold cutL; rfl
  | o :: m0, t => by
    show cutL n m (o :: m0) (o :: (m0 ++ t)) = _
    unfold cutL
    rw [if_pos rfl]
    show (cutL n m m0 (m0 ++ t)).map (o :: ·) = _
    rw [cutL_self]
    rfl
theorem exit_same {m0 m : Mem} {d : D} (h : m.length = m0.length) : exit_ m0 d m = .ok d m := by
  unfold exit_; rw [if_pos h]
/-- the memory is as it was, besides new objects; the answer has none -/
theorem exit_new {m0 t : Mem} {d : D} (h : old m0.length d = true) : exit_ m0 d (m0 ++ t) = .ok d m0 := by
  cases t with
  | nil => rw [List.append_nil]; exact exit_same rfl
  | cons o t =>
    unfold exit_
    rw [if_neg (by rw [List.length_append, List.length_cons]; omega), rz_old h, cutL_self]
/-- the answer is a new list -/
theorem exit_lst {m0 t : Mem} {k : Nat} {ds : List D} (hk : m0.length ≤ k) (hm : (m0 ++ t)[k]? = some (.lst ds)) (h : olds m0.length ds = true) : exit_ m0 (.hdl k) (m0 ++ t) = .ok (.lst ds) m0 := by
  have hl : m0.length < (m0 ++ t).length := Nat.lt_of_le_of_lt hk (List.getElem?_eq_some_iff.mp hm).1
  unfold exit_
  rw [if_neg (by omega), cutL_self]
  have e : rz m0.length (m0 ++ t) 60 (.hdl k) = some (.lst ds) := by
    show rz m0.length (m0 ++ t) (59 + 1) (.hdl k) = _
    unfold rz
    have ho : ¬ old m0.length (.hdl k) = true := by
      unfold old
      rw [decide_eq_true_eq]
      omega
    rw [if_neg ho]
    simp only [hm]
    show (ds.mapM (rz m0.length (m0 ++ t) (58 + 1))).map D.lst = _
    rw [rzs_old h]
    rfl
  rw [e]
/-- a def whose body returns -/
theorem run_rt {n k : Nat} {s : FS} {ds : List D} {m m' : Mem} {d : D} (h : s (start0 n ds) m = .rt d m') (hl : ds.length = k) (hk : k ≤ n) : run n k s ds m = exit_ m d m' := by
  unfold run
  rw [if_pos ⟨hl, hk⟩, h]
theorem run_nx {n k : Nat} {s : FS} {ds : List D} {m m' : Mem} {e : Sv} (h : s (start0 n ds) m = .nx e m') (hl : ds.length = k) (hk : k ≤ n) : run n k s ds m = exit_ m .non m' := by
  unfold run
  rw [if_pos ⟨hl, hk⟩, h]
theorem run_ret {n k : Nat} {s : FS} {ds : List D} {m m' : Mem} {d : D} {r : Rs D} (h : s (start0 n ds) m = .rt d m') (e : exit_ m d m' = r) (hl : ds.length = k := by rfl) (hk : k ≤ n := by decide) : run n k s ds m = r := (run_rt h hl hk).trans e
theorem run_end {n k : Nat} {s : FS} {ds : List D} {m m' : Mem} {e : Sv} {r : Rs D} (h : s (start0 n ds) m = .nx e m') (e1 : exit_ m .non m' = r) (hl : ds.length = k := by rfl) (hk : k ≤ n := by decide) : run n k s ds m = r := (run_nx h hl hk).trans e1
theorem old_strs {n : Nat} {xs : List Str} : olds n (xs.map D.str) = true := by
  induction xs with
  | nil => rfl
  | cons x xs ih => exact ih
theorem old_ints {n : Nat} {xs : List Int} : olds n (xs.map D.int) = true := by
  induction xs with
  | nil => rfl
  | cons x xs ih => exact ih
theorem olds_map {α : Type} {n : Nat} {enc : α → D} (h : ∀ a, old n (enc a) = true) : ∀ {xs : List α}, olds n (xs.map enc) = true
  | [] => rfl
  | x :: xs => Bool.and_eq_true_iff.mpr ⟨h x, olds_map h⟩
/-! ### walks, as the list goes -/
def runL (g : FG) (body : FS) : List D → Sv → Mem → Fl
  | [], e, m => .nx e m
  | d :: ds, e, m => match g d e m with
    | none => .no
    | some e1 => match body e1 m with
      | .nx e2 m2 => runL g body ds e2 m2
      | .ct e2 m2 => runL g body ds e2 m2
      | .bk e2 m2 => .nx e2 m2
      | r => r
theorem loop_run {g : FG} {body : FS} {ds : List D} : ∀ (n i : Nat) (e : Sv) (m : Mem), i ≤ ds.length → ds.length < n + i → loopS g body (.fix ds) n i e m = runL g body (ds.drop i) e m
  | 0, i, e, m, h1, h2 => by omega
  | n + 1, i, e, m, h1, h2 => by
    unfold loopS
    show (match (some ds[i]? : Option (Option D)) with
      | none => Fl.no
      | some none => .nx e m
      | some (some d) => match g d e m with
        | none => .no
        | some e1 => match body e1 m with
          | .nx e2 m2 => loopS g body (.fix ds) n (i + 1) e2 m2
          | .ct e2 m2 => loopS g body (.fix ds) n (i + 1) e2 m2
          | .bk e2 m2 => .nx e2 m2
          | r => r) = _
    cases hd : ds[i]? with
    | none =>
      have : i = ds.length := Nat.le_antisymm h1 (List.getElem?_eq_none_iff.mp hd)
      subst this
      rw [List.drop_length]
      rfl
    | some d =>
      obtain ⟨hi, e0⟩ := List.getElem?_eq_some_iff.mp hd
      have hdr : ds.drop i = d :: ds.drop (i + 1) := by rw [← e0]; exact (List.drop_eq_getElem_cons hi)
      rw [hdr]
      unfold runL
      dsimp only
      cases g d e m with
      | none => rfl
      | some e1 =>
        dsimp only
        cases body e1 m with
        | nx e2 m2 => exact loop_run n (i + 1) e2 m2 hi (by omega)
        | ct e2 m2 => exact loop_run n (i + 1) e2 m2 hi (by omega)
        | _ => rfl
theorem for_run {g : FG} {body : FS} {fi : FI} {ds : List D} {env : Sv} {m m1 : Mem} (hi : fi env m = .ok (.fix ds) m1) (hl : ds.length < 1000000) : sFor fi g body env m = runL g body ds env m1 := by
  unfold sFor
  rw [hi]
  exact loop_run turns 0 env m1 (Nat.zero_le _) (by rw [turns_eq]; omega)
def runC (w : Sv) (g : FG) (t : FT) (f : FE) : List D → Mem → Rs (List D)
  | [], m => .ok [] m
  | d :: ds, m => match g d w m with
    | none => .no
    | some e1 => (noex (t e1 m)).bind fun b m2 => if b = true then (noex (f e1 m2)).bind fun r m3 => (runC w g t f ds m3).bind fun rs m4 => .ok (r :: rs) m4
      else runC w g t f ds m2
theorem cl_run {w : Sv} {g : FG} {t : FT} {f : FE} {ds : List D} : ∀ (n i : Nat) (m : Mem) (acc : List D), i ≤ ds.length → ds.length < n + i → acc.length ≤ i → ds.length ≤ 99999 → cl w g t f (.fix ds) n i m acc = (runC w g t f (ds.drop i) m).bind fun rs m' => .ok (acc ++ rs) m'
  | 0, i, m, acc, h1, h2, _, _ => by omega
  | n + 1, i, m, acc, h1, h2, h3, h4 => by
    unfold cl
    show (match (some ds[i]? : Option (Option D)) with
      | none => Rs.no
      | some none => .ok acc m
      | some (some d) => match g d w m with
        | none => .no
        | some e1 => (noex (t e1 m)).bind fun b m2 => if b = true then (noex (f e1 m2)).bind fun r m3 => if acc.length < big then cl w g t f (.fix ds) n (i + 1) m3 (acc ++ [r]) else .no
          else cl w g t f (.fix ds) n (i + 1) m2 acc) = _
    cases hd : ds[i]? with
    | none =>
      have : i = ds.length := Nat.le_antisymm h1 (List.getElem?_eq_none_iff.mp hd)
      subst this
      rw [List.drop_length]
      show Rs.ok acc m = Rs.ok (acc ++ []) m
      rw [List.append_nil]
    | some d =>
      obtain ⟨hi, e0⟩ := List.getElem?_eq_some_iff.mp hd
      have hdr : ds.drop i = d :: ds.drop (i + 1) := by rw [← e0]; exact (List.drop_eq_getElem_cons hi)
      rw [hdr]
      unfold runC
      dsimp only
      cases g d w m with
      | none => rfl
      | some e1 =>
        dsimp only
        cases noex (t e1 m) with
        | no => rfl
        | ex x m2 => rfl
        | ok b m2 =>
          show (if b = true then (noex (f e1 m2)).bind fun r m3 => if acc.length < big then cl w g t f (.fix ds) n (i + 1) m3 (acc ++ [r]) else .no
            else cl w g t f (.fix ds) n (i + 1) m2 acc) = Rs.bind (if b = true then (noex (f e1 m2)).bind fun r m3 => (runC w g t f (ds.drop (i + 1)) m3).bind fun rs m4 => .ok (r :: rs) m4 else runC w g t f (ds.drop (i + 1)) m2) _
          cases b with
          | false => exact cl_run n (i + 1) m2 acc hi (by omega) (by omega) h4
          | true =>
            rw [if_pos rfl, if_pos rfl]
            cases noex (f e1 m2) with
            | no => rfl
            | ex x m3 => rfl
            | ok r m3 =>
              show (if acc.length < big then cl w g t f (.fix ds) n (i + 1) m3 (acc ++ [r]) else .no) = ((runC w g t f (ds.drop (i + 1)) m3).bind fun rs m4 => .ok (r :: rs) m4).bind _
              rw [if_pos (by rw [big_eq]; omega), cl_run n (i + 1) m3 (acc ++ [r]) hi (by omega) (by rw [List.length_append, List.length_singleton]; omega) h4, Rs.bind_assoc]
              cases runC w g t f (ds.drop (i + 1)) m3 with
              | no => rfl
              | ex x m4 => rfl
              | ok rs m4 =>
                show Rs.ok (acc ++ [r] ++ rs) m4 = Rs.ok (acc ++ (r :: rs)) m4
                rw [List.append_assoc]
                rfl
theorem lc_run {vs : List Nat} {fi : FI} {g : FG} {t : FT} {f : FE} {env : Sv} {ds : List D} {m m1 : Mem} (hi : fi env m = .ok (.fix ds) m1) (hl : ds.length ≤ 99999) : nLc vs fi g t f env m = (runC (wipeE env vs) g t f ds m1).bind asL := by
  unfold nLc
  rw [hi]
  show (cl (wipeE env vs) g t f (.fix ds) turns 0 m1 []).bind asL = _
  rw [cl_run turns 0 m1 [] (Nat.zero_le _) (by rw [turns_eq]; omega) (Nat.le_refl _) hl, Rs.bind_assoc, List.drop_zero]
  rfl
theorem for_eq {fi : FI} {g : FG} {body : FS} : sFor fi g body = fun env m => (fi env m).toS env fun src m1 => match src with
    | .fix ds => if ds.length < 1000000 then runL g body ds env m1 else loopS g body (.fix ds) turns 0 env m1
    | .live n => loopS g body (.live n) turns 0 env m1 := by
  funext env m
  unfold sFor
  cases hf : fi env m with
  | no => rfl
  | ex x m1 => rfl
  | ok src m1 =>
    cases src with
    | live n => rfl
    | fix ds =>
      show loopS g body (.fix ds) turns 0 env m1 = if ds.length < 1000000 then runL g body ds env m1 else loopS g body (.fix ds) turns 0 env m1
      by_cases h : ds.length < 1000000
      · rw [if_pos h]
        exact loop_run turns 0 env m1 (Nat.zero_le _) (by rw [turns_eq]; omega)
      · rw [if_neg h]
theorem lc_eq {vs : List Nat} {fi : FI} {g : FG} {t : FT} {f : FE} : nLc vs fi g t f = fun env m => (fi env m).bind fun src m1 => match src with
    | .fix ds => if ds.length ≤ 99999 then (runC (wipeE env vs) g t f ds m1).bind asL else (cl (wipeE env vs) g t f (.fix ds) turns 0 m1 []).bind asL
    | .live n => (cl (wipeE env vs) g t f (.live n) turns 0 m1 []).bind asL := by
  funext env m
  cases hf : fi env m with
  | no => unfold nLc; rw [hf]; rfl
  | ex x m1 => unfold nLc; rw [hf]; rfl
  | ok src m1 =>
    cases src with
    | live n => unfold nLc; rw [hf]; rfl
    | fix ds =>
      show _ = if ds.length ≤ 99999 then (runC (wipeE env vs) g t f ds m1).bind asL else (cl (wipeE env vs) g t f (.fix ds) turns 0 m1 []).bind asL
      by_cases h : ds.length ≤ 99999
      · rw [if_pos h]
        exact lc_run hf h
      · rw [if_neg h]
        unfold nLc
        rw [hf]
        rfl
theorem cut1 {a : D} {ds : List D} : cutD (a :: ds) (some 1) none = ds := by
  show (List.drop (min 1 (ds.length + 1)) (a :: ds)).take (ds.length + 1 - min 1 (ds.length + 1)) = ds
  rw [Nat.min_eq_left (by omega)]
  show ds.take (ds.length + 1 - 1) = ds
  rw [Nat.add_sub_cancel, List.take_length]
theorem zipD_cons {a b : D} {ds es : List D} : zipD (a :: ds) (b :: es) = .tup [a, b] :: zipD ds es := rfl
theorem zipD_nil {es : List D} : zipD [] es = [] := rfl
theorem zip_mk {s : Str} {k : Kd} {ds : List D} : zipS [.str s, mk k ds] = some (zipD (ltr s) ds) := by cases k <;> rfl
theorem zip_mm {k : Kd} {ds es : List D} : zipS [mk k ds, mk k es] = some (zipD ds es) := by cases k <;> rfl
/-! ### texts -/
theorem str_inj {a b : String} : (Str.ofString a = Str.ofString b) = (a = b) := by
  apply propext
  constructor
  · intro h
    rw [Str.ofString_eq_toList, Str.ofString_eq_toList] at h
    have h1 : (a.toList.map Char.toNat) = b.toList.map Char.toNat := by
      have h2 := congrArg (fun s : Str => s.cps.toList) h
      simpa using h2
    have h3 : a.toList = b.toList := by
      apply List.map_inj_right (f := Char.toNat) (fun x y e => ?_) |>.mp h1
      exact Char.ext (UInt32.toNat_inj.mp e)
    exact String.toList_inj.mp h3
  · intro h
    rw [h]
theorem eq_strs {n : Bool} {m : Mem} {a b : Str} : gEq n m (.str a) (.str b) = some (.bl (xor n (decide (a = b)))) := by
  unfold gEq eqM
  simp only [D.sv, scal, if_true, Option.map_some, V.str.injEq]
theorem eq_ints {n : Bool} {m : Mem} {a b : Int} : gEq n m (.int a) (.int b) = some (.bl (xor n (decide (a = b)))) := by
  unfold gEq eqM
  simp only [D.sv, scal, if_true, Option.map_some, V.int.injEq]
/-! ### places -/
theorem atI_at {α : Type} {xs : List α} {i : Int} (h0 : 0 ≤ i) (h1 : i < xs.length) : atI xs i = xs[i.toNat]? := by
  unfold atI ixN
  rw [if_pos h0, if_pos h1]
  rfl
theorem atI_nat {α : Type} {xs : List α} (i : Nat) (h : i < xs.length) : atI xs (i : Int) = xs[i]? := by
  rw [atI_at (by omega) (by omega), Int.toNat_natCast]
theorem ai0 {α : Type} {a0 : α} {l : List α} : atI (a0 :: l) 0 = some a0 := (atI_nat 0 (by simp)).trans rfl
theorem ai1 {α : Type} {a0 a1 : α} {l : List α} : atI (a0 :: a1 :: l) 1 = some a1 := (atI_nat 1 (by simp)).trans rfl
theorem ai2 {α : Type} {a0 a1 a2 : α} {l : List α} : atI (a0 :: a1 :: a2 :: l) 2 = some a2 := (atI_nat 2 (by simp)).trans rfl
theorem ai3 {α : Type} {a0 a1 a2 a3 : α} {l : List α} : atI (a0 :: a1 :: a2 :: a3 :: l) 3 = some a3 := (atI_nat 3 (by simp)).trans rfl
theorem ai4 {α : Type} {a0 a1 a2 a3 a4 : α} {l : List α} : atI (a0 :: a1 :: a2 :: a3 :: a4 :: l) 4 = some a4 := (atI_nat 4 (by simp)).trans rfl
theorem ai5 {α : Type} {a0 a1 a2 a3 a4 a5 : α} {l : List α} : atI (a0 :: a1 :: a2 :: a3 :: a4 :: a5 :: l) 5 = some a5 := (atI_nat 5 (by simp)).trans rfl
theorem ai6 {α : Type} {a0 a1 a2 a3 a4 a5 a6 : α} {l : List α} : atI (a0 :: a1 :: a2 :: a3 :: a4 :: a5 :: a6 :: l) 6 = some a6 := (atI_nat 6 (by simp)).trans rfl
theorem ai7 {α : Type} {a0 a1 a2 a3 a4 a5 a6 a7 : α} {l : List α} : atI (a0 :: a1 :: a2 :: a3 :: a4 :: a5 :: a6 :: a7 :: l) 7 = some a7 := (atI_nat 7 (by simp)).trans rfl
theorem ai8 {α : Type} {a0 a1 a2 a3 a4 a5 a6 a7 a8 : α} {l : List α} : atI (a0 :: a1 :: a2 :: a3 :: a4 :: a5 :: a6 :: a7 :: a8 :: l) 8 = some a8 := (atI_nat 8 (by simp)).trans rfl
theorem ai9 {α : Type} {a0 a1 a2 a3 a4 a5 a6 a7 a8 a9 : α} {l : List α} : atI (a0 :: a1 :: a2 :: a3 :: a4 :: a5 :: a6 :: a7 :: a8 :: a9 :: l) 9 = some a9 := (atI_nat 9 (by simp)).trans rfl
theorem ai10 {α : Type} {a0 a1 a2 a3 a4 a5 a6 a7 a8 a9 a10 : α} {l : List α} : atI (a0 :: a1 :: a2 :: a3 :: a4 :: a5 :: a6 :: a7 :: a8 :: a9 :: a10 :: l) 10 = some a10 := (atI_nat 10 (by simp)).trans rfl
theorem ai11 {α : Type} {a0 a1 a2 a3 a4 a5 a6 a7 a8 a9 a10 a11 : α} {l : List α} : atI (a0 :: a1 :: a2 :: a3 :: a4 :: a5 :: a6 :: a7 :: a8 :: a9 :: a10 :: a11 :: l) 11 = some a11 := (atI_nat 11 (by simp)).trans rfl
theorem ai12 {α : Type} {a0 a1 a2 a3 a4 a5 a6 a7 a8 a9 a10 a11 a12 : α} {l : List α} : atI (a0 :: a1 :: a2 :: a3 :: a4 :: a5 :: a6 :: a7 :: a8 :: a9 :: a10 :: a11 :: a12 :: l) 12 = some a12 := (atI_nat 12 (by simp)).trans rfl
theorem ai13 {α : Type} {a0 a1 a2 a3 a4 a5 a6 a7 a8 a9 a10 a11 a12 a13 : α} {l : List α} : atI (a0 :: a1 :: a2 :: a3 :: a4 :: a5 :: a6 :: a7 :: a8 :: a9 :: a10 :: a11 :: a12 :: a13 :: l) 13 = some a13 := (atI_nat 13 (by simp)).trans rfl
theorem ai14 {α : Type} {a0 a1 a2 a3 a4 a5 a6 a7 a8 a9 a10 a11 a12 a13 a14 : α} {l : List α} : atI (a0 :: a1 :: a2 :: a3 :: a4 :: a5 :: a6 :: a7 :: a8 :: a9 :: a10 :: a11 :: a12 :: a13 :: a14 :: l) 14 = some a14 := (atI_nat 14 (by simp)).trans rfl
theorem ai15 {α : Type} {a0 a1 a2 a3 a4 a5 a6 a7 a8 a9 a10 a11 a12 a13 a14 a15 : α} {l : List α} : atI (a0 :: a1 :: a2 :: a3 :: a4 :: a5 :: a6 :: a7 :: a8 :: a9 :: a10 :: a11 :: a12 :: a13 :: a14 :: a15 :: l) 15 = some a15 := (atI_nat 15 (by simp)).trans rfl
/-! ### in -/
theorem svs_strs : ∀ {xs : List Str}, (xs.map D.str).mapM D.sv = some (xs.map V.str)
  | [] => rfl
  | x :: xs => by
    rw [List.map_cons, List.mapM_cons, svs_strs]
    rfl
theorem inV_strs {s : Str} : ∀ {xs : List Str}, inV (.str s) (xs.map V.str) = decide (s ∈ xs)
  | [] => by simp [inV]
  | x :: xs => by
    show (eqV (.str x) (.str s) || inV (.str s) (xs.map V.str)) = _
    rw [inV_strs]
    show ((x == s) || _) = _
    by_cases e : x = s
    · subst e; simp
    · have e2 : ¬ s = x := fun h => e h.symm
      simp [e, e2]
theorem in_strs {m : Mem} {k : Kd} {xs : List Str} {s : Str} : gInA false m (.str s) (mk k (xs.map .str)) = some (.bl (decide (s ∈ xs))) := by
  cases k <;> (unfold gInA gIn inM; simp only [mk, lk, D.sv, seqOf, Option.bind_some, svs_strs, inV_strs, Option.map_some, Bool.false_xor, Bool.true_xor])
theorem nin_strs {m : Mem} {k : Kd} {xs : List Str} {s : Str} : gInA true m (.str s) (mk k (xs.map .str)) = some (.bl (!decide (s ∈ xs))) := by
  cases k <;> (unfold gInA gNin gIn inM; simp only [mk, lk, D.sv, seqOf, Option.bind_some, svs_strs, inV_strs, Option.map_some, Bool.false_xor, Bool.true_xor])
end DY
/-! the functions over data: lists of one kind -/
namespace DY
open PySem PySem.Spec PyProof.Rows L2
/-! ### lists of one kind -/
theorem dBls_map : ∀ {bs : List Bool}, dBls (bs.map .bl) = some bs
  | [] => rfl
  | b :: bs => by
    show (dBls (bs.map .bl)).map (b :: ·) = _
    rw [dBls_map]; rfl
theorem dStrs_map : ∀ {bs : List Str}, dStrs (bs.map .str) = some bs
  | [] => rfl
  | b :: bs => by
    show (dStrs (bs.map .str)).map (b :: ·) = _
    rw [dStrs_map]; rfl
theorem dInts_map : ∀ {bs : List Int}, dInts (bs.map .int) = some bs
  | [] => rfl
  | b :: bs => by
    show (dInts (bs.map .int)).map (b :: ·) = _
    rw [dInts_map]; rfl
theorem all_lst {f : List Bool → Bool} {m : Mem} {bs : List Bool} : gAllAny f m [.lst (bs.map .bl)] = some (.bl (f bs)) := by
  show (dBls (bs.map .bl)).map (fun bs => D.bl (f bs)) = _
  rw [dBls_map]; rfl
theorem all_true {m : Mem} {α : Type} {xs : List α} : gAllAny (fun bs => bs.all id) m [.lst (xs.map fun _ => .bl true)] = some (.bl true) := by
  have e : (xs.map fun _ => D.bl true) = (xs.map fun _ => true).map .bl := by rw [List.map_map]; rfl
  rw [e, all_lst]
  have : (xs.map fun _ => true).all id = true := by rw [List.all_map, List.all_eq_true]; intro x _; rfl
  rw [this]
theorem fold_dis {acc : List Str} : ∀ {l : List Str}, (acc ++ l).Nodup → l.foldl SX.st acc = acc ++ l
  | [], _ => by rw [List.append_nil]; rfl
  | x :: l, h => by
    have hx : x ∉ acc := fun c => (List.nodup_append.mp h).2.2 x c x List.mem_cons_self rfl
    rw [List.foldl_cons]
    have e : SX.st acc x = acc ++ [x] := by unfold SX.st; simp [hx]
    have h2 : (acc ++ [x] ++ l).Nodup := by rw [List.append_assoc]; exact h
    rw [e, fold_dis h2, List.append_assoc]
    rfl
theorem dis_self {l : List Str} (h : l.Nodup) : SX.dis l = l := by
  unfold SX.dis
  rw [fold_dis (by rw [List.nil_append]; exact h), List.nil_append]
/-! ### names out of a list -/
theorem gNs_mk {is : List Nat} {k : Kd} {ds : List D} {e : Sv} {m : Mem} : gNs is (mk k ds) e m = gSetAll is ds e := by cases k <;> rfl
theorem gNs_tup {is : List Nat} {ds : List D} {e : Sv} {m : Mem} : gNs is (.tup ds) e m = gSetAll is ds e := rfl
theorem gNs_lst {is : List Nat} {ds : List D} {e : Sv} {m : Mem} : gNs is (.lst ds) e m = gSetAll is ds e := rfl
/-! ### one after another -/
theorem seq_nx {s t : FS} {e e' : Sv} {m m' : Mem} {r : Fl} (h : s e m = .nx e' m') (k : t e' m' = r) : sSeq s t e m = r := by
  unfold sSeq; rw [h]; exact k
theorem while_run {n : Nat} {t : FT} {s : FS} {e : Sv} {m : Mem} {r : Fl} (h : whl t s n e m = r) : sWhile n t s e m = r := h
/-! ### numbers -/
theorem cMulL {i j : Int} (h : -(2 ^ 64) < i ∧ i < 2 ^ 64) : cMul i j = true := @decide_eq_true _ (Classical.propDecidable _) (.inl h)
theorem cDivV {i j : Int} (h : 0 < j ∧ j < 1073741824) : cDiv i j = true := @decide_eq_true _ (Classical.propDecidable _) h
theorem cMulR {i j : Int} (h : -(2 ^ 64) < j ∧ j < 2 ^ 64) : cMul i j = true := @decide_eq_true _ (Classical.propDecidable _) (.inr h)
theorem nc0 : ((0 : Nat) : Int) = 0 := rfl
theorem nc1 : ((1 : Nat) : Int) = 1 := rfl
theorem nc2 : ((2 : Nat) : Int) = 2 := rfl
theorem nc3 : ((3 : Nat) : Int) = 3 := rfl
theorem nc4 : ((4 : Nat) : Int) = 4 := rfl
theorem nc5 : ((5 : Nat) : Int) = 5 := rfl
theorem nc6 : ((6 : Nat) : Int) = 6 := rfl
theorem nc7 : ((7 : Nat) : Int) = 7 := rfl
theorem nc8 : ((8 : Nat) : Int) = 8 := rfl
theorem nc9 : ((9 : Nat) : Int) = 9 := rfl
theorem nc10 : ((10 : Nat) : Int) = 10 := rfl
theorem nc11 : ((11 : Nat) : Int) = 11 := rfl
theorem nc12 : ((12 : Nat) : Int) = 12 := rfl
theorem nc13 : ((13 : Nat) : Int) = 13 := rfl
theorem nc14 : ((14 : Nat) : Int) = 14 := rfl
theorem nc15 : ((15 : Nat) : Int) = 15 := rfl
theorem nc16 : ((16 : Nat) : Int) = 16 := rfl
theorem nc17 : ((17 : Nat) : Int) = 17 := rfl
theorem nc18 : ((18 : Nat) : Int) = 18 := rfl
theorem nc19 : ((19 : Nat) : Int) = 19 := rfl
theorem nc20 : ((20 : Nat) : Int) = 20 := rfl
end DY
/-! the functions over data: new objects stand behind the old ones -/
namespace DY
open PySem PySem.Spec PyProof.Rows L2
section
variable {m t : Mem} {o p q x : Ob} {ds : List D} {i : Int}
theorem getN0 : (m ++ o :: t)[m.length]? = some o := by rw [List.getElem?_append_right (Nat.le_refl _), Nat.sub_self]; rfl
theorem getN1 : (m ++ o :: p :: t)[m.length + 1]? = some p := by rw [List.getElem?_append_right (Nat.le_add_right _ _), Nat.add_sub_cancel_left]; rfl
theorem getN2 : (m ++ o :: p :: q :: t)[m.length + 2]? = some q := by rw [List.getElem?_append_right (Nat.le_add_right _ _), Nat.add_sub_cancel_left]; rfl
theorem setN0 : (m ++ o :: t).set m.length x = m ++ x :: t := by rw [List.set_append_right _ _ (Nat.le_refl _), Nat.sub_self]; rfl
theorem setN1 : (m ++ o :: p :: t).set (m.length + 1) x = m ++ o :: x :: t := by rw [List.set_append_right _ _ (Nat.le_add_right _ _), Nat.add_sub_cancel_left]; rfl
theorem setN2 : (m ++ o :: p :: q :: t).set (m.length + 2) x = m ++ o :: p :: x :: t := by rw [List.set_append_right _ _ (Nat.le_add_right _ _), Nat.add_sub_cancel_left]; rfl
theorem lkN0 : lk (m ++ .lst ds :: t) (.hdl (m.length)) = .lst ds := lk_hdl getN0
theorem ixN0 : gIxA (m ++ .lst ds :: t) (.hdl (m.length)) (.int i) = L2.atI ds i := ix_hdl getN0
theorem lenN0 : gLen (m ++ .lst ds :: t) [(.hdl (m.length))] = some (.int (ds.length : Nat)) := len_hdl getN0
theorem truN0 : tru (m ++ .lst ds :: t) (.hdl (m.length)) = some (!ds.isEmpty) := tru_hdl getN0
theorem tupN0 : gTuple (m ++ .lst ds :: t) [(.hdl (m.length))] = some (.tup ds) := tuple_hdl getN0
theorem isLN0 : isL (m ++ .lst ds :: t) (m.length) = true := by unfold isL; rw [getN0]
theorem lkN1 : lk (m ++ o :: .lst ds :: t) (.hdl (m.length + 1)) = .lst ds := lk_hdl getN1
theorem ixN1 : gIxA (m ++ o :: .lst ds :: t) (.hdl (m.length + 1)) (.int i) = L2.atI ds i := ix_hdl getN1
theorem lenN1 : gLen (m ++ o :: .lst ds :: t) [(.hdl (m.length + 1))] = some (.int (ds.length : Nat)) := len_hdl getN1
theorem truN1 : tru (m ++ o :: .lst ds :: t) (.hdl (m.length + 1)) = some (!ds.isEmpty) := tru_hdl getN1
theorem tupN1 : gTuple (m ++ o :: .lst ds :: t) [(.hdl (m.length + 1))] = some (.tup ds) := tuple_hdl getN1
theorem isLN1 : isL (m ++ o :: .lst ds :: t) (m.length + 1) = true := by unfold isL; rw [getN1]
theorem lkN2 : lk (m ++ o :: p :: .lst ds :: t) (.hdl (m.length + 2)) = .lst ds := lk_hdl getN2
theorem ixN2 : gIxA (m ++ o :: p :: .lst ds :: t) (.hdl (m.length + 2)) (.int i) = L2.atI ds i := ix_hdl getN2
theorem lenN2 : gLen (m ++ o :: p :: .lst ds :: t) [(.hdl (m.length + 2))] = some (.int (ds.length : Nat)) := len_hdl getN2
theorem truN2 : tru (m ++ o :: p :: .lst ds :: t) (.hdl (m.length + 2)) = some (!ds.isEmpty) := tru_hdl getN2
theorem tupN2 : gTuple (m ++ o :: p :: .lst ds :: t) [(.hdl (m.length + 2))] = some (.tup ds) := tuple_hdl getN2
theorem isLN2 : isL (m ++ o :: p :: .lst ds :: t) (m.length + 2) = true := by unfold isL; rw [getN2]
theorem isKN0 {ks vs : List D} : isK (m ++ .dic false ks vs :: t) (m.length) = true := by unfold isK; rw [getN0]
theorem isKN1 {ks vs : List D} : isK (m ++ o :: .dic false ks vs :: t) (m.length + 1) = true := by unfold isK; rw [getN1]
theorem isKN2 {ks vs : List D} : isK (m ++ o :: p :: .dic false ks vs :: t) (m.length + 2) = true := by unfold isK; rw [getN2]
end
end DY
/-! the functions over data: dicts -/
namespace DY
open PySem PySem.Spec PyProof.Rows L2
def runD (nb : Bool) (w : Sv) (g : FG) (t : FT) (fk fv : FE) : List D → Mem → List D → List D → Rs (List D × List D)
  | [], m, ks, vs => .ok (ks, vs) m
  | d :: ds, m, ks, vs => match g d w m with
    | none => .no
    | some e1 => (noex (t e1 m)).bind fun b m2 => if b = true then (noex (fk e1 m2)).bind fun k m3 => (noex (fv e1 m3)).bind fun v m4 => if okK nb (.hdl 0) k = true ∧ vs.length < big then runD nb w g t fk fv ds m4 (kp nb ks vs k v).1 (kp nb ks vs k v).2 else .no
      else runD nb w g t fk fv ds m2 ks vs
theorem cld_run {nb : Bool} {w : Sv} {g : FG} {t : FT} {fk fv : FE} {ds : List D} : ∀ (n i : Nat) (m : Mem) (ks vs : List D), i ≤ ds.length → ds.length < n + i → cld nb w g t fk fv (.fix ds) n i m ks vs = runD nb w g t fk fv (ds.drop i) m ks vs
  | 0, i, m, ks, vs, h1, h2 => by omega
  | n + 1, i, m, ks, vs, h1, h2 => by
    unfold cld
    show (match (some ds[i]? : Option (Option D)) with
      | none => Rs.no
      | some none => .ok (ks, vs) m
      | some (some d) => match g d w m with
        | none => .no
        | some e1 => (noex (t e1 m)).bind fun b m2 => if b = true then (noex (fk e1 m2)).bind fun k m3 => (noex (fv e1 m3)).bind fun v m4 => if okK nb (.hdl 0) k = true ∧ vs.length < big then cld nb w g t fk fv (.fix ds) n (i + 1) m4 (kp nb ks vs k v).1 (kp nb ks vs k v).2 else .no
          else cld nb w g t fk fv (.fix ds) n (i + 1) m2 ks vs) = _
    cases hd : ds[i]? with
    | none =>
      have : i = ds.length := Nat.le_antisymm h1 (List.getElem?_eq_none_iff.mp hd)
      subst this
      rw [List.drop_length]
      rfl
    | some d =>
      obtain ⟨hi, e0⟩ := List.getElem?_eq_some_iff.mp hd
      have hdr : ds.drop i = d :: ds.drop (i + 1) := by rw [← e0]; exact (List.drop_eq_getElem_cons hi)
      have ih := fun m ks vs => cld_run (nb := nb) (w := w) (g := g) (t := t) (fk := fk) (fv := fv) n (i + 1) m ks vs hi (by omega)
      rw [hdr]
      unfold runD
      simp only [ih]
theorem dc_eq {nb : Bool} {vs : List Nat} {fi : FI} {g : FG} {t : FT} {fk fv : FE} : nDc nb vs fi g t fk fv = fun env m => (fi env m).bind fun src m1 => match src with
    | .fix ds => if ds.length < 1000000 then (runD nb (wipeE env vs) g t fk fv ds m1 [] []).bind (asDc nb) else (cld nb (wipeE env vs) g t fk fv (.fix ds) turns 0 m1 [] []).bind (asDc nb)
    | .live n => (cld nb (wipeE env vs) g t fk fv (.live n) turns 0 m1 [] []).bind (asDc nb) := by
  funext env m
  cases hf : fi env m with
  | no => unfold nDc; rw [hf]; rfl
  | ex x m1 => unfold nDc; rw [hf]; rfl
  | ok src m1 =>
    cases src with
    | live n => unfold nDc; rw [hf]; rfl
    | fix ds =>
      show _ = if ds.length < 1000000 then (runD nb (wipeE env vs) g t fk fv ds m1 [] []).bind (asDc nb) else (cld nb (wipeE env vs) g t fk fv (.fix ds) turns 0 m1 [] []).bind (asDc nb)
      by_cases h : ds.length < 1000000
      · rw [if_pos h]
        unfold nDc
        rw [hf]
        show (cld nb (wipeE env vs) g t fk fv (.fix ds) turns 0 m1 [] []).bind (asDc nb) = _
        rw [cld_run turns 0 m1 [] [] (Nat.zero_le _) (by rw [turns_eq]; omega), List.drop_zero]
      · rw [if_neg h]
        unfold nDc
        rw [hf]
        rfl
/-! ### a set of texts, as a dict whose values are True -/
abbrev tts (acc : List Str) : List D := acc.map fun _ => .bl true
abbrev sts (acc : List Str) : List D := acc.map .str
theorem kf_st {x : Str} : ∀ {acc : List Str}, kf false (sts acc) (tts acc) (.str x) = if x ∈ acc then some (.bl true) else none
  | [] => rfl
  | a :: acc => by
    show (if sameK false (.str a) (.str x) = true then some (D.bl true) else kf false (sts acc) (tts acc) (.str x)) = _
    rw [kf_st]
    have e : sameK false (.str a) (.str x) = decide (a = x) := by
      show decide (some (Sum.inr a : Key) = some (Sum.inr x)) = _
      by_cases c : a = x
      · subst c; simp
      · have : ¬ (some (Sum.inr a : Key) = some (Sum.inr x)) := fun h => c (Sum.inr.inj (Option.some.inj h))
        simp [c]
    rw [e]
    by_cases c : a = x
    · subst c; simp
    · have c2 : ¬ x = a := fun h => c h.symm
      simp [c, c2]
theorem kr_st {x : Str} : ∀ {acc : List Str}, kr false (sts acc) (tts acc) (.str x) (.bl true) = tts acc
  | [] => rfl
  | a :: acc => by
    show (if sameK false (.str a) (.str x) = true then D.bl true else .bl true) :: kr false (sts acc) (tts acc) (.str x) (.bl true) = _
    rw [kr_st]
    split <;> rfl
theorem kp_st {x : Str} {acc : List Str} : kp false (sts acc) (tts acc) (.str x) (.bl true) = (sts (SX.st acc x), tts (SX.st acc x)) := by
  unfold kp SX.st
  rw [kf_st]
  by_cases c : x ∈ acc
  · rw [if_pos c, if_pos c, kr_st]; rfl
  · rw [if_neg c, if_neg c]
    simp
theorem len_st {acc : List Str} {x : Str} : (SX.st acc x).length ≤ acc.length + 1 := by
  unfold SX.st
  split
  · omega
  · rw [List.length_append]; exact Nat.le_refl _
theorem len_sts : ∀ {l acc : List Str}, (l.foldl SX.st acc).length ≤ acc.length + l.length
  | [], acc => Nat.le_refl _
  | x :: l, acc => by
    rw [List.foldl_cons, List.length_cons]
    have := len_sts (l := l) (acc := SX.st acc x)
    have := len_st (acc := acc) (x := x)
    omega
/-- {x: True for x in ..} -/
theorem runD_st {w : Sv} {g : FG} {t : FT} {fk fv : FE} {m : Mem} : ∀ {xs acc : List Str}, (∀ x ∈ xs, ∃ e1, g (.str x) w m = some e1 ∧ t e1 m = .ok true m ∧ fk e1 m = .ok (.str x) m ∧ fv e1 m = .ok (.bl true) m) → acc.length + xs.length ≤ 99999 → runD false w g t fk fv (xs.map .str) m (sts acc) (tts acc) = .ok (sts (xs.foldl SX.st acc), tts (xs.foldl SX.st acc)) m
  | [], acc, _, _ => rfl
  | x :: xs, acc, h, hl => by
    obtain ⟨e1, h1, h2, h3, h4⟩ := h x List.mem_cons_self
    rw [List.length_cons] at hl
    rw [List.map_cons]
    unfold runD
    rw [h1]
    dsimp only
    rw [h2]
    show (if true = true then (noex (fk e1 m)).bind fun k m3 => (noex (fv e1 m3)).bind fun v m4 => if okK false (.hdl 0) k = true ∧ (tts acc).length < big then runD false w g t fk fv (xs.map .str) m4 (kp false (sts acc) (tts acc) k v).1 (kp false (sts acc) (tts acc) k v).2 else .no else runD false w g t fk fv (xs.map .str) m (sts acc) (tts acc)) = _
    rw [if_pos rfl, h3]
    show (noex (fv e1 m)).bind (fun v m4 => if okK false (.hdl 0) (.str x) = true ∧ (tts acc).length < big then runD false w g t fk fv (xs.map .str) m4 (kp false (sts acc) (tts acc) (.str x) v).1 (kp false (sts acc) (tts acc) (.str x) v).2 else .no) = _
    rw [h4]
    show (if okK false (.hdl 0) (.str x) = true ∧ (tts acc).length < big then runD false w g t fk fv (xs.map .str) m (kp false (sts acc) (tts acc) (.str x) (.bl true)).1 (kp false (sts acc) (tts acc) (.str x) (.bl true)).2 else .no) = _
    rw [if_pos ⟨rfl, by rw [List.length_map, big_eq]; omega⟩, kp_st]
    exact runD_st (fun y hy => h y (List.mem_cons_of_mem _ hy)) (by have := len_st (acc := acc) (x := x); omega)
/-- d[x] = True, for a new dict -/
theorem putO_st {m t : Mem} {acc : List Str} {x : Str} (h : acc.length < 99999) : putO (m ++ .dic false (sts acc) (tts acc) :: t) m.length (.str x) (.bl true) = some (m ++ .dic false (sts (SX.st acc x)) (tts (SX.st acc x)) :: t) := by
  unfold putO
  rw [getN0]
  dsimp only
  rw [if_pos ⟨rfl, by rw [List.length_map, big_eq]; exact h⟩, kp_st, setN0]
theorem sorted_st {m t : Mem} {acc : List Str} (h : acc.length ≤ 100000) : gSorted (m ++ .dic false (sts acc) (tts acc) :: t) [.hdl m.length] = some (.lst ((sortX acc).map .str)) := by
  unfold gSorted
  dsimp only
  rw [lk_hdl getN0]
  show (if isVal (.hdl m.length) = false ∧ (sts acc).length ≤ 100000 then (dStrs (sts acc)).map fun xs => Ob.lst ((sortX xs).map .str) else none) = _
  rw [if_pos ⟨rfl, by rw [List.length_map]; exact h⟩, dStrs_map]
  rfl
/-! ### in a list that is told -/
theorem inL1 {m : Mem} {s a0 : Str} : gInA false m (.str s) (.lst [.str a0]) = some (.bl (decide (s ∈ ([a0] : List Str)))) := in_strs (k := .l) (xs := [a0])
theorem ninL1 {m : Mem} {s a0 : Str} : gInA true m (.str s) (.lst [.str a0]) = some (.bl (!decide (s ∈ ([a0] : List Str)))) := nin_strs (k := .l) (xs := [a0])
theorem inL2 {m : Mem} {s a0 a1 : Str} : gInA false m (.str s) (.lst [.str a0, .str a1]) = some (.bl (decide (s ∈ ([a0, a1] : List Str)))) := in_strs (k := .l) (xs := [a0, a1])
theorem ninL2 {m : Mem} {s a0 a1 : Str} : gInA true m (.str s) (.lst [.str a0, .str a1]) = some (.bl (!decide (s ∈ ([a0, a1] : List Str)))) := nin_strs (k := .l) (xs := [a0, a1])
theorem inL3 {m : Mem} {s a0 a1 a2 : Str} : gInA false m (.str s) (.lst [.str a0, .str a1, .str a2]) = some (.bl (decide (s ∈ ([a0, a1, a2] : List Str)))) := in_strs (k := .l) (xs := [a0, a1, a2])
theorem ninL3 {m : Mem} {s a0 a1 a2 : Str} : gInA true m (.str s) (.lst [.str a0, .str a1, .str a2]) = some (.bl (!decide (s ∈ ([a0, a1, a2] : List Str)))) := nin_strs (k := .l) (xs := [a0, a1, a2])
theorem inL4 {m : Mem} {s a0 a1 a2 a3 : Str} : gInA false m (.str s) (.lst [.str a0, .str a1, .str a2, .str a3]) = some (.bl (decide (s ∈ ([a0, a1, a2, a3] : List Str)))) := in_strs (k := .l) (xs := [a0, a1, a2, a3])
theorem ninL4 {m : Mem} {s a0 a1 a2 a3 : Str} : gInA true m (.str s) (.lst [.str a0, .str a1, .str a2, .str a3]) = some (.bl (!decide (s ∈ ([a0, a1, a2, a3] : List Str)))) := nin_strs (k := .l) (xs := [a0, a1, a2, a3])
theorem inL5 {m : Mem} {s a0 a1 a2 a3 a4 : Str} : gInA false m (.str s) (.lst [.str a0, .str a1, .str a2, .str a3, .str a4]) = some (.bl (decide (s ∈ ([a0, a1, a2, a3, a4] : List Str)))) := in_strs (k := .l) (xs := [a0, a1, a2, a3, a4])
theorem ninL5 {m : Mem} {s a0 a1 a2 a3 a4 : Str} : gInA true m (.str s) (.lst [.str a0, .str a1, .str a2, .str a3, .str a4]) = some (.bl (!decide (s ∈ ([a0, a1, a2, a3, a4] : List Str)))) := nin_strs (k := .l) (xs := [a0, a1, a2, a3, a4])
theorem inL6 {m : Mem} {s a0 a1 a2 a3 a4 a5 : Str} : gInA false m (.str s) (.lst [.str a0, .str a1, .str a2, .str a3, .str a4, .str a5]) = some (.bl (decide (s ∈ ([a0, a1, a2, a3, a4, a5] : List Str)))) := in_strs (k := .l) (xs := [a0, a1, a2, a3, a4, a5])
theorem ninL6 {m : Mem} {s a0 a1 a2 a3 a4 a5 : Str} : gInA true m (.str s) (.lst [.str a0, .str a1, .str a2, .str a3, .str a4, .str a5]) = some (.bl (!decide (s ∈ ([a0, a1, a2, a3, a4, a5] : List Str)))) := nin_strs (k := .l) (xs := [a0, a1, a2, a3, a4, a5])
theorem inL7 {m : Mem} {s a0 a1 a2 a3 a4 a5 a6 : Str} : gInA false m (.str s) (.lst [.str a0, .str a1, .str a2, .str a3, .str a4, .str a5, .str a6]) = some (.bl (decide (s ∈ ([a0, a1, a2, a3, a4, a5, a6] : List Str)))) := in_strs (k := .l) (xs := [a0, a1, a2, a3, a4, a5, a6])
theorem ninL7 {m : Mem} {s a0 a1 a2 a3 a4 a5 a6 : Str} : gInA true m (.str s) (.lst [.str a0, .str a1, .str a2, .str a3, .str a4, .str a5, .str a6]) = some (.bl (!decide (s ∈ ([a0, a1, a2, a3, a4, a5, a6] : List Str)))) := nin_strs (k := .l) (xs := [a0, a1, a2, a3, a4, a5, a6])
theorem inL8 {m : Mem} {s a0 a1 a2 a3 a4 a5 a6 a7 : Str} : gInA false m (.str s) (.lst [.str a0, .str a1, .str a2, .str a3, .str a4, .str a5, .str a6, .str a7]) = some (.bl (decide (s ∈ ([a0, a1, a2, a3, a4, a5, a6, a7] : List Str)))) := in_strs (k := .l) (xs := [a0, a1, a2, a3, a4, a5, a6, a7])
theorem ninL8 {m : Mem} {s a0 a1 a2 a3 a4 a5 a6 a7 : Str} : gInA true m (.str s) (.lst [.str a0, .str a1, .str a2, .str a3, .str a4, .str a5, .str a6, .str a7]) = some (.bl (!decide (s ∈ ([a0, a1, a2, a3, a4, a5, a6, a7] : List Str)))) := nin_strs (k := .l) (xs := [a0, a1, a2, a3, a4, a5, a6, a7])
theorem inL9 {m : Mem} {s a0 a1 a2 a3 a4 a5 a6 a7 a8 : Str} : gInA false m (.str s) (.lst [.str a0, .str a1, .str a2, .str a3, .str a4, .str a5, .str a6, .str a7, .str a8]) = some (.bl (decide (s ∈ ([a0, a1, a2, a3, a4, a5, a6, a7, a8] : List Str)))) := in_strs (k := .l) (xs := [a0, a1, a2, a3, a4, a5, a6, a7, a8])
theorem ninL9 {m : Mem} {s a0 a1 a2 a3 a4 a5 a6 a7 a8 : Str} : gInA true m (.str s) (.lst [.str a0, .str a1, .str a2, .str a3, .str a4, .str a5, .str a6, .str a7, .str a8]) = some (.bl (!decide (s ∈ ([a0, a1, a2, a3, a4, a5, a6, a7, a8] : List Str)))) := nin_strs (k := .l) (xs := [a0, a1, a2, a3, a4, a5, a6, a7, a8])
end DY
namespace T
open PySem PySem.Spec PyProof.Rows L2 DY
def top (i : Nat) : Stmt := PySem.Challenge.pw_onceread_k13_written_form.main.body.getD i (.Pass ⟨0, 0, 0, 0⟩)
abbrev s_is_sequence : Stmt := top 8
abbrev s_is_name : Stmt := top 9
abbrev s_are_different_names : Stmt := top 10
abbrev s_parts_of : Stmt := top 19
abbrev s_bound_in_parts : Stmt := top 20
abbrev s_own_variables : Stmt := top 21
abbrev s_free_from_parts : Stmt := top 22
abbrev s_free_in : Stmt := top 23
abbrev s_trees_in : Stmt := top 24
abbrev s_is_variables : Stmt := top 25
abbrev s_is_walk_of_one_width : Stmt := top 26
abbrev s_is_well_formed : Stmt := top 27
abbrev s_check_tree : Stmt := top 28
abbrev s_with_tuples : Stmt := top 29
abbrev s_Question_init : Stmt := inClass (top 31) 0
abbrev s_write_atom : Stmt := top 33
abbrev s_write_walk : Stmt := top 34
abbrev s_write_tree : Stmt := top 35
abbrev s_write_within : Stmt := top 36
abbrev s_write_question : Stmt := top 37
abbrev s_law_cell : Stmt := top 39
abbrev s_law_digits : Stmt := top 40
abbrev s_law_stream : Stmt := top 41
abbrev s_law_take : Stmt := top 42
abbrev s_law_reserved : Stmt := top 43
abbrev s_law_fresh : Stmt := top 44
abbrev s_law_name : Stmt := top 45
abbrev s_law_pool : Stmt := top 46
abbrev s_law_pairs : Stmt := top 47
abbrev s_law_atom : Stmt := top 48
abbrev s_law_walk : Stmt := top 49
abbrev s_law_tree : Stmt := top 50
abbrev s_law_drawn : Stmt := top 51
abbrev s_law_size : Stmt := top 52
abbrev s_law_changed : Stmt := top 53
abbrev s_law_edited : Stmt := top 54
abbrev s_law_near : Stmt := top 55
abbrev s_law_mixed : Stmt := top 56
abbrev s_law_alike : Stmt := top 57
abbrev s_law_text : Stmt := top 58
abbrev s_law_wrapped : Stmt := top 59
abbrev s_law : Stmt := top 60
def c_RESERVED : D := .tup [.str "some", .str "every", .str "not", .str "and", .str "or", .str "walk", .str "more", .str "than", .str "first", .str "last", .str "next"]
def c_LONGEST_NAME : D := .int 12
def c_LARGEST_ARITY : D := .int 3
def c_ATOMS : D := .tup [.str "rel", .str "same", .str "before", .str "next", .str "first", .str "last"]
def c_BINDERS : D := .tup [.str "some", .str "every", .str "more", .str "walk"]
def c_ORDERED : D := .tup [.str "before", .str "next", .str "first", .str "last"]
def c_WIDEST_WALK : D := .int 60
def c_DEEPEST_TREE : D := .int 40
def c_MOST_TREES : D := .int 20000
def tk_FORMS : List Str := ["rel", "same", "before", "next", "first", "last", "not", "and", "or", "some", "every", "more", "walk"]
def tv_FORMS : List D := [.str "vs", .str "vv", .str "vv", .str "vv", .str "v", .str "v", .str "t", .str "tt", .str "tt", .str "vt", .str "vt", .str "vtvt", .str "sstss"]
abbrev t_FORMS : D := .dic false (tk_FORMS.map .str) tv_FORMS
def cd_Question : CD := ⟨"Question", ["tree", "_free", "_uses", "_bare", "_ordered"], [], []⟩
def csN : List CD := [cd_Question]
def xd_OnceError : XD := ⟨"OnceError", none, ["OnceError"]⟩
def xd_BadQuestion : XD := ⟨"BadQuestion", none, ["BadQuestion", "OnceError"]⟩
def xsN : List XD := [xd_OnceError, xd_BadQuestion]
def fnN : List DfP := ([⟨("is_sequence", none), false, "is_sequence", s_is_sequence, [], []⟩, ⟨("is_name", none), false, "is_name", s_is_name, [], []⟩, ⟨("are_different_names", none), false, "are_different_names", s_are_different_names, [], []⟩, ⟨("parts_of", none), false, "parts_of", s_parts_of, [], []⟩, ⟨("bound_in_parts", none), false, "bound_in_parts", s_bound_in_parts, [], []⟩, ⟨("own_variables", none), false, "own_variables", s_own_variables, [], []⟩, ⟨("free_from_parts", none), false, "free_from_parts", s_free_from_parts, [], []⟩, ⟨("free_in", none), false, "free_in", s_free_in, [], []⟩, ⟨("trees_in", none), false, "trees_in", s_trees_in, [], []⟩, ⟨("is_variables", none), false, "is_variables", s_is_variables, [], []⟩, ⟨("is_walk_of_one_width", none), false, "is_walk_of_one_width", s_is_walk_of_one_width, [], []⟩, ⟨("is_well_formed", none), false, "is_well_formed", s_is_well_formed, [], []⟩, ⟨("check_tree", none), false, "check_tree", s_check_tree, [], []⟩, ⟨("with_tuples", none), false, "with_tuples", s_with_tuples, [], []⟩, ⟨("Question", some "__init__"), false, "Question.__init__", s_Question_init, [], []⟩, ⟨("write_atom", none), false, "write_atom", s_write_atom, [], []⟩] : List DfP) ++ ([⟨("write_walk", none), false, "write_walk", s_write_walk, [], []⟩, ⟨("write_tree", none), false, "write_tree", s_write_tree, [], []⟩, ⟨("write_within", none), false, "write_within", s_write_within, [], []⟩, ⟨("write_question", none), false, "write_question", s_write_question, [], []⟩, ⟨("_law_cell", none), false, "_law_cell", s_law_cell, [], []⟩, ⟨("_law_digits", none), false, "_law_digits", s_law_digits, [], []⟩, ⟨("_law_stream", none), false, "_law_stream", s_law_stream, [], []⟩, ⟨("_law_take", none), false, "_law_take", s_law_take, [], []⟩, ⟨("_law_reserved", none), false, "_law_reserved", s_law_reserved, [], []⟩, ⟨("_law_fresh", none), false, "_law_fresh", s_law_fresh, [], []⟩, ⟨("_law_name", none), false, "_law_name", s_law_name, [], []⟩, ⟨("_law_pool", none), false, "_law_pool", s_law_pool, [], []⟩, ⟨("_law_pairs", none), false, "_law_pairs", s_law_pairs, [], []⟩, ⟨("_law_atom", none), false, "_law_atom", s_law_atom, [], []⟩, ⟨("_law_walk", none), false, "_law_walk", s_law_walk, [], []⟩, ⟨("_law_tree", none), false, "_law_tree", s_law_tree, [], []⟩] : List DfP) ++ ([⟨("_law_drawn", none), false, "_law_drawn", s_law_drawn, [], []⟩, ⟨("_law_size", none), false, "_law_size", s_law_size, [], []⟩, ⟨("_law_changed", none), false, "_law_changed", s_law_changed, [], []⟩, ⟨("_law_edited", none), false, "_law_edited", s_law_edited, [], []⟩, ⟨("_law_near", none), false, "_law_near", s_law_near, [], []⟩, ⟨("_law_mixed", none), false, "_law_mixed", s_law_mixed, [], []⟩, ⟨("_law_alike", none), false, "_law_alike", s_law_alike, [], []⟩, ⟨("_law_text", none), false, "_law_text", s_law_text, [], []⟩, ⟨("_law_wrapped", none), false, "_law_wrapped", s_law_wrapped, [], []⟩, ⟨("law", none), false, "law", s_law, [], []⟩] : List DfP)
def gloN : List Str := (["is_sequence", "is_name", "are_different_names", "parts_of", "bound_in_parts", "own_variables", "free_from_parts", "free_in", "trees_in", "is_variables", "is_walk_of_one_width", "is_well_formed", "check_tree", "with_tuples", "write_atom", "write_walk"] : List Str) ++ (["write_tree", "write_within", "write_question", "_law_cell", "_law_digits", "_law_stream", "_law_take", "_law_reserved", "_law_fresh", "_law_name", "_law_pool", "_law_pairs", "_law_atom", "_law_walk", "_law_tree", "_law_drawn"] : List Str) ++ (["_law_size", "_law_changed", "_law_edited", "_law_near", "_law_mixed", "_law_alike", "_law_text", "_law_wrapped", "law", "Question", "OnceError", "BadQuestion"] : List Str)
def freeN : List Str := ["all", "any", "bool", "int", "isinstance", "len", "list", "range", "set", "sorted", "str", "tuple", "zip"]
def cstN : List (Str × D) := [("RESERVED", c_RESERVED), ("LONGEST_NAME", c_LONGEST_NAME), ("LARGEST_ARITY", c_LARGEST_ARITY), ("ATOMS", c_ATOMS), ("BINDERS", c_BINDERS), ("ORDERED", c_ORDERED), ("WIDEST_WALK", c_WIDEST_WALK), ("DEEPEST_TREE", c_DEEPEST_TREE), ("MOST_TREES", c_MOST_TREES)]
def tabN : List TabD := [("FORMS", tk_FORMS, tv_FORMS)]
def pd : Pd := ⟨gloN, freeN, cstN, fnN, tabN, csN, xsN⟩
abbrev R : PySem.W.OpenRow := PySem.W.OpenLaw.row PySem.Challenge.rw_onceread_k13_written_form
abbrev lawAt : Nat := 60
abbrev lawIx : Nat := 41
def loose : List Str := (["_wall", "is_sequence", "is_name", "are_different_names", "parts_of", "bound_in_parts", "own_variables", "free_from_parts", "free_in", "trees_in", "is_variables", "is_walk_of_one_width", "is_well_formed", "check_tree", "with_tuples", "write_atom"] : List Str) ++ (["write_walk", "write_tree", "write_within", "write_question", "_law_cell", "_law_digits", "_law_stream", "_law_take", "_law_reserved", "_law_fresh", "_law_name", "_law_pool", "_law_pairs", "_law_atom", "_law_walk", "_law_tree"] : List Str) ++ (["_law_drawn", "_law_size", "_law_changed", "_law_edited", "_law_near", "_law_mixed", "_law_alike", "_law_text", "_law_wrapped", "OnceError", "BadQuestion", "Question", "RESERVED", "LONGEST_NAME", "LARGEST_ARITY", "FORMS"] : List Str) ++ (["ATOMS", "BINDERS", "ORDERED", "WIDEST_WALK", "DEEPEST_TREE", "MOST_TREES"] : List Str)
end T
namespace Kx
open PySem PySem.Spec PyProof.Rows L2 T DY
noncomputable def F_is_sequence : FS := (sRet (eIs2 .tuple .list (eV 0)))
noncomputable def f_is_sequence : Fn := run 1 1 F_is_sequence
noncomputable def F_is_name : FS := (sSeq (sIf (tO (tNo (tB' (eIs .str (eV 0)))) (tNo (tB' (eChain pLe pLe (eC (.int 1)) (eB gLen (aC (eV 0) aN)) (eC c_LONGEST_NAME))))) (sRet (eC (.bl false))) sNx)
    (sSeq (sIf (tO (tNo (tB' (eM0 (fun s => .bl (Txt.isascii s)) (eV 0)))) (tO (tNo (tB' (eM0 (fun s => .bl (Txt.isalnum s)) (eV 0)))) (tNo (tB' (eM0 (fun s => .bl (Txt.islower s)) (eV 0)))))) (sRet (eC (.bl false))) sNx)
    (sRet (eAnd (eNot (tB' (eM0 (fun s => .bl (Txt.isdigit s)) (e2 gIxA (eV 0) (eC (.int 0)))))) (e2 (gInA true) (eV 0) (eC c_RESERVED))))))
noncomputable def f_is_name : Fn := run 1 1 F_is_name
noncomputable def F_are_different_names : FS := (sSeq (sIf (tO (tNo (tB' (eCall f_is_sequence (aC (eV 0) aN)))) (tB' (e2 (gCmp pGt) (eB gLen (aC (eV 0) aN)) (eV 1)))) (sRet (eC (.bl false))) sNx)
    (sRet (eAnd (eB (gAllAny fun bs => bs.all id) (aC (eFz (nLc [2] (iPl (eV 0)) (gN 2) cTrue (eCall f_is_name (aC (eV 2) aN)))) aN)) (e2 (gEq false) (eLenSet (eV 0)) (eB gLen (aC (eV 0) aN))))))
noncomputable def f_are_different_names : Fn := run 3 2 F_are_different_names
noncomputable def F_parts_of : FS := (sRet (eFz (nLc [1, 2] (iZip (aC (e2 gIxA (eC t_FORMS) (e2 gIxA (eV 0) (eC (.int 0)))) (aC (eSl (eV 0) (oS (eC (.int 1))) oN) aN))) (gNs [1, 2]) (tB' (e2 (gEq false) (eV 1) (eC (.str "t")))) (eV 2))))
noncomputable def f_parts_of : Fn := run 3 1 F_parts_of
noncomputable def F_bound_in_parts : FS := (sSeq (sAsg 1 (e2 gIxA (eV 0) (eC (.int 0))))
    (sSeq (sIf (tB' (e2 (gEq false) (eV 1) (eC (.str "walk")))) (sRet (eFz (nL (aC (e2 gAdd (e2 gIxA (eV 0) (eC (.int 1))) (e2 gIxA (eV 0) (eC (.int 2)))) aN)))) sNx)
    (sSeq (sIf (tB' (e2 (gEq false) (eV 1) (eC (.str "more")))) (sRet (eFz (nL (aC (eTup (aC (e2 gIxA (eV 0) (eC (.int 1))) aN)) (aC (eTup (aC (e2 gIxA (eV 0) (eC (.int 3))) aN)) aN))))) sNx)
    (sSeq (sIf (tO (tB' (e2 (gEq false) (eV 1) (eC (.str "some")))) (tB' (e2 (gEq false) (eV 1) (eC (.str "every"))))) (sRet (eFz (nL (aC (eTup (aC (e2 gIxA (eV 0) (eC (.int 1))) aN)) aN)))) sNx)
    (sRet (eFz (nLc [2] (iPl (eCall f_parts_of (aC (eV 0) aN))) (gN 2) cTrue (eTup aN))))))))
noncomputable def f_bound_in_parts : Fn := run 3 1 F_bound_in_parts
noncomputable def F_own_variables : FS := (sSeq (sAsg 1 (e2 gIxA (eV 0) (eC (.int 0))))
    (sSeq (sIf (tB' (e2 (gEq false) (eV 1) (eC (.str "walk")))) (sRet (e2 gAdd (e2 gIxA (eV 0) (eC (.int 4))) (e2 gIxA (eV 0) (eC (.int 5))))) sNx)
    (sSeq (sIf (tB' (e2 (gEq false) (eV 1) (eC (.str "rel")))) (sRet (e2 gIxA (eV 0) (eC (.int 2)))) sNx)
    (sRet (eIf (tB' (e2 (gInA false) (eV 1) (eC c_ATOMS))) (eSl (eV 0) (oS (eC (.int 1))) oN) (eTup aN))))))
noncomputable def f_own_variables : Fn := run 2 1 F_own_variables
noncomputable def F_free_from_parts : FS := (sSeq (sAsg 3 (eBy true (nDc false [2] (iPl (eCall f_own_variables (aC (eV 0) aN))) (gN 2) cTrue (eV 2) (eC (.bl true)))))
    (sSeq (sFor (iZip (aC (eCall f_bound_in_parts (aC (eV 0) aN)) (aC (eV 1) aN))) (gNs [4, 5]) (sFor (iPl (eV 5)) (gN 2) (sIf (tB' (e2 (gInA true) (eV 2) (eV 4))) (sSet (eC (.bl true)) (eV 3) (eV 2)) sNx)))
    (sRet (eB gTuple (aC (eFz (nB gSorted (aC (eV 3) aN))) aN)))))
noncomputable def f_free_from_parts : Fn := run 6 2 F_free_from_parts
noncomputable def F_free_in (r_free_in : Fn) : FS := (sRet (eCall f_free_from_parts (aC (eV 0) (aC (eFz (nLc [1] (iPl (eCall f_parts_of (aC (eV 0) aN))) (gN 1) cTrue (eCall r_free_in (aC (eV 1) aN)))) aN))))
noncomputable def rec_free_in : Nat → Nat → Fn
  | 0, _ => fun _ _ => .no
  | b + 1, 0 => run 2 1 (F_free_in (rec_free_in b 0))
  | _ + 1, _ => fun _ _ => .no
noncomputable def F_trees_in : FS := (sSeq (sAsg 1 (eNew (nL (aC (eV 0) aN))))
    (sSeq (sAsg 2 (eC (.int 0)))
    (sSeq (sWhile 100000 (tB' (e2 (gCmp pLt) (eV 2) (eB gLen (aC (eV 1) aN)))) (sSeq (sFor (iPl (eCall f_parts_of (aC (e2 gIxA (eV 1) (eV 2)) aN))) (gN 3) (sDrop (eMt mApp (eV 1) (aC (eV 3) aN))))
    (sAugI 2 (eC (.int 1)))))
    (sRet (eV 1)))))
noncomputable def f_trees_in : Fn := run 4 1 F_trees_in
noncomputable def F_is_variables : FS := (sRet (eAnd (eCall f_is_sequence (aC (eV 0) aN)) (eB (gAllAny fun bs => bs.all id) (aC (eFz (nLc [1] (iPl (eV 0)) (gN 1) cTrue (eCall f_is_name (aC (eV 1) aN)))) aN))))
noncomputable def f_is_variables : Fn := run 2 1 F_is_variables
noncomputable def F_is_walk_of_one_width : FS := (sSeq (sAsgG (gNs [1, 2, 3, 1, 4, 5]) (eV 0))
    (sSeq (sAsg 6 (eB gLen (aC (eV 2) aN)))
    (sSeq (sIf (tO (tNo (tB' (eChain pLe pLe (eC (.int 1)) (eV 6) (eC c_WIDEST_WALK)))) (tB' (e2 (gEq true) (eB gLen (aC (eV 3) aN)) (eV 6)))) (sRet (eC (.bl false))) sNx)
    (sSeq (sIf (tO (tB' (e2 (gEq true) (eB gLen (aC (eV 4) aN)) (eV 6))) (tB' (e2 (gEq true) (eB gLen (aC (eV 5) aN)) (eV 6)))) (sRet (eC (.bl false))) sNx)
    (sRet (eCall f_are_different_names (aC (e2 gAdd (eFz (nB gList (aC (eV 2) aN))) (eFz (nB gList (aC (eV 3) aN)))) (aC (e2 (gIc cMul fun i j => i * j) (eC (.int 2)) (eV 6)) aN))))))))
noncomputable def f_is_walk_of_one_width : Fn := run 7 1 F_is_walk_of_one_width
noncomputable def F_is_well_formed : FS := (sSeq (sIf (tO (tNo (tB' (eCall f_is_sequence (aC (eV 0) aN)))) (tO (tNo (tT (eV 0))) (tO (tNo (tB' (eIs .str (e2 gIxA (eV 0) (eC (.int 0)))))) (tB' (e2 (gInA true) (e2 gIxA (eV 0) (eC (.int 0))) (eC t_FORMS)))))) (sRet (eC (.bl false))) sNx)
    (sSeq (sAsg 1 (e2 gIxA (eC t_FORMS) (e2 gIxA (eV 0) (eC (.int 0)))))
    (sSeq (sIf (tB' (e2 (gEq true) (eB gLen (aC (eV 0) aN)) (e2 gAdd (eB gLen (aC (eV 1) aN)) (eC (.int 1))))) (sRet (eC (.bl false))) sNx)
    (sSeq (sFor (iZip (aC (eV 1) (aC (eSl (eV 0) (oS (eC (.int 1))) oN) aN))) (gNs [2, 3]) (sSeq (sIf (tA (tB' (e2 (gEq false) (eV 2) (eC (.str "v")))) (tNo (tB' (eCall f_is_name (aC (eV 3) aN))))) (sRet (eC (.bl false))) sNx)
    (sIf (tA (tB' (e2 (gEq false) (eV 2) (eC (.str "s")))) (tNo (tB' (eCall f_is_variables (aC (eV 3) aN))))) (sRet (eC (.bl false))) sNx)))
    (sSeq (sIf (tB' (e2 (gEq false) (e2 gIxA (eV 0) (eC (.int 0))) (eC (.str "rel")))) (sRet (eChain pLe pLe (eC (.int 1)) (eB gLen (aC (e2 gIxA (eV 0) (eC (.int 2))) aN)) (eC c_LARGEST_ARITY))) sNx)
    (sRet (eOr (e2 (gEq true) (e2 gIxA (eV 0) (eC (.int 0))) (eC (.str "walk"))) (eCall f_is_walk_of_one_width (aC (eV 0) aN)))))))))
noncomputable def f_is_well_formed : Fn := run 4 1 F_is_well_formed
noncomputable def F_check_tree : FS := (sSeq (sAsg 1 (eNew (nL (aC (eTup (aC (eV 0) (aC (eC (.int 1)) aN))) aN))))
    (sSeq (sAsg 2 (eNew (nD false)))
    (sSeq (sAsg 3 (eC (.int 0)))
    (sWhile 100000 (tT (eV 1)) (sSeq (sAsgG (gNs [4, 5]) (eMt0 mPop (eV 1)))
    (sSeq (sAugI 3 (eC (.int 1)))
    (sSeq (sIf (tO (tB' (e2 (gCmp pGt) (eV 3) (eC c_MOST_TREES))) (tO (tB' (e2 (gCmp pGt) (eV 5) (eC c_DEEPEST_TREE))) (tNo (tB' (eCall f_is_well_formed (aC (eV 4) aN)))))) (sRaise0 "BadQuestion") sNx)
    (sSeq (sIf (tA (tB' (e2 (gEq false) (e2 gIxA (eV 4) (eC (.int 0))) (eC (.str "rel")))) (tB' (e2 (gEq true) (eSetd (eV 2) (e2 gIxA (eV 4) (eC (.int 1))) (eB gLen (aC (e2 gIxA (eV 4) (eC (.int 2))) aN))) (eB gLen (aC (e2 gIxA (eV 4) (eC (.int 2))) aN))))) (sRaise0 "BadQuestion") sNx)
    (sFor (iPl (eCall f_parts_of (aC (eV 4) aN))) (gN 6) (sDrop (eMt mApp (eV 1) (aC (eTup (aC (eV 6) (aC (e2 gAdd (eV 5) (eC (.int 1))) aN))) aN))))))))))))
noncomputable def f_check_tree : Fn := run 7 1 F_check_tree
noncomputable def F_with_tuples (r_with_tuples : Fn) : FS := (sSeq (sAsg 1 (eNew (nL (aC (e2 gIxA (eV 0) (eC (.int 0))) aN))))
    (sSeq (sFor (iZip (aC (e2 gIxA (eC t_FORMS) (e2 gIxA (eV 0) (eC (.int 0)))) (aC (eSl (eV 0) (oS (eC (.int 1))) oN) aN))) (gNs [2, 3]) (sIf (tB' (e2 (gEq false) (eV 2) (eC (.str "t")))) (sDrop (eMt mApp (eV 1) (aC (eCall r_with_tuples (aC (eV 3) aN)) aN))) (sDrop (eMt mApp (eV 1) (aC (eIf (tB' (e2 (gEq false) (eV 2) (eC (.str "s")))) (eB gTuple (aC (eV 3) aN)) (eV 3)) aN)))))
    (sRet (eB gTuple (aC (eV 1) aN)))))
noncomputable def rec_with_tuples : Nat → Nat → Fn
  | 0, _ => fun _ _ => .no
  | b + 1, 0 => run 4 1 (F_with_tuples (rec_with_tuples b 0))
  | _ + 1, _ => fun _ _ => .no
noncomputable def F_Question_init : FS := (sSeq (sDrop (eCall f_check_tree (aC (eV 1) aN)))
    (sSeq (sStF csN "tree" (eV 0) (eCall (rec_with_tuples 60 0) (aC (eV 1) aN)))
    (sSeq (sAsg 2 (eCall f_trees_in (aC (e1 (gFld csN "tree") (eV 0)) aN)))
    (sSeq (sStF csN "_free" (eV 0) (eCall (rec_free_in 60 0) (aC (e1 (gFld csN "tree") (eV 0)) aN)))
    (sSeq (sStF csN "_uses" (eV 0) (eB gTuple (aC (eFz (nSsc [3] (iPl (eV 2)) (gN 3) (tB' (e2 (gEq false) (e2 gIxA (eV 3) (eC (.int 0))) (eC (.str "rel")))) (eTup (aC (e2 gIxA (eV 3) (eC (.int 1))) (aC (eB gLen (aC (e2 gIxA (eV 3) (eC (.int 2))) aN)) aN))))) aN)))
    (sSeq (sStF csN "_bare" (eV 0) (eNot (tB' (eB (gAllAny fun bs => bs.any id) (aC (eFz (nLc [3] (iPl (eV 2)) (gN 3) cTrue (e2 (gInA false) (e2 gIxA (eV 3) (eC (.int 0))) (eC c_BINDERS)))) aN)))))
    (sStF csN "_ordered" (eV 0) (eB (gAllAny fun bs => bs.any id) (aC (eFz (nLc [3] (iPl (eV 2)) (gN 3) cTrue (e2 (gInA false) (e2 gIxA (eV 3) (eC (.int 0))) (eC c_ORDERED)))) aN)))))))))
noncomputable def f_Question_init : Fn := run 4 2 F_Question_init
noncomputable def F_write_atom : FS := (sSeq (sAsg 1 (e2 gIxA (eV 0) (eC (.int 0))))
    (sSeq (sIf (tB' (e2 (gEq false) (eV 1) (eC (.str "rel")))) (sRet (e2 gAdd (e2 gAdd (e2 gAdd (e2 gIxA (eV 0) (eC (.int 1))) (eC (.str "("))) (eJoin (eC (.str ", ")) (e2 gIxA (eV 0) (eC (.int 2))))) (eC (.str ")")))) sNx)
    (sSeq (sIf (tB' (e2 (gEq false) (eV 1) (eC (.str "same")))) (sRet (e2 gAdd (e2 gAdd (e2 gIxA (eV 0) (eC (.int 1))) (eC (.str " = "))) (e2 gIxA (eV 0) (eC (.int 2))))) sNx)
    (sSeq (sIf (tB' (e2 (gEq false) (eV 1) (eC (.str "before")))) (sRet (e2 gAdd (e2 gAdd (e2 gIxA (eV 0) (eC (.int 1))) (eC (.str " < "))) (e2 gIxA (eV 0) (eC (.int 2))))) sNx)
    (sRet (e2 gAdd (e2 gAdd (e2 gAdd (eV 1) (eC (.str "("))) (eJoin (eC (.str ", ")) (eSl (eV 0) (oS (eC (.int 1))) oN))) (eC (.str ")"))))))))
noncomputable def f_write_atom : Fn := run 2 1 F_write_atom
noncomputable def F_write_walk (r_write_walk r_write_tree r_write_within : Fn) : FS := (sSeq (sAsgG (gNs [1, 2, 3, 4]) (eFz (nLc [5] (iPl (eTup (aC (eC (.int 1)) (aC (eC (.int 2)) (aC (eC (.int 4)) (aC (eC (.int 5)) aN)))))) (gN 5) cTrue (eJoin (eC (.str " ")) (e2 gIxA (eV 0) (eV 5))))))
    (sRet (eJs [(eC (.str "walk [")), (eFmt (eV 1)), (eC (.str " -> ")), (eFmt (eV 2)), (eC (.str ": ")), (eFmt (eCall r_write_tree (aC (e2 gIxA (eV 0) (eC (.int 3))) aN))), (eC (.str "] ")), (eFmt (eV 3)), (eC (.str " -> ")), (eFmt (eV 4))] PySem.Str.empty)))
noncomputable def F_write_tree (r_write_walk r_write_tree r_write_within : Fn) : FS := (sSeq (sAsg 1 (e2 gIxA (eV 0) (eC (.int 0))))
    (sSeq (sIf (tB' (e2 (gInA false) (eV 1) (eC c_ATOMS))) (sRet (eCall f_write_atom (aC (eV 0) aN))) sNx)
    (sSeq (sIf (tB' (e2 (gEq false) (eV 1) (eC (.str "walk")))) (sRet (eCall r_write_walk (aC (eV 0) aN))) sNx)
    (sSeq (sIf (tB' (e2 (gEq false) (eV 1) (eC (.str "not")))) (sRet (e2 gAdd (eC (.str "not ")) (eCall r_write_within (aC (e2 gIxA (eV 0) (eC (.int 1))) aN)))) sNx)
    (sSeq (sIf (tO (tB' (e2 (gEq false) (eV 1) (eC (.str "and")))) (tB' (e2 (gEq false) (eV 1) (eC (.str "or"))))) (sRet (eJs [(eFmt (eCall r_write_within (aC (e2 gIxA (eV 0) (eC (.int 1))) aN))), (eC (.str " ")), (eFmt (eV 1)), (eC (.str " ")), (eFmt (eCall r_write_within (aC (e2 gIxA (eV 0) (eC (.int 2))) aN)))] PySem.Str.empty)) sNx)
    (sSeq (sIf (tB' (e2 (gEq false) (eV 1) (eC (.str "more")))) (sRet (eJs [(eC (.str "more ")), (eFmt (e2 gIxA (eV 0) (eC (.int 1)))), (eC (.str ": (")), (eFmt (eCall r_write_tree (aC (e2 gIxA (eV 0) (eC (.int 2))) aN))), (eC (.str ") than ")), (eFmt (e2 gIxA (eV 0) (eC (.int 3)))), (eC (.str ": (")), (eFmt (eCall r_write_tree (aC (e2 gIxA (eV 0) (eC (.int 4))) aN))), (eC (.str ")"))] PySem.Str.empty)) sNx)
    (sRet (eJs [(eFmt (eV 1)), (eC (.str " ")), (eFmt (e2 gIxA (eV 0) (eC (.int 1)))), (eC (.str ": ")), (eFmt (eCall r_write_tree (aC (e2 gIxA (eV 0) (eC (.int 2))) aN)))] PySem.Str.empty))))))))
noncomputable def F_write_within (r_write_walk r_write_tree r_write_within : Fn) : FS := (sSeq (sIf (tO (tB' (e2 (gInA false) (e2 gIxA (eV 0) (eC (.int 0))) (eC c_ATOMS))) (tO (tB' (e2 (gEq false) (e2 gIxA (eV 0) (eC (.int 0))) (eC (.str "not")))) (tB' (e2 (gEq false) (e2 gIxA (eV 0) (eC (.int 0))) (eC (.str "walk")))))) (sRet (eCall r_write_tree (aC (eV 0) aN))) sNx)
    (sRet (e2 gAdd (e2 gAdd (eC (.str "(")) (eCall r_write_tree (aC (eV 0) aN))) (eC (.str ")")))))
noncomputable def rec_write_walk : Nat → Nat → Fn
  | 0, _ => fun _ _ => .no
  | b + 1, 0 => run 6 1 (F_write_walk (rec_write_walk b 0) (rec_write_walk b 1) (rec_write_walk b 2))
  | b + 1, 1 => run 2 1 (F_write_tree (rec_write_walk b 0) (rec_write_walk b 1) (rec_write_walk b 2))
  | b + 1, 2 => run 1 1 (F_write_within (rec_write_walk b 0) (rec_write_walk b 1) (rec_write_walk b 2))
  | _ + 1, _ => fun _ _ => .no
noncomputable def F_write_question : FS := (sRet (eCall (rec_write_walk 90 1) (aC (e1 (gFld csN "tree") (eV 0)) aN)))
noncomputable def f_write_question : Fn := run 1 1 F_write_question
noncomputable def F_law_cell : FS := (sSeq (sIf (tB' (e2 (gCmp pLt) (eV 1) (eB gLen (aC (eV 0) aN)))) (sRet (e2 gIxA (eV 0) (eV 1))) sNx)
    (sSeq (sAsg 2 (eC (.int 17)))
    (sSeq (sFor (iPl (eV 0)) (gN 3) (sAsg 2 (e2 (gIc cMod fun i j => i % j) (eB gInt (aC (e2 gAdd (e2 (gIc cMul fun i j => i * j) (eV 2) (eC (.int 31))) (e2 (gIc cMod fun i j => i % j) (eB gInt (aC (eV 3) aN)) (eC (.int 1000003)))) aN)) (eC (.int 1000003)))))
    (sRet (e2 (gIc cMod fun i j => i % j) (eB gInt (aC (e2 (gIc cMul fun i j => i * j) (e2 (gIc cMul fun i j => i * j) (e2 gAdd (eV 2) (eC (.int 7))) (e2 gAdd (eV 1) (eC (.int 3)))) (eC (.int 69621))) aN)) (eC (.int 2147483647)))))))
noncomputable def f_law_cell : Fn := run 4 2 F_law_cell
noncomputable def F_law_digits : FS := (sSeq (sAsg 2 (eNew (nL aN)))
    (sSeq (sAsg 3 (eB gInt (aC (eV 0) aN)))
    (sSeq (sIf (tB' (e2 (gCmp pGe) (eV 3) (e2 (gIc cPow fun i j => i ^ j.toNat) (eC (.int 10)) (eC (.int 18))))) (sSeq (sAsg 3 (e2 (gI fun i j => i - j) (eV 3) (e2 (gIc cPow fun i j => i ^ j.toNat) (eC (.int 10)) (eC (.int 18)))))
    (sSeq (sFor (iPl (eV 1)) (gN 4) (sSeq (sDrop (eMt mApp (eV 2) (aC (e2 (gIc cMod fun i j => i % j) (eB gInt (aC (eV 3) aN)) (eV 4)) aN)))
    (sAsg 3 (e2 (gIc cDiv fun i j => i / j) (eB gInt (aC (eV 3) aN)) (eV 4)))))
    (sRet (eV 2)))) sNx)
    (sSeq (sAsg 5 (e2 (gIc cMod fun i j => i % j) (eB gInt (aC (eV 3) aN)) (eC (.int 2147483629))))
    (sSeq (sFor (iR1 (aC (eB gLen (aC (eV 1) aN)) aN)) (gN 6) (sSeq (sAsg 5 (e2 (gIc cMod fun i j => i % j) (eB gInt (aC (e2 gAdd (e2 gAdd (e2 (gIc cMul fun i j => i * j) (eV 5) (eC (.int 48271))) (e2 (gIc cMul fun i j => i * j) (eC (.int 974711)) (eV 6))) (eC (.int 12345))) aN)) (eC (.int 2147483647))))
    (sSeq (sAsg 7 (e2 (gIc cMod fun i j => i % j) (eB gInt (aC (e2 (gIc cMul fun i j => i * j) (eV 5) (e2 gAdd (e2 (gIc cDiv fun i j => i / j) (eV 5) (eC (.int 65537))) (eC (.int 3)))) aN)) (eC (.int 2147483629))))
    (sDrop (eMt mApp (eV 2) (aC (e2 (gIc cMod fun i j => i % j) (e2 (gIc cDiv fun i j => i / j) (eV 7) (eC (.int 19))) (e2 gIxA (eV 1) (eV 6))) aN))))))
    (sRet (eV 2)))))))
noncomputable def f_law_digits : Fn := run 8 2 F_law_digits
noncomputable def F_law_stream : FS := (sRet (eCall f_law_digits (aC (eV 0) (aC (eFz (nLc [2] (iR1 (aC (eV 1) aN)) (gN 2) cTrue (eC (.int 60)))) aN))))
noncomputable def f_law_stream : Fn := run 3 2 F_law_stream
noncomputable def F_law_take : FS := (sSeq (sAsg 3 (e2 gIxA (eV 1) (eC (.int 0))))
    (sSeq (sSet (e2 gAdd (eV 3) (eC (.int 1))) (eV 1) (eC (.int 0)))
    (sRet (e2 (gIc cMod fun i j => i % j) (eB gInt (aC (e2 gAdd (e2 gIxA (eV 0) (e2 (gIc cMod fun i j => i % j) (eV 3) (eB gLen (aC (eV 0) aN)))) (e2 (gIc cMul fun i j => i * j) (e2 (gIc cDiv fun i j => i / j) (eV 3) (eB gLen (aC (eV 0) aN))) (eC (.int 7)))) aN)) (eV 2)))))
noncomputable def f_law_take : Fn := run 4 3 F_law_take
noncomputable def F_law_reserved : FS := (sRet (eFz (nL (aC (eC (.str "some")) (aC (eC (.str "every")) (aC (eC (.str "not")) (aC (eC (.str "and")) (aC (eC (.str "or")) (aC (eC (.str "walk")) (aC (eC (.str "more")) (aC (eC (.str "than")) (aC (eC (.str "first")) (aC (eC (.str "last")) (aC (eC (.str "next")) aN))))))))))))))
noncomputable def f_law_reserved : Fn := run 0 0 F_law_reserved
noncomputable def F_law_fresh : FS := (sSeq (sAsg 2 (eC (.str "0123456789abcdefghijklmnopqrstuvwxyz")))
    (sSeq (sAsg 3 (eV 0))
    (sSeq (sFor (iR1 (aC (eC (.int 36)) aN)) (gN 4) (sSeq (sIf (tB' (e2 (gInA true) (eV 3) (eV 1))) (sRet (eV 3)) sNx)
    (sAsg 3 (e2 gAdd (eSl (eV 3) oN (oS (eC (.int 11)))) (e2 gIxA (eV 2) (eV 4))))))
    (sRet (eV 3)))))
noncomputable def f_law_fresh : Fn := run 5 2 F_law_fresh
noncomputable def F_law_name : FS := (sSeq (sAsg 2 (eC (.str "abcdefghijklmnopqrstuvwxyz0123456789")))
    (sSeq (sAsg 3 (eFz (nL (aC (eC (.str "rel")) (aC (eC (.str "same")) (aC (eC (.str "before")) (aC (eC (.str "an")) (aC (eC (.str "ands")) (aC (eC (.str "or1")) (aC (eC (.str "no")) (aC (eC (.str "nots")) (aC (eC (.str "walk1")) (aC (eC (.str "mor")) aN)))))))))))))
    (sSeq (sAsg 3 (e2 gAdd (eV 3) (eFz (nL (aC (eC (.str "tha")) (aC (eC (.str "than2")) (aC (eC (.str "firs")) (aC (eC (.str "first1")) (aC (eC (.str "lasts")) (aC (eC (.str "nex")) (aC (eC (.str "next0")) (aC (eC (.str "somes")) (aC (eC (.str "ever")) (aC (eC (.str "everyy")) aN))))))))))))))
    (sSeq (sAsg 4 (eCall f_law_take (aC (eV 0) (aC (eV 1) (aC (eC (.int 20)) aN)))))
    (sSeq (sIf (tB' (e2 (gCmp pLt) (eV 4) (eC (.int 4)))) (sRet (e2 gIxA (eV 3) (eCall f_law_take (aC (eV 0) (aC (eV 1) (aC (eC (.int 20)) aN)))))) sNx)
    (sSeq (sAsg 5 (e2 gIxA (eFz (nL (aC (eC (.int 1)) (aC (eC (.int 1)) (aC (eC (.int 2)) (aC (eC (.int 12)) (aC (eC (.int 3)) (aC (eC (.int 6)) (aC (eC (.int 1)) (aC (eC (.int 2)) (aC (eC (.int 11)) (aC (eC (.int 4)) (aC (eC (.int 12)) (aC (eC (.int 1)) (aC (eC (.int 2)) (aC (eC (.int 8)) (aC (eC (.int 5)) (aC (eC (.int 3)) aN)))))))))))))))))) (e2 (gI fun i j => i - j) (eV 4) (eC (.int 4)))))
    (sSeq (sAsg 6 (e2 gIxA (eV 2) (eCall f_law_take (aC (eV 0) (aC (eV 1) (aC (eC (.int 26)) aN))))))
    (sSeq (sFor (iR1 (aC (e2 (gI fun i j => i - j) (eV 5) (eC (.int 1))) aN)) (gN 7) (sAsg 6 (e2 gAdd (eV 6) (e2 gIxA (eV 2) (eCall f_law_take (aC (eV 0) (aC (eV 1) (aC (eC (.int 36)) aN))))))))
    (sRet (eV 6))))))))))
noncomputable def f_law_name : Fn := run 8 2 F_law_name
noncomputable def F_law_pool : FS := (sSeq (sAsg 2 (eC (.str "abcdefghijklmnopqrstuvwxyz")))
    (sSeq (sAsg 3 (eCall f_law_stream (aC (eV 0) (aC (eC (.int 90)) aN))))
    (sSeq (sAsg 4 (eNew (nL (aC (eC (.int 1)) aN))))
    (sSeq (sAsg 5 (eNew (nL aN)))
    (sSeq (sFor (iR1 (aC (eV 1) aN)) (gN 6) (sSeq (sAsg 7 (eCall f_law_name (aC (eV 3) (aC (eV 4) aN))))
    (sSeq (sIf (tA (tB' (e2 (gCmp pGt) (eV 6) (eC (.int 0)))) (tB' (e2 (gEq false) (e2 (gIc cMod fun i j => i % j) (eB gInt (aC (e2 gIxA (eV 3) (eC (.int 0))) aN)) (eC (.int 2))) (eC (.int 1))))) (sSeq (sAsg 8 (eCall f_law_take (aC (eV 3) (aC (eV 4) (aC (eB gLen (aC (e2 gIxA (eV 5) (eC (.int 0))) aN)) aN)))))
    (sAsg 7 (e2 gAdd (e2 gAdd (eSl (e2 gIxA (eV 5) (eC (.int 0))) oN (oS (eV 8))) (e2 gIxA (eV 2) (eCall f_law_take (aC (eV 3) (aC (eV 4) (aC (eC (.int 26)) aN)))))) (eSl (e2 gIxA (eV 5) (eC (.int 0))) (oS (e2 gAdd (eV 8) (eC (.int 1)))) oN)))) sNx)
    (sDrop (eMt mApp (eV 5) (aC (eCall f_law_fresh (aC (eV 7) (aC (e2 gAdd (eV 5) (eCall f_law_reserved aN)) aN))) aN))))))
    (sRet (eV 5)))))))
noncomputable def f_law_pool : Fn := run 9 2 F_law_pool
noncomputable def F_law_pairs : FS := (sSeq (sAsg 2 (eCall f_law_stream (aC (eV 0) (aC (eC (.int 90)) aN))))
    (sSeq (sAsg 3 (eCall f_law_pool (aC (eV 0) (aC (eC (.int 4)) aN))))
    (sSeq (sIf (tB' (e2 (gEq false) (e2 (gIc cMod fun i j => i % j) (eB gInt (aC (e2 gIxA (eV 2) (eC (.int 84))) aN)) (eC (.int 4))) (eC (.int 0)))) (sAsg 3 (eFz (nLc [4] (iR1 (aC (eC (.int 4)) aN)) (gN 4) cTrue (e2 gIxA (eV 1) (eV 4))))) sNx)
    (sRet (eFz (nLc [4] (iR1 (aC (eC (.int 4)) aN)) (gN 4) cTrue (eFz (nL (aC (e2 gIxA (eV 3) (eV 4)) (aC (e2 gAdd (eC (.int 1)) (e2 (gIc cMod fun i j => i % j) (eB gInt (aC (e2 gIxA (eV 2) (e2 gAdd (eC (.int 80)) (eV 4))) aN)) (eC (.int 3)))) aN))))))))))
noncomputable def f_law_pairs : Fn := run 5 2 F_law_pairs
noncomputable def F_law_atom : FS := (sSeq (sAsg 4 (eCall f_law_take (aC (eV 0) (aC (eV 1) (aC (eC (.int 10)) aN)))))
    (sSeq (sAsg 5 (e2 gIxA (eV 2) (eCall f_law_take (aC (eV 0) (aC (eV 1) (aC (eB gLen (aC (eV 2) aN)) aN))))))
    (sSeq (sAsg 6 (e2 gIxA (eV 2) (eCall f_law_take (aC (eV 0) (aC (eV 1) (aC (eB gLen (aC (eV 2) aN)) aN))))))
    (sSeq (sIf (tB' (e2 (gCmp pLt) (eV 4) (eC (.int 5)))) (sSeq (sAsg 7 (e2 gIxA (eV 3) (eCall f_law_take (aC (eV 0) (aC (eV 1) (aC (eB gLen (aC (eV 3) aN)) aN))))))
    (sSeq (sAsg 8 (e2 gIxA (eV 2) (eCall f_law_take (aC (eV 0) (aC (eV 1) (aC (eB gLen (aC (eV 2) aN)) aN))))))
    (sRet (eTup (aC (eC (.str "rel")) (aC (e2 gIxA (eV 7) (eC (.int 0))) (aC (eB gTuple (aC (eSl (eFz (nL (aC (eV 5) (aC (eV 6) (aC (eV 8) aN))))) oN (oS (e2 gIxA (eV 7) (eC (.int 1))))) aN)) aN))))))) sNx)
    (sSeq (sIf (tB' (e2 (gCmp pLt) (eV 4) (eC (.int 8)))) (sRet (eTup (aC (e2 gIxA (eFz (nL (aC (eC (.str "same")) (aC (eC (.str "before")) (aC (eC (.str "next")) aN))))) (e2 (gI fun i j => i - j) (eV 4) (eC (.int 5)))) (aC (eV 5) (aC (eV 6) aN))))) sNx)
    (sRet (eTup (aC (e2 gIxA (eFz (nL (aC (eC (.str "first")) (aC (eC (.str "last")) aN)))) (e2 (gI fun i j => i - j) (eV 4) (eC (.int 8)))) (aC (eV 5) aN)))))))))
noncomputable def f_law_atom : Fn := run 9 4 F_law_atom
noncomputable def F_law_walk (r_law_walk r_law_tree : Fn) : FS := (sSeq (sAsg 6 (eCall f_law_take (aC (eV 0) (aC (eV 1) (aC (eC (.int 60)) aN)))))
    (sSeq (sAsg 7 (eFz (nLc [15] (iR1 (aC (e2 (gIc cMul fun i j => i * j) (eC (.int 2)) (eV 5)) aN)) (gN 15) cTrue (e2 gIxA (eV 3) (e2 (gIc cMod fun i j => i % j) (eB gInt (aC (e2 gAdd (eV 6) (eV 15)) aN)) (eB gLen (aC (eV 3) aN)))))))
    (sSeq (sIf (tB' (e2 (gCmp pGt) (e2 (gIc cMul fun i j => i * j) (eC (.int 2)) (eV 5)) (eB gLen (aC (eV 3) aN)))) (sAsg 7 (eFz (nLc [15] (iR1 (aC (e2 (gIc cMul fun i j => i * j) (eC (.int 2)) (eV 5)) aN)) (gN 15) cTrue (e2 gAdd (eSl (e2 gIxA (eV 3) (e2 (gIc cMod fun i j => i % j) (eV 6) (eB gLen (aC (eV 3) aN)))) oN (oS (eC (.int 9)))) (eB gStr (aC (e2 (gIc cMod fun i j => i % j) (eB gInt (aC (e2 gAdd (eV 6) (eV 15)) aN)) (e2 (gIc cMul fun i j => i * j) (eC (.int 2)) (eV 5))) aN)))))) sNx)
    (sSeq (sAsg 8 (eBy false (nLc [15] (iR1 (aC (eV 5) aN)) (gN 15) cTrue (e2 gIxA (eV 7) (eV 15)))))
    (sSeq (sAsg 9 (eBy false (nLc [15] (iR1 (aC (eV 5) aN)) (gN 15) cTrue (e2 gIxA (eV 7) (e2 gAdd (eV 5) (eV 15))))))
    (sSeq (sIf (tB' (e2 (gEq false) (eCall f_law_take (aC (eV 0) (aC (eV 1) (aC (eC (.int 2)) aN)))) (eC (.int 1)))) (sSeq (sAsg 8 (eBy false (nLc [15] (iR1 (aC (eV 5) aN)) (gN 15) cTrue (e2 gIxA (eV 7) (e2 (gIc cMul fun i j => i * j) (eC (.int 2)) (eV 15))))))
    (sAsg 9 (eBy false (nLc [15] (iR1 (aC (eV 5) aN)) (gN 15) cTrue (e2 gIxA (eV 7) (e2 gAdd (e2 (gIc cMul fun i j => i * j) (eC (.int 2)) (eV 15)) (eC (.int 1)))))))) sNx)
    (sSeq (sAsg 10 (eNew (nL aN)))
    (sSeq (sFor (iPl (e2 gAdd (eFz (nL (aC (e2 gIxA (eV 8) (eC (.int 0))) (aC (e2 gIxA (eV 9) (eC (.int 0))) (aC (e2 gIxA (eV 8) (e2 (gI fun i j => i - j) (eV 5) (eC (.int 1)))) (aC (e2 gIxA (eV 9) (e2 (gI fun i j => i - j) (eV 5) (eC (.int 1)))) aN)))))) (eV 3))) (gN 11) (sIf (tB' (e2 (gInA true) (eV 11) (eV 10))) (sDrop (eMt mApp (eV 10) (aC (eV 11) aN))) sNx))
    (sSeq (sAsg 12 (eCall r_law_tree (aC (eV 0) (aC (eV 1) (aC (e2 (gI fun i j => i - j) (eV 2) (eC (.int 1))) (aC (eSl (eV 10) oN (oS (eC (.int 6)))) (aC (eV 4) aN)))))))
    (sSeq (sAsg 13 (eBy false (nLc [15] (iR1 (aC (eV 5) aN)) (gN 15) cTrue (e2 gIxA (eV 3) (eCall f_law_take (aC (eV 0) (aC (eV 1) (aC (eB gLen (aC (eV 3) aN)) aN))))))))
    (sSeq (sAsg 14 (eBy false (nLc [15] (iR1 (aC (eV 5) aN)) (gN 15) cTrue (e2 gIxA (eV 3) (eCall f_law_take (aC (eV 0) (aC (eV 1) (aC (eB gLen (aC (eV 3) aN)) aN))))))))
    (sSeq (sIf (tA (tB' (e2 (gCmp pGt) (eV 5) (eC (.int 3)))) (tB' (e2 (gEq false) (e2 (gIc cMod fun i j => i % j) (eB gInt (aC (eV 6) aN)) (eC (.int 2))) (eC (.int 0))))) (sAsg 13 (eBy false (nLc [15] (iR1 (aC (eV 5) aN)) (gN 15) cTrue (e2 gAdd (eSl (e2 gIxA (eV 3) (e2 (gIc cMod fun i j => i % j) (eB gInt (aC (e2 gAdd (eV 6) (eC (.int 1))) aN)) (eB gLen (aC (eV 3) aN)))) oN (oS (eC (.int 9)))) (eB gStr (aC (e2 (gIc cMod fun i j => i % j) (eB gInt (aC (e2 gAdd (e2 (gIc cMul fun i j => i * j) (eV 15) (eC (.int 7))) (eV 6)) aN)) (eC (.int 100))) aN)))))) sNx)
    (sRet (eTup (aC (eC (.str "walk")) (aC (eB gTuple (aC (eV 8) aN)) (aC (eB gTuple (aC (eV 9) aN)) (aC (eV 12) (aC (eB gTuple (aC (eV 13) aN)) (aC (eB gTuple (aC (eV 14) aN)) aN))))))))))))))))))))
noncomputable def F_law_tree (r_law_walk r_law_tree : Fn) : FS := (sSeq (sAsg 5 (eCall f_law_take (aC (eV 0) (aC (eV 1) (aC (eC (.int 15)) aN)))))
    (sSeq (sIf (tA (tB' (e2 (gCmp pGe) (eV 2) (eC (.int 4)))) (tA (tB' (e2 (gCmp pLt) (eV 5) (eC (.int 4)))) (tB' (e2 (gCmp pGt) (eCall f_law_take (aC (eV 0) (aC (eV 1) (aC (eC (.int 9)) aN)))) (eC (.int 0)))))) (sAsg 5 (e2 gAdd (eV 5) (eC (.int 5)))) sNx)
    (sSeq (sIf (tO (tB' (e2 (gCmp pLe) (eV 2) (eC (.int 1)))) (tB' (e2 (gCmp pLt) (eV 5) (eC (.int 4))))) (sRet (eCall f_law_atom (aC (eV 0) (aC (eV 1) (aC (eV 3) (aC (eV 4) aN)))))) sNx)
    (sSeq (sIf (tB' (e2 (gCmp pLt) (eV 5) (eC (.int 6)))) (sRet (eTup (aC (eC (.str "not")) (aC (eCall r_law_tree (aC (eV 0) (aC (eV 1) (aC (e2 (gI fun i j => i - j) (eV 2) (eC (.int 1))) (aC (eV 3) (aC (eV 4) aN)))))) aN)))) sNx)
    (sSeq (sIf (tB' (e2 (gCmp pLt) (eV 5) (eC (.int 9)))) (sSeq (sAsg 6 (eCall r_law_tree (aC (eV 0) (aC (eV 1) (aC (e2 (gI fun i j => i - j) (eV 2) (eC (.int 1))) (aC (eV 3) (aC (eV 4) aN)))))))
    (sRet (eTup (aC (e2 gIxA (eFz (nL (aC (eC (.str "and")) (aC (eC (.str "or")) aN)))) (eCall f_law_take (aC (eV 0) (aC (eV 1) (aC (eC (.int 2)) aN))))) (aC (eV 6) (aC (eCall r_law_tree (aC (eV 0) (aC (eV 1) (aC (e2 (gI fun i j => i - j) (eV 2) (eC (.int 1))) (aC (eV 3) (aC (eV 4) aN)))))) aN)))))) sNx)
    (sSeq (sAsg 7 (e2 gIxA (eV 3) (eCall f_law_take (aC (eV 0) (aC (eV 1) (aC (eB gLen (aC (eV 3) aN)) aN))))))
    (sSeq (sIf (tB' (e2 (gCmp pLt) (eV 5) (eC (.int 11)))) (sRet (eTup (aC (e2 gIxA (eFz (nL (aC (eC (.str "some")) (aC (eC (.str "every")) aN)))) (e2 (gI fun i j => i - j) (eV 5) (eC (.int 9)))) (aC (eV 7) (aC (eCall r_law_tree (aC (eV 0) (aC (eV 1) (aC (e2 (gI fun i j => i - j) (eV 2) (eC (.int 1))) (aC (eV 3) (aC (eV 4) aN)))))) aN))))) sNx)
    (sSeq (sIf (tB' (e2 (gCmp pLt) (eV 5) (eC (.int 13)))) (sSeq (sAsg 8 (e2 gIxA (eV 3) (eCall f_law_take (aC (eV 0) (aC (eV 1) (aC (eB gLen (aC (eV 3) aN)) aN))))))
    (sSeq (sAsg 6 (eCall r_law_tree (aC (eV 0) (aC (eV 1) (aC (e2 (gI fun i j => i - j) (eV 2) (eC (.int 1))) (aC (eV 3) (aC (eV 4) aN)))))))
    (sRet (eTup (aC (eC (.str "more")) (aC (eV 7) (aC (eV 6) (aC (eV 8) (aC (eCall r_law_tree (aC (eV 0) (aC (eV 1) (aC (e2 (gI fun i j => i - j) (eV 2) (eC (.int 1))) (aC (eV 3) (aC (eV 4) aN)))))) aN))))))))) sNx)
    (sRet (eCall r_law_walk (aC (eV 0) (aC (eV 1) (aC (eV 2) (aC (eV 3) (aC (eV 4) (aC (e2 gIxA (eFz (nL (aC (eC (.int 1)) (aC (eC (.int 1)) (aC (eC (.int 2)) (aC (eC (.int 1)) (aC (eC (.int 3)) (aC (eC (.int 2)) aN)))))))) (eCall f_law_take (aC (eV 0) (aC (eV 1) (aC (eC (.int 6)) aN))))) aN))))))))))))))))
noncomputable def rec_law_walk : Nat → Nat → Fn
  | 0, _ => fun _ _ => .no
  | b + 1, 0 => run 16 6 (F_law_walk (rec_law_walk b 0) (rec_law_walk b 1))
  | b + 1, 1 => run 9 5 (F_law_tree (rec_law_walk b 0) (rec_law_walk b 1))
  | _ + 1, _ => fun _ _ => .no
noncomputable def F_law_drawn : FS := (sSeq (sAsg 4 (e2 gAdd (eCall f_law_stream (aC (eV 0) (aC (eC (.int 90)) aN))) (eCall f_law_stream (aC (eV 1) (aC (eC (.int 90)) aN)))))
    (sSeq (sAsg 5 (eNew (nL (aC (eC (.int 2)) aN))))
    (sSeq (sAsg 6 (e2 (gIc cMod fun i j => i % j) (eB gInt (aC (e2 gIxA (eV 4) (eC (.int 0))) aN)) (eC (.int 8))))
    (sSeq (sIf (tB' (e2 (gEq false) (eV 6) (eC (.int 0)))) (sRet (eCall (rec_law_walk 60 0) (aC (eV 4) (aC (eV 5) (aC (eC (.int 3)) (aC (eV 2) (aC (eV 3) (aC (e2 gIxA (eFz (nL (aC (e2 gAdd (eC (.int 1)) (eB gInt (aC (e2 gIxA (eV 4) (eC (.int 1))) aN))) (aC (eC (.int 60)) aN)))) (e2 (gIc cMod fun i j => i % j) (e2 (gIc cDiv fun i j => i / j) (eB gInt (aC (e2 gIxA (eV 4) (eC (.int 1))) aN)) (eC (.int 7))) (eC (.int 2)))) aN)))))))) sNx)
    (sSeq (sAsg 7 (eCall (rec_law_walk 60 1) (aC (eV 4) (aC (eV 5) (aC (eC (.int 6)) (aC (eV 2) (aC (eV 3) aN)))))))
    (sSeq (sIf (tB' (e2 (gEq false) (eV 6) (eC (.int 1)))) (sFor (iR1 (aC (e2 (gIc cMod fun i j => i % j) (eB gInt (aC (e2 gIxA (eV 4) (eC (.int 1))) aN)) (eC (.int 30))) aN)) (gN 8) (sSeq (sAsg 9 (eCall (rec_law_walk 60 1) (aC (eV 4) (aC (eV 5) (aC (eC (.int 2)) (aC (eV 2) (aC (eV 3) aN)))))))
    (sIf (tB' (e2 (gEq false) (eCall f_law_take (aC (eV 4) (aC (eV 5) (aC (eC (.int 2)) aN)))) (eC (.int 1)))) (sAsg 7 (eTup (aC (e2 gIxA (eFz (nL (aC (eC (.str "and")) (aC (eC (.str "or")) aN)))) (eCall f_law_take (aC (eV 4) (aC (eV 5) (aC (eC (.int 2)) aN))))) (aC (eV 7) (aC (eV 9) aN))))) (sAsg 7 (eTup (aC (e2 gIxA (eFz (nL (aC (eC (.str "and")) (aC (eC (.str "or")) aN)))) (eCall f_law_take (aC (eV 4) (aC (eV 5) (aC (eC (.int 2)) aN))))) (aC (eV 9) (aC (eV 7) aN)))))))) sNx)
    (sRet (eV 7))))))))
noncomputable def f_law_drawn : Fn := run 10 4 F_law_drawn
noncomputable def F_law_size (r_law_size : Fn) : FS := (sSeq (sAsg 1 (e2 gIxA (eV 0) (eC (.int 0))))
    (sSeq (sIf (tB' (e2 (gEq false) (eV 1) (eC (.str "not")))) (sRet (e2 gAdd (eC (.int 1)) (eCall r_law_size (aC (e2 gIxA (eV 0) (eC (.int 1))) aN)))) sNx)
    (sSeq (sIf (tB' (e2 (gInA false) (eV 1) (eFz (nL (aC (eC (.str "and")) (aC (eC (.str "or")) aN)))))) (sRet (e2 gAdd (e2 gAdd (eC (.int 1)) (eCall r_law_size (aC (e2 gIxA (eV 0) (eC (.int 1))) aN))) (eCall r_law_size (aC (e2 gIxA (eV 0) (eC (.int 2))) aN)))) sNx)
    (sSeq (sIf (tB' (e2 (gInA false) (eV 1) (eFz (nL (aC (eC (.str "some")) (aC (eC (.str "every")) aN)))))) (sRet (e2 gAdd (eC (.int 1)) (eCall r_law_size (aC (e2 gIxA (eV 0) (eC (.int 2))) aN)))) sNx)
    (sSeq (sIf (tB' (e2 (gEq false) (eV 1) (eC (.str "more")))) (sRet (e2 gAdd (e2 gAdd (eC (.int 1)) (eCall r_law_size (aC (e2 gIxA (eV 0) (eC (.int 2))) aN))) (eCall r_law_size (aC (e2 gIxA (eV 0) (eC (.int 4))) aN)))) sNx)
    (sSeq (sIf (tB' (e2 (gEq false) (eV 1) (eC (.str "walk")))) (sRet (e2 gAdd (eC (.int 1)) (eCall r_law_size (aC (e2 gIxA (eV 0) (eC (.int 3))) aN)))) sNx)
    (sRet (eC (.int 1)))))))))
noncomputable def rec_law_size : Nat → Nat → Fn
  | 0, _ => fun _ _ => .no
  | b + 1, 0 => run 2 1 (F_law_size (rec_law_size b 0))
  | _ + 1, _ => fun _ _ => .no
noncomputable def F_law_changed : FS := (sSeq (sAsg 3 (e2 gIxA (eV 0) (eC (.int 0))))
    (sSeq (sAsg 4 (e2 (gIc cMod fun i j => i % j) (eB gInt (aC (e2 gIxA (eV 1) (eC (.int 2))) aN)) (eC (.int 4))))
    (sSeq (sAsg 5 (e2 gIxA (eV 2) (e2 (gIc cMod fun i j => i % j) (eB gInt (aC (e2 gIxA (eV 1) (eC (.int 3))) aN)) (eB gLen (aC (eV 2) aN)))))
    (sSeq (sIf (tB' (e2 (gEq false) (eV 4) (eC (.int 0)))) (sRet (eV 0)) sNx)
    (sSeq (sIf (tB' (e2 (gEq false) (eV 3) (eC (.str "rel")))) (sSeq (sAsg 6 (e2 (gIc cMod fun i j => i % j) (eB gInt (aC (e2 gIxA (eV 1) (eC (.int 4))) aN)) (eB gLen (aC (e2 gIxA (eV 0) (eC (.int 2))) aN))))
    (sRet (eTup (aC (eC (.str "rel")) (aC (e2 gIxA (eV 0) (eC (.int 1))) (aC (e2 gAdd (e2 gAdd (eSl (e2 gIxA (eV 0) (eC (.int 2))) oN (oS (eV 6))) (eTup (aC (eV 5) aN))) (eSl (e2 gIxA (eV 0) (eC (.int 2))) (oS (e2 gAdd (eV 6) (eC (.int 1)))) oN)) aN)))))) sNx)
    (sSeq (sIf (tB' (e2 (gInA false) (eV 3) (eFz (nL (aC (eC (.str "same")) (aC (eC (.str "before")) (aC (eC (.str "next")) aN))))))) (sSeq (sAsg 7 (e2 gIxA (eFz (nL (aC (eC (.str "same")) (aC (eC (.str "before")) (aC (eC (.str "next")) aN))))) (e2 (gIc cMod fun i j => i % j) (eB gInt (aC (e2 gIxA (eV 1) (eC (.int 4))) aN)) (eC (.int 3)))))
    (sRet (e2 gIxA (eFz (nL (aC (eTup (aC (eV 7) (aC (e2 gIxA (eV 0) (eC (.int 1))) (aC (e2 gIxA (eV 0) (eC (.int 2))) aN)))) (aC (eTup (aC (eV 3) (aC (e2 gIxA (eV 0) (eC (.int 2))) (aC (e2 gIxA (eV 0) (eC (.int 1))) aN)))) (aC (eTup (aC (eV 3) (aC (e2 gIxA (eV 0) (eC (.int 1))) (aC (eV 5) aN)))) aN))))) (e2 (gI fun i j => i - j) (eV 4) (eC (.int 1)))))) sNx)
    (sSeq (sIf (tB' (e2 (gInA false) (eV 3) (eFz (nL (aC (eC (.str "first")) (aC (eC (.str "last")) aN)))))) (sRet (e2 gIxA (eFz (nL (aC (eTup (aC (e2 gIxA (eFz (nL (aC (eC (.str "first")) (aC (eC (.str "last")) aN)))) (eB gInt (aC (e2 (gEq false) (eV 3) (eC (.str "first"))) aN))) (aC (e2 gIxA (eV 0) (eC (.int 1))) aN))) (aC (eTup (aC (eV 3) (aC (eV 5) aN))) aN)))) (e2 (gIc cMod fun i j => i % j) (eV 4) (eC (.int 2))))) sNx)
    (sSeq (sIf (tB' (e2 (gEq false) (eV 3) (eC (.str "not")))) (sRet (e2 gIxA (eFz (nL (aC (e2 gIxA (eV 0) (eC (.int 1))) (aC (eTup (aC (eC (.str "not")) (aC (eV 0) aN))) aN)))) (e2 (gIc cMod fun i j => i % j) (eV 4) (eC (.int 2))))) sNx)
    (sSeq (sIf (tB' (e2 (gInA false) (eV 3) (eFz (nL (aC (eC (.str "and")) (aC (eC (.str "or")) aN)))))) (sSeq (sAsg 8 (e2 gIxA (eFz (nL (aC (eC (.str "and")) (aC (eC (.str "or")) aN)))) (eB gInt (aC (e2 (gEq false) (eV 3) (eC (.str "and"))) aN))))
    (sRet (e2 gIxA (eFz (nL (aC (eTup (aC (eV 8) (aC (e2 gIxA (eV 0) (eC (.int 1))) (aC (e2 gIxA (eV 0) (eC (.int 2))) aN)))) (aC (eTup (aC (eV 3) (aC (e2 gIxA (eV 0) (eC (.int 2))) (aC (e2 gIxA (eV 0) (eC (.int 1))) aN)))) (aC (eTup (aC (eC (.str "not")) (aC (eV 0) aN))) aN))))) (e2 (gI fun i j => i - j) (eV 4) (eC (.int 1)))))) sNx)
    (sSeq (sIf (tB' (e2 (gInA false) (eV 3) (eFz (nL (aC (eC (.str "some")) (aC (eC (.str "every")) aN)))))) (sSeq (sAsg 8 (e2 gIxA (eFz (nL (aC (eC (.str "some")) (aC (eC (.str "every")) aN)))) (eB gInt (aC (e2 (gEq false) (eV 3) (eC (.str "some"))) aN))))
    (sRet (e2 gIxA (eFz (nL (aC (eTup (aC (eV 8) (aC (e2 gIxA (eV 0) (eC (.int 1))) (aC (e2 gIxA (eV 0) (eC (.int 2))) aN)))) (aC (eTup (aC (eV 3) (aC (eV 5) (aC (e2 gIxA (eV 0) (eC (.int 2))) aN)))) aN)))) (e2 (gIc cMod fun i j => i % j) (eV 4) (eC (.int 2)))))) sNx)
    (sSeq (sIf (tB' (e2 (gEq false) (eV 3) (eC (.str "more")))) (sSeq (sIf (tB' (e2 (gEq false) (eV 4) (eC (.int 1)))) (sRet (eTup (aC (eC (.str "more")) (aC (e2 gIxA (eV 0) (eC (.int 3))) (aC (e2 gIxA (eV 0) (eC (.int 4))) (aC (e2 gIxA (eV 0) (eC (.int 1))) (aC (e2 gIxA (eV 0) (eC (.int 2))) aN))))))) sNx)
    (sRet (e2 gIxA (eFz (nL (aC (eTup (aC (eC (.str "more")) (aC (eV 5) (aC (e2 gIxA (eV 0) (eC (.int 2))) (aC (e2 gIxA (eV 0) (eC (.int 3))) (aC (e2 gIxA (eV 0) (eC (.int 4))) aN)))))) (aC (eTup (aC (eC (.str "more")) (aC (e2 gIxA (eV 0) (eC (.int 1))) (aC (e2 gIxA (eV 0) (eC (.int 2))) (aC (eV 5) (aC (e2 gIxA (eV 0) (eC (.int 4))) aN)))))) aN)))) (e2 (gI fun i j => i - j) (eV 4) (eC (.int 2)))))) sNx)
    (sSeq (sIf (tB' (e2 (gEq false) (eV 4) (eC (.int 1)))) (sRet (eTup (aC (eC (.str "walk")) (aC (e2 gIxA (eV 0) (eC (.int 2))) (aC (e2 gIxA (eV 0) (eC (.int 1))) (aC (e2 gIxA (eV 0) (eC (.int 3))) (aC (e2 gIxA (eV 0) (eC (.int 4))) (aC (e2 gIxA (eV 0) (eC (.int 5))) aN)))))))) sNx)
    (sSeq (sIf (tB' (e2 (gEq false) (eV 4) (eC (.int 2)))) (sRet (eTup (aC (eC (.str "walk")) (aC (e2 gIxA (eV 0) (eC (.int 1))) (aC (e2 gIxA (eV 0) (eC (.int 2))) (aC (e2 gIxA (eV 0) (eC (.int 3))) (aC (e2 gIxA (eV 0) (eC (.int 5))) (aC (e2 gIxA (eV 0) (eC (.int 4))) aN)))))))) sNx)
    (sRet (eTup (aC (eC (.str "walk")) (aC (e2 gIxA (eV 0) (eC (.int 1))) (aC (e2 gIxA (eV 0) (eC (.int 2))) (aC (e2 gIxA (eV 0) (eC (.int 3))) (aC (e2 gAdd (eTup (aC (eV 5) aN)) (eSl (e2 gIxA (eV 0) (eC (.int 4))) (oS (eC (.int 1))) oN)) (aC (e2 gIxA (eV 0) (eC (.int 5))) aN)))))))))))))))))))))
noncomputable def f_law_changed : Fn := run 9 3 F_law_changed
noncomputable def F_law_edited (r_law_edited : Fn) : FS := (sSeq (sSet (e2 (gI fun i j => i - j) (e2 gIxA (eV 1) (eC (.int 0))) (eC (.int 1))) (eV 1) (eC (.int 0)))
    (sSeq (sIf (tB' (e2 (gEq false) (e2 gIxA (eV 1) (eC (.int 0))) (e1 gNeg (eC (.int 1))))) (sRet (eCall f_law_changed (aC (eV 0) (aC (eV 2) (aC (eV 3) aN))))) sNx)
    (sSeq (sAsg 4 (e2 gIxA (eV 0) (eC (.int 0))))
    (sSeq (sIf (tB' (e2 (gEq false) (eV 4) (eC (.str "not")))) (sRet (eTup (aC (eC (.str "not")) (aC (eCall r_law_edited (aC (e2 gIxA (eV 0) (eC (.int 1))) (aC (eV 1) (aC (eV 2) (aC (eV 3) aN))))) aN)))) sNx)
    (sSeq (sIf (tB' (e2 (gInA false) (eV 4) (eFz (nL (aC (eC (.str "and")) (aC (eC (.str "or")) aN)))))) (sSeq (sAsg 5 (eCall r_law_edited (aC (e2 gIxA (eV 0) (eC (.int 1))) (aC (eV 1) (aC (eV 2) (aC (eV 3) aN))))))
    (sRet (eTup (aC (eV 4) (aC (eV 5) (aC (eCall r_law_edited (aC (e2 gIxA (eV 0) (eC (.int 2))) (aC (eV 1) (aC (eV 2) (aC (eV 3) aN))))) aN)))))) sNx)
    (sSeq (sIf (tB' (e2 (gInA false) (eV 4) (eFz (nL (aC (eC (.str "some")) (aC (eC (.str "every")) aN)))))) (sRet (eTup (aC (eV 4) (aC (e2 gIxA (eV 0) (eC (.int 1))) (aC (eCall r_law_edited (aC (e2 gIxA (eV 0) (eC (.int 2))) (aC (eV 1) (aC (eV 2) (aC (eV 3) aN))))) aN))))) sNx)
    (sSeq (sIf (tB' (e2 (gEq false) (eV 4) (eC (.str "more")))) (sSeq (sAsg 5 (eCall r_law_edited (aC (e2 gIxA (eV 0) (eC (.int 2))) (aC (eV 1) (aC (eV 2) (aC (eV 3) aN))))))
    (sRet (eTup (aC (eC (.str "more")) (aC (e2 gIxA (eV 0) (eC (.int 1))) (aC (eV 5) (aC (e2 gIxA (eV 0) (eC (.int 3))) (aC (eCall r_law_edited (aC (e2 gIxA (eV 0) (eC (.int 4))) (aC (eV 1) (aC (eV 2) (aC (eV 3) aN))))) aN)))))))) sNx)
    (sSeq (sIf (tB' (e2 (gEq false) (eV 4) (eC (.str "walk")))) (sRet (eTup (aC (eC (.str "walk")) (aC (e2 gIxA (eV 0) (eC (.int 1))) (aC (e2 gIxA (eV 0) (eC (.int 2))) (aC (eCall r_law_edited (aC (e2 gIxA (eV 0) (eC (.int 3))) (aC (eV 1) (aC (eV 2) (aC (eV 3) aN))))) (aC (e2 gIxA (eV 0) (eC (.int 4))) (aC (e2 gIxA (eV 0) (eC (.int 5))) aN)))))))) sNx)
    (sRet (eV 0))))))))))
noncomputable def rec_law_edited : Nat → Nat → Fn
  | 0, _ => fun _ _ => .no
  | b + 1, 0 => run 6 4 (F_law_edited (rec_law_edited b 0))
  | _ + 1, _ => fun _ _ => .no
noncomputable def F_law_near : FS := (sSeq (sAsg 3 (eCall f_law_stream (aC (eV 1) (aC (eC (.int 5)) aN))))
    (sSeq (sAsg 4 (e2 (gIc cMod fun i j => i % j) (eB gInt (aC (e2 gAdd (e2 (gIc cMul fun i j => i * j) (e2 gIxA (eV 3) (eC (.int 0))) (eC (.int 60))) (e2 gIxA (eV 3) (eC (.int 1)))) aN)) (eCall (rec_law_size 60 0) (aC (eV 0) aN))))
    (sRet (eCall (rec_law_edited 60 0) (aC (eV 0) (aC (eNew (nL (aC (eV 4) aN))) (aC (eV 3) (aC (eV 2) aN))))))))
noncomputable def f_law_near : Fn := run 5 3 F_law_near
noncomputable def F_law_mixed (r_law_mixed : Fn) : FS := (sSeq (sIf (tA (tNo (tB' (eIs .tuple (eV 0)))) (tNo (tB' (eIs .list (eV 0))))) (sRet (eV 0)) sNx)
    (sSeq (sAsg 3 (eBy false (nLc [4] (iPl (eV 0)) (gN 4) cTrue (eCall r_law_mixed (aC (eV 4) (aC (eV 1) (aC (eV 2) aN)))))))
    (sSeq (sIf (tB' (e2 (gEq false) (eCall f_law_take (aC (eV 1) (aC (eV 2) (aC (eC (.int 2)) aN)))) (eC (.int 1)))) (sRet (eV 3)) sNx)
    (sRet (eB gTuple (aC (eV 3) aN))))))
noncomputable def rec_law_mixed : Nat → Nat → Fn
  | 0, _ => fun _ _ => .no
  | b + 1, 0 => run 5 3 (F_law_mixed (rec_law_mixed b 0))
  | _ + 1, _ => fun _ _ => .no
noncomputable def F_law_alike (r_law_alike : Fn) : FS := (sSeq (sIf (tO (tB' (eIs .tuple (eV 1))) (tB' (eIs .list (eV 1)))) (sSeq (sIf (tO (tB' (e2 (gEq true) (eIs .tuple (eV 0)) (eIs .tuple (eV 1)))) (tB' (e2 (gEq true) (eIs .list (eV 0)) (eIs .list (eV 1))))) (sRet (eC (.bl false))) sNx)
    (sSeq (sIf (tB' (e2 (gEq true) (eB gLen (aC (eV 0) aN)) (eB gLen (aC (eV 1) aN)))) (sRet (eC (.bl false))) sNx)
    (sSeq (sFor (iR1 (aC (eB gLen (aC (eV 1) aN)) aN)) (gN 2) (sIf (tNo (tB' (eCall r_law_alike (aC (e2 gIxA (eV 0) (eV 2)) (aC (e2 gIxA (eV 1) (eV 2)) aN))))) (sRet (eC (.bl false))) sNx))
    (sRet (eC (.bl true)))))) sNx)
    (sSeq (sIf (tO (tB' (e2 (gEq true) (eIs .bool (eV 0)) (eIs .bool (eV 1)))) (tB' (e2 (gEq true) (eIs .str (eV 0)) (eIs .str (eV 1))))) (sRet (eC (.bl false))) sNx)
    (sRet (e2 (gEq false) (eV 0) (eV 1)))))
noncomputable def rec_law_alike : Nat → Nat → Fn
  | 0, _ => fun _ _ => .no
  | b + 1, 0 => run 3 2 (F_law_alike (rec_law_alike b 0))
  | _ + 1, _ => fun _ _ => .no
noncomputable def F_law_text (r_law_text r_law_wrapped : Fn) : FS := (sSeq (sAsg 1 (e2 gIxA (eV 0) (eC (.int 0))))
    (sSeq (sIf (tB' (e2 (gEq false) (eV 1) (eC (.str "rel")))) (sRet (e2 gAdd (e2 gAdd (e2 gAdd (e2 gIxA (eV 0) (eC (.int 1))) (eC (.str "("))) (eJoin (eC (.str ", ")) (e2 gIxA (eV 0) (eC (.int 2))))) (eC (.str ")")))) sNx)
    (sSeq (sIf (tB' (e2 (gInA false) (eV 1) (eFz (nL (aC (eC (.str "next")) (aC (eC (.str "first")) (aC (eC (.str "last")) aN))))))) (sRet (e2 gAdd (e2 gAdd (e2 gAdd (eV 1) (eC (.str "("))) (eJoin (eC (.str ", ")) (eSl (eV 0) (oS (eC (.int 1))) oN))) (eC (.str ")")))) sNx)
    (sSeq (sIf (tB' (e2 (gEq false) (eV 1) (eC (.str "same")))) (sRet (e2 gAdd (e2 gAdd (e2 gIxA (eV 0) (eC (.int 1))) (eC (.str " = "))) (e2 gIxA (eV 0) (eC (.int 2))))) sNx)
    (sSeq (sIf (tB' (e2 (gEq false) (eV 1) (eC (.str "before")))) (sRet (e2 gAdd (e2 gAdd (e2 gIxA (eV 0) (eC (.int 1))) (eC (.str " < "))) (e2 gIxA (eV 0) (eC (.int 2))))) sNx)
    (sSeq (sIf (tB' (e2 (gEq false) (eV 1) (eC (.str "not")))) (sRet (e2 gAdd (eC (.str "not ")) (eCall r_law_wrapped (aC (e2 gIxA (eV 0) (eC (.int 1))) aN)))) sNx)
    (sSeq (sIf (tB' (e2 (gInA false) (eV 1) (eFz (nL (aC (eC (.str "and")) (aC (eC (.str "or")) aN)))))) (sRet (e2 gAdd (e2 gAdd (e2 gAdd (e2 gAdd (eCall r_law_wrapped (aC (e2 gIxA (eV 0) (eC (.int 1))) aN)) (eC (.str " "))) (eV 1)) (eC (.str " "))) (eCall r_law_wrapped (aC (e2 gIxA (eV 0) (eC (.int 2))) aN)))) sNx)
    (sSeq (sIf (tB' (e2 (gInA false) (eV 1) (eFz (nL (aC (eC (.str "some")) (aC (eC (.str "every")) aN)))))) (sRet (e2 gAdd (e2 gAdd (e2 gAdd (e2 gAdd (eV 1) (eC (.str " "))) (e2 gIxA (eV 0) (eC (.int 1)))) (eC (.str ": "))) (eCall r_law_text (aC (e2 gIxA (eV 0) (eC (.int 2))) aN)))) sNx)
    (sSeq (sIf (tB' (e2 (gEq false) (eV 1) (eC (.str "more")))) (sSeq (sAsg 2 (e2 gAdd (e2 gAdd (e2 gAdd (e2 gAdd (eC (.str "more ")) (e2 gIxA (eV 0) (eC (.int 1)))) (eC (.str ": ("))) (eCall r_law_text (aC (e2 gIxA (eV 0) (eC (.int 2))) aN))) (eC (.str ")"))))
    (sRet (e2 gAdd (e2 gAdd (e2 gAdd (e2 gAdd (e2 gAdd (eV 2) (eC (.str " than "))) (e2 gIxA (eV 0) (eC (.int 3)))) (eC (.str ": ("))) (eCall r_law_text (aC (e2 gIxA (eV 0) (eC (.int 4))) aN))) (eC (.str ")"))))) sNx)
    (sSeq (sAsg 3 (e2 gAdd (e2 gAdd (e2 gAdd (e2 gAdd (eJoin (eC (.str " ")) (e2 gIxA (eV 0) (eC (.int 1)))) (eC (.str " -> "))) (eJoin (eC (.str " ")) (e2 gIxA (eV 0) (eC (.int 2))))) (eC (.str ": "))) (eCall r_law_text (aC (e2 gIxA (eV 0) (eC (.int 3))) aN))))
    (sRet (e2 gAdd (e2 gAdd (e2 gAdd (e2 gAdd (e2 gAdd (eC (.str "walk [")) (eV 3)) (eC (.str "] "))) (eJoin (eC (.str " ")) (e2 gIxA (eV 0) (eC (.int 4))))) (eC (.str " -> "))) (eJoin (eC (.str " ")) (e2 gIxA (eV 0) (eC (.int 5))))))))))))))))
noncomputable def F_law_wrapped (r_law_text r_law_wrapped : Fn) : FS := (sSeq (sIf (tB' (e2 (gInA false) (e2 gIxA (eV 0) (eC (.int 0))) (eFz (nL (aC (eC (.str "and")) (aC (eC (.str "or")) (aC (eC (.str "some")) (aC (eC (.str "every")) (aC (eC (.str "more")) aN))))))))) (sRet (e2 gAdd (e2 gAdd (eC (.str "(")) (eCall r_law_text (aC (eV 0) aN))) (eC (.str ")")))) sNx)
    (sRet (eCall r_law_text (aC (eV 0) aN))))
noncomputable def rec_law_text : Nat → Nat → Fn
  | 0, _ => fun _ _ => .no
  | b + 1, 0 => run 4 1 (F_law_text (rec_law_text b 0) (rec_law_text b 1))
  | b + 1, 1 => run 1 1 (F_law_wrapped (rec_law_text b 0) (rec_law_text b 1))
  | _ + 1, _ => fun _ _ => .no
noncomputable def F_law : FS := (sSeq (sAsg 1 (eCall f_law_pool (aC (eCall f_law_cell (aC (eV 0) (aC (eC (.int 0)) aN))) (aC (eC (.int 6)) aN))))
    (sSeq (sAsg 2 (eCall f_law_pairs (aC (eCall f_law_cell (aC (eV 0) (aC (eC (.int 1)) aN))) (aC (eV 1) aN))))
    (sSeq (sAsg 3 (eCall f_law_drawn (aC (eCall f_law_cell (aC (eV 0) (aC (eC (.int 2)) aN))) (aC (eCall f_law_cell (aC (eV 0) (aC (eC (.int 3)) aN))) (aC (eV 1) (aC (eV 2) aN))))))
    (sSeq (sAsg 4 (eCall f_law_near (aC (eV 3) (aC (eCall f_law_cell (aC (eV 0) (aC (eC (.int 4)) aN))) (aC (eV 1) aN)))))
    (sSeq (sAsg 5 (eCall f_law_stream (aC (eCall f_law_cell (aC (eV 0) (aC (eC (.int 5)) aN))) (aC (eC (.int 60)) aN))))
    (sSeq (sAsg 6 (eMk false "Question" f_Question_init (aC (eCall (rec_law_mixed 60 0) (aC (eV 3) (aC (eV 5) (aC (eNew (nL (aC (eC (.int 0)) aN))) aN)))) aN)))
    (sSeq (sAsg 7 (eMk false "Question" f_Question_init (aC (eV 4) aN)))
    (sSeq (sAsg 8 (eFz (nL (aC (eCall f_write_question (aC (eV 6) aN)) (aC (eCall f_write_question (aC (eV 7) aN)) (aC (eCall f_write_question (aC (eV 6) aN)) aN))))))
    (sSeq (sIf (tNo (tB' (eCall (rec_law_alike 60 0) (aC (eV 8) (aC (eFz (nL (aC (eCall (rec_law_text 90 0) (aC (eV 3) aN)) (aC (eCall (rec_law_text 90 0) (aC (eV 4) aN)) (aC (eCall (rec_law_text 90 0) (aC (eV 3) aN)) aN))))) aN))))) (sRet (eC (.bl false))) sNx)
    (sRet (eAnd (eCall (rec_law_alike 60 0) (aC (e1 (gFld csN "tree") (eV 6)) (aC (eV 3) aN))) (eCall (rec_law_alike 60 0) (aC (e1 (gFld csN "tree") (eV 7)) (aC (eV 4) aN))))))))))))))
noncomputable def f_law : Fn := run 9 1 F_law
end Kx
namespace Kx
open PySem PySem.Spec PyProof.Rows L2 Evl LX T XV RX WS DY
variable {P : Program} {w : World} {K : PySem.W.Frag} {mg : Str → Option Value} {base : Heap}
abbrev is_sequence_N : List Str := ["value"]
theorem sc_is_sequence : FnScope ["value"] ["value"] (defScope s_is_sequence) := ⟨rfl, rfl, rfl, by decide +kernel, rfl, by decide +kernel, by decide +kernel⟩
theorem ok_is_sequence (T : TY pd w K mg) : OkG P w K mg base (1) "is_sequence" ["value"] (spF ⟨P, w, K⟩ f_is_sequence) := by
  have n_isinstance := T.n "isinstance" (by decide +kernel)
  have n_tuple := T.n "tuple" (by decide +kernel)
  have n_list := T.n "list" (by decide +kernel)
  refine T.okG 0 rfl (by decide +kernel) ?_ (fun _ _ _ _ _ _ us hl => match us, hl with | [_], _ => rfl)
  exact fun f fd dvs kws F => fn_run (N := is_sequence_N) F sc_is_sequence rfl rfl (fun f cdv A outer s H E hr => have hu := roomU hr; (dss_one (ds_ret (d_isi2 .tuple .list n_isinstance (d_v 0) (pe_bltn (v := .ty "tuple") (u := .type "tuple") (by rfl) n_tuple (by decide +kernel) rfl) (pe_bltn (v := .ty "list") (u := .type "list") (by rfl) n_list (by decide +kernel) rfl)))))
abbrev is_name_N : List Str := ["value"]
theorem sc_is_name : FnScope ["value"] ["value"] (defScope s_is_name) := ⟨rfl, rfl, rfl, by decide +kernel, rfl, by decide +kernel, by decide +kernel⟩
theorem ok_is_name (T : TY pd w K mg) : OkG P w K mg base (1) "is_name" ["value"] (spF ⟨P, w, K⟩ f_is_name) := by
  have n_isinstance := T.n "isinstance" (by decide +kernel)
  have n_str := T.n "str" (by decide +kernel)
  have n_len := T.n "len" (by decide +kernel)
  refine T.okG 1 rfl (by decide +kernel) ?_ (fun _ _ _ _ _ _ us hl => match us, hl with | [_], _ => rfl)
  exact fun f fd dvs kws F => fn_run (N := is_name_N) F sc_is_name rfl rfl (fun f cdv A outer s H E hr => have hu := roomU hr; (dss_cons (ds_if (PW.pt (dw_or (dt_not (dt_val (d_isi .str n_isinstance (d_v 0) (pe_bltn (v := .ty "str") (u := .type "str") (by rfl) n_str (by decide +kernel) rfl)))) (dw_one (dt_not (dt_chain op_le op_le d_int (d_len n_len (da_cons (d_v 0) da_nil)) (d_cst T (by simp [pd, cstN]))))))) (dss_one (ds_ret d_bl)) dss_nil)
    (dss_cons (ds_if (PW.pt (dw_or (dt_not (dt_val (d_isascii (d_v 0)))) (dw_or (dt_not (dt_val (d_isalnum (d_v 0)))) (dw_one (dt_not (dt_val (d_islower (d_v 0)))))))) (dss_one (ds_ret d_bl)) dss_nil)
    (dss_one (ds_ret (d_and (d_not (d_isdigit (d_ixA hu (d_v 0) d_int))) (d_one (d_ninA hu (d_v 0) (d_cst T (by simp [pd, cstN]))))))))))
abbrev are_different_names_N : List Str := ["value", "most", "member"]
theorem sc_are_different_names : FnScope ["value", "most", "member"] ["value", "most"] (defScope s_are_different_names) := ⟨rfl, rfl, rfl, by decide +kernel, rfl, by decide +kernel, by decide +kernel⟩
theorem ok_are_different_names (T : TY pd w K mg) : OkG P w K mg base (2) "are_different_names" ["value", "most"] (spF ⟨P, w, K⟩ f_are_different_names) := by
  have n_len := T.n "len" (by decide +kernel)
  have n_all := T.n "all" (by decide +kernel)
  have n_set := T.n "set" (by decide +kernel)
  have O_is_sequence := ok_is_sequence (P := P) (base := base) T
  have O_is_name := ok_is_name (P := P) (base := base) T
  refine T.okG 2 rfl (by decide +kernel) ?_ (fun _ _ _ _ _ _ us hl => match us, hl with | [_, _], _ => rfl)
  exact fun f fd dvs kws F => fn_run (N := are_different_names_N) F sc_are_different_names rfl rfl (fun f cdv A outer s H E hr => have hu := roomU hr; (dss_cons (ds_if (PW.pt (dw_or (dt_not (dt_val (d_call O_is_sequence (takes_of rfl rfl rfl rfl) hr (by decide) (da_cons (d_v 0) da_nil)))) (dw_one (dt_gt (d_len n_len (da_cons (d_v 0) da_nil)) (d_v 1))))) (dss_one (ds_ret d_bl)) dss_nil)
    (dss_one (ds_ret (d_and (d_all rfl n_all (da_cons (d_fz (d_lc [("member", 2)] rfl sc_are_different_names.nd (d_iPl (d_v 0)) (blkOk_by (N := are_different_names_N) (sc := defScope s_are_different_names) (by decide +kernel)) (fun _ _ _ _ _ => (dg_name (i := 2) sc_are_different_names.nd)) (fun _ _ _ _ _ => dts_nil) (fun _ _ _ _ _ => (d_call O_is_name takes0 hr (by decide) (da_cons (d_v 2) da_nil))))) da_nil)) (d_one (d_eq hu (d_lenSet rfl n_len n_set (d_v 0)) (d_len n_len (da_cons (d_v 0) da_nil)))))))))
abbrev parts_of_N : List Str := ["tree", "sign", "member"]
theorem sc_parts_of : FnScope ["tree", "sign", "member"] ["tree"] (defScope s_parts_of) := ⟨rfl, rfl, rfl, by decide +kernel, rfl, by decide +kernel, by decide +kernel⟩
theorem ok_parts_of (T : TY pd w K mg) : OkG P w K mg base (1) "parts_of" ["tree"] (spF ⟨P, w, K⟩ f_parts_of) := by
  have n_zip := T.n "zip" (by decide +kernel)
  refine T.okG 3 rfl (by decide +kernel) ?_ (fun _ _ _ _ _ _ us hl => match us, hl with | [_], _ => rfl)
  exact fun f fd dvs kws F => fn_run (N := parts_of_N) F sc_parts_of rfl rfl (fun f cdv A outer s H E hr => have hu := roomU hr; (dss_one (ds_ret (d_fz (d_lc [("sign", 1), ("member", 2)] rfl sc_parts_of.nd (d_zip n_zip (da_cons (d_ixA hu (d_tab T (by simp [pd, tabN])) (d_ixA hu (d_v 0) d_int)) (da_cons (d_sl (d_v 0) (do_some d_int) do_none) da_nil))) (blkOk_by (N := parts_of_N) (sc := defScope s_parts_of) (by decide +kernel)) (fun _ _ _ _ _ => (dg_tup rfl (dgs_cons (i := 1) sc_parts_of.nd (dgs_cons (i := 2) sc_parts_of.nd dgs_nil)))) (fun _ _ _ _ _ => (dts_one (dt_eq hu (d_v 1) d_str))) (fun _ _ _ _ _ => (d_v 2)))))))
end Kx
namespace Kx
open PySem PySem.Spec PyProof.Rows L2 Evl LX T XV RX WS DY
variable {P : Program} {w : World} {K : PySem.W.Frag} {mg : Str → Option Value} {base : Heap}
abbrev bound_in_parts_N : List Str := ["tree", "word", "_"]
theorem sc_bound_in_parts : FnScope ["tree", "word", "_"] ["tree"] (defScope s_bound_in_parts) := ⟨rfl, rfl, rfl, by decide +kernel, rfl, by decide +kernel, by decide +kernel⟩
theorem ok_bound_in_parts (T : TY pd w K mg) : OkG P w K mg base (2) "bound_in_parts" ["tree"] (spF ⟨P, w, K⟩ f_bound_in_parts) := by
  have O_parts_of := ok_parts_of (P := P) (base := base) T
  refine T.okG 4 rfl (by decide +kernel) ?_ (fun _ _ _ _ _ _ us hl => match us, hl with | [_], _ => rfl)
  exact fun f fd dvs kws F => fn_run (N := bound_in_parts_N) F sc_bound_in_parts rfl rfl (fun f cdv A outer s H E hr => have hu := roomU hr; (dss_cons (ds_asg (i := 1) sc_bound_in_parts.nd (d_ixA hu (d_v 0) d_int))
    (dss_cons (ds_if (dt_eq hu (d_v 1) d_str) (dss_one (ds_ret (d_fz (d_lst (da_cons (d_add (d_ixA hu (d_v 0) d_int) (d_ixA hu (d_v 0) d_int)) da_nil))))) dss_nil)
    (dss_cons (ds_if (dt_eq hu (d_v 1) d_str) (dss_one (ds_ret (d_fz (d_lst (da_cons (d_tup (da_cons (d_ixA hu (d_v 0) d_int) da_nil)) (da_cons (d_tup (da_cons (d_ixA hu (d_v 0) d_int) da_nil)) da_nil)))))) dss_nil)
    (dss_cons (ds_if (PW.pt (dw_or (dt_eq hu (d_v 1) d_str) (dw_one (dt_eq hu (d_v 1) d_str)))) (dss_one (ds_ret (d_fz (d_lst (da_cons (d_tup (da_cons (d_ixA hu (d_v 0) d_int) da_nil)) da_nil))))) dss_nil)
    (dss_one (ds_ret (d_fz (d_lc [("_", 2)] rfl sc_bound_in_parts.nd (d_iPl (d_call O_parts_of (takes_of rfl rfl rfl rfl) hr (by decide) (da_cons (d_v 0) da_nil))) (blkOk_by (N := bound_in_parts_N) (sc := defScope s_bound_in_parts) (by decide +kernel)) (fun _ _ _ _ _ => (dg_name (i := 2) sc_bound_in_parts.nd)) (fun _ _ _ _ _ => dts_nil) (fun _ _ _ _ _ => (d_tup da_nil)))))))))))
abbrev own_variables_N : List Str := ["tree", "word"]
theorem sc_own_variables : FnScope ["tree", "word"] ["tree"] (defScope s_own_variables) := ⟨rfl, rfl, rfl, by decide +kernel, rfl, by decide +kernel, by decide +kernel⟩
theorem ok_own_variables (T : TY pd w K mg) : OkG P w K mg base (1) "own_variables" ["tree"] (spF ⟨P, w, K⟩ f_own_variables) := by
  refine T.okG 5 rfl (by decide +kernel) ?_ (fun _ _ _ _ _ _ us hl => match us, hl with | [_], _ => rfl)
  exact fun f fd dvs kws F => fn_run (N := own_variables_N) F sc_own_variables rfl rfl (fun f cdv A outer s H E hr => have hu := roomU hr; (dss_cons (ds_asg (i := 1) sc_own_variables.nd (d_ixA hu (d_v 0) d_int))
    (dss_cons (ds_if (dt_eq hu (d_v 1) d_str) (dss_one (ds_ret (d_add (d_ixA hu (d_v 0) d_int) (d_ixA hu (d_v 0) d_int)))) dss_nil)
    (dss_cons (ds_if (dt_eq hu (d_v 1) d_str) (dss_one (ds_ret (d_ixA hu (d_v 0) d_int))) dss_nil)
    (dss_one (ds_ret (d_if (dt_inA hu (d_v 1) (d_cst T (by simp [pd, cstN]))) (d_sl (d_v 0) (do_some d_int) do_none) (d_tup da_nil))))))))
abbrev free_from_parts_N : List Str := ["tree", "frees", "name", "found", "bound", "free"]
theorem sc_free_from_parts : FnScope ["tree", "frees", "name", "found", "bound", "free"] ["tree", "frees"] (defScope s_free_from_parts) := ⟨rfl, rfl, rfl, by decide +kernel, rfl, by decide +kernel, by decide +kernel⟩
theorem ok_free_from_parts (T : TY pd w K mg) : OkG P w K mg base (3) "free_from_parts" ["tree", "frees"] (spF ⟨P, w, K⟩ f_free_from_parts) := by
  have n_zip := T.n "zip" (by decide +kernel)
  have n_sorted := T.n "sorted" (by decide +kernel)
  have n_tuple := T.n "tuple" (by decide +kernel)
  have O_own_variables := ok_own_variables (P := P) (base := base) T
  have O_bound_in_parts := ok_bound_in_parts (P := P) (base := base) T
  refine T.okG 6 rfl (by decide +kernel) ?_ (fun _ _ _ _ _ _ us hl => match us, hl with | [_, _], _ => rfl)
  exact fun f fd dvs kws F => fn_run (N := free_from_parts_N) F sc_free_from_parts rfl rfl (fun f cdv A outer s H E hr => have hu := roomU hr; (dss_cons (ds_setDc (i := 3) true false [("name", 2)] hu rfl sc_free_from_parts.nd (d_iPl (d_call O_own_variables (takes_of rfl rfl rfl rfl) hr (by decide) (da_cons (d_v 0) da_nil))) (blkOk_by (N := free_from_parts_N) (sc := defScope s_free_from_parts) (by decide +kernel)) (fun _ _ _ _ _ => (dg_name (i := 2) sc_free_from_parts.nd)) (fun _ _ _ _ _ => dts_nil) (fun _ _ _ _ _ => (d_v 2)) (fun _ _ _ _ _ => d_bl) (sw_dc rfl rfl rfl (by decide +kernel)))
    (dss_cons (ds_for (passes_of rfl) rfl (d_zip n_zip (da_cons (d_call O_bound_in_parts (takes_of rfl rfl rfl rfl) hr (by decide) (da_cons (d_v 0) da_nil)) (da_cons (d_v 1) da_nil))) (dg_tup rfl (dgs_cons (i := 4) sc_free_from_parts.nd (dgs_cons (i := 5) sc_free_from_parts.nd dgs_nil))) (dss_one (ds_for (passes_of rfl) rfl (d_iPl (d_v 5)) (dg_name (i := 2) sc_free_from_parts.nd) (dss_one (ds_if (dt_ninA hu (d_v 2) (d_v 4)) (dss_one (ds_set hu d_bl (d_v 3) (d_v 2))) dss_nil)))))
    (dss_one (ds_ret (d_tuple n_tuple (da_cons (d_fz (d_sorted rfl n_sorted (da_cons (d_v 3) da_nil))) da_nil)))))))
end Kx
namespace Kx
open PySem PySem.Spec PyProof.Rows L2 Evl LX T XV RX WS DY
variable {P : Program} {w : World} {K : PySem.W.Frag} {mg : Str → Option Value} {base : Heap}
abbrev free_in_N : List Str := ["tree", "part"]
theorem sc_free_in : FnScope ["tree", "part"] ["tree"] (defScope s_free_in) := ⟨rfl, rfl, rfl, by decide +kernel, rfl, by decide +kernel, by decide +kernel⟩
theorem ok_rec_free_in (T : TY pd w K mg) : ∀ b : Nat, OkG P w K mg base (4 + b) "free_in" ["tree"] (spF ⟨P, w, K⟩ (rec_free_in b 0))
  | 0 => by
      refine T.okG 7 rfl (by decide +kernel) ?_ (fun _ _ _ _ _ _ us hl => match us, hl with | [_], _ => rfl)
      exact fun f fd dvs kws F => fn_no F
  | b + 1 => by
    have ih := ok_rec_free_in T b
    have O_free_in := ih
    have O_parts_of := ok_parts_of (P := P) (base := base) T
    have O_free_from_parts := ok_free_from_parts (P := P) (base := base) T
    exact by
      refine T.okG 7 rfl (by decide +kernel) ?_ (fun _ _ _ _ _ _ us hl => match us, hl with | [_], _ => rfl)
      exact fun f fd dvs kws F => fn_run (N := free_in_N) (k := 4 + b) (n := 2) (m := 1) (s := F_free_in (rec_free_in b 0)) F sc_free_in rfl rfl (fun f cdv A outer s H E hr => have hu := roomU hr; (dss_one (ds_ret (d_call O_free_from_parts (takes_of rfl rfl rfl rfl) hr (by omega) (da_cons (d_v 0) (da_cons (d_fz (d_lc [("part", 1)] rfl sc_free_in.nd (d_iPl (d_call O_parts_of (takes_of rfl rfl rfl rfl) hr (by omega) (da_cons (d_v 0) da_nil))) (blkOk_by (N := free_in_N) (sc := defScope s_free_in) (by decide +kernel)) (fun _ _ _ _ _ => (dg_name (i := 1) sc_free_in.nd)) (fun _ _ _ _ _ => dts_nil) (fun _ _ _ _ _ => (d_call O_free_in takes0 hr (by omega) (da_cons (d_v 1) da_nil))))) da_nil))))))
abbrev trees_in_N : List Str := ["tree", "found", "at", "part"]
theorem sc_trees_in : FnScope ["tree", "found", "at", "part"] ["tree"] (defScope s_trees_in) := ⟨rfl, rfl, rfl, by decide +kernel, rfl, by decide +kernel, by decide +kernel⟩
theorem ok_trees_in (T : TY pd w K mg) : OkG P w K mg base (2) "trees_in" ["tree"] (spF ⟨P, w, K⟩ f_trees_in) := by
  have n_len := T.n "len" (by decide +kernel)
  have O_parts_of := ok_parts_of (P := P) (base := base) T
  refine T.okG 8 rfl (by decide +kernel) ?_ (fun _ _ _ _ _ _ us hl => match us, hl with | [_], _ => rfl)
  exact fun f fd dvs kws F => fn_run (N := trees_in_N) F sc_trees_in rfl rfl (fun f cdv A outer s H E hr => have hu := roomU hr; (dss_cons (ds_asg (i := 1) sc_trees_in.nd (d_new (d_lst (da_cons (d_v 0) da_nil))))
    (dss_cons (ds_asg (i := 2) sc_trees_in.nd d_int)
    (dss_cons (ds_while 100000 (passes_of rfl) (dt_lt (d_v 2) (d_len n_len (da_cons (d_v 1) da_nil))) (dss_cons (ds_for (passes_of rfl) rfl (d_iPl (d_call O_parts_of (takes_of rfl rfl rfl rfl) hr (by decide) (da_cons (d_ixA hu (d_v 1) (d_v 2)) da_nil))) (dg_name (i := 3) sc_trees_in.nd) (dss_one (ds_drop (d_append (d_v 1) (da_cons (d_v 3) da_nil)))))
    (dss_one (ds_aug (j := 2) sc_trees_in.nd d_int))))
    (dss_one (ds_ret (d_v 1)))))))
abbrev is_variables_N : List Str := ["value", "member"]
theorem sc_is_variables : FnScope ["value", "member"] ["value"] (defScope s_is_variables) := ⟨rfl, rfl, rfl, by decide +kernel, rfl, by decide +kernel, by decide +kernel⟩
theorem ok_is_variables (T : TY pd w K mg) : OkG P w K mg base (2) "is_variables" ["value"] (spF ⟨P, w, K⟩ f_is_variables) := by
  have n_all := T.n "all" (by decide +kernel)
  have O_is_sequence := ok_is_sequence (P := P) (base := base) T
  have O_is_name := ok_is_name (P := P) (base := base) T
  refine T.okG 9 rfl (by decide +kernel) ?_ (fun _ _ _ _ _ _ us hl => match us, hl with | [_], _ => rfl)
  exact fun f fd dvs kws F => fn_run (N := is_variables_N) F sc_is_variables rfl rfl (fun f cdv A outer s H E hr => have hu := roomU hr; (dss_one (ds_ret (d_and (d_call O_is_sequence (takes_of rfl rfl rfl rfl) hr (by decide) (da_cons (d_v 0) da_nil)) (d_one (d_all rfl n_all (da_cons (d_fz (d_lc [("member", 1)] rfl sc_is_variables.nd (d_iPl (d_v 0)) (blkOk_by (N := is_variables_N) (sc := defScope s_is_variables) (by decide +kernel)) (fun _ _ _ _ _ => (dg_name (i := 1) sc_is_variables.nd)) (fun _ _ _ _ _ => dts_nil) (fun _ _ _ _ _ => (d_call O_is_name takes0 hr (by decide) (da_cons (d_v 1) da_nil))))) da_nil)))))))
end Kx
namespace Kx
open PySem PySem.Spec PyProof.Rows L2 Evl LX T XV RX WS DY
variable {P : Program} {w : World} {K : PySem.W.Frag} {mg : Str → Option Value} {base : Heap}
abbrev is_walk_of_one_width_N : List Str := ["tree", "_", "left", "right", "start", "goal", "width"]
theorem sc_is_walk_of_one_width : FnScope ["tree", "_", "left", "right", "start", "goal", "width"] ["tree"] (defScope s_is_walk_of_one_width) := ⟨rfl, rfl, rfl, by decide +kernel, rfl, by decide +kernel, by decide +kernel⟩
theorem ok_is_walk_of_one_width (T : TY pd w K mg) : OkG P w K mg base (3) "is_walk_of_one_width" ["tree"] (spF ⟨P, w, K⟩ f_is_walk_of_one_width) := by
  have n_len := T.n "len" (by decide +kernel)
  have n_list := T.n "list" (by decide +kernel)
  have O_are_different_names := ok_are_different_names (P := P) (base := base) T
  refine T.okG 10 rfl (by decide +kernel) ?_ (fun _ _ _ _ _ _ us hl => match us, hl with | [_], _ => rfl)
  exact fun f fd dvs kws F => fn_run (N := is_walk_of_one_width_N) F sc_is_walk_of_one_width rfl rfl (fun f cdv A outer s H E hr => have hu := roomU hr; (dss_cons (ds_asgG (d_v 0) (dg_tup rfl (dgs_cons (i := 1) sc_is_walk_of_one_width.nd (dgs_cons (i := 2) sc_is_walk_of_one_width.nd (dgs_cons (i := 3) sc_is_walk_of_one_width.nd (dgs_cons (i := 1) sc_is_walk_of_one_width.nd (dgs_cons (i := 4) sc_is_walk_of_one_width.nd (dgs_cons (i := 5) sc_is_walk_of_one_width.nd dgs_nil))))))))
    (dss_cons (ds_asg (i := 6) sc_is_walk_of_one_width.nd (d_len n_len (da_cons (d_v 2) da_nil)))
    (dss_cons (ds_if (PW.pt (dw_or (dt_not (dt_chain op_le op_le d_int (d_v 6) (d_cst T (by simp [pd, cstN])))) (dw_one (dt_ne hu (d_len n_len (da_cons (d_v 3) da_nil)) (d_v 6))))) (dss_one (ds_ret d_bl)) dss_nil)
    (dss_cons (ds_if (PW.pt (dw_or (dt_ne hu (d_len n_len (da_cons (d_v 4) da_nil)) (d_v 6)) (dw_one (dt_ne hu (d_len n_len (da_cons (d_v 5) da_nil)) (d_v 6))))) (dss_one (ds_ret d_bl)) dss_nil)
    (dss_one (ds_ret (d_call O_are_different_names (takes_of rfl rfl rfl rfl) hr (by decide) (da_cons (d_add (d_fz (d_list n_list (da_cons (d_v 2) da_nil))) (d_fz (d_list n_list (da_cons (d_v 3) da_nil)))) (da_cons (d_mul d_int (d_v 6)) da_nil))))))))))
abbrev is_well_formed_N : List Str := ["tree", "form", "sign", "member"]
theorem sc_is_well_formed : FnScope ["tree", "form", "sign", "member"] ["tree"] (defScope s_is_well_formed) := ⟨rfl, rfl, rfl, by decide +kernel, rfl, by decide +kernel, by decide +kernel⟩
theorem ok_is_well_formed (T : TY pd w K mg) : OkG P w K mg base (4) "is_well_formed" ["tree"] (spF ⟨P, w, K⟩ f_is_well_formed) := by
  have n_isinstance := T.n "isinstance" (by decide +kernel)
  have n_str := T.n "str" (by decide +kernel)
  have n_len := T.n "len" (by decide +kernel)
  have n_zip := T.n "zip" (by decide +kernel)
  have O_is_sequence := ok_is_sequence (P := P) (base := base) T
  have O_is_name := ok_is_name (P := P) (base := base) T
  have O_is_variables := ok_is_variables (P := P) (base := base) T
  have O_is_walk_of_one_width := ok_is_walk_of_one_width (P := P) (base := base) T
  refine T.okG 11 rfl (by decide +kernel) ?_ (fun _ _ _ _ _ _ us hl => match us, hl with | [_], _ => rfl)
  exact fun f fd dvs kws F => fn_run (N := is_well_formed_N) F sc_is_well_formed rfl rfl (fun f cdv A outer s H E hr => have hu := roomU hr; (dss_cons (ds_if (PW.pt (dw_or (dt_not (dt_val (d_call O_is_sequence (takes_of rfl rfl rfl rfl) hr (by decide) (da_cons (d_v 0) da_nil)))) (dw_or (dt_not (dt_tru (d_v 0))) (dw_or (dt_not (dt_val (d_isi .str n_isinstance (d_ixA hu (d_v 0) d_int) (pe_bltn (v := .ty "str") (u := .type "str") (by rfl) n_str (by decide +kernel) rfl)))) (dw_one (dt_ninA hu (d_ixA hu (d_v 0) d_int) (d_tab T (by simp [pd, tabN])))))))) (dss_one (ds_ret d_bl)) dss_nil)
    (dss_cons (ds_asg (i := 1) sc_is_well_formed.nd (d_ixA hu (d_tab T (by simp [pd, tabN])) (d_ixA hu (d_v 0) d_int)))
    (dss_cons (ds_if (dt_ne hu (d_len n_len (da_cons (d_v 0) da_nil)) (d_add (d_len n_len (da_cons (d_v 1) da_nil)) d_int)) (dss_one (ds_ret d_bl)) dss_nil)
    (dss_cons (ds_for (passes_of rfl) rfl (d_zip n_zip (da_cons (d_v 1) (da_cons (d_sl (d_v 0) (do_some d_int) do_none) da_nil))) (dg_tup rfl (dgs_cons (i := 2) sc_is_well_formed.nd (dgs_cons (i := 3) sc_is_well_formed.nd dgs_nil))) (dss_cons (ds_if (PW.pt (dw_and (dt_eq hu (d_v 2) d_str) (dw_one (dt_not (dt_val (d_call O_is_name (takes_of rfl rfl rfl rfl) hr (by decide) (da_cons (d_v 3) da_nil))))))) (dss_one (ds_ret d_bl)) dss_nil)
    (dss_one (ds_if (PW.pt (dw_and (dt_eq hu (d_v 2) d_str) (dw_one (dt_not (dt_val (d_call O_is_variables (takes_of rfl rfl rfl rfl) hr (by decide) (da_cons (d_v 3) da_nil))))))) (dss_one (ds_ret d_bl)) dss_nil))))
    (dss_cons (ds_if (dt_eq hu (d_ixA hu (d_v 0) d_int) d_str) (dss_one (ds_ret (d_chain op_le op_le d_int (d_len n_len (da_cons (d_ixA hu (d_v 0) d_int) da_nil)) (d_cst T (by simp [pd, cstN]))))) dss_nil)
    (dss_one (ds_ret (d_or (d_ne hu (d_ixA hu (d_v 0) d_int) d_str) (d_one (d_call O_is_walk_of_one_width (takes_of rfl rfl rfl rfl) hr (by decide) (da_cons (d_v 0) da_nil))))))))))))
end Kx
namespace Kx
open PySem PySem.Spec PyProof.Rows L2 Evl LX T XV RX WS DY
variable {P : Program} {w : World} {K : PySem.W.Frag} {mg : Str → Option Value} {base : Heap}
abbrev check_tree_N : List Str := ["tree", "waiting", "arities", "count", "part", "depth", "inner"]
theorem sc_check_tree : FnScope ["tree", "waiting", "arities", "count", "part", "depth", "inner"] ["tree"] (defScope s_check_tree) := ⟨rfl, rfl, rfl, by decide +kernel, rfl, by decide +kernel, by decide +kernel⟩
theorem ok_check_tree (T : TY pd w K mg) : OkG P w K mg base (5) "check_tree" ["tree"] (spF ⟨P, w, K⟩ f_check_tree) := by
  have n_len := T.n "len" (by decide +kernel)
  have g_BadQuestion := T.g "BadQuestion" (by decide +kernel)
  have O_is_well_formed := ok_is_well_formed (P := P) (base := base) T
  have O_parts_of := ok_parts_of (P := P) (base := base) T
  refine T.okG 12 rfl (by decide +kernel) ?_ (fun _ _ _ _ _ _ us hl => match us, hl with | [_], _ => rfl)
  exact fun f fd dvs kws F => fn_run (N := check_tree_N) F sc_check_tree rfl rfl (fun f cdv A outer s H E hr => have hu := roomU hr; (dss_cons (ds_asg (i := 1) sc_check_tree.nd (d_new (d_lst (da_cons (d_tup (da_cons (d_v 0) (da_cons d_int da_nil))) da_nil))))
    (dss_cons (ds_asg (i := 2) sc_check_tree.nd (d_new (d_dict0 false)))
    (dss_cons (ds_asg (i := 3) sc_check_tree.nd d_int)
    (dss_one (ds_while 100000 (passes_of rfl) (dt_tru (d_v 1)) (dss_cons (ds_asgG (d_pop (d_v 1)) (dg_tup rfl (dgs_cons (i := 4) sc_check_tree.nd (dgs_cons (i := 5) sc_check_tree.nd dgs_nil))))
    (dss_cons (ds_aug (j := 3) sc_check_tree.nd d_int)
    (dss_cons (ds_if (PW.pt (dw_or (dt_gt (d_v 3) (d_cst T (by simp [pd, cstN]))) (dw_or (dt_gt (d_v 5) (d_cst T (by simp [pd, cstN]))) (dw_one (dt_not (dt_val (d_call O_is_well_formed (takes_of rfl rfl rfl rfl) hr (by decide) (da_cons (d_v 4) da_nil)))))))) (dss_one (ds_raise0 (d := xd_BadQuestion) rfl (T.x xd_BadQuestion (by simp [pd, xsN])) rfl g_BadQuestion (takes_of rfl rfl rfl rfl) rfl)) dss_nil)
    (dss_cons (ds_if (PW.pt (dw_and (dt_eq hu (d_ixA hu (d_v 4) d_int) d_str) (dw_one (dt_ne hu (d_setd (d_v 2) (d_ixA hu (d_v 4) d_int) (d_len n_len (da_cons (d_ixA hu (d_v 4) d_int) da_nil))) (d_len n_len (da_cons (d_ixA hu (d_v 4) d_int) da_nil)))))) (dss_one (ds_raise0 (d := xd_BadQuestion) rfl (T.x xd_BadQuestion (by simp [pd, xsN])) rfl g_BadQuestion (takes_of rfl rfl rfl rfl) rfl)) dss_nil)
    (dss_one (ds_for (passes_of rfl) rfl (d_iPl (d_call O_parts_of (takes_of rfl rfl rfl rfl) hr (by decide) (da_cons (d_v 4) da_nil))) (dg_name (i := 6) sc_check_tree.nd) (dss_one (ds_drop (d_append (d_v 1) (da_cons (d_tup (da_cons (d_v 6) (da_cons (d_add (d_v 5) d_int) da_nil))) da_nil))))))))))))))))
abbrev with_tuples_N : List Str := ["tree", "members", "sign", "member"]
theorem sc_with_tuples : FnScope ["tree", "members", "sign", "member"] ["tree"] (defScope s_with_tuples) := ⟨rfl, rfl, rfl, by decide +kernel, rfl, by decide +kernel, by decide +kernel⟩
theorem ok_rec_with_tuples (T : TY pd w K mg) : ∀ b : Nat, OkG P w K mg base (1 + b) "with_tuples" ["tree"] (spF ⟨P, w, K⟩ (rec_with_tuples b 0))
  | 0 => by
      refine T.okG 13 rfl (by decide +kernel) ?_ (fun _ _ _ _ _ _ us hl => match us, hl with | [_], _ => rfl)
      exact fun f fd dvs kws F => fn_no F
  | b + 1 => by
    have ih := ok_rec_with_tuples T b
    have O_with_tuples := ih
    have n_zip := T.n "zip" (by decide +kernel)
    have n_tuple := T.n "tuple" (by decide +kernel)
    exact by
      refine T.okG 13 rfl (by decide +kernel) ?_ (fun _ _ _ _ _ _ us hl => match us, hl with | [_], _ => rfl)
      exact fun f fd dvs kws F => fn_run (N := with_tuples_N) (k := 1 + b) (n := 4) (m := 1) (s := F_with_tuples (rec_with_tuples b 0)) F sc_with_tuples rfl rfl (fun f cdv A outer s H E hr => have hu := roomU hr; (dss_cons (ds_asg (i := 1) sc_with_tuples.nd (d_new (d_lst (da_cons (d_ixA hu (d_v 0) d_int) da_nil))))
    (dss_cons (ds_for (passes_of rfl) rfl (d_zip n_zip (da_cons (d_ixA hu (d_tab T (by simp [pd, tabN])) (d_ixA hu (d_v 0) d_int)) (da_cons (d_sl (d_v 0) (do_some d_int) do_none) da_nil))) (dg_tup rfl (dgs_cons (i := 2) sc_with_tuples.nd (dgs_cons (i := 3) sc_with_tuples.nd dgs_nil))) (dss_one (ds_if (dt_eq hu (d_v 2) d_str) (dss_one (ds_drop (d_append (d_v 1) (da_cons (d_call O_with_tuples (takes_of rfl rfl rfl rfl) hr (by omega) (da_cons (d_v 3) da_nil)) da_nil)))) (dss_one (ds_drop (d_append (d_v 1) (da_cons (d_if (dt_eq hu (d_v 2) d_str) (d_tuple n_tuple (da_cons (d_v 3) da_nil)) (d_v 3)) da_nil)))))))
    (dss_one (ds_ret (d_tuple n_tuple (da_cons (d_v 1) da_nil)))))))
end Kx
namespace Kx
open PySem PySem.Spec PyProof.Rows L2 Evl LX T XV RX WS DY
variable {P : Program} {w : World} {K : PySem.W.Frag} {mg : Str → Option Value} {base : Heap}
abbrev Question_init_N : List Str := ["self", "tree", "trees", "part"]
theorem sc_Question_init : FnScope ["self", "tree", "trees", "part"] ["self", "tree"] (defScope s_Question_init) := ⟨rfl, rfl, rfl, by decide +kernel, rfl, by decide +kernel, by decide +kernel⟩
theorem ok_Question_init (T : TY pd w K mg) : OkI P w K mg base (65) "Question" ["self", "tree"] (spF ⟨P, w, K⟩ f_Question_init) := by
  have n_len := T.n "len" (by decide +kernel)
  have n_sorted := T.n "sorted" (by decide +kernel)
  have n_tuple := T.n "tuple" (by decide +kernel)
  have n_any := T.n "any" (by decide +kernel)
  have O_check_tree := ok_check_tree (P := P) (base := base) T
  have O_with_tuples := (ok_rec_with_tuples (P := P) (base := base) T 60)
  have O_trees_in := ok_trees_in (P := P) (base := base) T
  have O_free_in := (ok_rec_free_in (P := P) (base := base) T 60)
  refine T.okI 14 rfl (by decide +kernel) ?_ (fun _ _ _ _ _ _ us hl => match us, hl with | [_, _], _ => rfl)
  exact fun f fd dvs kws F => fn_run (N := Question_init_N) F sc_Question_init rfl rfl (fun f cdv A outer s H E hr => have hu := roomU hr; (dss_cons (ds_drop (d_call O_check_tree (takes_of rfl rfl rfl rfl) hr (by decide) (da_cons (d_v 1) da_nil)))
    (dss_cons (ds_stF csN T.k (d_v 0) (d_call O_with_tuples (takes_of rfl rfl rfl rfl) hr (by decide) (da_cons (d_v 1) da_nil)))
    (dss_cons (ds_asg (i := 2) sc_Question_init.nd (d_call O_trees_in (takes_of rfl rfl rfl rfl) hr (by decide) (da_cons (d_fld csN T.k (d_v 0)) da_nil)))
    (dss_cons (ds_stF csN T.k (d_v 0) (d_call O_free_in (takes_of rfl rfl rfl rfl) hr (by decide) (da_cons (d_fld csN T.k (d_v 0)) da_nil)))
    (dss_cons (ds_stF csN T.k (d_v 0) (d_tuple n_tuple (da_cons (d_fz (d_sortSc [("part", 3)] hu rfl n_sorted sc_Question_init.nd (d_iPl (d_v 2)) (blkOk_by (N := Question_init_N) (sc := defScope s_Question_init) (by decide +kernel)) (fun _ _ _ _ _ => (dg_name (i := 3) sc_Question_init.nd)) (fun _ _ _ _ _ => (dts_one (dt_eq hu (d_ixA hu (d_v 3) d_int) d_str))) (fun _ _ _ _ _ => (d_tup (da_cons (d_ixA hu (d_v 3) d_int) (da_cons (d_len n_len (da_cons (d_ixA hu (d_v 3) d_int) da_nil)) da_nil)))))) da_nil)))
    (dss_cons (ds_stF csN T.k (d_v 0) (d_not (d_any rfl n_any (da_cons (d_fz (d_lc [("part", 3)] rfl sc_Question_init.nd (d_iPl (d_v 2)) (blkOk_by (N := Question_init_N) (sc := defScope s_Question_init) (by decide +kernel)) (fun _ _ _ _ _ => (dg_name (i := 3) sc_Question_init.nd)) (fun _ _ _ _ _ => dts_nil) (fun _ _ _ _ _ => (d_inA hu (d_ixA hu (d_v 3) d_int) (d_cst T (by simp [pd, cstN])))))) da_nil))))
    (dss_one (ds_stF csN T.k (d_v 0) (d_any rfl n_any (da_cons (d_fz (d_lc [("part", 3)] rfl sc_Question_init.nd (d_iPl (d_v 2)) (blkOk_by (N := Question_init_N) (sc := defScope s_Question_init) (by decide +kernel)) (fun _ _ _ _ _ => (dg_name (i := 3) sc_Question_init.nd)) (fun _ _ _ _ _ => dts_nil) (fun _ _ _ _ _ => (d_inA hu (d_ixA hu (d_v 3) d_int) (d_cst T (by simp [pd, cstN])))))) da_nil)))))))))))
abbrev write_atom_N : List Str := ["tree", "word"]
theorem sc_write_atom : FnScope ["tree", "word"] ["tree"] (defScope s_write_atom) := ⟨rfl, rfl, rfl, by decide +kernel, rfl, by decide +kernel, by decide +kernel⟩
theorem ok_write_atom (T : TY pd w K mg) : OkG P w K mg base (1) "write_atom" ["tree"] (spF ⟨P, w, K⟩ f_write_atom) := by
  refine T.okG 15 rfl (by decide +kernel) ?_ (fun _ _ _ _ _ _ us hl => match us, hl with | [_], _ => rfl)
  exact fun f fd dvs kws F => fn_run (N := write_atom_N) F sc_write_atom rfl rfl (fun f cdv A outer s H E hr => have hu := roomU hr; (dss_cons (ds_asg (i := 1) sc_write_atom.nd (d_ixA hu (d_v 0) d_int))
    (dss_cons (ds_if (dt_eq hu (d_v 1) d_str) (dss_one (ds_ret (d_add (d_add (d_add (d_ixA hu (d_v 0) d_int) d_str) (d_join d_str (d_ixA hu (d_v 0) d_int))) d_str))) dss_nil)
    (dss_cons (ds_if (dt_eq hu (d_v 1) d_str) (dss_one (ds_ret (d_add (d_add (d_ixA hu (d_v 0) d_int) d_str) (d_ixA hu (d_v 0) d_int)))) dss_nil)
    (dss_cons (ds_if (dt_eq hu (d_v 1) d_str) (dss_one (ds_ret (d_add (d_add (d_ixA hu (d_v 0) d_int) d_str) (d_ixA hu (d_v 0) d_int)))) dss_nil)
    (dss_one (ds_ret (d_add (d_add (d_add (d_v 1) d_str) (d_join d_str (d_sl (d_v 0) (do_some d_int) do_none))) d_str))))))))
end Kx
namespace Kx
open PySem PySem.Spec PyProof.Rows L2 Evl LX T XV RX WS DY
variable {P : Program} {w : World} {K : PySem.W.Frag} {mg : Str → Option Value} {base : Heap}
abbrev write_walk_N : List Str := ["tree", "left", "right", "start", "goal", "at"]
theorem sc_write_walk : FnScope ["tree", "left", "right", "start", "goal", "at"] ["tree"] (defScope s_write_walk) := ⟨rfl, rfl, rfl, by decide +kernel, rfl, by decide +kernel, by decide +kernel⟩
abbrev write_tree_N : List Str := ["tree", "word"]
theorem sc_write_tree : FnScope ["tree", "word"] ["tree"] (defScope s_write_tree) := ⟨rfl, rfl, rfl, by decide +kernel, rfl, by decide +kernel, by decide +kernel⟩
abbrev write_within_N : List Str := ["tree"]
theorem sc_write_within : FnScope ["tree"] ["tree"] (defScope s_write_within) := ⟨rfl, rfl, rfl, by decide +kernel, rfl, by decide +kernel, by decide +kernel⟩
theorem ok_rec_write_walk (T : TY pd w K mg) : ∀ b : Nat, OkG P w K mg base (2 + b) "write_walk" ["tree"] (spF ⟨P, w, K⟩ (rec_write_walk b 0)) ∧ OkG P w K mg base (2 + b) "write_tree" ["tree"] (spF ⟨P, w, K⟩ (rec_write_walk b 1)) ∧ OkG P w K mg base (2 + b) "write_within" ["tree"] (spF ⟨P, w, K⟩ (rec_write_walk b 2))
  | 0 => ⟨by
      refine T.okG 16 rfl (by decide +kernel) ?_ (fun _ _ _ _ _ _ us hl => match us, hl with | [_], _ => rfl)
      exact fun f fd dvs kws F => fn_no F,
    by
      refine T.okG 17 rfl (by decide +kernel) ?_ (fun _ _ _ _ _ _ us hl => match us, hl with | [_], _ => rfl)
      exact fun f fd dvs kws F => fn_no F,
    by
      refine T.okG 18 rfl (by decide +kernel) ?_ (fun _ _ _ _ _ _ us hl => match us, hl with | [_], _ => rfl)
      exact fun f fd dvs kws F => fn_no F⟩
  | b + 1 => by
    have ih := ok_rec_write_walk T b
    have O_write_walk := ih.1
    have O_write_tree := ih.2.1
    have O_write_within := ih.2.2
    have O_write_atom := ok_write_atom (P := P) (base := base) T
    exact ⟨by
      refine T.okG 16 rfl (by decide +kernel) ?_ (fun _ _ _ _ _ _ us hl => match us, hl with | [_], _ => rfl)
      exact fun f fd dvs kws F => fn_run (N := write_walk_N) (k := 2 + b) (n := 6) (m := 1) (s := F_write_walk (rec_write_walk b 0) (rec_write_walk b 1) (rec_write_walk b 2)) F sc_write_walk rfl rfl (fun f cdv A outer s H E hr => have hu := roomU hr; (dss_cons (ds_asgG (d_fz (d_lc [("at", 5)] rfl sc_write_walk.nd (d_iPl (d_tup (da_cons d_int (da_cons d_int (da_cons d_int (da_cons d_int da_nil)))))) (blkOk_by (N := write_walk_N) (sc := defScope s_write_walk) (by decide +kernel)) (fun _ _ _ _ _ => (dg_name (i := 5) sc_write_walk.nd)) (fun _ _ _ _ _ => dts_nil) (fun _ _ _ _ _ => (d_join d_str (d_ixA hu (d_v 0) (d_v 5)))))) (dg_tup rfl (dgs_cons (i := 1) sc_write_walk.nd (dgs_cons (i := 2) sc_write_walk.nd (dgs_cons (i := 3) sc_write_walk.nd (dgs_cons (i := 4) sc_write_walk.nd dgs_nil))))))
    (dss_one (ds_ret (d_joined (dj_cons d_str (dj_cons (d_fmt (d_v 1)) (dj_cons d_str (dj_cons (d_fmt (d_v 2)) (dj_cons d_str (dj_cons (d_fmt (d_call O_write_tree (takes_of rfl rfl rfl rfl) hr (by omega) (da_cons (d_ixA hu (d_v 0) d_int) da_nil))) (dj_cons d_str (dj_cons (d_fmt (d_v 3)) (dj_cons d_str (dj_cons (d_fmt (d_v 4)) dj_nil))))))))))))))),
    by
      refine T.okG 17 rfl (by decide +kernel) ?_ (fun _ _ _ _ _ _ us hl => match us, hl with | [_], _ => rfl)
      exact fun f fd dvs kws F => fn_run (N := write_tree_N) (k := 2 + b) (n := 2) (m := 1) (s := F_write_tree (rec_write_walk b 0) (rec_write_walk b 1) (rec_write_walk b 2)) F sc_write_tree rfl rfl (fun f cdv A outer s H E hr => have hu := roomU hr; (dss_cons (ds_asg (i := 1) sc_write_tree.nd (d_ixA hu (d_v 0) d_int))
    (dss_cons (ds_if (dt_inA hu (d_v 1) (d_cst T (by simp [pd, cstN]))) (dss_one (ds_ret (d_call O_write_atom (takes_of rfl rfl rfl rfl) hr (by omega) (da_cons (d_v 0) da_nil)))) dss_nil)
    (dss_cons (ds_if (dt_eq hu (d_v 1) d_str) (dss_one (ds_ret (d_call O_write_walk (takes_of rfl rfl rfl rfl) hr (by omega) (da_cons (d_v 0) da_nil)))) dss_nil)
    (dss_cons (ds_if (dt_eq hu (d_v 1) d_str) (dss_one (ds_ret (d_add d_str (d_call O_write_within (takes_of rfl rfl rfl rfl) hr (by omega) (da_cons (d_ixA hu (d_v 0) d_int) da_nil))))) dss_nil)
    (dss_cons (ds_if (PW.pt (dw_or (dt_eq hu (d_v 1) d_str) (dw_one (dt_eq hu (d_v 1) d_str)))) (dss_one (ds_ret (d_joined (dj_cons (d_fmt (d_call O_write_within (takes_of rfl rfl rfl rfl) hr (by omega) (da_cons (d_ixA hu (d_v 0) d_int) da_nil))) (dj_cons d_str (dj_cons (d_fmt (d_v 1)) (dj_cons d_str (dj_cons (d_fmt (d_call O_write_within (takes_of rfl rfl rfl rfl) hr (by omega) (da_cons (d_ixA hu (d_v 0) d_int) da_nil))) dj_nil)))))))) dss_nil)
    (dss_cons (ds_if (dt_eq hu (d_v 1) d_str) (dss_one (ds_ret (d_joined (dj_cons d_str (dj_cons (d_fmt (d_ixA hu (d_v 0) d_int)) (dj_cons d_str (dj_cons (d_fmt (d_call O_write_tree (takes_of rfl rfl rfl rfl) hr (by omega) (da_cons (d_ixA hu (d_v 0) d_int) da_nil))) (dj_cons d_str (dj_cons (d_fmt (d_ixA hu (d_v 0) d_int)) (dj_cons d_str (dj_cons (d_fmt (d_call O_write_tree (takes_of rfl rfl rfl rfl) hr (by omega) (da_cons (d_ixA hu (d_v 0) d_int) da_nil))) (dj_cons d_str dj_nil)))))))))))) dss_nil)
    (dss_one (ds_ret (d_joined (dj_cons (d_fmt (d_v 1)) (dj_cons d_str (dj_cons (d_fmt (d_ixA hu (d_v 0) d_int)) (dj_cons d_str (dj_cons (d_fmt (d_call O_write_tree (takes_of rfl rfl rfl rfl) hr (by omega) (da_cons (d_ixA hu (d_v 0) d_int) da_nil))) dj_nil))))))))))))))),
    by
      refine T.okG 18 rfl (by decide +kernel) ?_ (fun _ _ _ _ _ _ us hl => match us, hl with | [_], _ => rfl)
      exact fun f fd dvs kws F => fn_run (N := write_within_N) (k := 2 + b) (n := 1) (m := 1) (s := F_write_within (rec_write_walk b 0) (rec_write_walk b 1) (rec_write_walk b 2)) F sc_write_within rfl rfl (fun f cdv A outer s H E hr => have hu := roomU hr; (dss_cons (ds_if (PW.pt (dw_or (dt_inA hu (d_ixA hu (d_v 0) d_int) (d_cst T (by simp [pd, cstN]))) (dw_or (dt_eq hu (d_ixA hu (d_v 0) d_int) d_str) (dw_one (dt_eq hu (d_ixA hu (d_v 0) d_int) d_str))))) (dss_one (ds_ret (d_call O_write_tree (takes_of rfl rfl rfl rfl) hr (by omega) (da_cons (d_v 0) da_nil)))) dss_nil)
    (dss_one (ds_ret (d_add (d_add d_str (d_call O_write_tree (takes_of rfl rfl rfl rfl) hr (by omega) (da_cons (d_v 0) da_nil))) d_str)))))⟩
end Kx
namespace Kx
open PySem PySem.Spec PyProof.Rows L2 Evl LX T XV RX WS DY
variable {P : Program} {w : World} {K : PySem.W.Frag} {mg : Str → Option Value} {base : Heap}
abbrev write_question_N : List Str := ["question"]
theorem sc_write_question : FnScope ["question"] ["question"] (defScope s_write_question) := ⟨rfl, rfl, rfl, by decide +kernel, rfl, by decide +kernel, by decide +kernel⟩
theorem ok_write_question (T : TY pd w K mg) : OkG P w K mg base (93) "write_question" ["question"] (spF ⟨P, w, K⟩ f_write_question) := by
  have O_write_tree := (ok_rec_write_walk (P := P) (base := base) T 90).2.1
  refine T.okG 19 rfl (by decide +kernel) ?_ (fun _ _ _ _ _ _ us hl => match us, hl with | [_], _ => rfl)
  exact fun f fd dvs kws F => fn_run (N := write_question_N) F sc_write_question rfl rfl (fun f cdv A outer s H E hr => have hu := roomU hr; (dss_one (ds_ret (d_call O_write_tree (takes_of rfl rfl rfl rfl) hr (by decide) (da_cons (d_fld csN T.k (d_v 0)) da_nil)))))
abbrev law_cell_N : List Str := ["script", "k", "seed", "cell"]
theorem sc_law_cell : FnScope ["script", "k", "seed", "cell"] ["script", "k"] (defScope s_law_cell) := ⟨rfl, rfl, rfl, by decide +kernel, rfl, by decide +kernel, by decide +kernel⟩
theorem ok_law_cell (T : TY pd w K mg) : OkG P w K mg base (1) "_law_cell" ["script", "k"] (spF ⟨P, w, K⟩ f_law_cell) := by
  have n_len := T.n "len" (by decide +kernel)
  have n_int := T.n "int" (by decide +kernel)
  refine T.okG 20 rfl (by decide +kernel) ?_ (fun _ _ _ _ _ _ us hl => match us, hl with | [_, _], _ => rfl)
  exact fun f fd dvs kws F => fn_run (N := law_cell_N) F sc_law_cell rfl rfl (fun f cdv A outer s H E hr => have hu := roomU hr; (dss_cons (ds_if (dt_lt (d_v 1) (d_len n_len (da_cons (d_v 0) da_nil))) (dss_one (ds_ret (d_ixA hu (d_v 0) (d_v 1)))) dss_nil)
    (dss_cons (ds_asg (i := 2) sc_law_cell.nd d_int)
    (dss_cons (ds_for (passes_of rfl) rfl (d_iPl (d_v 0)) (dg_name (i := 3) sc_law_cell.nd) (dss_one (ds_asg (i := 2) sc_law_cell.nd (d_mod (d_int1 n_int (da_cons (d_add (d_mul (d_v 2) d_int) (d_mod (d_int1 n_int (da_cons (d_v 3) da_nil)) d_int)) da_nil)) d_int))))
    (dss_one (ds_ret (d_mod (d_int1 n_int (da_cons (d_mul (d_mul (d_add (d_v 2) d_int) (d_add (d_v 1) d_int)) d_int) da_nil)) d_int)))))))
abbrev law_digits_N : List Str := ["cell", "sizes", "row", "rest", "size", "seed", "k", "twice"]
theorem sc_law_digits : FnScope ["cell", "sizes", "row", "rest", "size", "seed", "k", "twice"] ["cell", "sizes"] (defScope s_law_digits) := ⟨rfl, rfl, rfl, by decide +kernel, rfl, by decide +kernel, by decide +kernel⟩
theorem ok_law_digits (T : TY pd w K mg) : OkG P w K mg base (1) "_law_digits" ["cell", "sizes"] (spF ⟨P, w, K⟩ f_law_digits) := by
  have n_int := T.n "int" (by decide +kernel)
  have n_len := T.n "len" (by decide +kernel)
  have n_range := T.n "range" (by decide +kernel)
  refine T.okG 21 rfl (by decide +kernel) ?_ (fun _ _ _ _ _ _ us hl => match us, hl with | [_, _], _ => rfl)
  exact fun f fd dvs kws F => fn_run (N := law_digits_N) F sc_law_digits rfl rfl (fun f cdv A outer s H E hr => have hu := roomU hr; (dss_cons (ds_asg (i := 2) sc_law_digits.nd (d_new (d_lst da_nil)))
    (dss_cons (ds_asg (i := 3) sc_law_digits.nd (d_int1 n_int (da_cons (d_v 0) da_nil)))
    (dss_cons (ds_if (dt_ge (d_v 3) (d_pow d_int d_int)) (dss_cons (ds_asg (i := 3) sc_law_digits.nd (d_sub (d_v 3) (d_pow d_int d_int)))
    (dss_cons (ds_for (passes_of rfl) rfl (d_iPl (d_v 1)) (dg_name (i := 4) sc_law_digits.nd) (dss_cons (ds_drop (d_append (d_v 2) (da_cons (d_mod (d_int1 n_int (da_cons (d_v 3) da_nil)) (d_v 4)) da_nil)))
    (dss_one (ds_asg (i := 3) sc_law_digits.nd (d_fdiv (d_int1 n_int (da_cons (d_v 3) da_nil)) (d_v 4))))))
    (dss_one (ds_ret (d_v 2))))) dss_nil)
    (dss_cons (ds_asg (i := 5) sc_law_digits.nd (d_mod (d_int1 n_int (da_cons (d_v 3) da_nil)) d_int))
    (dss_cons (ds_for (passes_of rfl) rfl (d_rng1 n_range (da_cons (d_len n_len (da_cons (d_v 1) da_nil)) da_nil)) (dg_name (i := 6) sc_law_digits.nd) (dss_cons (ds_asg (i := 5) sc_law_digits.nd (d_mod (d_int1 n_int (da_cons (d_add (d_add (d_mul (d_v 5) d_int) (d_mul d_int (d_v 6))) d_int) da_nil)) d_int))
    (dss_cons (ds_asg (i := 7) sc_law_digits.nd (d_mod (d_int1 n_int (da_cons (d_mul (d_v 5) (d_add (d_fdiv (d_v 5) d_int) d_int)) da_nil)) d_int))
    (dss_one (ds_drop (d_append (d_v 2) (da_cons (d_mod (d_fdiv (d_v 7) d_int) (d_ixA hu (d_v 1) (d_v 6))) da_nil)))))))
    (dss_one (ds_ret (d_v 2)))))))))
abbrev law_stream_N : List Str := ["cell", "many", "k"]
theorem sc_law_stream : FnScope ["cell", "many", "k"] ["cell", "many"] (defScope s_law_stream) := ⟨rfl, rfl, rfl, by decide +kernel, rfl, by decide +kernel, by decide +kernel⟩
theorem ok_law_stream (T : TY pd w K mg) : OkG P w K mg base (2) "_law_stream" ["cell", "many"] (spF ⟨P, w, K⟩ f_law_stream) := by
  have n_range := T.n "range" (by decide +kernel)
  have O_law_digits := ok_law_digits (P := P) (base := base) T
  refine T.okG 22 rfl (by decide +kernel) ?_ (fun _ _ _ _ _ _ us hl => match us, hl with | [_, _], _ => rfl)
  exact fun f fd dvs kws F => fn_run (N := law_stream_N) F sc_law_stream rfl rfl (fun f cdv A outer s H E hr => have hu := roomU hr; (dss_one (ds_ret (d_call O_law_digits (takes_of rfl rfl rfl rfl) hr (by decide) (da_cons (d_v 0) (da_cons (d_fz (d_lc [("k", 2)] rfl sc_law_stream.nd (d_rng1 n_range (da_cons (d_v 1) da_nil)) (blkOk_by (N := law_stream_N) (sc := defScope s_law_stream) (by decide +kernel)) (fun _ _ _ _ _ => (dg_name (i := 2) sc_law_stream.nd)) (fun _ _ _ _ _ => dts_nil) (fun _ _ _ _ _ => d_int))) da_nil))))))
end Kx
namespace Kx
open PySem PySem.Spec PyProof.Rows L2 Evl LX T XV RX WS DY
variable {P : Program} {w : World} {K : PySem.W.Frag} {mg : Str → Option Value} {base : Heap}
abbrev law_take_N : List Str := ["row", "at", "many", "place"]
theorem sc_law_take : FnScope ["row", "at", "many", "place"] ["row", "at", "many"] (defScope s_law_take) := ⟨rfl, rfl, rfl, by decide +kernel, rfl, by decide +kernel, by decide +kernel⟩
theorem ok_law_take (T : TY pd w K mg) : OkG P w K mg base (1) "_law_take" ["row", "at", "many"] (spF ⟨P, w, K⟩ f_law_take) := by
  have n_len := T.n "len" (by decide +kernel)
  have n_int := T.n "int" (by decide +kernel)
  refine T.okG 23 rfl (by decide +kernel) ?_ (fun _ _ _ _ _ _ us hl => match us, hl with | [_, _, _], _ => rfl)
  exact fun f fd dvs kws F => fn_run (N := law_take_N) F sc_law_take rfl rfl (fun f cdv A outer s H E hr => have hu := roomU hr; (dss_cons (ds_asg (i := 3) sc_law_take.nd (d_ixA hu (d_v 1) d_int))
    (dss_cons (ds_set hu (d_add (d_v 3) d_int) (d_v 1) d_int)
    (dss_one (ds_ret (d_mod (d_int1 n_int (da_cons (d_add (d_ixA hu (d_v 0) (d_mod (d_v 3) (d_len n_len (da_cons (d_v 0) da_nil)))) (d_mul (d_fdiv (d_v 3) (d_len n_len (da_cons (d_v 0) da_nil))) d_int)) da_nil)) (d_v 2)))))))
abbrev law_reserved_N : List Str := []
theorem sc_law_reserved : FnScope [] [] (defScope s_law_reserved) := ⟨rfl, rfl, rfl, by decide +kernel, rfl, by decide +kernel, by decide +kernel⟩
theorem ok_law_reserved (T : TY pd w K mg) : OkG P w K mg base (1) "_law_reserved" [] (spF ⟨P, w, K⟩ f_law_reserved) := by
  refine T.okG 24 rfl (by decide +kernel) ?_ (fun _ _ _ _ _ _ us hl => match us, hl with | [], _ => rfl)
  exact fun f fd dvs kws F => fn_run (N := law_reserved_N) F sc_law_reserved rfl rfl (fun f cdv A outer s H E hr => have hu := roomU hr; (dss_one (ds_ret (d_fz (d_lst (da_cons d_str (da_cons d_str (da_cons d_str (da_cons d_str (da_cons d_str (da_cons d_str (da_cons d_str (da_cons d_str (da_cons d_str (da_cons d_str (da_cons d_str da_nil))))))))))))))))
abbrev law_fresh_N : List Str := ["name", "taken", "signs", "made", "k"]
theorem sc_law_fresh : FnScope ["name", "taken", "signs", "made", "k"] ["name", "taken"] (defScope s_law_fresh) := ⟨rfl, rfl, rfl, by decide +kernel, rfl, by decide +kernel, by decide +kernel⟩
theorem ok_law_fresh (T : TY pd w K mg) : OkG P w K mg base (1) "_law_fresh" ["name", "taken"] (spF ⟨P, w, K⟩ f_law_fresh) := by
  have n_range := T.n "range" (by decide +kernel)
  refine T.okG 25 rfl (by decide +kernel) ?_ (fun _ _ _ _ _ _ us hl => match us, hl with | [_, _], _ => rfl)
  exact fun f fd dvs kws F => fn_run (N := law_fresh_N) F sc_law_fresh rfl rfl (fun f cdv A outer s H E hr => have hu := roomU hr; (dss_cons (ds_asg (i := 2) sc_law_fresh.nd d_str)
    (dss_cons (ds_asg (i := 3) sc_law_fresh.nd (d_v 0))
    (dss_cons (ds_for (passes_of rfl) rfl (d_rng1 n_range (da_cons d_int da_nil)) (dg_name (i := 4) sc_law_fresh.nd) (dss_cons (ds_if (dt_ninA hu (d_v 3) (d_v 1)) (dss_one (ds_ret (d_v 3))) dss_nil)
    (dss_one (ds_asg (i := 3) sc_law_fresh.nd (d_add (d_sl (d_v 3) do_none (do_some d_int)) (d_ixA hu (d_v 2) (d_v 4)))))))
    (dss_one (ds_ret (d_v 3)))))))
abbrev law_name_N : List Str := ["row", "at", "letters", "menu", "kind", "size", "name", "k"]
theorem sc_law_name : FnScope ["row", "at", "letters", "menu", "kind", "size", "name", "k"] ["row", "at"] (defScope s_law_name) := ⟨rfl, rfl, rfl, by decide +kernel, rfl, by decide +kernel, by decide +kernel⟩
theorem ok_law_name (T : TY pd w K mg) : OkG P w K mg base (2) "_law_name" ["row", "at"] (spF ⟨P, w, K⟩ f_law_name) := by
  have n_range := T.n "range" (by decide +kernel)
  have O_law_take := ok_law_take (P := P) (base := base) T
  refine T.okG 26 rfl (by decide +kernel) ?_ (fun _ _ _ _ _ _ us hl => match us, hl with | [_, _], _ => rfl)
  exact fun f fd dvs kws F => fn_run (N := law_name_N) F sc_law_name rfl rfl (fun f cdv A outer s H E hr => have hu := roomU hr; (dss_cons (ds_asg (i := 2) sc_law_name.nd d_str)
    (dss_cons (ds_asg (i := 3) sc_law_name.nd (d_fz (d_lst (da_cons d_str (da_cons d_str (da_cons d_str (da_cons d_str (da_cons d_str (da_cons d_str (da_cons d_str (da_cons d_str (da_cons d_str (da_cons d_str da_nil)))))))))))))
    (dss_cons (ds_asg (i := 3) sc_law_name.nd (d_add (d_v 3) (d_fz (d_lst (da_cons d_str (da_cons d_str (da_cons d_str (da_cons d_str (da_cons d_str (da_cons d_str (da_cons d_str (da_cons d_str (da_cons d_str (da_cons d_str da_nil))))))))))))))
    (dss_cons (ds_asg (i := 4) sc_law_name.nd (d_call O_law_take (takes_of rfl rfl rfl rfl) hr (by decide) (da_cons (d_v 0) (da_cons (d_v 1) (da_cons d_int da_nil)))))
    (dss_cons (ds_if (dt_lt (d_v 4) d_int) (dss_one (ds_ret (d_ixA hu (d_v 3) (d_call O_law_take (takes_of rfl rfl rfl rfl) hr (by decide) (da_cons (d_v 0) (da_cons (d_v 1) (da_cons d_int da_nil))))))) dss_nil)
    (dss_cons (ds_asg (i := 5) sc_law_name.nd (d_ixA hu (d_fz (d_lst (da_cons d_int (da_cons d_int (da_cons d_int (da_cons d_int (da_cons d_int (da_cons d_int (da_cons d_int (da_cons d_int (da_cons d_int (da_cons d_int (da_cons d_int (da_cons d_int (da_cons d_int (da_cons d_int (da_cons d_int (da_cons d_int da_nil)))))))))))))))))) (d_sub (d_v 4) d_int)))
    (dss_cons (ds_asg (i := 6) sc_law_name.nd (d_ixA hu (d_v 2) (d_call O_law_take (takes_of rfl rfl rfl rfl) hr (by decide) (da_cons (d_v 0) (da_cons (d_v 1) (da_cons d_int da_nil))))))
    (dss_cons (ds_for (passes_of rfl) rfl (d_rng1 n_range (da_cons (d_sub (d_v 5) d_int) da_nil)) (dg_name (i := 7) sc_law_name.nd) (dss_one (ds_asg (i := 6) sc_law_name.nd (d_add (d_v 6) (d_ixA hu (d_v 2) (d_call O_law_take (takes_of rfl rfl rfl rfl) hr (by decide) (da_cons (d_v 0) (da_cons (d_v 1) (da_cons d_int da_nil)))))))))
    (dss_one (ds_ret (d_v 6))))))))))))
end Kx
namespace Kx
open PySem PySem.Spec PyProof.Rows L2 Evl LX T XV RX WS DY
variable {P : Program} {w : World} {K : PySem.W.Frag} {mg : Str → Option Value} {base : Heap}
abbrev law_pool_N : List Str := ["cell", "many", "letters", "row", "at", "found", "k", "name", "place"]
theorem sc_law_pool : FnScope ["cell", "many", "letters", "row", "at", "found", "k", "name", "place"] ["cell", "many"] (defScope s_law_pool) := ⟨rfl, rfl, rfl, by decide +kernel, rfl, by decide +kernel, by decide +kernel⟩
theorem ok_law_pool (T : TY pd w K mg) : OkG P w K mg base (3) "_law_pool" ["cell", "many"] (spF ⟨P, w, K⟩ f_law_pool) := by
  have n_range := T.n "range" (by decide +kernel)
  have n_int := T.n "int" (by decide +kernel)
  have n_len := T.n "len" (by decide +kernel)
  have O_law_stream := ok_law_stream (P := P) (base := base) T
  have O_law_name := ok_law_name (P := P) (base := base) T
  have O_law_take := ok_law_take (P := P) (base := base) T
  have O_law_reserved := ok_law_reserved (P := P) (base := base) T
  have O_law_fresh := ok_law_fresh (P := P) (base := base) T
  refine T.okG 27 rfl (by decide +kernel) ?_ (fun _ _ _ _ _ _ us hl => match us, hl with | [_, _], _ => rfl)
  exact fun f fd dvs kws F => fn_run (N := law_pool_N) F sc_law_pool rfl rfl (fun f cdv A outer s H E hr => have hu := roomU hr; (dss_cons (ds_asg (i := 2) sc_law_pool.nd d_str)
    (dss_cons (ds_asg (i := 3) sc_law_pool.nd (d_call O_law_stream (takes_of rfl rfl rfl rfl) hr (by decide) (da_cons (d_v 0) (da_cons d_int da_nil))))
    (dss_cons (ds_asg (i := 4) sc_law_pool.nd (d_new (d_lst (da_cons d_int da_nil))))
    (dss_cons (ds_asg (i := 5) sc_law_pool.nd (d_new (d_lst da_nil)))
    (dss_cons (ds_for (passes_of rfl) rfl (d_rng1 n_range (da_cons (d_v 1) da_nil)) (dg_name (i := 6) sc_law_pool.nd) (dss_cons (ds_asg (i := 7) sc_law_pool.nd (d_call O_law_name (takes_of rfl rfl rfl rfl) hr (by decide) (da_cons (d_v 3) (da_cons (d_v 4) da_nil))))
    (dss_cons (ds_if (PW.pt (dw_and (dt_gt (d_v 6) d_int) (dw_one (dt_eq hu (d_mod (d_int1 n_int (da_cons (d_ixA hu (d_v 3) d_int) da_nil)) d_int) d_int)))) (dss_cons (ds_asg (i := 8) sc_law_pool.nd (d_call O_law_take (takes_of rfl rfl rfl rfl) hr (by decide) (da_cons (d_v 3) (da_cons (d_v 4) (da_cons (d_len n_len (da_cons (d_ixA hu (d_v 5) d_int) da_nil)) da_nil)))))
    (dss_one (ds_asg (i := 7) sc_law_pool.nd (d_add (d_add (d_sl (d_ixA hu (d_v 5) d_int) do_none (do_some (d_v 8))) (d_ixA hu (d_v 2) (d_call O_law_take (takes_of rfl rfl rfl rfl) hr (by decide) (da_cons (d_v 3) (da_cons (d_v 4) (da_cons d_int da_nil)))))) (d_sl (d_ixA hu (d_v 5) d_int) (do_some (d_add (d_v 8) d_int)) do_none))))) dss_nil)
    (dss_one (ds_drop (d_append (d_v 5) (da_cons (d_call O_law_fresh (takes_of rfl rfl rfl rfl) hr (by decide) (da_cons (d_v 7) (da_cons (d_add (d_v 5) (d_call0 O_law_reserved (takes_of rfl rfl rfl rfl) hr (by decide))) da_nil))) da_nil)))))))
    (dss_one (ds_ret (d_v 5)))))))))
abbrev law_pairs_N : List Str := ["cell", "names", "row", "mine", "k"]
theorem sc_law_pairs : FnScope ["cell", "names", "row", "mine", "k"] ["cell", "names"] (defScope s_law_pairs) := ⟨rfl, rfl, rfl, by decide +kernel, rfl, by decide +kernel, by decide +kernel⟩
theorem ok_law_pairs (T : TY pd w K mg) : OkG P w K mg base (4) "_law_pairs" ["cell", "names"] (spF ⟨P, w, K⟩ f_law_pairs) := by
  have n_int := T.n "int" (by decide +kernel)
  have n_range := T.n "range" (by decide +kernel)
  have O_law_stream := ok_law_stream (P := P) (base := base) T
  have O_law_pool := ok_law_pool (P := P) (base := base) T
  refine T.okG 28 rfl (by decide +kernel) ?_ (fun _ _ _ _ _ _ us hl => match us, hl with | [_, _], _ => rfl)
  exact fun f fd dvs kws F => fn_run (N := law_pairs_N) F sc_law_pairs rfl rfl (fun f cdv A outer s H E hr => have hu := roomU hr; (dss_cons (ds_asg (i := 2) sc_law_pairs.nd (d_call O_law_stream (takes_of rfl rfl rfl rfl) hr (by decide) (da_cons (d_v 0) (da_cons d_int da_nil))))
    (dss_cons (ds_asg (i := 3) sc_law_pairs.nd (d_call O_law_pool (takes_of rfl rfl rfl rfl) hr (by decide) (da_cons (d_v 0) (da_cons d_int da_nil))))
    (dss_cons (ds_if (dt_eq hu (d_mod (d_int1 n_int (da_cons (d_ixA hu (d_v 2) d_int) da_nil)) d_int) d_int) (dss_one (ds_asg (i := 3) sc_law_pairs.nd (d_fz (d_lc [("k", 4)] rfl sc_law_pairs.nd (d_rng1 n_range (da_cons d_int da_nil)) (blkOk_by (N := law_pairs_N) (sc := defScope s_law_pairs) (by decide +kernel)) (fun _ _ _ _ _ => (dg_name (i := 4) sc_law_pairs.nd)) (fun _ _ _ _ _ => dts_nil) (fun _ _ _ _ _ => (d_ixA hu (d_v 1) (d_v 4))))))) dss_nil)
    (dss_one (ds_ret (d_fz (d_lc [("k", 4)] rfl sc_law_pairs.nd (d_rng1 n_range (da_cons d_int da_nil)) (blkOk_by (N := law_pairs_N) (sc := defScope s_law_pairs) (by decide +kernel)) (fun _ _ _ _ _ => (dg_name (i := 4) sc_law_pairs.nd)) (fun _ _ _ _ _ => dts_nil) (fun _ _ _ _ _ => (d_fz (d_lst (da_cons (d_ixA hu (d_v 3) (d_v 4)) (da_cons (d_add d_int (d_mod (d_int1 n_int (da_cons (d_ixA hu (d_v 2) (d_add d_int (d_v 4))) da_nil)) d_int)) da_nil)))))))))))))
end Kx
namespace Kx
open PySem PySem.Spec PyProof.Rows L2 Evl LX T XV RX WS DY
variable {P : Program} {w : World} {K : PySem.W.Frag} {mg : Str → Option Value} {base : Heap}
abbrev law_atom_N : List Str := ["row", "at", "names", "pairs", "kind", "one", "two", "pair", "three"]
theorem sc_law_atom : FnScope ["row", "at", "names", "pairs", "kind", "one", "two", "pair", "three"] ["row", "at", "names", "pairs"] (defScope s_law_atom) := ⟨rfl, rfl, rfl, by decide +kernel, rfl, by decide +kernel, by decide +kernel⟩
theorem ok_law_atom (T : TY pd w K mg) : OkG P w K mg base (2) "_law_atom" ["row", "at", "names", "pairs"] (spF ⟨P, w, K⟩ f_law_atom) := by
  have n_len := T.n "len" (by decide +kernel)
  have n_tuple := T.n "tuple" (by decide +kernel)
  have O_law_take := ok_law_take (P := P) (base := base) T
  refine T.okG 29 rfl (by decide +kernel) ?_ (fun _ _ _ _ _ _ us hl => match us, hl with | [_, _, _, _], _ => rfl)
  exact fun f fd dvs kws F => fn_run (N := law_atom_N) F sc_law_atom rfl rfl (fun f cdv A outer s H E hr => have hu := roomU hr; (dss_cons (ds_asg (i := 4) sc_law_atom.nd (d_call O_law_take (takes_of rfl rfl rfl rfl) hr (by decide) (da_cons (d_v 0) (da_cons (d_v 1) (da_cons d_int da_nil)))))
    (dss_cons (ds_asg (i := 5) sc_law_atom.nd (d_ixA hu (d_v 2) (d_call O_law_take (takes_of rfl rfl rfl rfl) hr (by decide) (da_cons (d_v 0) (da_cons (d_v 1) (da_cons (d_len n_len (da_cons (d_v 2) da_nil)) da_nil))))))
    (dss_cons (ds_asg (i := 6) sc_law_atom.nd (d_ixA hu (d_v 2) (d_call O_law_take (takes_of rfl rfl rfl rfl) hr (by decide) (da_cons (d_v 0) (da_cons (d_v 1) (da_cons (d_len n_len (da_cons (d_v 2) da_nil)) da_nil))))))
    (dss_cons (ds_if (dt_lt (d_v 4) d_int) (dss_cons (ds_asg (i := 7) sc_law_atom.nd (d_ixA hu (d_v 3) (d_call O_law_take (takes_of rfl rfl rfl rfl) hr (by decide) (da_cons (d_v 0) (da_cons (d_v 1) (da_cons (d_len n_len (da_cons (d_v 3) da_nil)) da_nil))))))
    (dss_cons (ds_asg (i := 8) sc_law_atom.nd (d_ixA hu (d_v 2) (d_call O_law_take (takes_of rfl rfl rfl rfl) hr (by decide) (da_cons (d_v 0) (da_cons (d_v 1) (da_cons (d_len n_len (da_cons (d_v 2) da_nil)) da_nil))))))
    (dss_one (ds_ret (d_tup (da_cons d_str (da_cons (d_ixA hu (d_v 7) d_int) (da_cons (d_tuple n_tuple (da_cons (d_sl (d_fz (d_lst (da_cons (d_v 5) (da_cons (d_v 6) (da_cons (d_v 8) da_nil))))) do_none (do_some (d_ixA hu (d_v 7) d_int))) da_nil)) da_nil)))))))) dss_nil)
    (dss_cons (ds_if (dt_lt (d_v 4) d_int) (dss_one (ds_ret (d_tup (da_cons (d_ixA hu (d_fz (d_lst (da_cons d_str (da_cons d_str (da_cons d_str da_nil))))) (d_sub (d_v 4) d_int)) (da_cons (d_v 5) (da_cons (d_v 6) da_nil)))))) dss_nil)
    (dss_one (ds_ret (d_tup (da_cons (d_ixA hu (d_fz (d_lst (da_cons d_str (da_cons d_str da_nil)))) (d_sub (d_v 4) d_int)) (da_cons (d_v 5) da_nil)))))))))))
end Kx
namespace Kx
open PySem PySem.Spec PyProof.Rows L2 Evl LX T XV RX WS DY
variable {P : Program} {w : World} {K : PySem.W.Frag} {mg : Str → Option Value} {base : Heap}
abbrev law_walk_N : List Str := ["row", "at", "depth", "names", "pairs", "width", "turn", "bound", "left", "right", "inner", "name", "step", "begin", "end", "k"]
theorem sc_law_walk : FnScope ["row", "at", "depth", "names", "pairs", "width", "turn", "bound", "left", "right", "inner", "name", "step", "begin", "end", "k"] ["row", "at", "depth", "names", "pairs", "width"] (defScope s_law_walk) := ⟨rfl, rfl, rfl, by decide +kernel, rfl, by decide +kernel, by decide +kernel⟩
abbrev law_tree_N : List Str := ["row", "at", "depth", "names", "pairs", "kind", "one", "name", "other"]
theorem sc_law_tree : FnScope ["row", "at", "depth", "names", "pairs", "kind", "one", "name", "other"] ["row", "at", "depth", "names", "pairs"] (defScope s_law_tree) := ⟨rfl, rfl, rfl, by decide +kernel, rfl, by decide +kernel, by decide +kernel⟩
theorem ok_rec_law_walk (T : TY pd w K mg) : ∀ b : Nat, OkG P w K mg base (3 + b) "_law_walk" ["row", "at", "depth", "names", "pairs", "width"] (spF ⟨P, w, K⟩ (rec_law_walk b 0)) ∧ OkG P w K mg base (3 + b) "_law_tree" ["row", "at", "depth", "names", "pairs"] (spF ⟨P, w, K⟩ (rec_law_walk b 1))
  | 0 => ⟨by
      refine T.okG 30 rfl (by decide +kernel) ?_ (fun _ _ _ _ _ _ us hl => match us, hl with | [_, _, _, _, _, _], _ => rfl)
      exact fun f fd dvs kws F => fn_no F,
    by
      refine T.okG 31 rfl (by decide +kernel) ?_ (fun _ _ _ _ _ _ us hl => match us, hl with | [_, _, _, _, _], _ => rfl)
      exact fun f fd dvs kws F => fn_no F⟩
  | b + 1 => by
    have ih := ok_rec_law_walk T b
    have O_law_walk := ih.1
    have O_law_tree := ih.2
    have n_range := T.n "range" (by decide +kernel)
    have n_int := T.n "int" (by decide +kernel)
    have n_len := T.n "len" (by decide +kernel)
    have n_str := T.n "str" (by decide +kernel)
    have n_tuple := T.n "tuple" (by decide +kernel)
    have O_law_take := ok_law_take (P := P) (base := base) T
    have O_law_atom := ok_law_atom (P := P) (base := base) T
    exact ⟨by
      refine T.okG 30 rfl (by decide +kernel) ?_ (fun _ _ _ _ _ _ us hl => match us, hl with | [_, _, _, _, _, _], _ => rfl)
      exact fun f fd dvs kws F => fn_run (N := law_walk_N) (k := 3 + b) (n := 16) (m := 6) (s := F_law_walk (rec_law_walk b 0) (rec_law_walk b 1)) F sc_law_walk rfl rfl (fun f cdv A outer s H E hr => have hu := roomU hr; (dss_cons (ds_asg (i := 6) sc_law_walk.nd (d_call O_law_take (takes_of rfl rfl rfl rfl) hr (by omega) (da_cons (d_v 0) (da_cons (d_v 1) (da_cons d_int da_nil)))))
    (dss_cons (ds_asg (i := 7) sc_law_walk.nd (d_fz (d_lc [("k", 15)] rfl sc_law_walk.nd (d_rng1 n_range (da_cons (d_mul d_int (d_v 5)) da_nil)) (blkOk_by (N := law_walk_N) (sc := defScope s_law_walk) (by decide +kernel)) (fun _ _ _ _ _ => (dg_name (i := 15) sc_law_walk.nd)) (fun _ _ _ _ _ => dts_nil) (fun _ _ _ _ _ => (d_ixA hu (d_v 3) (d_mod (d_int1 n_int (da_cons (d_add (d_v 6) (d_v 15)) da_nil)) (d_len n_len (da_cons (d_v 3) da_nil))))))))
    (dss_cons (ds_if (dt_gt (d_mul d_int (d_v 5)) (d_len n_len (da_cons (d_v 3) da_nil))) (dss_one (ds_asg (i := 7) sc_law_walk.nd (d_fz (d_lc [("k", 15)] rfl sc_law_walk.nd (d_rng1 n_range (da_cons (d_mul d_int (d_v 5)) da_nil)) (blkOk_by (N := law_walk_N) (sc := defScope s_law_walk) (by decide +kernel)) (fun _ _ _ _ _ => (dg_name (i := 15) sc_law_walk.nd)) (fun _ _ _ _ _ => dts_nil) (fun _ _ _ _ _ => (d_add (d_sl (d_ixA hu (d_v 3) (d_mod (d_v 6) (d_len n_len (da_cons (d_v 3) da_nil)))) do_none (do_some d_int)) (d_strI n_str (da_cons (d_mod (d_int1 n_int (da_cons (d_add (d_v 6) (d_v 15)) da_nil)) (d_mul d_int (d_v 5))) da_nil)))))))) dss_nil)
    (dss_cons (ds_setLc (i := 8) false [("k", 15)] rfl sc_law_walk.nd (d_rng1 n_range (da_cons (d_v 5) da_nil)) (blkOk_by (N := law_walk_N) (sc := defScope s_law_walk) (by decide +kernel)) (fun _ _ _ _ _ => (dg_name (i := 15) sc_law_walk.nd)) (fun _ _ _ _ _ => dts_nil) (fun _ _ _ _ _ => (d_ixA hu (d_v 7) (d_v 15))) (sw_true rfl rfl rfl (by decide +kernel)))
    (dss_cons (ds_setLc (i := 9) false [("k", 15)] rfl sc_law_walk.nd (d_rng1 n_range (da_cons (d_v 5) da_nil)) (blkOk_by (N := law_walk_N) (sc := defScope s_law_walk) (by decide +kernel)) (fun _ _ _ _ _ => (dg_name (i := 15) sc_law_walk.nd)) (fun _ _ _ _ _ => dts_nil) (fun _ _ _ _ _ => (d_ixA hu (d_v 7) (d_add (d_v 5) (d_v 15)))) (sw_true rfl rfl rfl (by decide +kernel)))
    (dss_cons (ds_if (dt_eq hu (d_call O_law_take (takes_of rfl rfl rfl rfl) hr (by omega) (da_cons (d_v 0) (da_cons (d_v 1) (da_cons d_int da_nil)))) d_int) (dss_cons (ds_setLc (i := 8) false [("k", 15)] rfl sc_law_walk.nd (d_rng1 n_range (da_cons (d_v 5) da_nil)) (blkOk_by (N := law_walk_N) (sc := defScope s_law_walk) (by decide +kernel)) (fun _ _ _ _ _ => (dg_name (i := 15) sc_law_walk.nd)) (fun _ _ _ _ _ => dts_nil) (fun _ _ _ _ _ => (d_ixA hu (d_v 7) (d_mul d_int (d_v 15)))) (sw_true rfl rfl rfl (by decide +kernel)))
    (dss_one (ds_setLc (i := 9) false [("k", 15)] rfl sc_law_walk.nd (d_rng1 n_range (da_cons (d_v 5) da_nil)) (blkOk_by (N := law_walk_N) (sc := defScope s_law_walk) (by decide +kernel)) (fun _ _ _ _ _ => (dg_name (i := 15) sc_law_walk.nd)) (fun _ _ _ _ _ => dts_nil) (fun _ _ _ _ _ => (d_ixA hu (d_v 7) (d_add (d_mul d_int (d_v 15)) d_int))) (sw_true rfl rfl rfl (by decide +kernel))))) dss_nil)
    (dss_cons (ds_asg (i := 10) sc_law_walk.nd (d_new (d_lst da_nil)))
    (dss_cons (ds_for (passes_of rfl) rfl (d_iPl (d_add (d_fz (d_lst (da_cons (d_ixA hu (d_v 8) d_int) (da_cons (d_ixA hu (d_v 9) d_int) (da_cons (d_ixA hu (d_v 8) (d_sub (d_v 5) d_int)) (da_cons (d_ixA hu (d_v 9) (d_sub (d_v 5) d_int)) da_nil)))))) (d_v 3))) (dg_name (i := 11) sc_law_walk.nd) (dss_one (ds_if (dt_ninA hu (d_v 11) (d_v 10)) (dss_one (ds_drop (d_append (d_v 10) (da_cons (d_v 11) da_nil)))) dss_nil)))
    (dss_cons (ds_asg (i := 12) sc_law_walk.nd (d_call O_law_tree (takes_of rfl rfl rfl rfl) hr (by omega) (da_cons (d_v 0) (da_cons (d_v 1) (da_cons (d_sub (d_v 2) d_int) (da_cons (d_sl (d_v 10) do_none (do_some d_int)) (da_cons (d_v 4) da_nil)))))))
    (dss_cons (ds_setLc (i := 13) false [("k", 15)] rfl sc_law_walk.nd (d_rng1 n_range (da_cons (d_v 5) da_nil)) (blkOk_by (N := law_walk_N) (sc := defScope s_law_walk) (by decide +kernel)) (fun _ _ _ _ _ => (dg_name (i := 15) sc_law_walk.nd)) (fun _ _ _ _ _ => dts_nil) (fun _ _ _ _ _ => (d_ixA hu (d_v 3) (d_call O_law_take takes0 hr (by omega) (da_cons (d_v 0) (da_cons (d_v 1) (da_cons (d_len n_len (da_cons (d_v 3) da_nil)) da_nil)))))) (sw_true rfl rfl rfl (by decide +kernel)))
    (dss_cons (ds_setLc (i := 14) false [("k", 15)] rfl sc_law_walk.nd (d_rng1 n_range (da_cons (d_v 5) da_nil)) (blkOk_by (N := law_walk_N) (sc := defScope s_law_walk) (by decide +kernel)) (fun _ _ _ _ _ => (dg_name (i := 15) sc_law_walk.nd)) (fun _ _ _ _ _ => dts_nil) (fun _ _ _ _ _ => (d_ixA hu (d_v 3) (d_call O_law_take takes0 hr (by omega) (da_cons (d_v 0) (da_cons (d_v 1) (da_cons (d_len n_len (da_cons (d_v 3) da_nil)) da_nil)))))) (sw_true rfl rfl rfl (by decide +kernel)))
    (dss_cons (ds_if (PW.pt (dw_and (dt_gt (d_v 5) d_int) (dw_one (dt_eq hu (d_mod (d_int1 n_int (da_cons (d_v 6) da_nil)) d_int) d_int)))) (dss_one (ds_setLc (i := 13) false [("k", 15)] rfl sc_law_walk.nd (d_rng1 n_range (da_cons (d_v 5) da_nil)) (blkOk_by (N := law_walk_N) (sc := defScope s_law_walk) (by decide +kernel)) (fun _ _ _ _ _ => (dg_name (i := 15) sc_law_walk.nd)) (fun _ _ _ _ _ => dts_nil) (fun _ _ _ _ _ => (d_add (d_sl (d_ixA hu (d_v 3) (d_mod (d_int1 n_int (da_cons (d_add (d_v 6) d_int) da_nil)) (d_len n_len (da_cons (d_v 3) da_nil)))) do_none (do_some d_int)) (d_strI n_str (da_cons (d_mod (d_int1 n_int (da_cons (d_add (d_mul (d_v 15) d_int) (d_v 6)) da_nil)) d_int) da_nil)))) (sw_true rfl rfl rfl (by decide +kernel)))) dss_nil)
    (dss_one (ds_ret (d_tup (da_cons d_str (da_cons (d_tuple n_tuple (da_cons (d_v 8) da_nil)) (da_cons (d_tuple n_tuple (da_cons (d_v 9) da_nil)) (da_cons (d_v 12) (da_cons (d_tuple n_tuple (da_cons (d_v 13) da_nil)) (da_cons (d_tuple n_tuple (da_cons (d_v 14) da_nil)) da_nil)))))))))))))))))))))),
    by
      refine T.okG 31 rfl (by decide +kernel) ?_ (fun _ _ _ _ _ _ us hl => match us, hl with | [_, _, _, _, _], _ => rfl)
      exact fun f fd dvs kws F => fn_run (N := law_tree_N) (k := 3 + b) (n := 9) (m := 5) (s := F_law_tree (rec_law_walk b 0) (rec_law_walk b 1)) F sc_law_tree rfl rfl (fun f cdv A outer s H E hr => have hu := roomU hr; (dss_cons (ds_asg (i := 5) sc_law_tree.nd (d_call O_law_take (takes_of rfl rfl rfl rfl) hr (by omega) (da_cons (d_v 0) (da_cons (d_v 1) (da_cons d_int da_nil)))))
    (dss_cons (ds_if (PW.pt (dw_and (dt_ge (d_v 2) d_int) (dw_and (dt_lt (d_v 5) d_int) (dw_one (dt_gt (d_call O_law_take (takes_of rfl rfl rfl rfl) hr (by omega) (da_cons (d_v 0) (da_cons (d_v 1) (da_cons d_int da_nil)))) d_int))))) (dss_one (ds_asg (i := 5) sc_law_tree.nd (d_add (d_v 5) d_int))) dss_nil)
    (dss_cons (ds_if (PW.pt (dw_or (dt_le (d_v 2) d_int) (dw_one (dt_lt (d_v 5) d_int)))) (dss_one (ds_ret (d_call O_law_atom (takes_of rfl rfl rfl rfl) hr (by omega) (da_cons (d_v 0) (da_cons (d_v 1) (da_cons (d_v 3) (da_cons (d_v 4) da_nil))))))) dss_nil)
    (dss_cons (ds_if (dt_lt (d_v 5) d_int) (dss_one (ds_ret (d_tup (da_cons d_str (da_cons (d_call O_law_tree (takes_of rfl rfl rfl rfl) hr (by omega) (da_cons (d_v 0) (da_cons (d_v 1) (da_cons (d_sub (d_v 2) d_int) (da_cons (d_v 3) (da_cons (d_v 4) da_nil)))))) da_nil))))) dss_nil)
    (dss_cons (ds_if (dt_lt (d_v 5) d_int) (dss_cons (ds_asg (i := 6) sc_law_tree.nd (d_call O_law_tree (takes_of rfl rfl rfl rfl) hr (by omega) (da_cons (d_v 0) (da_cons (d_v 1) (da_cons (d_sub (d_v 2) d_int) (da_cons (d_v 3) (da_cons (d_v 4) da_nil)))))))
    (dss_one (ds_ret (d_tup (da_cons (d_ixA hu (d_fz (d_lst (da_cons d_str (da_cons d_str da_nil)))) (d_call O_law_take (takes_of rfl rfl rfl rfl) hr (by omega) (da_cons (d_v 0) (da_cons (d_v 1) (da_cons d_int da_nil))))) (da_cons (d_v 6) (da_cons (d_call O_law_tree (takes_of rfl rfl rfl rfl) hr (by omega) (da_cons (d_v 0) (da_cons (d_v 1) (da_cons (d_sub (d_v 2) d_int) (da_cons (d_v 3) (da_cons (d_v 4) da_nil)))))) da_nil))))))) dss_nil)
    (dss_cons (ds_asg (i := 7) sc_law_tree.nd (d_ixA hu (d_v 3) (d_call O_law_take (takes_of rfl rfl rfl rfl) hr (by omega) (da_cons (d_v 0) (da_cons (d_v 1) (da_cons (d_len n_len (da_cons (d_v 3) da_nil)) da_nil))))))
    (dss_cons (ds_if (dt_lt (d_v 5) d_int) (dss_one (ds_ret (d_tup (da_cons (d_ixA hu (d_fz (d_lst (da_cons d_str (da_cons d_str da_nil)))) (d_sub (d_v 5) d_int)) (da_cons (d_v 7) (da_cons (d_call O_law_tree (takes_of rfl rfl rfl rfl) hr (by omega) (da_cons (d_v 0) (da_cons (d_v 1) (da_cons (d_sub (d_v 2) d_int) (da_cons (d_v 3) (da_cons (d_v 4) da_nil)))))) da_nil)))))) dss_nil)
    (dss_cons (ds_if (dt_lt (d_v 5) d_int) (dss_cons (ds_asg (i := 8) sc_law_tree.nd (d_ixA hu (d_v 3) (d_call O_law_take (takes_of rfl rfl rfl rfl) hr (by omega) (da_cons (d_v 0) (da_cons (d_v 1) (da_cons (d_len n_len (da_cons (d_v 3) da_nil)) da_nil))))))
    (dss_cons (ds_asg (i := 6) sc_law_tree.nd (d_call O_law_tree (takes_of rfl rfl rfl rfl) hr (by omega) (da_cons (d_v 0) (da_cons (d_v 1) (da_cons (d_sub (d_v 2) d_int) (da_cons (d_v 3) (da_cons (d_v 4) da_nil)))))))
    (dss_one (ds_ret (d_tup (da_cons d_str (da_cons (d_v 7) (da_cons (d_v 6) (da_cons (d_v 8) (da_cons (d_call O_law_tree (takes_of rfl rfl rfl rfl) hr (by omega) (da_cons (d_v 0) (da_cons (d_v 1) (da_cons (d_sub (d_v 2) d_int) (da_cons (d_v 3) (da_cons (d_v 4) da_nil)))))) da_nil)))))))))) dss_nil)
    (dss_one (ds_ret (d_call O_law_walk (takes_of rfl rfl rfl rfl) hr (by omega) (da_cons (d_v 0) (da_cons (d_v 1) (da_cons (d_v 2) (da_cons (d_v 3) (da_cons (d_v 4) (da_cons (d_ixA hu (d_fz (d_lst (da_cons d_int (da_cons d_int (da_cons d_int (da_cons d_int (da_cons d_int (da_cons d_int da_nil)))))))) (d_call O_law_take (takes_of rfl rfl rfl rfl) hr (by omega) (da_cons (d_v 0) (da_cons (d_v 1) (da_cons d_int da_nil))))) da_nil))))))))))))))))))⟩
end Kx
namespace Kx
open PySem PySem.Spec PyProof.Rows L2 Evl LX T XV RX WS DY
variable {P : Program} {w : World} {K : PySem.W.Frag} {mg : Str → Option Value} {base : Heap}
abbrev law_drawn_N : List Str := ["one", "two", "names", "pairs", "row", "at", "shape", "tree", "turn", "small"]
theorem sc_law_drawn : FnScope ["one", "two", "names", "pairs", "row", "at", "shape", "tree", "turn", "small"] ["one", "two", "names", "pairs"] (defScope s_law_drawn) := ⟨rfl, rfl, rfl, by decide +kernel, rfl, by decide +kernel, by decide +kernel⟩
theorem ok_law_drawn (T : TY pd w K mg) : OkG P w K mg base (64) "_law_drawn" ["one", "two", "names", "pairs"] (spF ⟨P, w, K⟩ f_law_drawn) := by
  have n_int := T.n "int" (by decide +kernel)
  have n_range := T.n "range" (by decide +kernel)
  have O_law_stream := ok_law_stream (P := P) (base := base) T
  have O_law_walk := (ok_rec_law_walk (P := P) (base := base) T 60).1
  have O_law_tree := (ok_rec_law_walk (P := P) (base := base) T 60).2
  have O_law_take := ok_law_take (P := P) (base := base) T
  refine T.okG 32 rfl (by decide +kernel) ?_ (fun _ _ _ _ _ _ us hl => match us, hl with | [_, _, _, _], _ => rfl)
  exact fun f fd dvs kws F => fn_run (N := law_drawn_N) F sc_law_drawn rfl rfl (fun f cdv A outer s H E hr => have hu := roomU hr; (dss_cons (ds_asg (i := 4) sc_law_drawn.nd (d_add (d_call O_law_stream (takes_of rfl rfl rfl rfl) hr (by decide) (da_cons (d_v 0) (da_cons d_int da_nil))) (d_call O_law_stream (takes_of rfl rfl rfl rfl) hr (by decide) (da_cons (d_v 1) (da_cons d_int da_nil)))))
    (dss_cons (ds_asg (i := 5) sc_law_drawn.nd (d_new (d_lst (da_cons d_int da_nil))))
    (dss_cons (ds_asg (i := 6) sc_law_drawn.nd (d_mod (d_int1 n_int (da_cons (d_ixA hu (d_v 4) d_int) da_nil)) d_int))
    (dss_cons (ds_if (dt_eq hu (d_v 6) d_int) (dss_one (ds_ret (d_call O_law_walk (takes_of rfl rfl rfl rfl) hr (by decide) (da_cons (d_v 4) (da_cons (d_v 5) (da_cons d_int (da_cons (d_v 2) (da_cons (d_v 3) (da_cons (d_ixA hu (d_fz (d_lst (da_cons (d_add d_int (d_int1 n_int (da_cons (d_ixA hu (d_v 4) d_int) da_nil))) (da_cons d_int da_nil)))) (d_mod (d_fdiv (d_int1 n_int (da_cons (d_ixA hu (d_v 4) d_int) da_nil)) d_int) d_int)) da_nil))))))))) dss_nil)
    (dss_cons (ds_asg (i := 7) sc_law_drawn.nd (d_call O_law_tree (takes_of rfl rfl rfl rfl) hr (by decide) (da_cons (d_v 4) (da_cons (d_v 5) (da_cons d_int (da_cons (d_v 2) (da_cons (d_v 3) da_nil)))))))
    (dss_cons (ds_if (dt_eq hu (d_v 6) d_int) (dss_one (ds_for (passes_of rfl) rfl (d_rng1 n_range (da_cons (d_mod (d_int1 n_int (da_cons (d_ixA hu (d_v 4) d_int) da_nil)) d_int) da_nil)) (dg_name (i := 8) sc_law_drawn.nd) (dss_cons (ds_asg (i := 9) sc_law_drawn.nd (d_call O_law_tree (takes_of rfl rfl rfl rfl) hr (by decide) (da_cons (d_v 4) (da_cons (d_v 5) (da_cons d_int (da_cons (d_v 2) (da_cons (d_v 3) da_nil)))))))
    (dss_one (ds_if (dt_eq hu (d_call O_law_take (takes_of rfl rfl rfl rfl) hr (by decide) (da_cons (d_v 4) (da_cons (d_v 5) (da_cons d_int da_nil)))) d_int) (dss_one (ds_asg (i := 7) sc_law_drawn.nd (d_tup (da_cons (d_ixA hu (d_fz (d_lst (da_cons d_str (da_cons d_str da_nil)))) (d_call O_law_take (takes_of rfl rfl rfl rfl) hr (by decide) (da_cons (d_v 4) (da_cons (d_v 5) (da_cons d_int da_nil))))) (da_cons (d_v 7) (da_cons (d_v 9) da_nil)))))) (dss_one (ds_asg (i := 7) sc_law_drawn.nd (d_tup (da_cons (d_ixA hu (d_fz (d_lst (da_cons d_str (da_cons d_str da_nil)))) (d_call O_law_take (takes_of rfl rfl rfl rfl) hr (by decide) (da_cons (d_v 4) (da_cons (d_v 5) (da_cons d_int da_nil))))) (da_cons (d_v 9) (da_cons (d_v 7) da_nil))))))))))) dss_nil)
    (dss_one (ds_ret (d_v 7))))))))))
abbrev law_size_N : List Str := ["tree", "word"]
theorem sc_law_size : FnScope ["tree", "word"] ["tree"] (defScope s_law_size) := ⟨rfl, rfl, rfl, by decide +kernel, rfl, by decide +kernel, by decide +kernel⟩
theorem ok_rec_law_size (T : TY pd w K mg) : ∀ b : Nat, OkG P w K mg base (1 + b) "_law_size" ["tree"] (spF ⟨P, w, K⟩ (rec_law_size b 0))
  | 0 => by
      refine T.okG 33 rfl (by decide +kernel) ?_ (fun _ _ _ _ _ _ us hl => match us, hl with | [_], _ => rfl)
      exact fun f fd dvs kws F => fn_no F
  | b + 1 => by
    have ih := ok_rec_law_size T b
    have O_law_size := ih
    exact by
      refine T.okG 33 rfl (by decide +kernel) ?_ (fun _ _ _ _ _ _ us hl => match us, hl with | [_], _ => rfl)
      exact fun f fd dvs kws F => fn_run (N := law_size_N) (k := 1 + b) (n := 2) (m := 1) (s := F_law_size (rec_law_size b 0)) F sc_law_size rfl rfl (fun f cdv A outer s H E hr => have hu := roomU hr; (dss_cons (ds_asg (i := 1) sc_law_size.nd (d_ixA hu (d_v 0) d_int))
    (dss_cons (ds_if (dt_eq hu (d_v 1) d_str) (dss_one (ds_ret (d_add d_int (d_call O_law_size (takes_of rfl rfl rfl rfl) hr (by omega) (da_cons (d_ixA hu (d_v 0) d_int) da_nil))))) dss_nil)
    (dss_cons (ds_if (dt_inA hu (d_v 1) (d_fz (d_lst (da_cons d_str (da_cons d_str da_nil))))) (dss_one (ds_ret (d_add (d_add d_int (d_call O_law_size (takes_of rfl rfl rfl rfl) hr (by omega) (da_cons (d_ixA hu (d_v 0) d_int) da_nil))) (d_call O_law_size (takes_of rfl rfl rfl rfl) hr (by omega) (da_cons (d_ixA hu (d_v 0) d_int) da_nil))))) dss_nil)
    (dss_cons (ds_if (dt_inA hu (d_v 1) (d_fz (d_lst (da_cons d_str (da_cons d_str da_nil))))) (dss_one (ds_ret (d_add d_int (d_call O_law_size (takes_of rfl rfl rfl rfl) hr (by omega) (da_cons (d_ixA hu (d_v 0) d_int) da_nil))))) dss_nil)
    (dss_cons (ds_if (dt_eq hu (d_v 1) d_str) (dss_one (ds_ret (d_add (d_add d_int (d_call O_law_size (takes_of rfl rfl rfl rfl) hr (by omega) (da_cons (d_ixA hu (d_v 0) d_int) da_nil))) (d_call O_law_size (takes_of rfl rfl rfl rfl) hr (by omega) (da_cons (d_ixA hu (d_v 0) d_int) da_nil))))) dss_nil)
    (dss_cons (ds_if (dt_eq hu (d_v 1) d_str) (dss_one (ds_ret (d_add d_int (d_call O_law_size (takes_of rfl rfl rfl rfl) hr (by omega) (da_cons (d_ixA hu (d_v 0) d_int) da_nil))))) dss_nil)
    (dss_one (ds_ret d_int)))))))))
end Kx
namespace Kx
open PySem PySem.Spec PyProof.Rows L2 Evl LX T XV RX WS DY
variable {P : Program} {w : World} {K : PySem.W.Frag} {mg : Str → Option Value} {base : Heap}
abbrev law_changed_N : List Str := ["tree", "row", "names", "word", "kind", "name", "place", "first", "other"]
theorem sc_law_changed : FnScope ["tree", "row", "names", "word", "kind", "name", "place", "first", "other"] ["tree", "row", "names"] (defScope s_law_changed) := ⟨rfl, rfl, rfl, by decide +kernel, rfl, by decide +kernel, by decide +kernel⟩
theorem ok_law_changed (T : TY pd w K mg) : OkG P w K mg base (1) "_law_changed" ["tree", "row", "names"] (spF ⟨P, w, K⟩ f_law_changed) := by
  have n_int := T.n "int" (by decide +kernel)
  have n_len := T.n "len" (by decide +kernel)
  refine T.okG 34 rfl (by decide +kernel) ?_ (fun _ _ _ _ _ _ us hl => match us, hl with | [_, _, _], _ => rfl)
  exact fun f fd dvs kws F => fn_run (N := law_changed_N) F sc_law_changed rfl rfl (fun f cdv A outer s H E hr => have hu := roomU hr; (dss_cons (ds_asg (i := 3) sc_law_changed.nd (d_ixA hu (d_v 0) d_int))
    (dss_cons (ds_asg (i := 4) sc_law_changed.nd (d_mod (d_int1 n_int (da_cons (d_ixA hu (d_v 1) d_int) da_nil)) d_int))
    (dss_cons (ds_asg (i := 5) sc_law_changed.nd (d_ixA hu (d_v 2) (d_mod (d_int1 n_int (da_cons (d_ixA hu (d_v 1) d_int) da_nil)) (d_len n_len (da_cons (d_v 2) da_nil)))))
    (dss_cons (ds_if (dt_eq hu (d_v 4) d_int) (dss_one (ds_ret (d_v 0))) dss_nil)
    (dss_cons (ds_if (dt_eq hu (d_v 3) d_str) (dss_cons (ds_asg (i := 6) sc_law_changed.nd (d_mod (d_int1 n_int (da_cons (d_ixA hu (d_v 1) d_int) da_nil)) (d_len n_len (da_cons (d_ixA hu (d_v 0) d_int) da_nil))))
    (dss_one (ds_ret (d_tup (da_cons d_str (da_cons (d_ixA hu (d_v 0) d_int) (da_cons (d_add (d_add (d_sl (d_ixA hu (d_v 0) d_int) do_none (do_some (d_v 6))) (d_tup (da_cons (d_v 5) da_nil))) (d_sl (d_ixA hu (d_v 0) d_int) (do_some (d_add (d_v 6) d_int)) do_none)) da_nil))))))) dss_nil)
    (dss_cons (ds_if (dt_inA hu (d_v 3) (d_fz (d_lst (da_cons d_str (da_cons d_str (da_cons d_str da_nil)))))) (dss_cons (ds_asg (i := 7) sc_law_changed.nd (d_ixA hu (d_fz (d_lst (da_cons d_str (da_cons d_str (da_cons d_str da_nil))))) (d_mod (d_int1 n_int (da_cons (d_ixA hu (d_v 1) d_int) da_nil)) d_int)))
    (dss_one (ds_ret (d_ixA hu (d_fz (d_lst (da_cons (d_tup (da_cons (d_v 7) (da_cons (d_ixA hu (d_v 0) d_int) (da_cons (d_ixA hu (d_v 0) d_int) da_nil)))) (da_cons (d_tup (da_cons (d_v 3) (da_cons (d_ixA hu (d_v 0) d_int) (da_cons (d_ixA hu (d_v 0) d_int) da_nil)))) (da_cons (d_tup (da_cons (d_v 3) (da_cons (d_ixA hu (d_v 0) d_int) (da_cons (d_v 5) da_nil)))) da_nil))))) (d_sub (d_v 4) d_int))))) dss_nil)
    (dss_cons (ds_if (dt_inA hu (d_v 3) (d_fz (d_lst (da_cons d_str (da_cons d_str da_nil))))) (dss_one (ds_ret (d_ixA hu (d_fz (d_lst (da_cons (d_tup (da_cons (d_ixA hu (d_fz (d_lst (da_cons d_str (da_cons d_str da_nil)))) (d_int1 n_int (da_cons (d_eq hu (d_v 3) d_str) da_nil))) (da_cons (d_ixA hu (d_v 0) d_int) da_nil))) (da_cons (d_tup (da_cons (d_v 3) (da_cons (d_v 5) da_nil))) da_nil)))) (d_mod (d_v 4) d_int)))) dss_nil)
    (dss_cons (ds_if (dt_eq hu (d_v 3) d_str) (dss_one (ds_ret (d_ixA hu (d_fz (d_lst (da_cons (d_ixA hu (d_v 0) d_int) (da_cons (d_tup (da_cons d_str (da_cons (d_v 0) da_nil))) da_nil)))) (d_mod (d_v 4) d_int)))) dss_nil)
    (dss_cons (ds_if (dt_inA hu (d_v 3) (d_fz (d_lst (da_cons d_str (da_cons d_str da_nil))))) (dss_cons (ds_asg (i := 8) sc_law_changed.nd (d_ixA hu (d_fz (d_lst (da_cons d_str (da_cons d_str da_nil)))) (d_int1 n_int (da_cons (d_eq hu (d_v 3) d_str) da_nil))))
    (dss_one (ds_ret (d_ixA hu (d_fz (d_lst (da_cons (d_tup (da_cons (d_v 8) (da_cons (d_ixA hu (d_v 0) d_int) (da_cons (d_ixA hu (d_v 0) d_int) da_nil)))) (da_cons (d_tup (da_cons (d_v 3) (da_cons (d_ixA hu (d_v 0) d_int) (da_cons (d_ixA hu (d_v 0) d_int) da_nil)))) (da_cons (d_tup (da_cons d_str (da_cons (d_v 0) da_nil))) da_nil))))) (d_sub (d_v 4) d_int))))) dss_nil)
    (dss_cons (ds_if (dt_inA hu (d_v 3) (d_fz (d_lst (da_cons d_str (da_cons d_str da_nil))))) (dss_cons (ds_asg (i := 8) sc_law_changed.nd (d_ixA hu (d_fz (d_lst (da_cons d_str (da_cons d_str da_nil)))) (d_int1 n_int (da_cons (d_eq hu (d_v 3) d_str) da_nil))))
    (dss_one (ds_ret (d_ixA hu (d_fz (d_lst (da_cons (d_tup (da_cons (d_v 8) (da_cons (d_ixA hu (d_v 0) d_int) (da_cons (d_ixA hu (d_v 0) d_int) da_nil)))) (da_cons (d_tup (da_cons (d_v 3) (da_cons (d_v 5) (da_cons (d_ixA hu (d_v 0) d_int) da_nil)))) da_nil)))) (d_mod (d_v 4) d_int))))) dss_nil)
    (dss_cons (ds_if (dt_eq hu (d_v 3) d_str) (dss_cons (ds_if (dt_eq hu (d_v 4) d_int) (dss_one (ds_ret (d_tup (da_cons d_str (da_cons (d_ixA hu (d_v 0) d_int) (da_cons (d_ixA hu (d_v 0) d_int) (da_cons (d_ixA hu (d_v 0) d_int) (da_cons (d_ixA hu (d_v 0) d_int) da_nil)))))))) dss_nil)
    (dss_one (ds_ret (d_ixA hu (d_fz (d_lst (da_cons (d_tup (da_cons d_str (da_cons (d_v 5) (da_cons (d_ixA hu (d_v 0) d_int) (da_cons (d_ixA hu (d_v 0) d_int) (da_cons (d_ixA hu (d_v 0) d_int) da_nil)))))) (da_cons (d_tup (da_cons d_str (da_cons (d_ixA hu (d_v 0) d_int) (da_cons (d_ixA hu (d_v 0) d_int) (da_cons (d_v 5) (da_cons (d_ixA hu (d_v 0) d_int) da_nil)))))) da_nil)))) (d_sub (d_v 4) d_int))))) dss_nil)
    (dss_cons (ds_if (dt_eq hu (d_v 4) d_int) (dss_one (ds_ret (d_tup (da_cons d_str (da_cons (d_ixA hu (d_v 0) d_int) (da_cons (d_ixA hu (d_v 0) d_int) (da_cons (d_ixA hu (d_v 0) d_int) (da_cons (d_ixA hu (d_v 0) d_int) (da_cons (d_ixA hu (d_v 0) d_int) da_nil))))))))) dss_nil)
    (dss_cons (ds_if (dt_eq hu (d_v 4) d_int) (dss_one (ds_ret (d_tup (da_cons d_str (da_cons (d_ixA hu (d_v 0) d_int) (da_cons (d_ixA hu (d_v 0) d_int) (da_cons (d_ixA hu (d_v 0) d_int) (da_cons (d_ixA hu (d_v 0) d_int) (da_cons (d_ixA hu (d_v 0) d_int) da_nil))))))))) dss_nil)
    (dss_one (ds_ret (d_tup (da_cons d_str (da_cons (d_ixA hu (d_v 0) d_int) (da_cons (d_ixA hu (d_v 0) d_int) (da_cons (d_ixA hu (d_v 0) d_int) (da_cons (d_add (d_tup (da_cons (d_v 5) da_nil)) (d_sl (d_ixA hu (d_v 0) d_int) (do_some d_int) do_none)) (da_cons (d_ixA hu (d_v 0) d_int) da_nil)))))))))))))))))))))))
end Kx
namespace Kx
open PySem PySem.Spec PyProof.Rows L2 Evl LX T XV RX WS DY
variable {P : Program} {w : World} {K : PySem.W.Frag} {mg : Str → Option Value} {base : Heap}
abbrev law_edited_N : List Str := ["tree", "left", "row", "names", "word", "one"]
theorem sc_law_edited : FnScope ["tree", "left", "row", "names", "word", "one"] ["tree", "left", "row", "names"] (defScope s_law_edited) := ⟨rfl, rfl, rfl, by decide +kernel, rfl, by decide +kernel, by decide +kernel⟩
theorem ok_rec_law_edited (T : TY pd w K mg) : ∀ b : Nat, OkG P w K mg base (2 + b) "_law_edited" ["tree", "left", "row", "names"] (spF ⟨P, w, K⟩ (rec_law_edited b 0))
  | 0 => by
      refine T.okG 35 rfl (by decide +kernel) ?_ (fun _ _ _ _ _ _ us hl => match us, hl with | [_, _, _, _], _ => rfl)
      exact fun f fd dvs kws F => fn_no F
  | b + 1 => by
    have ih := ok_rec_law_edited T b
    have O_law_edited := ih
    have O_law_changed := ok_law_changed (P := P) (base := base) T
    exact by
      refine T.okG 35 rfl (by decide +kernel) ?_ (fun _ _ _ _ _ _ us hl => match us, hl with | [_, _, _, _], _ => rfl)
      exact fun f fd dvs kws F => fn_run (N := law_edited_N) (k := 2 + b) (n := 6) (m := 4) (s := F_law_edited (rec_law_edited b 0)) F sc_law_edited rfl rfl (fun f cdv A outer s H E hr => have hu := roomU hr; (dss_cons (ds_set hu (d_sub (d_ixA hu (d_v 1) d_int) d_int) (d_v 1) d_int)
    (dss_cons (ds_if (dt_eq hu (d_ixA hu (d_v 1) d_int) (d_neg d_int)) (dss_one (ds_ret (d_call O_law_changed (takes_of rfl rfl rfl rfl) hr (by omega) (da_cons (d_v 0) (da_cons (d_v 2) (da_cons (d_v 3) da_nil)))))) dss_nil)
    (dss_cons (ds_asg (i := 4) sc_law_edited.nd (d_ixA hu (d_v 0) d_int))
    (dss_cons (ds_if (dt_eq hu (d_v 4) d_str) (dss_one (ds_ret (d_tup (da_cons d_str (da_cons (d_call O_law_edited (takes_of rfl rfl rfl rfl) hr (by omega) (da_cons (d_ixA hu (d_v 0) d_int) (da_cons (d_v 1) (da_cons (d_v 2) (da_cons (d_v 3) da_nil))))) da_nil))))) dss_nil)
    (dss_cons (ds_if (dt_inA hu (d_v 4) (d_fz (d_lst (da_cons d_str (da_cons d_str da_nil))))) (dss_cons (ds_asg (i := 5) sc_law_edited.nd (d_call O_law_edited (takes_of rfl rfl rfl rfl) hr (by omega) (da_cons (d_ixA hu (d_v 0) d_int) (da_cons (d_v 1) (da_cons (d_v 2) (da_cons (d_v 3) da_nil))))))
    (dss_one (ds_ret (d_tup (da_cons (d_v 4) (da_cons (d_v 5) (da_cons (d_call O_law_edited (takes_of rfl rfl rfl rfl) hr (by omega) (da_cons (d_ixA hu (d_v 0) d_int) (da_cons (d_v 1) (da_cons (d_v 2) (da_cons (d_v 3) da_nil))))) da_nil))))))) dss_nil)
    (dss_cons (ds_if (dt_inA hu (d_v 4) (d_fz (d_lst (da_cons d_str (da_cons d_str da_nil))))) (dss_one (ds_ret (d_tup (da_cons (d_v 4) (da_cons (d_ixA hu (d_v 0) d_int) (da_cons (d_call O_law_edited (takes_of rfl rfl rfl rfl) hr (by omega) (da_cons (d_ixA hu (d_v 0) d_int) (da_cons (d_v 1) (da_cons (d_v 2) (da_cons (d_v 3) da_nil))))) da_nil)))))) dss_nil)
    (dss_cons (ds_if (dt_eq hu (d_v 4) d_str) (dss_cons (ds_asg (i := 5) sc_law_edited.nd (d_call O_law_edited (takes_of rfl rfl rfl rfl) hr (by omega) (da_cons (d_ixA hu (d_v 0) d_int) (da_cons (d_v 1) (da_cons (d_v 2) (da_cons (d_v 3) da_nil))))))
    (dss_one (ds_ret (d_tup (da_cons d_str (da_cons (d_ixA hu (d_v 0) d_int) (da_cons (d_v 5) (da_cons (d_ixA hu (d_v 0) d_int) (da_cons (d_call O_law_edited (takes_of rfl rfl rfl rfl) hr (by omega) (da_cons (d_ixA hu (d_v 0) d_int) (da_cons (d_v 1) (da_cons (d_v 2) (da_cons (d_v 3) da_nil))))) da_nil))))))))) dss_nil)
    (dss_cons (ds_if (dt_eq hu (d_v 4) d_str) (dss_one (ds_ret (d_tup (da_cons d_str (da_cons (d_ixA hu (d_v 0) d_int) (da_cons (d_ixA hu (d_v 0) d_int) (da_cons (d_call O_law_edited (takes_of rfl rfl rfl rfl) hr (by omega) (da_cons (d_ixA hu (d_v 0) d_int) (da_cons (d_v 1) (da_cons (d_v 2) (da_cons (d_v 3) da_nil))))) (da_cons (d_ixA hu (d_v 0) d_int) (da_cons (d_ixA hu (d_v 0) d_int) da_nil))))))))) dss_nil)
    (dss_one (ds_ret (d_v 0))))))))))))
abbrev law_near_N : List Str := ["tree", "cell", "names", "row", "place"]
theorem sc_law_near : FnScope ["tree", "cell", "names", "row", "place"] ["tree", "cell", "names"] (defScope s_law_near) := ⟨rfl, rfl, rfl, by decide +kernel, rfl, by decide +kernel, by decide +kernel⟩
theorem ok_law_near (T : TY pd w K mg) : OkG P w K mg base (63) "_law_near" ["tree", "cell", "names"] (spF ⟨P, w, K⟩ f_law_near) := by
  have n_int := T.n "int" (by decide +kernel)
  have O_law_stream := ok_law_stream (P := P) (base := base) T
  have O_law_size := (ok_rec_law_size (P := P) (base := base) T 60)
  have O_law_edited := (ok_rec_law_edited (P := P) (base := base) T 60)
  refine T.okG 36 rfl (by decide +kernel) ?_ (fun _ _ _ _ _ _ us hl => match us, hl with | [_, _, _], _ => rfl)
  exact fun f fd dvs kws F => fn_run (N := law_near_N) F sc_law_near rfl rfl (fun f cdv A outer s H E hr => have hu := roomU hr; (dss_cons (ds_asg (i := 3) sc_law_near.nd (d_call O_law_stream (takes_of rfl rfl rfl rfl) hr (by decide) (da_cons (d_v 1) (da_cons d_int da_nil))))
    (dss_cons (ds_asg (i := 4) sc_law_near.nd (d_mod (d_int1 n_int (da_cons (d_add (d_mul (d_ixA hu (d_v 3) d_int) d_int) (d_ixA hu (d_v 3) d_int)) da_nil)) (d_call O_law_size (takes_of rfl rfl rfl rfl) hr (by decide) (da_cons (d_v 0) da_nil))))
    (dss_one (ds_ret (d_call O_law_edited (takes_of rfl rfl rfl rfl) hr (by decide) (da_cons (d_v 0) (da_cons (d_new (d_lst (da_cons (d_v 4) da_nil))) (da_cons (d_v 3) (da_cons (d_v 2) da_nil))))))))))
end Kx
namespace Kx
open PySem PySem.Spec PyProof.Rows L2 Evl LX T XV RX WS DY
variable {P : Program} {w : World} {K : PySem.W.Frag} {mg : Str → Option Value} {base : Heap}
abbrev law_mixed_N : List Str := ["value", "row", "at", "made", "part"]
theorem sc_law_mixed : FnScope ["value", "row", "at", "made", "part"] ["value", "row", "at"] (defScope s_law_mixed) := ⟨rfl, rfl, rfl, by decide +kernel, rfl, by decide +kernel, by decide +kernel⟩
theorem ok_rec_law_mixed (T : TY pd w K mg) : ∀ b : Nat, OkG P w K mg base (2 + b) "_law_mixed" ["value", "row", "at"] (spF ⟨P, w, K⟩ (rec_law_mixed b 0))
  | 0 => by
      refine T.okG 37 rfl (by decide +kernel) ?_ (fun _ _ _ _ _ _ us hl => match us, hl with | [_, _, _], _ => rfl)
      exact fun f fd dvs kws F => fn_no F
  | b + 1 => by
    have ih := ok_rec_law_mixed T b
    have O_law_mixed := ih
    have n_isinstance := T.n "isinstance" (by decide +kernel)
    have n_tuple := T.n "tuple" (by decide +kernel)
    have n_list := T.n "list" (by decide +kernel)
    have O_law_take := ok_law_take (P := P) (base := base) T
    exact by
      refine T.okG 37 rfl (by decide +kernel) ?_ (fun _ _ _ _ _ _ us hl => match us, hl with | [_, _, _], _ => rfl)
      exact fun f fd dvs kws F => fn_run (N := law_mixed_N) (k := 2 + b) (n := 5) (m := 3) (s := F_law_mixed (rec_law_mixed b 0)) F sc_law_mixed rfl rfl (fun f cdv A outer s H E hr => have hu := roomU hr; (dss_cons (ds_if (PW.pt (dw_and (dt_not (dt_val (d_isi .tuple n_isinstance (d_v 0) (pe_bltn (v := .ty "tuple") (u := .type "tuple") (by rfl) n_tuple (by decide +kernel) rfl)))) (dw_one (dt_not (dt_val (d_isi .list n_isinstance (d_v 0) (pe_bltn (v := .ty "list") (u := .type "list") (by rfl) n_list (by decide +kernel) rfl))))))) (dss_one (ds_ret (d_v 0))) dss_nil)
    (dss_cons (ds_setLc (i := 3) false [("part", 4)] rfl sc_law_mixed.nd (d_iPl (d_v 0)) (blkOk_by (N := law_mixed_N) (sc := defScope s_law_mixed) (by decide +kernel)) (fun _ _ _ _ _ => (dg_name (i := 4) sc_law_mixed.nd)) (fun _ _ _ _ _ => dts_nil) (fun _ _ _ _ _ => (d_call O_law_mixed takes0 hr (by omega) (da_cons (d_v 4) (da_cons (d_v 1) (da_cons (d_v 2) da_nil))))) (sw_true rfl rfl rfl (by decide +kernel)))
    (dss_cons (ds_if (dt_eq hu (d_call O_law_take (takes_of rfl rfl rfl rfl) hr (by omega) (da_cons (d_v 1) (da_cons (d_v 2) (da_cons d_int da_nil)))) d_int) (dss_one (ds_ret (d_v 3))) dss_nil)
    (dss_one (ds_ret (d_tuple n_tuple (da_cons (d_v 3) da_nil))))))))
abbrev law_alike_N : List Str := ["actual", "due", "k"]
theorem sc_law_alike : FnScope ["actual", "due", "k"] ["actual", "due"] (defScope s_law_alike) := ⟨rfl, rfl, rfl, by decide +kernel, rfl, by decide +kernel, by decide +kernel⟩
theorem ok_rec_law_alike (T : TY pd w K mg) : ∀ b : Nat, OkG P w K mg base (1 + b) "_law_alike" ["actual", "due"] (spF ⟨P, w, K⟩ (rec_law_alike b 0))
  | 0 => by
      refine T.okG 38 rfl (by decide +kernel) ?_ (fun _ _ _ _ _ _ us hl => match us, hl with | [_, _], _ => rfl)
      exact fun f fd dvs kws F => fn_no F
  | b + 1 => by
    have ih := ok_rec_law_alike T b
    have O_law_alike := ih
    have n_isinstance := T.n "isinstance" (by decide +kernel)
    have n_tuple := T.n "tuple" (by decide +kernel)
    have n_list := T.n "list" (by decide +kernel)
    have n_len := T.n "len" (by decide +kernel)
    have n_range := T.n "range" (by decide +kernel)
    have n_bool := T.n "bool" (by decide +kernel)
    have n_str := T.n "str" (by decide +kernel)
    exact by
      refine T.okG 38 rfl (by decide +kernel) ?_ (fun _ _ _ _ _ _ us hl => match us, hl with | [_, _], _ => rfl)
      exact fun f fd dvs kws F => fn_run (N := law_alike_N) (k := 1 + b) (n := 3) (m := 2) (s := F_law_alike (rec_law_alike b 0)) F sc_law_alike rfl rfl (fun f cdv A outer s H E hr => have hu := roomU hr; (dss_cons (ds_if (PW.pt (dw_or (dt_val (d_isi .tuple n_isinstance (d_v 1) (pe_bltn (v := .ty "tuple") (u := .type "tuple") (by rfl) n_tuple (by decide +kernel) rfl))) (dw_one (dt_val (d_isi .list n_isinstance (d_v 1) (pe_bltn (v := .ty "list") (u := .type "list") (by rfl) n_list (by decide +kernel) rfl)))))) (dss_cons (ds_if (PW.pt (dw_or (dt_ne hu (d_isi .tuple n_isinstance (d_v 0) (pe_bltn (v := .ty "tuple") (u := .type "tuple") (by rfl) n_tuple (by decide +kernel) rfl)) (d_isi .tuple n_isinstance (d_v 1) (pe_bltn (v := .ty "tuple") (u := .type "tuple") (by rfl) n_tuple (by decide +kernel) rfl))) (dw_one (dt_ne hu (d_isi .list n_isinstance (d_v 0) (pe_bltn (v := .ty "list") (u := .type "list") (by rfl) n_list (by decide +kernel) rfl)) (d_isi .list n_isinstance (d_v 1) (pe_bltn (v := .ty "list") (u := .type "list") (by rfl) n_list (by decide +kernel) rfl)))))) (dss_one (ds_ret d_bl)) dss_nil)
    (dss_cons (ds_if (dt_ne hu (d_len n_len (da_cons (d_v 0) da_nil)) (d_len n_len (da_cons (d_v 1) da_nil))) (dss_one (ds_ret d_bl)) dss_nil)
    (dss_cons (ds_for (passes_of rfl) rfl (d_rng1 n_range (da_cons (d_len n_len (da_cons (d_v 1) da_nil)) da_nil)) (dg_name (i := 2) sc_law_alike.nd) (dss_one (ds_if (dt_not (dt_val (d_call O_law_alike (takes_of rfl rfl rfl rfl) hr (by omega) (da_cons (d_ixA hu (d_v 0) (d_v 2)) (da_cons (d_ixA hu (d_v 1) (d_v 2)) da_nil))))) (dss_one (ds_ret d_bl)) dss_nil)))
    (dss_one (ds_ret d_bl))))) dss_nil)
    (dss_cons (ds_if (PW.pt (dw_or (dt_ne hu (d_isi .bool n_isinstance (d_v 0) (pe_bltn (v := .ty "bool") (u := .type "bool") (by rfl) n_bool (by decide +kernel) rfl)) (d_isi .bool n_isinstance (d_v 1) (pe_bltn (v := .ty "bool") (u := .type "bool") (by rfl) n_bool (by decide +kernel) rfl))) (dw_one (dt_ne hu (d_isi .str n_isinstance (d_v 0) (pe_bltn (v := .ty "str") (u := .type "str") (by rfl) n_str (by decide +kernel) rfl)) (d_isi .str n_isinstance (d_v 1) (pe_bltn (v := .ty "str") (u := .type "str") (by rfl) n_str (by decide +kernel) rfl)))))) (dss_one (ds_ret d_bl)) dss_nil)
    (dss_one (ds_ret (d_eq hu (d_v 0) (d_v 1)))))))
end Kx
namespace Kx
open PySem PySem.Spec PyProof.Rows L2 Evl LX T XV RX WS DY
variable {P : Program} {w : World} {K : PySem.W.Frag} {mg : Str → Option Value} {base : Heap}
abbrev law_text_N : List Str := ["tree", "word", "one", "step"]
theorem sc_law_text : FnScope ["tree", "word", "one", "step"] ["tree"] (defScope s_law_text) := ⟨rfl, rfl, rfl, by decide +kernel, rfl, by decide +kernel, by decide +kernel⟩
abbrev law_wrapped_N : List Str := ["tree"]
theorem sc_law_wrapped : FnScope ["tree"] ["tree"] (defScope s_law_wrapped) := ⟨rfl, rfl, rfl, by decide +kernel, rfl, by decide +kernel, by decide +kernel⟩
theorem ok_rec_law_text (T : TY pd w K mg) : ∀ b : Nat, OkG P w K mg base (1 + b) "_law_text" ["tree"] (spF ⟨P, w, K⟩ (rec_law_text b 0)) ∧ OkG P w K mg base (1 + b) "_law_wrapped" ["tree"] (spF ⟨P, w, K⟩ (rec_law_text b 1))
  | 0 => ⟨by
      refine T.okG 39 rfl (by decide +kernel) ?_ (fun _ _ _ _ _ _ us hl => match us, hl with | [_], _ => rfl)
      exact fun f fd dvs kws F => fn_no F,
    by
      refine T.okG 40 rfl (by decide +kernel) ?_ (fun _ _ _ _ _ _ us hl => match us, hl with | [_], _ => rfl)
      exact fun f fd dvs kws F => fn_no F⟩
  | b + 1 => by
    have ih := ok_rec_law_text T b
    have O_law_text := ih.1
    have O_law_wrapped := ih.2
    exact ⟨by
      refine T.okG 39 rfl (by decide +kernel) ?_ (fun _ _ _ _ _ _ us hl => match us, hl with | [_], _ => rfl)
      exact fun f fd dvs kws F => fn_run (N := law_text_N) (k := 1 + b) (n := 4) (m := 1) (s := F_law_text (rec_law_text b 0) (rec_law_text b 1)) F sc_law_text rfl rfl (fun f cdv A outer s H E hr => have hu := roomU hr; (dss_cons (ds_asg (i := 1) sc_law_text.nd (d_ixA hu (d_v 0) d_int))
    (dss_cons (ds_if (dt_eq hu (d_v 1) d_str) (dss_one (ds_ret (d_add (d_add (d_add (d_ixA hu (d_v 0) d_int) d_str) (d_join d_str (d_ixA hu (d_v 0) d_int))) d_str))) dss_nil)
    (dss_cons (ds_if (dt_inA hu (d_v 1) (d_fz (d_lst (da_cons d_str (da_cons d_str (da_cons d_str da_nil)))))) (dss_one (ds_ret (d_add (d_add (d_add (d_v 1) d_str) (d_join d_str (d_sl (d_v 0) (do_some d_int) do_none))) d_str))) dss_nil)
    (dss_cons (ds_if (dt_eq hu (d_v 1) d_str) (dss_one (ds_ret (d_add (d_add (d_ixA hu (d_v 0) d_int) d_str) (d_ixA hu (d_v 0) d_int)))) dss_nil)
    (dss_cons (ds_if (dt_eq hu (d_v 1) d_str) (dss_one (ds_ret (d_add (d_add (d_ixA hu (d_v 0) d_int) d_str) (d_ixA hu (d_v 0) d_int)))) dss_nil)
    (dss_cons (ds_if (dt_eq hu (d_v 1) d_str) (dss_one (ds_ret (d_add d_str (d_call O_law_wrapped (takes_of rfl rfl rfl rfl) hr (by omega) (da_cons (d_ixA hu (d_v 0) d_int) da_nil))))) dss_nil)
    (dss_cons (ds_if (dt_inA hu (d_v 1) (d_fz (d_lst (da_cons d_str (da_cons d_str da_nil))))) (dss_one (ds_ret (d_add (d_add (d_add (d_add (d_call O_law_wrapped (takes_of rfl rfl rfl rfl) hr (by omega) (da_cons (d_ixA hu (d_v 0) d_int) da_nil)) d_str) (d_v 1)) d_str) (d_call O_law_wrapped (takes_of rfl rfl rfl rfl) hr (by omega) (da_cons (d_ixA hu (d_v 0) d_int) da_nil))))) dss_nil)
    (dss_cons (ds_if (dt_inA hu (d_v 1) (d_fz (d_lst (da_cons d_str (da_cons d_str da_nil))))) (dss_one (ds_ret (d_add (d_add (d_add (d_add (d_v 1) d_str) (d_ixA hu (d_v 0) d_int)) d_str) (d_call O_law_text (takes_of rfl rfl rfl rfl) hr (by omega) (da_cons (d_ixA hu (d_v 0) d_int) da_nil))))) dss_nil)
    (dss_cons (ds_if (dt_eq hu (d_v 1) d_str) (dss_cons (ds_asg (i := 2) sc_law_text.nd (d_add (d_add (d_add (d_add d_str (d_ixA hu (d_v 0) d_int)) d_str) (d_call O_law_text (takes_of rfl rfl rfl rfl) hr (by omega) (da_cons (d_ixA hu (d_v 0) d_int) da_nil))) d_str))
    (dss_one (ds_ret (d_add (d_add (d_add (d_add (d_add (d_v 2) d_str) (d_ixA hu (d_v 0) d_int)) d_str) (d_call O_law_text (takes_of rfl rfl rfl rfl) hr (by omega) (da_cons (d_ixA hu (d_v 0) d_int) da_nil))) d_str)))) dss_nil)
    (dss_cons (ds_asg (i := 3) sc_law_text.nd (d_add (d_add (d_add (d_add (d_join d_str (d_ixA hu (d_v 0) d_int)) d_str) (d_join d_str (d_ixA hu (d_v 0) d_int))) d_str) (d_call O_law_text (takes_of rfl rfl rfl rfl) hr (by omega) (da_cons (d_ixA hu (d_v 0) d_int) da_nil))))
    (dss_one (ds_ret (d_add (d_add (d_add (d_add (d_add d_str (d_v 3)) d_str) (d_join d_str (d_ixA hu (d_v 0) d_int))) d_str) (d_join d_str (d_ixA hu (d_v 0) d_int)))))))))))))))),
    by
      refine T.okG 40 rfl (by decide +kernel) ?_ (fun _ _ _ _ _ _ us hl => match us, hl with | [_], _ => rfl)
      exact fun f fd dvs kws F => fn_run (N := law_wrapped_N) (k := 1 + b) (n := 1) (m := 1) (s := F_law_wrapped (rec_law_text b 0) (rec_law_text b 1)) F sc_law_wrapped rfl rfl (fun f cdv A outer s H E hr => have hu := roomU hr; (dss_cons (ds_if (dt_inA hu (d_ixA hu (d_v 0) d_int) (d_fz (d_lst (da_cons d_str (da_cons d_str (da_cons d_str (da_cons d_str (da_cons d_str da_nil)))))))) (dss_one (ds_ret (d_add (d_add d_str (d_call O_law_text (takes_of rfl rfl rfl rfl) hr (by omega) (da_cons (d_v 0) da_nil))) d_str))) dss_nil)
    (dss_one (ds_ret (d_call O_law_text (takes_of rfl rfl rfl rfl) hr (by omega) (da_cons (d_v 0) da_nil))))))⟩
end Kx
namespace Kx
open PySem PySem.Spec PyProof.Rows L2 Evl LX T XV RX WS DY
variable {P : Program} {w : World} {K : PySem.W.Frag} {mg : Str → Option Value} {base : Heap}
abbrev law_N : List Str := ["script", "names", "pairs", "tree", "near", "row", "one", "two", "texts"]
theorem sc_law : FnScope ["script", "names", "pairs", "tree", "near", "row", "one", "two", "texts"] ["script"] (defScope s_law) := ⟨rfl, rfl, rfl, by decide +kernel, rfl, by decide +kernel, by decide +kernel⟩
theorem fn_law (T : TY pd w K mg) {f : Addr} {fd : FuncData} {dvs : List V} {kws : List (Str × V)} (F : FunD K "law" "law" (defArgs s_law) (defBody s_law) (defScope s_law) dvs kws f fd) : FnOk P w K mg base (L2.CX P w) 94 f fd ["script"] (spF ⟨P, w, K⟩ f_law) := by
  have O_law_cell := ok_law_cell (P := P) (base := base) T
  have O_law_pool := ok_law_pool (P := P) (base := base) T
  have O_law_pairs := ok_law_pairs (P := P) (base := base) T
  have O_law_drawn := ok_law_drawn (P := P) (base := base) T
  have O_law_near := ok_law_near (P := P) (base := base) T
  have O_law_stream := ok_law_stream (P := P) (base := base) T
  have O_law_mixed := (ok_rec_law_mixed (P := P) (base := base) T 60)
  have O_Question_init := ok_Question_init (P := P) (base := base) T
  have O_write_question := ok_write_question (P := P) (base := base) T
  have O_law_text := (ok_rec_law_text (P := P) (base := base) T 90).1
  have O_law_alike := (ok_rec_law_alike (P := P) (base := base) T 60)
  exact fn_run (N := law_N) F sc_law rfl rfl (fun f cdv A outer s H E hr => have hu := roomU hr; (dss_cons (ds_asg (i := 1) sc_law.nd (d_call O_law_pool (takes_of rfl rfl rfl rfl) hr (by decide) (da_cons (d_call O_law_cell (takes_of rfl rfl rfl rfl) hr (by decide) (da_cons (d_v 0) (da_cons d_int da_nil))) (da_cons d_int da_nil))))
    (dss_cons (ds_asg (i := 2) sc_law.nd (d_call O_law_pairs (takes_of rfl rfl rfl rfl) hr (by decide) (da_cons (d_call O_law_cell (takes_of rfl rfl rfl rfl) hr (by decide) (da_cons (d_v 0) (da_cons d_int da_nil))) (da_cons (d_v 1) da_nil))))
    (dss_cons (ds_asg (i := 3) sc_law.nd (d_call O_law_drawn (takes_of rfl rfl rfl rfl) hr (by decide) (da_cons (d_call O_law_cell (takes_of rfl rfl rfl rfl) hr (by decide) (da_cons (d_v 0) (da_cons d_int da_nil))) (da_cons (d_call O_law_cell (takes_of rfl rfl rfl rfl) hr (by decide) (da_cons (d_v 0) (da_cons d_int da_nil))) (da_cons (d_v 1) (da_cons (d_v 2) da_nil))))))
    (dss_cons (ds_asg (i := 4) sc_law.nd (d_call O_law_near (takes_of rfl rfl rfl rfl) hr (by decide) (da_cons (d_v 3) (da_cons (d_call O_law_cell (takes_of rfl rfl rfl rfl) hr (by decide) (da_cons (d_v 0) (da_cons d_int da_nil))) (da_cons (d_v 1) da_nil)))))
    (dss_cons (ds_asg (i := 5) sc_law.nd (d_call O_law_stream (takes_of rfl rfl rfl rfl) hr (by decide) (da_cons (d_call O_law_cell (takes_of rfl rfl rfl rfl) hr (by decide) (da_cons (d_v 0) (da_cons d_int da_nil))) (da_cons d_int da_nil))))
    (dss_cons (ds_asg (i := 6) sc_law.nd (d_mk false (d := cd_Question) rfl (T.k cd_Question (by simp [pd, csN])) O_Question_init (takes_of rfl rfl rfl rfl) hr (by decide) (da_cons (d_call O_law_mixed (takes_of rfl rfl rfl rfl) hr (by decide) (da_cons (d_v 3) (da_cons (d_v 5) (da_cons (d_new (d_lst (da_cons d_int da_nil))) da_nil)))) da_nil)))
    (dss_cons (ds_asg (i := 7) sc_law.nd (d_mk false (d := cd_Question) rfl (T.k cd_Question (by simp [pd, csN])) O_Question_init (takes_of rfl rfl rfl rfl) hr (by decide) (da_cons (d_v 4) da_nil)))
    (dss_cons (ds_asg (i := 8) sc_law.nd (d_fz (d_lst (da_cons (d_call O_write_question (takes_of rfl rfl rfl rfl) hr (by decide) (da_cons (d_v 6) da_nil)) (da_cons (d_call O_write_question (takes_of rfl rfl rfl rfl) hr (by decide) (da_cons (d_v 7) da_nil)) (da_cons (d_call O_write_question (takes_of rfl rfl rfl rfl) hr (by decide) (da_cons (d_v 6) da_nil)) da_nil))))))
    (dss_cons (ds_if (dt_not (dt_val (d_call O_law_alike (takes_of rfl rfl rfl rfl) hr (by decide) (da_cons (d_v 8) (da_cons (d_fz (d_lst (da_cons (d_call O_law_text (takes_of rfl rfl rfl rfl) hr (by decide) (da_cons (d_v 3) da_nil)) (da_cons (d_call O_law_text (takes_of rfl rfl rfl rfl) hr (by decide) (da_cons (d_v 4) da_nil)) (da_cons (d_call O_law_text (takes_of rfl rfl rfl rfl) hr (by decide) (da_cons (d_v 3) da_nil)) da_nil))))) da_nil))))) (dss_one (ds_ret d_bl)) dss_nil)
    (dss_one (ds_ret (d_and (d_call O_law_alike (takes_of rfl rfl rfl rfl) hr (by decide) (da_cons (d_fld csN T.k (d_v 6)) (da_cons (d_v 3) da_nil))) (d_one (d_call O_law_alike (takes_of rfl rfl rfl rfl) hr (by decide) (da_cons (d_fld csN T.k (d_v 7)) (da_cons (d_v 4) da_nil)))))))))))))))))
end Kx
-- rules from here
open PySem DY in
local macro_rules
  | `(tactic| dsimp! only [$xs:simpLemma,*] $[$loc:location]?) => `(tactic| simp only [inL1, ninL1, inL2, ninL2, inL3, ninL3, inL4, ninL4, inL5, ninL5, inL6, ninL6, inL7, ninL7, inL8, ninL8, inL9, ninL9, List.mem_cons, List.not_mem_nil, or_false, false_or, or_self, false_and, and_false, getN0, getN1, getN2, setN0, setN1, setN2, lkN0, ixN0, lenN0, truN0, tupN0, isLN0, lkN1, ixN1, lenN1, truN1, tupN1, isLN1, lkN2, ixN2, lenN2, truN2, tupN2, isLN2, isKN0, isKN1, isKN2, List.length_append, List.append_assoc, nc0, nc1, nc2, nc3, nc4, nc5, nc6, nc7, nc8, nc9, nc10, nc11, nc12, nc13, nc14, nc15, nc16, nc17, nc18, nc19, nc20, List.isEmpty_cons, List.isEmpty_nil, Int.reducePow, Int.reduceNeg, Int.reduceLT, Int.reduceLE, Int.reduceAdd, Int.reduceSub, Int.reduceMul, Int.reduceMod, Int.reduceEq, Int.reduceNe, Int.reduceToNat, Nat.reduceMul, Nat.reducePow, Nat.reduceMod, cMulL, cMulR, cMod, cDiv, cPow, and_self, true_and, and_true, true_or, or_true, dStrs_map, dInts_map, dBls_map, all_lst, all_true, DY.iZip, zip_mk, zip_mm, sl_mk, cut1, zipD_cons, zipD_nil, eq_strs, eq_ints, str_inj, String.reduceEq, start0, eV, eC, e1, e2, aN, aC, eB, eTup, nL, eFz, eNew, eBy, nB, nD, eAnd, eOr, eNot, eIf, tT, tB', tA, tO, tNo, cTrue, eChain, oN, oS, eSl, eIs, eIs2, eM0, eMt, eMt0, eCall, eMk, sSeq, sNx, sAsg, sAsgG, gN, gNs_mk, gNs_tup, gNs_lst, gSetAll, sRet, sRetN, sDrop, sIf, sSet, sAugI, sBk, sCt, Rs.bind, Rs.toS, lift, Ob.d, noex, mApp, gI, gIc, gCmp, gInt, gMax2, gMin2, gStr, btIs, isB, eJoin, eIdx, eLenSet, List.map_cons, List.map_nil, List.cons_append, List.nil_append, List.length_cons, List.length_nil, List.replicate, List.set_cons_zero, List.set_cons_succ, List.getElem?_cons_zero, List.getElem?_cons_succ, Option.bind_some, Option.map_some, Option.map_none, Option.bind, Option.map, if_true, if_false, ite_true, ite_false, reduceIte, Nat.zero_add, Nat.reduceAdd, Nat.reduceSub, Nat.reduceLeDiff, Nat.reduceLT, Nat.reduceEqDiff, wipeE, lk_mk, ix_mkI, len_mk, bt_mk, tuple_mk, list_mk, seq_mk, tru_mk, lk_tup, lk_lst, lk_frz, lk_str, lk_int, lk_bl, lk_non, lk_ins, ix_tup, ix_lst, ix_frz, ix_str, len_tup, len_lst, len_frz, len_str, tru_tup, tru_lst, tru_bl, tru_int, add_int, add_str, add_tup, add_lst, add_mk, bt_tup, bt_lst, bt_int, bt_str, bt_bl, bt_non, tuple_tup, tuple_lst, list_tup, list_lst, sl_tup, sl_lst, big_eq, Bool.xor_false, Bool.xor_true, Bool.false_xor, Bool.true_xor, Bool.not_true, Bool.not_false, Bool.false_eq_true, decide_true, decide_false, decide_eq_true_eq, ai0, ai1, ai2, ai3, ai4, ai5, ai6, ai7, ai8, ai9, ai10, ai11, ai12, ai13, ai14, ai15, $xs,*] $[$loc]?)
  | `(tactic| simp! only [$xs:simpLemma,*] $[$loc:location]?) => `(tactic| simp only [lc_eq, for_eq, dc_eq, runL, runC, runD, asL, asDc, iPl, inL1, ninL1, inL2, ninL2, inL3, ninL3, inL4, ninL4, inL5, ninL5, inL6, ninL6, inL7, ninL7, inL8, ninL8, inL9, ninL9, List.mem_cons, List.not_mem_nil, or_false, false_or, or_self, false_and, and_false, getN0, getN1, getN2, setN0, setN1, setN2, lkN0, ixN0, lenN0, truN0, tupN0, isLN0, lkN1, ixN1, lenN1, truN1, tupN1, isLN1, lkN2, ixN2, lenN2, truN2, tupN2, isLN2, isKN0, isKN1, isKN2, List.length_append, List.append_assoc, nc0, nc1, nc2, nc3, nc4, nc5, nc6, nc7, nc8, nc9, nc10, nc11, nc12, nc13, nc14, nc15, nc16, nc17, nc18, nc19, nc20, List.isEmpty_cons, List.isEmpty_nil, Int.reducePow, Int.reduceNeg, Int.reduceLT, Int.reduceLE, Int.reduceAdd, Int.reduceSub, Int.reduceMul, Int.reduceMod, Int.reduceEq, Int.reduceNe, Int.reduceToNat, Nat.reduceMul, Nat.reducePow, Nat.reduceMod, cMulL, cMulR, cMod, cDiv, cPow, and_self, true_and, and_true, true_or, or_true, dStrs_map, dInts_map, dBls_map, all_lst, all_true, DY.iZip, zip_mk, zip_mm, sl_mk, cut1, zipD_cons, zipD_nil, eq_strs, eq_ints, str_inj, String.reduceEq, start0, eV, eC, e1, e2, aN, aC, eB, eTup, nL, eFz, eNew, eBy, nB, nD, eAnd, eOr, eNot, eIf, tT, tB', tA, tO, tNo, cTrue, eChain, oN, oS, eSl, eIs, eIs2, eM0, eMt, eMt0, eCall, eMk, sSeq, sNx, sAsg, sAsgG, gN, gNs_mk, gNs_tup, gNs_lst, gSetAll, sRet, sRetN, sDrop, sIf, sSet, sAugI, sBk, sCt, Rs.bind, Rs.toS, lift, Ob.d, noex, mApp, gI, gIc, gCmp, gInt, gMax2, gMin2, gStr, btIs, isB, eJoin, eIdx, eLenSet, List.map_cons, List.map_nil, List.cons_append, List.nil_append, List.length_cons, List.length_nil, List.replicate, List.set_cons_zero, List.set_cons_succ, List.getElem?_cons_zero, List.getElem?_cons_succ, Option.bind_some, Option.map_some, Option.map_none, Option.bind, Option.map, if_true, if_false, ite_true, ite_false, reduceIte, Nat.zero_add, Nat.reduceAdd, Nat.reduceSub, Nat.reduceLeDiff, Nat.reduceLT, Nat.reduceEqDiff, wipeE, lk_mk, ix_mkI, len_mk, bt_mk, tuple_mk, list_mk, seq_mk, tru_mk, lk_tup, lk_lst, lk_frz, lk_str, lk_int, lk_bl, lk_non, lk_ins, ix_tup, ix_lst, ix_frz, ix_str, len_tup, len_lst, len_frz, len_str, tru_tup, tru_lst, tru_bl, tru_int, add_int, add_str, add_tup, add_lst, add_mk, bt_tup, bt_lst, bt_int, bt_str, bt_bl, bt_non, tuple_tup, tuple_lst, list_tup, list_lst, sl_tup, sl_lst, big_eq, Bool.xor_false, Bool.xor_true, Bool.false_xor, Bool.true_xor, Bool.not_true, Bool.not_false, Bool.false_eq_true, decide_true, decide_false, decide_eq_true_eq, ai0, ai1, ai2, ai3, ai4, ai5, ai6, ai7, ai8, ai9, ai10, ai11, ai12, ai13, ai14, ai15, $xs,*] $[$loc]?)
  | `(tactic| dsimp?! only [$xs:simpLemma,*] $[$loc:location]?) => `(tactic| simp only [inL1, ninL1, inL2, ninL2, inL3, ninL3, inL4, ninL4, inL5, ninL5, inL6, ninL6, inL7, ninL7, inL8, ninL8, inL9, ninL9, List.mem_cons, List.not_mem_nil, or_false, false_or, or_self, false_and, and_false, getN0, getN1, getN2, setN0, setN1, setN2, lkN0, ixN0, lenN0, truN0, tupN0, isLN0, lkN1, ixN1, lenN1, truN1, tupN1, isLN1, lkN2, ixN2, lenN2, truN2, tupN2, isLN2, isKN0, isKN1, isKN2, List.length_append, List.append_assoc, nc0, nc1, nc2, nc3, nc4, nc5, nc6, nc7, nc8, nc9, nc10, nc11, nc12, nc13, nc14, nc15, nc16, nc17, nc18, nc19, nc20, List.isEmpty_cons, List.isEmpty_nil, Int.reducePow, Int.reduceNeg, Int.reduceLT, Int.reduceLE, Int.reduceAdd, Int.reduceSub, Int.reduceMul, Int.reduceMod, Int.reduceEq, Int.reduceNe, Int.reduceToNat, Nat.reduceMul, Nat.reducePow, Nat.reduceMod, cMulL, cMulR, cMod, cDiv, cPow, and_self, true_and, and_true, true_or, or_true, dStrs_map, dInts_map, dBls_map, all_lst, all_true, DY.iZip, zip_mk, zip_mm, sl_mk, cut1, zipD_cons, zipD_nil, eq_strs, eq_ints, str_inj, String.reduceEq, start0, eV, eC, e1, e2, aN, aC, eB, eTup, nL, eFz, eNew, eBy, nB, nD, eAnd, eOr, eNot, eIf, tT, tB', tA, tO, tNo, cTrue, eChain, oN, oS, eSl, eIs, eIs2, eM0, eMt, eMt0, eCall, eMk, sSeq, sNx, sAsg, sAsgG, gN, gNs_mk, gNs_tup, gNs_lst, gSetAll, sRet, sRetN, sDrop, sIf, sSet, sAugI, sBk, sCt, Rs.bind, Rs.toS, lift, Ob.d, noex, mApp, gI, gIc, gCmp, gInt, gMax2, gMin2, btIs, isB, eJoin, eLenSet, List.map_cons, List.map_nil, List.cons_append, List.nil_append, List.length_cons, List.length_nil, List.replicate, List.set_cons_zero, List.set_cons_succ, List.getElem?_cons_zero, List.getElem?_cons_succ, Option.bind_some, Option.map_some, Option.map_none, Option.bind, Option.map, if_true, if_false, ite_true, ite_false, reduceIte, Nat.zero_add, Nat.reduceAdd, Nat.reduceSub, Nat.reduceLeDiff, Nat.reduceLT, Nat.reduceEqDiff, wipeE, lk_mk, ix_mkI, len_mk, bt_mk, tuple_mk, list_mk, seq_mk, tru_mk, lk_tup, lk_lst, lk_frz, lk_str, lk_int, lk_bl, lk_non, lk_ins, ix_tup, ix_lst, ix_frz, ix_str, len_tup, len_lst, len_frz, len_str, tru_tup, tru_lst, tru_bl, tru_int, add_int, add_str, add_tup, add_lst, add_mk, bt_tup, bt_lst, bt_int, bt_str, bt_bl, bt_non, tuple_tup, tuple_lst, list_tup, list_lst, sl_tup, sl_lst, big_eq, Bool.xor_false, Bool.xor_true, Bool.false_xor, Bool.true_xor, Bool.not_true, Bool.not_false, Bool.false_eq_true, decide_true, decide_false, decide_eq_true_eq, ai0, ai1, ai2, ai3, ai4, ai5, ai6, ai7, ai8, ai9, ai10, ai11, ai12, ai13, ai14, ai15, $xs,*] $[$loc]?)
  | `(tactic| simp?! only [$xs:simpLemma,*] $[$loc:location]?) => `(tactic| simp only [inL1, ninL1, inL2, ninL2, inL3, ninL3, inL4, ninL4, inL5, ninL5, inL6, ninL6, inL7, ninL7, inL8, ninL8, inL9, ninL9, List.mem_cons, List.not_mem_nil, or_false, false_or, or_self, false_and, and_false, getN0, getN1, getN2, setN0, setN1, setN2, lkN0, ixN0, lenN0, truN0, tupN0, isLN0, lkN1, ixN1, lenN1, truN1, tupN1, isLN1, lkN2, ixN2, lenN2, truN2, tupN2, isLN2, isKN0, isKN1, isKN2, List.length_append, List.append_assoc, nc0, nc1, nc2, nc3, nc4, nc5, nc6, nc7, nc8, nc9, nc10, nc11, nc12, nc13, nc14, nc15, nc16, nc17, nc18, nc19, nc20, List.isEmpty_cons, List.isEmpty_nil, Int.reducePow, Int.reduceNeg, Int.reduceLT, Int.reduceLE, Int.reduceAdd, Int.reduceSub, Int.reduceMul, Int.reduceMod, Int.reduceEq, Int.reduceNe, Int.reduceToNat, Nat.reduceMul, Nat.reducePow, Nat.reduceMod, and_self, true_and, and_true, true_or, or_true, dStrs_map, dInts_map, dBls_map, all_lst, all_true, DY.iZip, zip_mk, zip_mm, sl_mk, cut1, zipD_cons, zipD_nil, eq_strs, eq_ints, str_inj, String.reduceEq, start0, eV, eC, e1, e2, aN, aC, eB, eTup, nL, eFz, eNew, eBy, nB, nD, eAnd, eOr, eNot, eIf, tT, tB', tA, tO, tNo, cTrue, eChain, oN, oS, eSl, eIs, eIs2, eM0, eMt, eMt0, eCall, eMk, sSeq, sNx, sAsg, sAsgG, gN, gNs_mk, gNs_tup, gNs_lst, gSetAll, sRet, sRetN, sDrop, sIf, sSet, sAugI, sBk, sCt, Rs.bind, Rs.toS, lift, Ob.d, noex, mApp, gI, gIc, gCmp, gInt, gMax2, gMin2, gStr, btIs, isB, eJoin, eIdx, eLenSet, List.map_cons, List.map_nil, List.cons_append, List.nil_append, List.length_cons, List.length_nil, List.replicate, List.set_cons_zero, List.set_cons_succ, List.getElem?_cons_zero, List.getElem?_cons_succ, Option.bind_some, Option.map_some, Option.map_none, Option.bind, Option.map, if_true, if_false, ite_true, ite_false, reduceIte, Nat.zero_add, Nat.reduceAdd, Nat.reduceSub, Nat.reduceLeDiff, Nat.reduceLT, Nat.reduceEqDiff, wipeE, lk_mk, ix_mkI, len_mk, bt_mk, tuple_mk, list_mk, seq_mk, tru_mk, lk_tup, lk_lst, lk_frz, lk_str, lk_int, lk_bl, lk_non, lk_ins, ix_tup, ix_lst, ix_frz, ix_str, len_tup, len_lst, len_frz, len_str, tru_tup, tru_lst, tru_bl, tru_int, add_int, add_str, add_tup, add_lst, add_mk, bt_tup, bt_lst, bt_int, bt_str, bt_bl, bt_non, tuple_tup, tuple_lst, list_tup, list_lst, sl_tup, sl_lst, big_eq, Bool.xor_false, Bool.xor_true, Bool.false_xor, Bool.true_xor, Bool.not_true, Bool.not_false, Bool.false_eq_true, decide_true, decide_false, decide_eq_true_eq, ai0, ai1, ai2, ai3, ai4, ai5, ai6, ai7, ai8, ai9, ai10, ai11, ai12, ai13, ai14, ai15, $xs,*] $[$loc]?)
  | `(tactic| simp? only [$xs:simpLemma,*] $[$loc:location]?) => `(tactic| simp only [inL1, ninL1, inL2, ninL2, inL3, ninL3, inL4, ninL4, inL5, ninL5, inL6, ninL6, inL7, ninL7, inL8, ninL8, inL9, ninL9, List.mem_cons, List.not_mem_nil, or_false, false_or, or_self, false_and, and_false, getN0, getN1, getN2, setN0, setN1, setN2, lkN0, ixN0, lenN0, truN0, tupN0, isLN0, lkN1, ixN1, lenN1, truN1, tupN1, isLN1, lkN2, ixN2, lenN2, truN2, tupN2, isLN2, isKN0, isKN1, isKN2, List.length_append, List.append_assoc, nc0, nc1, nc2, nc3, nc4, nc5, nc6, nc7, nc8, nc9, nc10, nc11, nc12, nc13, nc14, nc15, nc16, nc17, nc18, nc19, nc20, List.isEmpty_cons, List.isEmpty_nil, Int.reducePow, Int.reduceNeg, Int.reduceLT, Int.reduceLE, Int.reduceAdd, Int.reduceSub, Int.reduceMul, Int.reduceMod, Int.reduceEq, Int.reduceNe, Int.reduceToNat, Nat.reduceMul, Nat.reducePow, Nat.reduceMod, and_self, true_and, and_true, true_or, or_true, dStrs_map, dInts_map, dBls_map, all_lst, all_true, DY.iZip, zip_mk, zip_mm, sl_mk, cut1, zipD_cons, zipD_nil, eq_strs, eq_ints, str_inj, String.reduceEq, start0, eV, eC, e1, e2, aN, aC, eB, eTup, nL, eFz, eNew, eBy, nB, nD, eAnd, eOr, eNot, eIf, tT, tB', tA, tO, tNo, cTrue, eChain, oN, oS, eSl, eIs, eIs2, eM0, eMt, eMt0, eCall, eMk, sSeq, sNx, sAsg, sAsgG, gN, gNs_mk, gNs_tup, gNs_lst, gSetAll, sRet, sRetN, sDrop, sIf, sSet, sAugI, sBk, sCt, Rs.bind, Rs.toS, lift, Ob.d, noex, mApp, gI, gIc, gCmp, gInt, gMax2, gMin2, btIs, isB, eJoin, eLenSet, List.map_cons, List.map_nil, List.cons_append, List.nil_append, List.length_cons, List.length_nil, List.replicate, List.set_cons_zero, List.set_cons_succ, List.getElem?_cons_zero, List.getElem?_cons_succ, Option.bind_some, Option.map_some, Option.map_none, Option.bind, Option.map, if_true, if_false, ite_true, ite_false, reduceIte, Nat.zero_add, Nat.reduceAdd, Nat.reduceSub, Nat.reduceLeDiff, Nat.reduceLT, Nat.reduceEqDiff, wipeE, lk_mk, ix_mkI, len_mk, bt_mk, tuple_mk, list_mk, seq_mk, tru_mk, lk_tup, lk_lst, lk_frz, lk_str, lk_int, lk_bl, lk_non, lk_ins, ix_tup, ix_lst, ix_frz, ix_str, len_tup, len_lst, len_frz, len_str, tru_tup, tru_lst, tru_bl, tru_int, add_int, add_str, add_tup, add_lst, add_mk, bt_tup, bt_lst, bt_int, bt_str, bt_bl, bt_non, tuple_tup, tuple_lst, list_tup, list_lst, sl_tup, sl_lst, big_eq, Bool.xor_false, Bool.xor_true, Bool.false_xor, Bool.true_xor, Bool.not_true, Bool.not_false, Bool.false_eq_true, decide_true, decide_false, decide_eq_true_eq, ai0, ai1, ai2, ai3, ai4, ai5, ai6, ai7, ai8, ai9, ai10, ai11, ai12, ai13, ai14, ai15, $xs,*] $[$loc]?)
-- rules to here
/-! the program's defs: names -/
namespace Kx
open PySem T DY
section
variable {m : Mem}
theorem e_is_sequence {k : Kd} {ds : List D} : f_is_sequence [mk k ds] m = .ok (.bl true) m := by
  refine run_ret (s := F_is_sequence) (d := .bl true) (m' := m) ?_ (exit_same rfl)
  cases k <;> rfl
def isName (s : Str) : Bool := decide (1 ≤ s.length ∧ s.length ≤ 12) && (Txt.isascii s && (Txt.isalnum s && (Txt.islower s && ((match s.cps.toList with
  | c :: _ => !(Txt.isdigit ⟨#[c]⟩)
  | [] => false) && !decide (s ∈ (["some", "every", "not", "and", "or", "walk", "more", "than", "first", "last", "next"] : List Str))))))
theorem e_is_name {s : Str} (h : isName s = true) : f_is_name [.str s] m = .ok (.bl true) m := by
  unfold isName at h
  simp only [Bool.and_eq_true] at h
  obtain ⟨h1, h2, h3, h4, h5, h6⟩ := h
  obtain ⟨h1, h7⟩ := of_decide_eq_true h1
  have h8 : s.length ≤ 99999 := by omega
  have h9 : ((1 : Int) ≤ (s.length : Nat)) := by omega
  have h10 : (((s.length : Nat) : Int) ≤ 12) := by omega
  refine run_ret (s := F_is_name) (d := .bl true) (m' := m) ?_ (exit_same rfl)
  unfold F_is_name
  cases hc : s.cps.toList with
  | nil => rw [hc] at h5; exact nomatch h5
  | cons c l =>
    rw [hc] at h5
    have h5 : Txt.isdigit ⟨#[c]⟩ = false := by simpa using h5
    simp! only [h8, h9, h10, h2, h3, h4, h5, hc, c_LONGEST_NAME, c_RESERVED, pLe]
    rw [show D.tup [.str "some", .str "every", .str "not", .str "and", .str "or", .str "walk", .str "more", .str "than", .str "first", .str "last", .str "next"] = mk .t ((["some", "every", "not", "and", "or", "walk", "more", "than", "first", "last", "next"] : List Str).map .str) from rfl, nin_strs]
    rw [h6]
end
end Kx
/-! questions as trees -/
namespace Kx
open PySem T DY
inductive W1 where | first | last
inductive W2 where | same | before | next
inductive WB where | an | or
inductive WQ where | some | every
def W1.nm : W1 → Str | .first => "first" | .last => "last"
def W2.nm : W2 → Str | .same => "same" | .before => "before" | .next => "next"
def WB.nm : WB → Str | .an => "and" | .or => "or"
def WQ.nm : WQ → Str | .some => "some" | .every => "every"
/-- a tree: how each node is laid (tuple, list), what it says -/
inductive Q where
  | rel (k : Kd) (n : Str) (kv : Kd) (vs : List Str)
  | two (k : Kd) (w : W2) (a b : Str)
  | one (k : Kd) (w : W1) (a : Str)
  | nt (k : Kd) (q : Q)
  | bi (k : Kd) (w : WB) (a b : Q)
  | qu (k : Kd) (w : WQ) (x : Str) (q : Q)
  | more (k : Kd) (x : Str) (a : Q) (y : Str) (b : Q)
  | walk (k : Kd) (kl : Kd) (l : List Str) (kr : Kd) (r : List Str) (q : Q) (ks : Kd) (s : List Str) (kg : Kd) (g : List Str)
abbrev nms (k : Kd) (xs : List Str) : D := mk k (xs.map .str)
namespace Q
def word : Q → Str
  | rel .. => "rel" | two _ w .. => w.nm | one _ w _ => w.nm | nt .. => "not" | bi _ w .. => w.nm | qu _ w .. => w.nm | more .. => "more" | walk .. => "walk"
def form : Q → Str
  | rel .. => "vs" | two .. => "vv" | one .. => "v" | nt .. => "t" | bi .. => "tt" | qu .. => "vt" | more .. => "vtvt" | walk .. => "sstss"
def enc : Q → D
  | rel k n kv vs => mk k [.str "rel", .str n, nms kv vs]
  | two k w a b => mk k [.str w.nm, .str a, .str b]
  | one k w a => mk k [.str w.nm, .str a]
  | nt k q => mk k [.str "not", q.enc]
  | bi k w a b => mk k [.str w.nm, a.enc, b.enc]
  | qu k w x q => mk k [.str w.nm, .str x, q.enc]
  | more k x a y b => mk k [.str "more", .str x, a.enc, .str y, b.enc]
  | walk k kl l kr r q ks s kg g => mk k [.str "walk", nms kl l, nms kr r, q.enc, nms ks s, nms kg g]
def parts : Q → List Q
  | nt _ q => [q] | bi _ _ a b => [a, b] | qu _ _ _ q => [q] | more _ _ a _ b => [a, b] | walk _ _ _ _ _ q .. => [q] | _ => []
def depth : Q → Nat
  | nt _ q => q.depth + 1 | bi _ _ a b => max a.depth b.depth + 1 | qu _ _ _ q => q.depth + 1 | more _ _ a _ b => max a.depth b.depth + 1 | walk _ _ _ _ _ q .. => q.depth + 1 | _ => 1
def size : Q → Nat
  | nt _ q => q.size + 1 | bi _ _ a b => a.size + b.size + 1 | qu _ _ _ q => q.size + 1 | more _ _ a _ b => a.size + b.size + 1 | walk _ _ _ _ _ q .. => q.size + 1 | _ => 1
/-- laid in tuples throughout -/
def tup : Q → Q
  | rel _ n _ vs => rel .t n .t vs | two _ w a b => two .t w a b | one _ w a => one .t w a | nt _ q => nt .t q.tup | bi _ w a b => bi .t w a.tup b.tup | qu _ w x q => qu .t w x q.tup
  | more _ x a y b => more .t x a.tup y b.tup | walk _ _ l _ r q _ s _ g => walk .t .t l .t r q.tup .t s .t g
/-- names, numbers of things (ar: of each relation's), widths -/
def Ok (ar : Str → Nat) : Q → Prop
  | rel _ n _ vs => isName n = true ∧ (∀ v ∈ vs, isName v = true) ∧ vs.length = ar n ∧ 1 ≤ vs.length ∧ vs.length ≤ 3
  | two _ _ a b => isName a = true ∧ isName b = true
  | one _ _ a => isName a = true
  | nt _ q => q.Ok ar
  | bi _ _ a b => a.Ok ar ∧ b.Ok ar
  | qu _ _ x q => isName x = true ∧ q.Ok ar
  | more _ x a y b => isName x = true ∧ a.Ok ar ∧ isName y = true ∧ b.Ok ar
  | walk _ _ l _ r q _ s _ g => q.Ok ar ∧ 1 ≤ l.length ∧ l.length ≤ 60 ∧ r.length = l.length ∧ s.length = l.length ∧ g.length = l.length ∧ (∀ v ∈ l ++ r, isName v = true) ∧ (∀ v ∈ s, isName v = true) ∧ (∀ v ∈ g, isName v = true) ∧ (l ++ r).Nodup
/-- the variables that a tree asks itself -/
def own : Q → List Str
  | rel _ _ _ vs => vs | two _ _ a b => [a, b] | one _ _ a => [a] | walk _ _ _ _ _ _ _ s _ g => s ++ g | _ => []
/-- what it binds, part by part -/
def bnd : Q → List (List Str)
  | nt _ _ => [[]] | bi _ _ _ _ => [[], []] | qu _ _ x _ => [[x]] | more _ x _ y _ => [[x], [y]] | walk _ _ l _ r .. => [l ++ r] | _ => []
end Q
theorem ltr_vs : ltr "vs" = [.str "v", .str "s"] := by rfl
theorem ltr_vv : ltr "vv" = [.str "v", .str "v"] := by rfl
theorem ltr_v : ltr "v" = [.str "v"] := by rfl
theorem ltr_t : ltr "t" = [.str "t"] := by rfl
theorem ltr_tt : ltr "tt" = [.str "t", .str "t"] := by rfl
theorem ltr_vt : ltr "vt" = [.str "v", .str "t"] := by rfl
theorem ltr_vtvt : ltr "vtvt" = [.str "v", .str "t", .str "v", .str "t"] := by rfl
theorem ltr_sstss : ltr "sstss" = [.str "s", .str "s", .str "t", .str "s", .str "s"] := by rfl
theorem forms {m : Mem} (q : Q) : gIxA m t_FORMS (.str q.word) = some (.str q.form) := by
  rcases q with _ | ⟨_, w, _, _⟩ | ⟨_, w, _⟩ | _ | ⟨_, w, _, _⟩ | ⟨_, w, _, _⟩ | _ | _ <;> first | rfl | (cases w <;> rfl)
section
variable {m : Mem}
theorem e_parts_of (q : Q) : f_parts_of [q.enc] m = .ok (.lst (q.parts.map Q.enc)) m := by
  refine run_ret (s := F_parts_of) (d := .lst (q.parts.map Q.enc)) (m' := m) ?_ (exit_same rfl)
  have hf := forms (m := m) q
  unfold F_parts_of
  cases q <;> simp only [Q.word, Q.form] at hf <;> simp! only [Q.enc, Q.parts, hf, ltr_vs, ltr_vv, ltr_v, ltr_t, ltr_tt, ltr_vt, ltr_vtvt, ltr_sstss]
  all_goals simp
theorem e_own {ar : Str → Nat} (q : Q) (h : q.Ok ar) : f_own_variables [q.tup.enc] m = .ok (nms .t q.own) m := by
  refine run_ret (s := F_own_variables) (d := nms .t q.own) (m' := m) ?_ (exit_same rfl)
  unfold F_own_variables
  rcases q with _ | ⟨_, w, _, _⟩ | ⟨_, w, _⟩ | _ | ⟨_, w, _, _⟩ | ⟨_, w, _, _⟩ | _ | ⟨k, kl, l, kr, r, q, ks, s, kg, g⟩
  case walk =>
    obtain ⟨h1, h2, h3, h4, h5, h6, _⟩ := h
    simp! only [Q.enc, Q.tup, Q.own, c_ATOMS, List.length_map, show s.length + g.length ≤ 99999 by omega]
    simp [nms]
  all_goals first | cases w | skip
  all_goals simp! only [Q.enc, Q.tup, Q.own, W1.nm, W2.nm, WB.nm, WQ.nm, c_ATOMS]
  all_goals rfl
theorem e_bnd {ar : Str → Nat} (q : Q) (h : q.Ok ar) : f_bound_in_parts [q.tup.enc] m = .ok (.lst (q.bnd.map (nms .t))) m := by
  have hp := e_parts_of (m := m) q.tup
  refine run_ret (s := F_bound_in_parts) (d := .lst (q.bnd.map (nms .t))) (m' := m) ?_ (exit_same rfl)
  unfold F_bound_in_parts
  rcases q with _ | ⟨_, w, _, _⟩ | ⟨_, w, _⟩ | _ | ⟨_, w, _, _⟩ | ⟨_, w, _, _⟩ | _ | ⟨k, kl, l, kr, r, q, ks, s, kg, g⟩
  case walk =>
    obtain ⟨h1, h2, h3, h4, h5, h6, _⟩ := h
    simp! only [Q.enc, Q.tup, Q.bnd, List.length_map, show l.length + r.length ≤ 99999 by omega]
    simp [nms]
  all_goals first | cases w | skip
  all_goals simp only [Q.enc, Q.tup, Q.parts, W1.nm, W2.nm, WB.nm, WQ.nm] at hp
  all_goals simp! only [Q.enc, Q.tup, Q.bnd, W1.nm, W2.nm, WB.nm, WQ.nm, hp]
  all_goals first | rfl | skip
end
end Kx
/-! questions are well formed -/
namespace Kx
open PySem T DY
section
variable {m : Mem}
theorem e_is_variables {k : Kd} {vs : List Str} (h : ∀ v ∈ vs, isName v = true) (hl : vs.length ≤ 99999) : f_is_variables [nms k vs] m = .ok (.bl true) m := by
  refine run_ret (s := F_is_variables) (d := .bl true) (m' := m) ?_ (exit_same rfl)
  have hc := lc_map (vs := [1]) (fi := iPl (eV 0)) (g := gN 1) (t := cTrue) (f := eCall f_is_name (aC (eV 1) aN)) (env := [some (nms k vs), none]) (m := m) (m1 := m) (xs := vs) (enc := .str) (φ := fun _ => .bl true) (ipl_mk rfl) hl fun x hx => ⟨_, rfl, rfl, e_is_name (h x hx)⟩
  unfold F_is_variables
  simp only [start0, List.map_cons, List.map_nil, List.length_cons, List.length_nil, List.replicate, List.cons_append, List.nil_append, Nat.reduceAdd, Nat.reduceSub, sRet, eAnd, eB, eFz, aC, aN, eCall, eV, tB', List.getElem?_cons_zero, Rs.bind, Rs.toS, e_is_sequence, hc, Ob.d, if_true, all_true, lift]
theorem e_diff {vs : List Str} {n : Int} (h : ∀ v ∈ vs, isName v = true) (hl : vs.length ≤ 4000) (hn : (vs.length : Int) ≤ n) (hd : vs.Nodup) : f_are_different_names [.lst (vs.map .str), .int n] m = .ok (.bl true) m := by
  refine run_ret (s := F_are_different_names) (d := .bl true) (m' := m) ?_ (exit_same rfl)
  have hc := lc_map (vs := [2]) (fi := iPl (eV 0)) (g := gN 2) (t := cTrue) (f := eCall f_is_name (aC (eV 2) aN)) (env := [some (.lst (vs.map .str)), some (.int n), none]) (m := m) (m1 := m) (xs := vs) (enc := .str) (φ := fun _ => .bl true) (ipl_mk (k := .l) rfl) (by omega) fun x hx => ⟨_, rfl, rfl, e_is_name (h x hx)⟩
  have hs := e_is_sequence (m := m) (k := .l) (ds := vs.map .str)
  have hs : f_is_sequence [.lst (vs.map .str)] m = .ok (.bl true) m := hs
  unfold F_are_different_names
  simp! only [hs, hc, hl, dis_self hd, List.length_map, show ¬ n < (vs.length : Int) by omega]
theorem e_walk_width {ar : Str → Nat} {k kl kr ks kg : Kd} {l r s g : List Str} {q : Q} (h : (Q.walk k kl l kr r q ks s kg g).Ok ar) : f_is_walk_of_one_width [(Q.walk k kl l kr r q ks s kg g).enc] m = .ok (.bl true) m := by
  obtain ⟨h1, h2, h3, h4, h5, h6, h7, h8, h9, h10⟩ := h
  refine run_ret (s := F_is_walk_of_one_width) (d := .bl true) (m' := m) ?_ (exit_same rfl)
  have hd := e_diff (m := m) (vs := l ++ r) (n := 2 * (l.length : Int)) h7 (by rw [List.length_append]; omega) (by rw [List.length_append]; omega) h10
  rw [List.map_append] at hd
  unfold F_is_walk_of_one_width
  simp! only [Q.enc, c_WIDEST_WALK, List.length_map, h4, h5, h6, pLe, show ((1 : Int) ≤ (l.length : Nat)) by omega, show (((l.length : Nat) : Int) ≤ 60) by omega, show l.length + l.length ≤ 99999 by omega, hd]
theorem lf_vs : Str.length "vs" = 2 := rfl
theorem lf_vv : Str.length "vv" = 2 := rfl
theorem lf_v : Str.length "v" = 1 := rfl
theorem lf_t : Str.length "t" = 1 := rfl
theorem lf_tt : Str.length "tt" = 2 := rfl
theorem lf_vt : Str.length "vt" = 2 := rfl
theorem lf_vtvt : Str.length "vtvt" = 4 := rfl
theorem lf_sstss : Str.length "sstss" = 5 := rfl
theorem forms_in (q : Q) : gInA true m (.str q.word) t_FORMS = some (.bl false) := by
  rcases q with _ | ⟨_, w, _, _⟩ | ⟨_, w, _⟩ | _ | ⟨_, w, _, _⟩ | ⟨_, w, _, _⟩ | _ | _ <;> first | rfl | (cases w <;> rfl)
theorem e_well {ar : Str → Nat} (q : Q) (h : q.Ok ar) : f_is_well_formed [q.enc] m = .ok (.bl true) m := by
  have hf := forms (m := m) q
  have hi := forms_in (m := m) q
  refine run_ret (s := F_is_well_formed) (d := .bl true) (m' := m) ?_ (exit_same rfl)
  unfold F_is_well_formed
  cases q with
  | rel k n kv vs =>
    obtain ⟨h1, h2, h3, h4, h5⟩ := h
    simp only [Q.word, Q.form] at hf hi
    simp! only [Q.enc, c_LARGEST_ARITY, hf, hi, ltr_vs, lf_vs, e_is_sequence, e_is_name h1, e_is_variables h2 (by omega), List.length_map, pLe, show ((1 : Int) ≤ (vs.length : Nat)) by omega, show (((vs.length : Nat) : Int) ≤ 3) by omega]
  | two k w a b =>
    obtain ⟨h1, h2⟩ := h
    cases w <;> (simp only [Q.word, Q.form, W2.nm] at hf hi; simp! only [Q.enc, c_LARGEST_ARITY, hf, hi, e_is_sequence, W1.nm, W2.nm, WB.nm, WQ.nm, ltr_vs, ltr_vv, ltr_v, ltr_t, ltr_tt, ltr_vt, ltr_vtvt, ltr_sstss, lf_vs, lf_vv, lf_v, lf_t, lf_tt, lf_vt, lf_vtvt, lf_sstss, e_is_name h1, e_is_name h2])
  | one k w a =>
    have h1 : isName a = true := h
    cases w <;> (simp only [Q.word, Q.form, W1.nm] at hf hi; simp! only [Q.enc, c_LARGEST_ARITY, hf, hi, e_is_sequence, W1.nm, W2.nm, WB.nm, WQ.nm, ltr_vs, ltr_vv, ltr_v, ltr_t, ltr_tt, ltr_vt, ltr_vtvt, ltr_sstss, lf_vs, lf_vv, lf_v, lf_t, lf_tt, lf_vt, lf_vtvt, lf_sstss, e_is_name h1])
  | nt k q =>
    simp only [Q.word, Q.form] at hf hi
    simp! only [Q.enc, c_LARGEST_ARITY, hf, hi, e_is_sequence, W1.nm, W2.nm, WB.nm, WQ.nm, ltr_vs, ltr_vv, ltr_v, ltr_t, ltr_tt, ltr_vt, ltr_vtvt, ltr_sstss, lf_vs, lf_vv, lf_v, lf_t, lf_tt, lf_vt, lf_vtvt, lf_sstss]
  | bi k w a b =>
    cases w <;> (simp only [Q.word, Q.form, WB.nm] at hf hi; simp! only [Q.enc, c_LARGEST_ARITY, hf, hi, e_is_sequence, W1.nm, W2.nm, WB.nm, WQ.nm, ltr_vs, ltr_vv, ltr_v, ltr_t, ltr_tt, ltr_vt, ltr_vtvt, ltr_sstss, lf_vs, lf_vv, lf_v, lf_t, lf_tt, lf_vt, lf_vtvt, lf_sstss])
  | qu k w x q =>
    obtain ⟨h1, h2⟩ := h
    cases w <;> (simp only [Q.word, Q.form, WQ.nm] at hf hi; simp! only [Q.enc, c_LARGEST_ARITY, hf, hi, e_is_sequence, W1.nm, W2.nm, WB.nm, WQ.nm, ltr_vs, ltr_vv, ltr_v, ltr_t, ltr_tt, ltr_vt, ltr_vtvt, ltr_sstss, lf_vs, lf_vv, lf_v, lf_t, lf_tt, lf_vt, lf_vtvt, lf_sstss, e_is_name h1])
  | more k x a y b =>
    obtain ⟨h1, h2, h3, h4⟩ := h
    simp only [Q.word, Q.form] at hf hi
    simp! only [Q.enc, c_LARGEST_ARITY, hf, hi, e_is_sequence, W1.nm, W2.nm, WB.nm, WQ.nm, ltr_vs, ltr_vv, ltr_v, ltr_t, ltr_tt, ltr_vt, ltr_vtvt, ltr_sstss, lf_vs, lf_vv, lf_v, lf_t, lf_tt, lf_vt, lf_vtvt, lf_sstss, e_is_name h1, e_is_name h3]
  | walk k kl l kr r q ks s kg g =>
    have hw := e_walk_width (m := m) h
    obtain ⟨h1, h2, h3, h4, h5, h6, h7, h8, h9, h10⟩ := h
    have n1 : ∀ v ∈ l, isName v = true := fun v hv => h7 v (List.mem_append_left _ hv)
    have n2 : ∀ v ∈ r, isName v = true := fun v hv => h7 v (List.mem_append_right _ hv)
    simp only [Q.word, Q.form] at hf hi
    simp only [Q.enc] at hw
    simp! only [Q.enc, c_LARGEST_ARITY, hf, hi, e_is_sequence, W1.nm, W2.nm, WB.nm, WQ.nm, ltr_vs, ltr_vv, ltr_v, ltr_t, ltr_tt, ltr_vt, ltr_vtvt, ltr_sstss, lf_vs, lf_vv, lf_v, lf_t, lf_tt, lf_vt, lf_vtvt, lf_sstss, hw, e_is_variables n1 (show l.length ≤ 99999 by omega), e_is_variables n2 (show r.length ≤ 99999 by omega), e_is_variables h8 (show s.length ≤ 99999 by omega), e_is_variables h9 (show g.length ≤ 99999 by omega)]
end
end Kx
/-! questions laid in tuples, their free variables -/
namespace Kx
open PySem T DY
section
variable {m : Mem}
theorem old_nms {n : Nat} {k : Kd} {xs : List Str} : old n (nms k xs) = true := by
  rw [old_mk]; exact old_strs
theorem old_enc {n : Nat} (q : Q) : old n q.enc = true := by
  induction q with
  | rel k a kv vs => simp [Q.enc, old_mk, old, olds, old_nms, old_strs]
  | two k w a b => simp [Q.enc, old_mk, old, olds]
  | one k w a => simp [Q.enc, old_mk, old, olds]
  | nt k q ih => simp [Q.enc, old_mk, old, olds, ih]
  | bi k w a b ih1 ih2 => simp [Q.enc, old_mk, old, olds, ih1, ih2]
  | qu k w x q ih => simp [Q.enc, old_mk, old, olds, ih]
  | more k x a y b ih1 ih2 => simp [Q.enc, old_mk, old, olds, ih1, ih2]
  | walk k kl l kr r q ks s kg g ih => simp [Q.enc, old_mk, old, olds, ih, old_nms, old_strs]
theorem e_with_tuples : ∀ (b : Nat) (q : Q) (m : Mem), q.depth ≤ b → rec_with_tuples b 0 [q.enc] m = .ok q.tup.enc m
  | 0, q, m, h => by cases q <;> simp [Q.depth] at h
  | b + 1, q, m, h => by
    have ih := fun (q : Q) (h : q.depth ≤ b) (m : Mem) => e_with_tuples b q m h
    show run 4 1 (F_with_tuples (rec_with_tuples b 0)) [q.enc] m = _
    have key : ∃ t, F_with_tuples (rec_with_tuples b 0) (start0 4 [q.enc]) m = .rt q.tup.enc (m ++ t) := by
      have hf := forms (m := m ++ [.lst [.str q.word]]) q
      unfold F_with_tuples
      cases q with
      | rel k n kv vs =>
        simp only [Q.word, Q.form] at hf
        simp! only [Q.enc, Q.tup, hf, W1.nm, W2.nm, WB.nm, WQ.nm, ltr_vs, ltr_vv, ltr_v, ltr_t, ltr_tt, ltr_vt, ltr_vtvt, ltr_sstss]
        exact ⟨_, rfl⟩
      | two k w x y => cases w <;> (simp only [Q.word, Q.form, W2.nm] at hf; simp! only [Q.enc, Q.tup, hf, W1.nm, W2.nm, WB.nm, WQ.nm, ltr_vs, ltr_vv, ltr_v, ltr_t, ltr_tt, ltr_vt, ltr_vtvt, ltr_sstss]; exact ⟨_, rfl⟩)
      | one k w x => cases w <;> (simp only [Q.word, Q.form, W1.nm] at hf; simp! only [Q.enc, Q.tup, hf, W1.nm, W2.nm, WB.nm, WQ.nm, ltr_vs, ltr_vv, ltr_v, ltr_t, ltr_tt, ltr_vt, ltr_vtvt, ltr_sstss]; exact ⟨_, rfl⟩)
      | nt k q =>
        simp only [Q.depth] at h
        simp only [Q.word, Q.form] at hf
        simp! only [Q.enc, Q.tup, hf, W1.nm, W2.nm, WB.nm, WQ.nm, ltr_vs, ltr_vv, ltr_v, ltr_t, ltr_tt, ltr_vt, ltr_vtvt, ltr_sstss, ih q (by omega)]
        exact ⟨_, rfl⟩
      | bi k w x y =>
        simp only [Q.depth] at h
        cases w <;> (simp only [Q.word, Q.form, WB.nm] at hf; simp! only [Q.enc, Q.tup, hf, W1.nm, W2.nm, WB.nm, WQ.nm, ltr_vs, ltr_vv, ltr_v, ltr_t, ltr_tt, ltr_vt, ltr_vtvt, ltr_sstss, ih x (by omega), ih y (by omega)]; exact ⟨_, rfl⟩)
      | qu k w x q =>
        simp only [Q.depth] at h
        cases w <;> (simp only [Q.word, Q.form, WQ.nm] at hf; simp! only [Q.enc, Q.tup, hf, W1.nm, W2.nm, WB.nm, WQ.nm, ltr_vs, ltr_vv, ltr_v, ltr_t, ltr_tt, ltr_vt, ltr_vtvt, ltr_sstss, ih q (by omega)]; exact ⟨_, rfl⟩)
      | more k x a y b2 =>
        simp only [Q.depth] at h
        simp only [Q.word, Q.form] at hf
        simp! only [Q.enc, Q.tup, hf, W1.nm, W2.nm, WB.nm, WQ.nm, ltr_vs, ltr_vv, ltr_v, ltr_t, ltr_tt, ltr_vt, ltr_vtvt, ltr_sstss, ih a (by omega), ih b2 (by omega)]
        exact ⟨_, rfl⟩
      | walk k kl l kr r q ks s kg g =>
        simp only [Q.depth] at h
        simp only [Q.word, Q.form] at hf
        simp! only [Q.enc, Q.tup, hf, W1.nm, W2.nm, WB.nm, WQ.nm, ltr_vs, ltr_vv, ltr_v, ltr_t, ltr_tt, ltr_vt, ltr_vtvt, ltr_sstss, ih q (by omega)]
        exact ⟨_, rfl⟩
    obtain ⟨t, e⟩ := key
    exact run_ret e (exit_new (old_enc _))
end
end Kx
/-! free variables -/
namespace Kx
open PySem T DY
/-- own names, then those of the parts that aren't bound there; in order -/
def frK (own : List Str) (ps : List (List Str × List Str)) : List Str := ps.foldl (fun acc p => (p.2.filter fun x => !decide (x ∈ p.1)).foldl SX.st acc) (SX.dis own)
def frOf (own : List Str) (ps : List (List Str × List Str)) : List Str := sortX (frK own ps)
def Q.free : Q → List Str
  | .rel _ _ _ vs => frOf vs []
  | .two _ _ a b => frOf [a, b] []
  | .one _ _ a => frOf [a] []
  | .nt _ q => frOf [] [([], q.free)]
  | .bi _ _ a b => frOf [] [([], a.free), ([], b.free)]
  | .qu _ _ x q => frOf [] [([x], q.free)]
  | .more _ x a y b => frOf [] [([x], a.free), ([y], b.free)]
  | .walk _ _ l _ r q _ s _ g => frOf (s ++ g) [(l ++ r, q.free)]
section
variable {m : Mem}
abbrev dk (acc : List Str) : Ob := .dic false (sts acc) (tts acc)
theorem free_in1 {d0 d1 d5 : D} {bound : List Str} : ∀ {names acc : List Str} {x : Option D}, acc.length + names.length < 99999 → ∃ x', runL (gN 2) (sIf (tB' (e2 (gInA true) (eV 2) (eV 4))) (sSet (eC (.bl true)) (eV 3) (eV 2)) sNx) (names.map .str) [some d0, some d1, x, some (.hdl m.length), some (nms .t bound), some d5] (m ++ [dk acc]) = .nx [some d0, some d1, x', some (.hdl m.length), some (nms .t bound), some d5] (m ++ [dk ((names.filter fun x => !decide (x ∈ bound)).foldl SX.st acc)])
  | [], acc, x, _ => ⟨x, rfl⟩
  | a :: names, acc, x, h => by
    rw [List.length_cons] at h
    by_cases c : a ∈ bound
    · obtain ⟨x', ih⟩ := free_in1 (d0 := d0) (d1 := d1) (d5 := d5) (bound := bound) (names := names) (acc := acc) (x := some (.str a)) (by omega)
      refine ⟨x', ?_⟩
      rw [List.filter_cons_of_neg (by simp [c]), ← ih]
      simp! only [gN, nin_strs, c]
    · obtain ⟨x', ih⟩ := free_in1 (d0 := d0) (d1 := d1) (d5 := d5) (bound := bound) (names := names) (acc := SX.st acc a) (x := some (.str a)) (by have := len_st (acc := acc) (x := a); omega)
      refine ⟨x', ?_⟩
      rw [List.filter_cons_of_pos (by simp [c]), List.foldl_cons, ← ih]
      simp! only [gN, nin_strs, c, putO_st (show acc.length < 99999 by omega)]
theorem free_in2 {d0 d1 : D} : ∀ {ps : List (List Str × List Str)} {acc : List Str} {x y z : Option D}, acc.length + (ps.map fun p => p.2.length).sum < 99999 → ∃ x' y' z', runL (gNs [4, 5]) (sFor (iPl (eV 5)) (gN 2) (sIf (tB' (e2 (gInA true) (eV 2) (eV 4))) (sSet (eC (.bl true)) (eV 3) (eV 2)) sNx)) (ps.map fun p => .tup [nms .t p.1, nms .t p.2]) [some d0, some d1, x, some (.hdl m.length), y, z] (m ++ [dk acc]) = .nx [some d0, some d1, x', some (.hdl m.length), y', z'] (m ++ [dk (ps.foldl (fun acc p => (p.2.filter fun x => !decide (x ∈ p.1)).foldl SX.st acc) acc)])
  | [], acc, x, y, z, _ => ⟨x, y, z, rfl⟩
  | p :: ps, acc, x, y, z, h => by
    rw [List.map_cons, List.sum_cons] at h
    have hl : p.2.length < 1000000 := by omega
    obtain ⟨x1, e⟩ := free_in1 (m := m) (d0 := d0) (d1 := d1) (d5 := nms .t p.2) (bound := p.1) (names := p.2) (acc := acc) (x := x) (by omega)
    have hacc : ((p.2.filter fun x => !decide (x ∈ p.1)).foldl SX.st acc).length ≤ acc.length + p.2.length := by
      have h1 := len_sts (l := p.2.filter fun x => !decide (x ∈ p.1)) (acc := acc)
      have h2 := List.length_filter_le (fun x => !decide (x ∈ p.1)) p.2
      omega
    obtain ⟨x2, y2, z2, ih⟩ := free_in2 (d0 := d0) (d1 := d1) (ps := ps) (acc := (p.2.filter fun x => !decide (x ∈ p.1)).foldl SX.st acc) (x := x1) (y := some (nms .t p.1)) (z := some (nms .t p.2)) (by omega)
    refine ⟨x2, y2, z2, ?_⟩
    rw [List.foldl_cons, ← ih, List.map_cons]
    conv => lhs; unfold runL
    simp only [gNs_tup, gSetAll, List.set_cons_succ, List.set_cons_zero]
    rw [for_run (ds := p.2.map .str) (m1 := m ++ [dk acc]) (ipl_mk (k := .t) rfl) (by rw [List.length_map]; exact hl), e]
theorem frK_len {own : List Str} {ps : List (List Str × List Str)} : (frK own ps).length ≤ own.length + (ps.map fun p => p.2.length).sum := by
  have h0 : (SX.dis own).length ≤ own.length := by
    have := len_sts (l := own) (acc := [])
    rw [List.length_nil, Nat.zero_add] at this
    exact this
  have key : ∀ (ps : List (List Str × List Str)) (acc : List Str), (ps.foldl (fun acc p => (p.2.filter fun x => !decide (x ∈ p.1)).foldl SX.st acc) acc).length ≤ acc.length + (ps.map fun p => p.2.length).sum := by
    intro ps
    induction ps with
    | nil => intro acc; exact Nat.le_refl _
    | cons p ps ih =>
      intro acc
      rw [List.foldl_cons, List.map_cons, List.sum_cons]
      have h1 := len_sts (l := p.2.filter fun x => !decide (x ∈ p.1)) (acc := acc)
      have h2 := List.length_filter_le (fun x => !decide (x ∈ p.1)) p.2
      have h3 := ih ((p.2.filter fun x => !decide (x ∈ p.1)).foldl SX.st acc)
      omega
  have := key ps (SX.dis own)
  unfold frK
  omega
theorem sum_zip {bs fs : List (List Str)} : ((bs.zip fs).map fun p => p.2.length).sum ≤ (fs.map List.length).sum := by
  induction bs generalizing fs with
  | nil => simp
  | cons b bs ih =>
    cases fs with
    | nil => simp
    | cons f fs =>
      rw [List.zip_cons_cons, List.map_cons, List.map_cons, List.sum_cons, List.sum_cons]
      exact Nat.add_le_add_left ih _
theorem zipD_map {α β : Type} {f : α → D} {g : β → D} : ∀ {xs : List α} {ys : List β}, zipD (xs.map f) (ys.map g) = (xs.zip ys).map fun p => .tup [f p.1, g p.2]
  | [], _ => rfl
  | _ :: _, [] => rfl
  | x :: xs, y :: ys => by
    show D.tup [f x, g y] :: zipD (xs.map f) (ys.map g) = _
    rw [zipD_map]
    rfl
theorem e_free_parts {ar : Str → Nat} (q : Q) (h : q.Ok ar) {frees : List (List Str)} (hn : q.own.length + (frees.map List.length).sum < 99999) (hb : q.bnd.length ≤ 100) : f_free_from_parts [q.tup.enc, .lst (frees.map (nms .t))] m = .ok (nms .t (frOf q.own (q.bnd.zip frees))) m := by
  have ho := e_own (m := m) q h
  have hbd := e_bnd (m := m ++ [dk (SX.dis q.own)]) q h
  have hz := sum_zip (bs := q.bnd) (fs := frees)
  have hk := frK_len (own := q.own) (ps := q.bnd.zip frees)
  have hl0 : (SX.dis q.own).length ≤ q.own.length := by
    have := frK_len (own := q.own) (ps := [])
    exact this
  have h1 : nDc false [2] (iPl (eCall f_own_variables (aC (eV 0) aN))) (gN 2) cTrue (eV 2) (eC (.bl true)) [some q.tup.enc, some (.lst (frees.map (nms .t))), none, none, none, none] m = .ok (dk (SX.dis q.own)) m := by
    have hi : iPl (eCall f_own_variables (aC (eV 0) aN)) [some q.tup.enc, some (.lst (frees.map (nms .t))), none, none, none, none] m = .ok (.fix (q.own.map .str)) m := ipl_mk (k := .t) ho
    have hr := runD_st (w := wipeE [some q.tup.enc, some (.lst (frees.map (nms .t))), none, none, none, none] [2]) (g := gN 2) (t := cTrue) (fk := eV 2) (fv := eC (.bl true)) (m := m) (xs := q.own) (acc := []) (fun x hx => ⟨_, rfl, rfl, rfl, rfl⟩) (by rw [List.length_nil]; omega)
    rw [dc_eq]
    simp only [hi, Rs.bind, List.length_map, show q.own.length < 1000000 by omega, if_true]
    rw [show (([] : List D)) = sts [] from rfl]
    rw [show (sts []) = tts [] from rfl] at hr ⊢
    rw [hr]
    rfl
  obtain ⟨x', y', z', h2⟩ := free_in2 (m := m) (d0 := q.tup.enc) (d1 := .lst (frees.map (nms .t))) (ps := q.bnd.zip frees) (acc := SX.dis q.own) (x := none) (y := none) (z := none) (by omega)
  have h3 : sFor (DY.iZip (aC (eCall f_bound_in_parts (aC (eV 0) aN)) (aC (eV 1) aN))) (gNs [4, 5]) (sFor (iPl (eV 5)) (gN 2) (sIf (tB' (e2 (gInA true) (eV 2) (eV 4))) (sSet (eC (.bl true)) (eV 3) (eV 2)) sNx)) [some q.tup.enc, some (.lst (frees.map (nms .t))), none, some (.hdl m.length), none, none] (m ++ [dk (SX.dis q.own)]) = .nx [some q.tup.enc, some (.lst (frees.map (nms .t))), x', some (.hdl m.length), y', z'] (m ++ [dk (frK q.own (q.bnd.zip frees))]) := by
    rw [for_run (ds := (q.bnd.zip frees).map fun p => .tup [nms .t p.1, nms .t p.2]) (m1 := m ++ [dk (SX.dis q.own)]) ?_ ?_]
    · exact h2
    · have hz2 := zip_mm (k := .l) (ds := q.bnd.map (nms .t)) (es := frees.map (nms .t))
      rw [zipD_map] at hz2
      have hz2 : zipS [.lst (q.bnd.map (nms .t)), .lst (frees.map (nms .t))] = _ := hz2
      dsimp! only [hbd, hz2]
    · rw [List.length_map, List.length_zip]
      omega
  have key : F_free_from_parts (start0 6 [q.tup.enc, .lst (frees.map (nms .t))]) m = .rt (nms .t (frOf q.own (q.bnd.zip frees))) (m ++ [dk (frK q.own (q.bnd.zip frees))]) := by
    unfold F_free_from_parts
    dsimp! only [h1, h3, sorted_st (t := []) (show (frK q.own (q.bnd.zip frees)).length ≤ 100000 by omega)]
    rfl
  exact run_ret key (exit_new old_nms)
end
end Kx
/-! free variables of a tree; its parts one by one -/
namespace Kx
open PySem T DY
theorem parts_tup (q : Q) : q.tup.parts = q.parts.map Q.tup := by cases q <;> rfl
theorem free_eq (q : Q) : q.free = frOf q.own (q.bnd.zip (q.parts.map Q.free)) := by cases q <;> rfl
theorem bnd_parts (q : Q) : q.bnd.length = q.parts.length := by cases q <;> rfl
theorem parts_ok {ar : Str → Nat} {q p : Q} (h : q.Ok ar) (hp : p ∈ q.parts) : p.Ok ar := by
  cases q with
  | nt k q => rw [List.mem_singleton.mp hp]; exact h
  | bi k w a b => rcases List.mem_cons.mp hp with rfl | hp; exact h.1; rw [List.mem_singleton.mp hp]; exact h.2
  | qu k w x q => rw [List.mem_singleton.mp hp]; exact h.2
  | more k x a y b => rcases List.mem_cons.mp hp with rfl | hp; exact h.2.1; rw [List.mem_singleton.mp hp]; exact h.2.2.2
  | walk k kl l kr r q ks s kg g => rw [List.mem_singleton.mp hp]; exact h.1
  | _ => exact nomatch hp
theorem parts_depth {q p : Q} (hp : p ∈ q.parts) : p.depth < q.depth := by
  cases q with
  | nt k q => rw [List.mem_singleton.mp hp]; simp only [Q.depth]; omega
  | bi k w a b => rcases List.mem_cons.mp hp with rfl | hp; simp only [Q.depth]; omega; rw [List.mem_singleton.mp hp]; simp only [Q.depth]; omega
  | qu k w x q => rw [List.mem_singleton.mp hp]; simp only [Q.depth]; omega
  | more k x a y b => rcases List.mem_cons.mp hp with rfl | hp; simp only [Q.depth]; omega; rw [List.mem_singleton.mp hp]; simp only [Q.depth]; omega
  | walk k kl l kr r q ks s kg g => rw [List.mem_singleton.mp hp]; simp only [Q.depth]; omega
  | _ => exact nomatch hp
theorem size_eq (q : Q) : q.size = (q.parts.map Q.size).sum + 1 := by cases q <;> simp [Q.size, Q.parts]
theorem own_len {ar : Str → Nat} {q : Q} (h : q.Ok ar) : q.own.length ≤ 120 := by
  cases q with
  | rel k n kv vs => have := h.2.2.2.2; simp only [Q.own]; omega
  | walk k kl l kr r q ks s kg g => obtain ⟨h1, h2, h3, h4, h5, h6, _⟩ := h; simp only [Q.own, List.length_append]; omega
  | _ => simp [Q.own]
theorem sortX_len {l : List Str} : (sortX l).length = l.length := List.length_mergeSort l
theorem free_len {ar : Str → Nat} : ∀ (q : Q), q.Ok ar → q.free.length ≤ 120 * q.size := by
  have key : ∀ (q : Q), q.Ok ar → (∀ p ∈ q.parts, p.free.length ≤ 120 * p.size) → q.free.length ≤ 120 * q.size := by
    intro q h hp
    rw [free_eq]
    unfold frOf
    rw [sortX_len]
    have h1 := frK_len (own := q.own) (ps := q.bnd.zip (q.parts.map Q.free))
    have h2 := sum_zip (bs := q.bnd) (fs := q.parts.map Q.free)
    have h3 := own_len h
    have h4 : ∀ (ps : List Q), (∀ p ∈ ps, p.free.length ≤ 120 * p.size) → ((ps.map Q.free).map List.length).sum ≤ 120 * (ps.map Q.size).sum := by
      intro ps
      induction ps with
      | nil => intro _; simp
      | cons p ps ih =>
        intro hps
        have i1 := ih fun x hx => hps x (List.mem_cons_of_mem _ hx)
        have i2 := hps p List.mem_cons_self
        simp only [List.map_cons, List.sum_cons] at i1 ⊢
        omega
    have h5 := h4 q.parts hp
    rw [size_eq]
    omega
  intro q
  induction q with
  | nt k q ih => intro h; exact key _ h fun p hp => by rw [List.mem_singleton.mp hp]; exact ih h
  | bi k w a b i1 i2 =>
    intro h
    refine key _ h fun p hp => ?_
    rcases List.mem_cons.mp hp with rfl | hp
    · exact i1 h.1
    · rw [List.mem_singleton.mp hp]; exact i2 h.2
  | qu k w x q ih => intro h; exact key _ h fun p hp => by rw [List.mem_singleton.mp hp]; exact ih h.2
  | more k x a y b i1 i2 =>
    intro h
    refine key _ h fun p hp => ?_
    rcases List.mem_cons.mp hp with rfl | hp
    · exact i1 h.2.1
    · rw [List.mem_singleton.mp hp]; exact i2 h.2.2.2
  | walk k kl l kr r q ks s kg g ih => intro h; exact key _ h fun p hp => by rw [List.mem_singleton.mp hp]; exact ih h.1
  | _ => intro h; exact key _ h fun p hp => (nomatch hp)
theorem parts_free {ar : Str → Nat} {q : Q} (h : q.Ok ar) : ((q.parts.map Q.free).map List.length).sum + 120 ≤ 120 * q.size := by
  rw [size_eq]
  have : ∀ (ps : List Q), (∀ p ∈ ps, p.Ok ar) → ((ps.map Q.free).map List.length).sum ≤ 120 * (ps.map Q.size).sum := by
    intro ps
    induction ps with
    | nil => intro _; simp
    | cons p ps ih =>
      intro hps
      have i1 := ih fun x hx => hps x (List.mem_cons_of_mem _ hx)
      have i2 := free_len p (hps p List.mem_cons_self)
      simp only [List.map_cons, List.sum_cons] at i1 ⊢
      omega
  have := this q.parts fun p hp => parts_ok h hp
  omega
theorem parts_len (q : Q) : q.parts.length ≤ 2 := by cases q <;> simp [Q.parts]
theorem parts_size {q p : Q} (hp : p ∈ q.parts) : p.size < q.size := by
  cases q with
  | nt k q => rw [List.mem_singleton.mp hp]; simp only [Q.size]; omega
  | bi k w a b => rcases List.mem_cons.mp hp with rfl | hp; simp only [Q.size]; omega; rw [List.mem_singleton.mp hp]; simp only [Q.size]; omega
  | qu k w x q => rw [List.mem_singleton.mp hp]; simp only [Q.size]; omega
  | more k x a y b => rcases List.mem_cons.mp hp with rfl | hp; simp only [Q.size]; omega; rw [List.mem_singleton.mp hp]; simp only [Q.size]; omega
  | walk k kl l kr r q ks s kg g => rw [List.mem_singleton.mp hp]; simp only [Q.size]; omega
  | _ => exact nomatch hp
theorem e_free_in {ar : Str → Nat} : ∀ (b : Nat) (q : Q) (m : Mem), q.Ok ar → q.depth ≤ b → q.size ≤ 800 → rec_free_in b 0 [q.tup.enc] m = .ok (nms .t q.free) m
  | 0, q, m, _, h, _ => by cases q <;> simp [Q.depth] at h
  | b + 1, q, m, ho, h, hs => by
    show run 2 1 (F_free_in (rec_free_in b 0)) [q.tup.enc] m = _
    refine run_ret ?_ (exit_same rfl)
    have hp := e_parts_of (m := m) q.tup
    rw [parts_tup, List.map_map] at hp
    have hc := lc_map (vs := [1]) (fi := iPl (eCall f_parts_of (aC (eV 0) aN))) (g := gN 1) (t := cTrue) (f := eCall (rec_free_in b 0) (aC (eV 1) aN)) (env := [some q.tup.enc, none]) (m := m) (m1 := m) (xs := q.parts) (enc := Q.enc ∘ Q.tup) (φ := fun p => nms .t p.free) (ipl_mk (k := .l) hp) (by have := parts_len q; omega) fun p hpp => ⟨_, rfl, rfl, e_free_in b p m (parts_ok ho hpp) (by have := parts_depth hpp; omega) (by have := parts_size hpp; omega)⟩
    have hf := e_free_parts (m := m) q ho (frees := q.parts.map Q.free) (by have h1 := own_len ho; have h2 := parts_free ho; omega) (by rw [bnd_parts]; have := parts_len q; omega)
    rw [← free_eq, List.map_map] at hf
    unfold F_free_in
    dsimp! only [hc]
    have e : (q.parts.map fun p => nms .t p.free) = q.parts.map (nms .t ∘ Q.free) := rfl
    rw [e, hf]
end Kx
/-! all trees in a tree -/
namespace Kx
open PySem T DY
abbrev tenc (q : Q) : D := q.tup.enc
/-- all trees in a tree, itself first -/
def Q.subs : Q → List Q
  | .rel k n kv vs => [.rel k n kv vs]
  | .two k w a b => [.two k w a b]
  | .one k w a => [.one k w a]
  | .nt k q => .nt k q :: q.subs
  | .bi k w a b => .bi k w a b :: (a.subs ++ b.subs)
  | .qu k w x q => .qu k w x q :: q.subs
  | .more k x a y b => .more k x a y b :: (a.subs ++ b.subs)
  | .walk k kl l kr r q ks s kg g => .walk k kl l kr r q ks s kg g :: q.subs
theorem subs_eq (q : Q) : q.subs = q :: q.parts.flatMap Q.subs := by cases q <;> simp [Q.subs, Q.parts]
theorem subs_len (q : Q) : q.subs.length = q.size := by
  induction q with
  | nt k q ih => simp only [Q.subs, Q.size, List.length_cons, ih]
  | bi k w a b i1 i2 => simp only [Q.subs, Q.size, List.length_cons, List.length_append, i1, i2]
  | qu k w x q ih => simp only [Q.subs, Q.size, List.length_cons, ih]
  | more k x a y b i1 i2 => simp only [Q.subs, Q.size, List.length_cons, List.length_append, i1, i2]
  | walk k kl l kr r q ks s kg g ih => simp only [Q.subs, Q.size, List.length_cons, ih]
  | _ => rfl
theorem app_run {m0 t : Mem} {d0 d2 : D} : ∀ {ps fs : List Q} {x : Option D}, fs.length + ps.length < 99999 → ∃ x', runL (gN 3) (sDrop (eMt mApp (eV 1) (aC (eV 3) aN))) (ps.map tenc) [some d0, some (.hdl m0.length), some d2, x] (m0 ++ .lst (fs.map tenc) :: t) = .nx [some d0, some (.hdl m0.length), some d2, x'] (m0 ++ .lst ((fs ++ ps).map tenc) :: t)
  | [], fs, x, _ => ⟨x, by rw [List.append_nil]; rfl⟩
  | p :: ps, fs, x, h => by
    rw [List.length_cons] at h
    obtain ⟨x', ih⟩ := app_run (m0 := m0) (t := t) (d0 := d0) (d2 := d2) (ps := ps) (fs := fs ++ [p]) (x := some (tenc p)) (by rw [List.length_append, List.length_singleton]; omega)
    refine ⟨x', ?_⟩
    rw [List.append_assoc, List.singleton_append] at ih
    rw [← ih, List.map_cons]
    conv => lhs; unfold runL
    dsimp! only [gN, List.length_map, show fs.length < 99999 by omega, List.map_append]
theorem sum_drop {fs : List Q} {i : Nat} {q : Q} (h : fs[i]? = some q) : ((fs.drop i).map Q.size).sum = q.size + ((fs.drop (i + 1)).map Q.size).sum := by
  obtain ⟨hi, e⟩ := List.getElem?_eq_some_iff.mp h
  rw [List.drop_eq_getElem_cons hi, List.map_cons, List.sum_cons, e]
theorem sum_ge : ∀ {fs : List Q}, fs.length ≤ (fs.map Q.size).sum
  | [] => Nat.le_refl _
  | q :: fs => by
    rw [List.length_cons, List.map_cons, List.sum_cons]
    have := sum_ge (fs := fs)
    have h : 1 ≤ q.size := by rw [size_eq]; omega
    omega
theorem perm_step {α : Type} (t d p : List α) (x : α) : (t ++ [x] ++ (d ++ p)).Perm (t ++ (x :: p ++ d)) := by
  rw [List.append_assoc]
  refine List.Perm.append_left t ?_
  show (x :: (d ++ p)).Perm (x :: (p ++ d))
  exact List.Perm.cons x List.perm_append_comm
theorem e_trees_in {m : Mem} {q : Q} (hs : q.size < 99999) : ∃ fs : List Q, f_trees_in [tenc q] m = .ok (.lst (fs.map tenc)) m ∧ fs.Perm q.subs := by
  have hw := whl_nx (t := tB' (e2 (gCmp pLt) (eV 2) (eB gLen (aC (eV 1) aN)))) (s := sSeq (sFor (iPl (eCall f_parts_of (aC (e2 gIxA (eV 1) (eV 2)) aN))) (gN 3) (sDrop (eMt mApp (eV 1) (aC (eV 3) aN)))) (sAugI 2 (eC (.int 1))))
    (I := fun k e mm => ∃ (fs : List Q) (i : Nat) (x : Option D), e = [some (tenc q), some (.hdl m.length), some (.int i), x] ∧ mm = m ++ [.lst (fs.map tenc)] ∧ i ≤ fs.length ∧ i + ((fs.drop i).map Q.size).sum = q.size ∧ ((fs.drop i).map Q.size).sum ≤ k ∧ (fs.take i ++ (fs.drop i).flatMap Q.subs).Perm q.subs)
    (N := fun e mm => ∃ (fs : List Q) (i : Nat) (x : Option D), e = [some (tenc q), some (.hdl m.length), some (.int i), x] ∧ mm = m ++ [.lst (fs.map tenc)] ∧ fs.Perm q.subs) (fun k e mm ⟨fs, i, x, he, hm, h1, h2, h3, h4⟩ => by
      subst he hm
      by_cases c : i = fs.length
      · subst c
        refine .inl ⟨m ++ [.lst (fs.map tenc)], ?_, fs, fs.length, x, rfl, rfl, ?_⟩
        · dsimp! only [List.length_map, pLt, Int.lt_irrefl]
        · rw [List.drop_length, List.take_length] at h4
          simpa using h4
      · have hi : i < fs.length := by omega
        obtain ⟨p, hp⟩ : ∃ p, fs[i]? = some p := ⟨fs[i], List.getElem?_eq_getElem hi⟩
        have hsum := sum_drop hp
        have hsz := size_eq p
        have hge := sum_ge (fs := fs.drop (i + 1))
        rw [List.length_drop] at hge
        have hps := sum_ge (fs := p.parts)
        have hpp := e_parts_of (m := m ++ [.lst (fs.map tenc)]) p.tup
        rw [parts_tup, List.map_map] at hpp
        obtain ⟨x', ha⟩ := app_run (m0 := m) (t := []) (d0 := tenc q) (d2 := .int i) (ps := p.parts) (fs := fs) (x := x) (by omega)
        have hix : L2.atI (fs.map tenc) (i : Int) = some p.tup.enc := by
          rw [atI_nat i (by rw [List.length_map]; exact hi), List.getElem?_map, hp]; rfl
        refine .inr ⟨m ++ [.lst (fs.map tenc)], ?_, k - 1, [some (tenc q), some (.hdl m.length), some (.int ((i + 1 : Nat) : Int)), x'], m ++ [.lst ((fs ++ p.parts).map tenc)], by omega, .inl ?_, fs ++ p.parts, i + 1, x', rfl, rfl, ?_, ?_, ?_, ?_⟩
        · dsimp! only [List.length_map, pLt, show ((i : Int) < (fs.length : Nat)) by omega]
        · have hi2 : iPl (eCall f_parts_of (aC (e2 gIxA (eV 1) (eV 2)) aN)) [some (tenc q), some (.hdl m.length), some (.int i), x] (m ++ [.lst (fs.map tenc)]) = .ok (.fix (p.parts.map tenc)) (m ++ [.lst (fs.map tenc)]) := by
            refine ipl_mk (k := .l) ?_
            dsimp! only [hix, hpp]
            rfl
          have hf := (for_run (g := gN 3) (body := sDrop (eMt mApp (eV 1) (aC (eV 3) aN))) hi2 (by rw [List.length_map]; have := parts_len p; omega)).trans ha
          dsimp! only [hf]
          rfl
        · rw [List.length_append]; omega
        · rw [List.drop_append_of_le_length (by omega), List.map_append, List.sum_append]; omega
        · rw [List.drop_append_of_le_length (by omega), List.map_append, List.sum_append]; omega
        · have e1 : (fs ++ p.parts).take (i + 1) = fs.take i ++ [p] := by
            rw [List.take_append_of_le_length (by omega), List.take_succ, hp]; rfl
          have e2 : fs.drop i = p :: fs.drop (i + 1) := by
            obtain ⟨_, e⟩ := List.getElem?_eq_some_iff.mp hp
            rw [List.drop_eq_getElem_cons hi, e]
          rw [e1, List.drop_append_of_le_length (by omega), List.flatMap_append]
          rw [e2, List.flatMap_cons, subs_eq] at h4
          exact (perm_step _ _ _ _).trans h4)
  obtain ⟨e', m', w1, fs, i, x, rfl, rfl, w2⟩ := hw 100000 q.size [some (tenc q), some (.hdl m.length), some (.int (0 : Nat)), none] (m ++ [.lst [tenc q]]) (by omega) ⟨[q], 0, none, rfl, rfl, by simp, by simp, by simp, by simp⟩
  refine ⟨fs, ?_, w2⟩
  refine run_ret (s := F_trees_in) (d := .hdl m.length) (m' := m ++ [.lst (fs.map tenc)]) ?_ (exit_lst (Nat.le_refl _) getN0 (olds_map fun a => old_enc _))
  have w1 : whl _ _ 100000 [some (tenc q), some (.hdl m.length), some (.int 0), none] (m ++ [.lst [tenc q]]) = _ := w1
  unfold F_trees_in
  dsimp! only [sWhile, w1]
end Kx
/-! a tree passes the check -/
namespace Kx
open PySem T DY
abbrev wenc (p : Q × Int) : D := .tup [p.1.enc, .int p.2]
abbrev ard (ar : Str → Nat) (ns : List Str) : Ob := .dic false (sts ns) (ns.map fun n => .int (ar n : Nat))
theorem pop_snoc {ds : List D} {d : D} : mPop (ds ++ [d]) [] = some (d, ds) := by
  unfold mPop
  dsimp only
  rw [List.length_append, List.length_singleton, Nat.add_sub_cancel, List.getElem?_append_right (Nat.le_refl _), Nat.sub_self, List.dropLast_concat]
  rfl
theorem kf_ar {ar : Str → Nat} {x : Str} : ∀ {ns : List Str}, kf false (sts ns) (ns.map fun n => .int (ar n : Nat)) (.str x) = if x ∈ ns then some (.int (ar x : Nat)) else none
  | [] => rfl
  | a :: ns => by
    show (if sameK false (.str a) (.str x) = true then some (D.int (ar a : Nat)) else kf false (sts ns) (ns.map fun n => .int (ar n : Nat)) (.str x)) = _
    rw [kf_ar]
    have e : sameK false (.str a) (.str x) = decide (a = x) := by
      show decide (some (Sum.inr a : L2.Key) = some (Sum.inr x)) = _
      by_cases c : a = x
      · subst c; simp
      · simp [c]
    rw [e]
    by_cases c : a = x
    · subst c; simp
    · have c2 : ¬ x = a := fun h => c h.symm
      simp [c, c2]
theorem setd_run {ar : Str → Nat} {m : Mem} {w : Ob} {ns : List Str} {x : Str} {env : Sv} {fo fk fv : FE} (h1 : fo env (m ++ [w, ard ar ns]) = .ok (.hdl (m.length + 1)) (m ++ [w, ard ar ns])) (h2 : fk env (m ++ [w, ard ar ns]) = .ok (.str x) (m ++ [w, ard ar ns])) (h3 : fv env (m ++ [w, ard ar ns]) = .ok (.int (ar x : Nat)) (m ++ [w, ard ar ns])) (hl : ns.length < 99999) : eSetd fo fk fv env (m ++ [w, ard ar ns]) = .ok (.int (ar x : Nat)) (m ++ [w, ard ar (SX.st ns x)]) := by
  unfold eSetd
  rw [h1]
  show (if isK (m ++ [w, ard ar ns]) (m.length + 1) = true then _ else _) = _
  rw [if_pos isKN1, h2]
  show (fv env (m ++ [w, ard ar ns])).bind _ = _
  rw [h3]
  show (match (m ++ [w, ard ar ns])[m.length + 1]? with
    | some (.dic false ks vs) => if okK false (.hdl (m.length + 1)) (.str x) = true ∧ vs.length < big then match kf false ks vs (.str x) with
          | some d => Rs.ok d (m ++ [w, ard ar ns])
          | none => .ok (.int (ar x : Nat)) ((m ++ [w, ard ar ns]).set (m.length + 1) (.dic false (kp false ks vs (.str x) (.int (ar x : Nat))).1 (kp false ks vs (.str x) (.int (ar x : Nat))).2))
        else .no
    | _ => .no) = _
  rw [getN1]
  dsimp only
  rw [if_pos ⟨rfl, by rw [List.length_map, big_eq]; exact hl⟩, kf_ar]
  unfold SX.st
  by_cases c : x ∈ ns
  · rw [if_pos c, if_pos c]
  · rw [if_neg c, if_neg c, setN1]
    unfold kp
    rw [kf_ar, if_neg c]
    simp
theorem app2_run {m0 t : Mem} {d0 d2 d3 d4 : D} {dep : Int} : ∀ {ps : List Q} {ws : List (Q × Int)} {x : Option D}, ws.length + ps.length < 99999 → ∃ x', runL (gN 6) (sDrop (eMt mApp (eV 1) (aC (eTup (aC (eV 6) (aC (e2 gAdd (eV 5) (eC (.int 1))) aN))) aN))) (ps.map Q.enc) [some d0, some (.hdl m0.length), some d2, some d3, some d4, some (.int dep), x] (m0 ++ .lst (ws.map wenc) :: t) = .nx [some d0, some (.hdl m0.length), some d2, some d3, some d4, some (.int dep), x'] (m0 ++ .lst ((ws ++ ps.map fun p => (p, dep + 1)).map wenc) :: t)
  | [], ws, x, _ => ⟨x, by simp only [List.map_nil, List.append_nil]; rfl⟩
  | p :: ps, ws, x, h => by
    rw [List.length_cons] at h
    obtain ⟨x', ih⟩ := app2_run (m0 := m0) (t := t) (d0 := d0) (d2 := d2) (d3 := d3) (d4 := d4) (dep := dep) (ps := ps) (ws := ws ++ [(p, dep + 1)]) (x := some p.enc) (by rw [List.length_append, List.length_singleton]; omega)
    refine ⟨x', ?_⟩
    rw [List.append_assoc, List.singleton_append] at ih
    rw [List.map_cons, List.map_cons, ← ih]
    conv => lhs; unfold runL
    dsimp! only [gN, List.length_map, show ws.length < 99999 by omega, List.map_append]
abbrev wsum (ws : List (Q × Int)) : Nat := (ws.map fun p => p.1.size).sum
theorem len_wsum : ∀ {ws : List (Q × Int)}, ws.length ≤ wsum ws
  | [] => Nat.le_refl _
  | p :: ws => by
    show ws.length + 1 ≤ p.1.size + wsum ws
    have := len_wsum (ws := ws)
    have h := size_eq p.1
    omega
theorem wsum_parts {ps : List Q} {d : Int} : wsum (ps.map fun p => (p, d)) = (ps.map Q.size).sum := by
  induction ps with
  | nil => rfl
  | cons p ps ih =>
    show p.size + wsum (ps.map fun p => (p, d)) = p.size + (ps.map Q.size).sum
    rw [ih]
theorem enc_word {m : Mem} {q : Q} : gIxA m q.enc (.int 0) = some (.str q.word) := by
  cases q <;> (simp only [Q.enc, Q.word]; rw [ix_mkI]; exact ai0)
/-- one round -/
theorem check_round {ar : Str → Nat} {m : Mem} {d0 : D} {q : Q} {ws : List (Q × Int)} {dep cnt : Int} {ns : List Str} {x y z : Option D} (h : q.Ok ar) (hd : dep ≤ 40) (hc : cnt < 20000) (hn : ns.length < 20000) (hw : ws.length < 20000) : ∃ ns' x', ns'.length ≤ ns.length + 1 ∧ (sSeq (sAsgG (gNs [4, 5]) (eMt0 mPop (eV 1)))
    (sSeq (sAugI 3 (eC (.int 1)))
    (sSeq (sIf (tO (tB' (e2 (gCmp pGt) (eV 3) (eC c_MOST_TREES))) (tO (tB' (e2 (gCmp pGt) (eV 5) (eC c_DEEPEST_TREE))) (tNo (tB' (eCall f_is_well_formed (aC (eV 4) aN)))))) (sRaise0 "BadQuestion") sNx)
    (sSeq (sIf (tA (tB' (e2 (gEq false) (e2 gIxA (eV 4) (eC (.int 0))) (eC (.str "rel")))) (tB' (e2 (gEq true) (eSetd (eV 2) (e2 gIxA (eV 4) (eC (.int 1))) (eB gLen (aC (e2 gIxA (eV 4) (eC (.int 2))) aN))) (eB gLen (aC (e2 gIxA (eV 4) (eC (.int 2))) aN))))) (sRaise0 "BadQuestion") sNx)
    (sFor (iPl (eCall f_parts_of (aC (eV 4) aN))) (gN 6) (sDrop (eMt mApp (eV 1) (aC (eTup (aC (eV 6) (aC (e2 gAdd (eV 5) (eC (.int 1))) aN))) aN)))))))) [some d0, some (.hdl m.length), some (.hdl (m.length + 1)), some (.int cnt), x, y, z] (m ++ [.lst ((ws ++ [(q, dep)]).map wenc), ard ar ns]) =
    .nx [some d0, some (.hdl m.length), some (.hdl (m.length + 1)), some (.int (cnt + 1)), some q.enc, some (.int dep), x'] (m ++ [.lst ((ws ++ q.parts.map fun p => (p, dep + 1)).map wenc), ard ar ns']) := by
  have hwf := e_well (m := m ++ [.lst (ws.map wenc), ard ar ns]) q h
  have fin : ∀ ns' : List Str, ∃ x', sFor (iPl (eCall f_parts_of (aC (eV 4) aN))) (gN 6) (sDrop (eMt mApp (eV 1) (aC (eTup (aC (eV 6) (aC (e2 gAdd (eV 5) (eC (.int 1))) aN))) aN))) [some d0, some (.hdl m.length), some (.hdl (m.length + 1)), some (.int (cnt + 1)), some q.enc, some (.int dep), z] (m ++ [.lst (ws.map wenc), ard ar ns']) = .nx [some d0, some (.hdl m.length), some (.hdl (m.length + 1)), some (.int (cnt + 1)), some q.enc, some (.int dep), x'] (m ++ [.lst ((ws ++ q.parts.map fun p => (p, dep + 1)).map wenc), ard ar ns']) := fun ns' => by
    have hp := e_parts_of (m := m ++ [.lst (ws.map wenc), ard ar ns']) q
    have := parts_len q
    obtain ⟨x', ha⟩ := app2_run (m0 := m) (t := [ard ar ns']) (d0 := d0) (d2 := .hdl (m.length + 1)) (d3 := .int (cnt + 1)) (d4 := q.enc) (dep := dep) (ps := q.parts) (ws := ws) (x := z) (by omega)
    exact ⟨x', (for_run (g := gN 6) (ds := q.parts.map Q.enc) (ipl_mk (k := .l) hp) (by rw [List.length_map]; omega)).trans ha⟩
  by_cases c : q.word = "rel"
  · obtain ⟨k, n, kv, vs, rfl⟩ : ∃ k n kv vs, q = .rel k n kv vs := by
      cases q with
      | rel k n kv vs => exact ⟨k, n, kv, vs, rfl⟩
      | two k w a b => cases w <;> simp [Q.word, W2.nm, str_inj] at c
      | one k w a => cases w <;> simp [Q.word, W1.nm, str_inj] at c
      | bi k w a b => cases w <;> simp [Q.word, WB.nm, str_inj] at c
      | qu k w x q => cases w <;> simp [Q.word, WQ.nm, str_inj] at c
      | _ => simp [Q.word, str_inj] at c
    obtain ⟨x', hf⟩ := fin (SX.st ns n)
    have ha : vs.length = ar n := h.2.2.1
    refine ⟨SX.st ns n, x', len_st, ?_⟩
    have hs := setd_run (ar := ar) (m := m) (w := .lst (ws.map wenc)) (ns := ns) (x := n) (env := [some d0, some (.hdl m.length), some (.hdl (m.length + 1)), some (.int (cnt + 1)), some (Q.rel k n kv vs).enc, some (.int dep), z]) (fo := eV 2) (fk := e2 gIxA (eV 4) (eC (.int 1))) (fv := eB gLen (aC (e2 gIxA (eV 4) (eC (.int 2))) aN)) rfl (by dsimp! only [Q.enc, reduceCtorEq]) (by dsimp! only [Q.enc, List.length_map, ha]) (by omega)
    simp only [Q.enc] at hs hf hwf
    dsimp! only [Q.enc, pop_snoc, List.map_append, List.map_cons, List.map_nil, hwf, pGt, c_MOST_TREES, c_DEEPEST_TREE, show ¬ (20000 : Int) < cnt + 1 by omega, show ¬ (40 : Int) < dep by omega, hs, List.length_map, ha]
    rw [← List.map_append]
    exact hf
  · obtain ⟨x', hf⟩ := fin ns
    refine ⟨ns, x', Nat.le_succ _, ?_⟩
    dsimp! only [pop_snoc, List.map_append, List.map_cons, List.map_nil, hwf, pGt, c_MOST_TREES, c_DEEPEST_TREE, show ¬ (20000 : Int) < cnt + 1 by omega, show ¬ (40 : Int) < dep by omega, enc_word, c]
    rw [← List.map_append]
    exact hf
theorem e_check {ar : Str → Nat} {m : Mem} {q : Q} (h : q.Ok ar) (hd : q.depth ≤ 40) (hs : q.size ≤ 20000) : f_check_tree [q.enc] m = .ok .non m := by
  have hw := whl_nx (t := tT (eV 1)) (s := (sSeq (sAsgG (gNs [4, 5]) (eMt0 mPop (eV 1)))
    (sSeq (sAugI 3 (eC (.int 1)))
    (sSeq (sIf (tO (tB' (e2 (gCmp pGt) (eV 3) (eC c_MOST_TREES))) (tO (tB' (e2 (gCmp pGt) (eV 5) (eC c_DEEPEST_TREE))) (tNo (tB' (eCall f_is_well_formed (aC (eV 4) aN)))))) (sRaise0 "BadQuestion") sNx)
    (sSeq (sIf (tA (tB' (e2 (gEq false) (e2 gIxA (eV 4) (eC (.int 0))) (eC (.str "rel")))) (tB' (e2 (gEq true) (eSetd (eV 2) (e2 gIxA (eV 4) (eC (.int 1))) (eB gLen (aC (e2 gIxA (eV 4) (eC (.int 2))) aN))) (eB gLen (aC (e2 gIxA (eV 4) (eC (.int 2))) aN))))) (sRaise0 "BadQuestion") sNx)
    (sFor (iPl (eCall f_parts_of (aC (eV 4) aN))) (gN 6) (sDrop (eMt mApp (eV 1) (aC (eTup (aC (eV 6) (aC (e2 gAdd (eV 5) (eC (.int 1))) aN))) aN)))))))))
    (I := fun k e mm => ∃ (ws : List (Q × Int)) (ns : List Str) (cnt : Nat) (x y z : Option D), e = [some q.enc, some (.hdl m.length), some (.hdl (m.length + 1)), some (.int cnt), x, y, z] ∧ mm = m ++ [.lst (ws.map wenc), ard ar ns] ∧ (∀ p ∈ ws, p.1.Ok ar ∧ p.2 + (p.1.depth : Int) ≤ 41) ∧ cnt + wsum ws ≤ 20000 ∧ ns.length ≤ cnt ∧ wsum ws ≤ k)
    (N := fun e mm => ∃ (ws : List (Q × Int)) (ns : List Str), mm = m ++ [.lst (ws.map wenc), ard ar ns]) (fun k e mm ⟨ws, ns, cnt, x, y, z, he, hm, h1, h2, h3, h4⟩ => by
      subst he hm
      rcases List.eq_nil_or_concat ws with rfl | ⟨ws, p, rfl⟩
      · refine .inl ⟨m ++ [.lst ([].map wenc), ard ar ns], ?_, [], ns, rfl⟩
        dsimp! only [List.map_nil]
      · rw [List.concat_eq_append] at *
        obtain ⟨hp1, hp2⟩ := h1 p (List.mem_append_right _ List.mem_cons_self)
        have hsz : wsum (ws ++ [p]) = wsum ws + p.1.size := by
          unfold wsum
          rw [List.map_append, List.sum_append]
          rfl
        have hz := size_eq p.1
        have hlw := len_wsum (ws := ws)
        have hdp : 1 ≤ p.1.depth := by cases p.1 <;> simp [Q.depth]
        obtain ⟨ns', x', n1, n2⟩ := check_round (m := m) (d0 := q.enc) (ws := ws) (dep := p.2) (cnt := cnt) (ns := ns) (x := x) (y := y) (z := z) hp1 (by omega) (by omega) (by omega) (by omega)
        refine .inr ⟨m ++ [.lst ((ws ++ [p]).map wenc), ard ar ns], ?_, k - 1, _, _, by omega, .inl n2, ws ++ p.1.parts.map fun r => (r, p.2 + 1), ns', cnt + 1, _, _, _, rfl, rfl, ?_, ?_, by omega, ?_⟩
        · have : ((ws ++ [p]).map wenc).isEmpty = false := by rw [List.map_append]; cases ws <;> rfl
          dsimp! only [this]
        · intro r hr
          rcases List.mem_append.mp hr with hr | hr
          · exact h1 r (List.mem_append_left _ hr)
          · obtain ⟨s, hs, rfl⟩ := List.mem_map.mp hr
            refine ⟨parts_ok hp1 hs, ?_⟩
            have := parts_depth hs
            show p.2 + 1 + (s.depth : Int) ≤ 41
            omega
        · have e : wsum (ws ++ p.1.parts.map fun r => (r, p.2 + 1)) = wsum ws + (p.1.parts.map Q.size).sum := by
            rw [← wsum_parts (d := p.2 + 1)]
            unfold wsum
            rw [List.map_append, List.sum_append]
          rw [e]
          omega
        · have e : wsum (ws ++ p.1.parts.map fun r => (r, p.2 + 1)) = wsum ws + (p.1.parts.map Q.size).sum := by
            rw [← wsum_parts (d := p.2 + 1)]
            unfold wsum
            rw [List.map_append, List.sum_append]
          rw [e]
          omega)
  obtain ⟨e', m', w1, ws, ns, rfl⟩ := hw 100000 q.size [some q.enc, some (.hdl m.length), some (.hdl (m.length + 1)), some (.int (0 : Nat)), none, none, none] (m ++ [.lst [wenc (q, 1)], ard ar []]) (by omega) ⟨[(q, 1)], [], 0, none, none, none, rfl, rfl, fun p hp => by
    rw [List.mem_singleton.mp hp]
    exact ⟨h, by show (1 : Int) + (q.depth : Int) ≤ 41; omega⟩, by simp [wsum]; omega, Nat.le_refl _, by simp [wsum]⟩
  refine run_end (s := F_check_tree) (e := e') (m' := m ++ [.lst (ws.map wenc), ard ar ns]) ?_ (exit_new rfl)
  unfold F_check_tree
  refine seq_nx (e' := [some q.enc, some (.hdl m.length), none, none, none, none, none]) (m' := m ++ [.lst [wenc (q, 1)]]) (by dsimp! only [reduceCtorEq]) (seq_nx (e' := [some q.enc, some (.hdl m.length), some (.hdl (m.length + 1)), none, none, none, none]) (m' := m ++ [.lst [wenc (q, 1)], ard ar []]) (by dsimp! only [reduceCtorEq]; rfl) (seq_nx (e' := [some q.enc, some (.hdl m.length), some (.hdl (m.length + 1)), some (.int (0 : Nat)), none, none, none]) (m' := m ++ [.lst [wenc (q, 1)], ard ar []]) rfl (while_run w1)))
end Kx
/-! sets of tuples, sorted; a question is made -/
namespace DY
open PySem PySem.Spec PyProof.Rows L2
/-- the answer is a new instance -/
theorem exit_ins {m0 t : Mem} {k : Nat} {c : Str} {ns : List Str} {ds : List D} (hk : m0.length ≤ k) (hm : (m0 ++ t)[k]? = some (.ins c ns ds)) (h : olds m0.length ds = true) : exit_ m0 (.hdl k) (m0 ++ t) = .ok (.ins c ns ds) m0 := by
  have hl : m0.length < (m0 ++ t).length := Nat.lt_of_le_of_lt hk (List.getElem?_eq_some_iff.mp hm).1
  unfold exit_
  rw [if_neg (by omega), cutL_self]
  have e : rz m0.length (m0 ++ t) 60 (.hdl k) = some (.ins c ns ds) := by
    show rz m0.length (m0 ++ t) (59 + 1) (.hdl k) = _
    unfold rz
    have ho : ¬ old m0.length (.hdl k) = true := by
      unfold old
      rw [decide_eq_true_eq]
      omega
    rw [if_neg ho]
    simp only [hm]
    show (ds.mapM (rz m0.length (m0 ++ t) (58 + 1))).map (D.ins c ns) = _
    rw [rzs_old h]
    rfl
  rw [e]
theorem old_kD {n : Nat} {k : Key} : old n (kD k) = true := by cases k <;> rfl
theorem old_tupK {n : Nat} {k : List Key} : old n (tupK k) = true := olds_map fun a => old_kD
abbrev ddT (l : List (List Key)) : List (List Key) := l.foldl putT []
theorem putT_len {acc : List (List Key)} {k : List Key} : acc.length ≤ (putT acc k).length := by
  unfold putT
  split
  · exact Nat.le_refl _
  · rw [List.length_append]; omega
theorem foldT_len : ∀ {l acc : List (List Key)}, acc.length ≤ (l.foldl putT acc).length
  | [], _ => Nat.le_refl _
  | k :: l, acc => Nat.le_trans putT_len (foldT_len (l := l) (acc := putT acc k))
theorem putT_mem {acc : List (List Key)} {k j : List Key} : j ∈ putT acc k ↔ j ∈ acc ∨ j = k := by
  unfold putT
  by_cases c : memT acc k = true
  · rw [if_pos c]
    rw [memT_iff] at c
    exact ⟨.inl, fun h => h.elim id fun e => e ▸ c⟩
  · rw [if_neg c, List.mem_append, List.mem_singleton]
theorem putT_nd {acc : List (List Key)} {k : List Key} (h : acc.Nodup) : (putT acc k).Nodup := by
  unfold putT
  by_cases c : memT acc k = true
  · rw [if_pos c]; exact h
  · rw [if_neg c]
    rw [memT_iff] at c
    exact List.nodup_append.mpr ⟨h, by simp, fun a ha b hb e => by
      rw [List.mem_singleton.mp hb] at e
      exact c (e ▸ ha)⟩
theorem foldT_mem : ∀ {l acc : List (List Key)} {j : List Key}, j ∈ l.foldl putT acc ↔ j ∈ acc ∨ j ∈ l
  | [], _, _ => by simp
  | k :: l, acc, j => by
    rw [List.foldl_cons, foldT_mem, putT_mem, List.mem_cons, or_assoc]
theorem foldT_nd : ∀ {l acc : List (List Key)}, acc.Nodup → (l.foldl putT acc).Nodup
  | [], _, h => h
  | k :: l, acc, h => foldT_nd (l := l) (putT_nd h)
theorem ddT_perm {a b : List (List Key)} (h : ∀ k, k ∈ a ↔ k ∈ b) : (ddT a).Perm (ddT b) :=
  (List.perm_ext_iff_of_nodup (foldT_nd List.nodup_nil) (foldT_nd List.nodup_nil)).mpr fun k => by rw [foldT_mem, foldT_mem]; simp [h k]
theorem sortT_perm {a b : List (List Key)} (h : a.Perm b) : sortT a = sortT b :=
  sortT_eq ((List.mergeSort_perm a leT).trans h) ((List.pairwise_mergeSort leT_trans leT_total a).imp fun h => by
    unfold leT at h
    simpa using h)
theorem keys_map : ∀ {k : List Key}, (k.map kD).mapM dKey = some k
  | [] => rfl
  | .inl i :: k => by rw [List.map_cons, List.mapM_cons, keys_map]; rfl
  | .inr s :: k => by rw [List.map_cons, List.mapM_cons, keys_map]; rfl
theorem csc_filt {α : Type} {w : Sv} {g : FG} {t : FT} {f : FE} {m : Mem} {xs : List α} {enc : α → D} {p : α → Bool} {κ : α → List Key} (hs : ∀ x ∈ xs, ∃ e1, g (enc x) w m = some e1 ∧ t e1 m = .ok (p x) m ∧ (p x = true → f e1 m = .ok (tupK (κ x)) m)) :
    ∀ (n i : Nat) (acc : List (List Key)), i ≤ xs.length → xs.length < n + i → ((((xs.drop i).filter p).map κ).foldl putT acc).length < 63 → csc w g t f (.fix (xs.map enc)) n i m acc = .ok ((((xs.drop i).filter p).map κ).foldl putT acc) m
  | 0, i, acc, h1, h2, _ => by omega
  | n + 1, i, acc, h1, h2, h3 => by
    unfold csc
    show (match (some (xs.map enc)[i]? : Option (Option D)) with
      | none => Rs.no
      | some none => .ok acc m
      | some (some d) => match g d w m with
        | none => .no
        | some e1 => (noex (t e1 m)).bind fun b m2 => if b = true then (noex (f e1 m2)).bind fun r m3 => match r with
            | .tup ds => match ds.mapM dKey with
              | some k => if acc.length + 1 < 64 then csc w g t f (.fix (xs.map enc)) n (i + 1) m3 (putT acc k) else .no
              | none => .no
            | _ => .no
          else csc w g t f (.fix (xs.map enc)) n (i + 1) m2 acc) = _
    by_cases c : i = xs.length
    · subst c
      rw [List.getElem?_eq_none (by rw [List.length_map]; exact Nat.le_refl _), List.drop_length]
      rfl
    · have hi : i < xs.length := by omega
      rw [List.getElem?_map, List.getElem?_eq_getElem hi]
      obtain ⟨e1, g1, t1, f1⟩ := hs xs[i] (List.getElem_mem hi)
      have ih := fun acc => csc_filt (w := w) (g := g) (t := t) (f := f) (m := m) (enc := enc) (κ := κ) hs n (i + 1) acc hi (by omega)
      rw [List.drop_eq_getElem_cons hi] at h3 ⊢
      show (match g (enc xs[i]) w m with
        | none => Rs.no
        | some e1 => (noex (t e1 m)).bind fun b m2 => if b = true then (noex (f e1 m2)).bind fun r m3 => match r with
            | .tup ds => match ds.mapM dKey with
              | some k => if acc.length + 1 < 64 then csc w g t f (.fix (xs.map enc)) n (i + 1) m3 (putT acc k) else .no
              | none => .no
            | _ => .no
          else csc w g t f (.fix (xs.map enc)) n (i + 1) m2 acc) = _
      rw [g1]
      dsimp only
      rw [t1]
      show (if p xs[i] = true then (noex (f e1 m)).bind fun r m3 => match r with
            | .tup ds => match ds.mapM dKey with
              | some k => if acc.length + 1 < 64 then csc w g t f (.fix (xs.map enc)) n (i + 1) m3 (putT acc k) else .no
              | none => .no
            | _ => .no
          else csc w g t f (.fix (xs.map enc)) n (i + 1) m acc) = _
      by_cases hp : p xs[i] = true
      · rw [if_pos hp, f1 hp]
        rw [List.filter_cons_of_pos hp, List.map_cons, List.foldl_cons] at h3 ⊢
        have hl := foldT_len (l := ((xs.drop (i + 1)).filter p).map κ) (acc := putT acc (κ xs[i]))
        have hl2 := putT_len (acc := acc) (k := κ xs[i])
        show (match ((κ xs[i]).map kD).mapM dKey with
              | some k => if acc.length + 1 < 64 then csc w g t f (.fix (xs.map enc)) n (i + 1) m (putT acc k) else .no
              | none => .no) = _
        rw [keys_map]
        show (if acc.length + 1 < 64 then csc w g t f (.fix (xs.map enc)) n (i + 1) m (putT acc (κ xs[i])) else .no) = _
        rw [if_pos (by omega)]
        exact ih _ h3
      · rw [if_neg hp]
        rw [List.filter_cons_of_neg hp] at h3 ⊢
        exact ih _ h3
theorem ssc_filt {α : Type} {vs : List Nat} {fi : FI} {env : Sv} {g : FG} {t : FT} {f : FE} {m m1 : Mem} {xs : List α} {enc : α → D} {p : α → Bool} {κ : α → List Key} (hi : fi env m = .ok (.fix (xs.map enc)) m1) (hl : xs.length ≤ 99999) (hs : ∀ x ∈ xs, ∃ e1, g (enc x) (wipeE env vs) m1 = some e1 ∧ t e1 m1 = .ok (p x) m1 ∧ (p x = true → f e1 m1 = .ok (tupK (κ x)) m1)) (hk : (ddT ((xs.filter p).map κ)).length < 63) (hsh : ∀ x ∈ xs, p x = true → κ x ≠ [] ∧ (κ x).map TM.tx = [true, false]) :
    nSsc vs fi g t f env m = .ok (.lst ((sortT (ddT ((xs.filter p).map κ))).map tupK)) m1 := by
  unfold nSsc
  rw [hi]
  show (csc (wipeE env vs) g t f (.fix (xs.map enc)) turns 0 m1 []).bind asS = _
  rw [csc_filt hs turns 0 [] (Nat.zero_le _) (by rw [turns_eq]; omega) (by rw [List.drop_zero]; exact hk), List.drop_zero]
  show asS (ddT ((xs.filter p).map κ)) m1 = _
  unfold asS
  refine if_pos ?_
  have h : ∀ k ∈ ddT ((xs.filter p).map κ), k ≠ [] ∧ k.map TM.tx = [true, false] := by
    intro k hk
    rcases foldT_mem.mp hk with hk | hk
    · exact nomatch hk
    · obtain ⟨x, hx, rfl⟩ := List.mem_map.mp hk
      obtain ⟨h1, h2⟩ := List.mem_filter.mp hx
      exact hsh x h1 h2
  generalize ddT ((xs.filter p).map κ) = l at h
  cases l with
  | nil => rfl
  | cons k r =>
    have h0 := h k List.mem_cons_self
    show (!k.isEmpty && r.all fun j => decide (j.map TM.tx = k.map TM.tx)) = true
    rw [Bool.and_eq_true]
    refine ⟨by cases k with | nil => exact absurd rfl h0.1 | cons => rfl, List.all_eq_true.mpr fun j hj => decide_eq_true ?_⟩
    rw [h0.2, (h j (List.mem_cons_of_mem _ hj)).2]
end DY
/-! a question is made -/
namespace Kx
open PySem T DY
def Q.isRel : Q → Bool
  | .rel .. => true
  | _ => false
def Q.isBind : Q → Bool
  | .qu .. => true
  | .more .. => true
  | .walk .. => true
  | _ => false
def Q.isOrd : Q → Bool
  | .two _ .before _ _ => true
  | .two _ .next _ _ => true
  | .one .. => true
  | _ => false
def Q.key : Q → List L2.Key
  | .rel _ n _ vs => [.inr n, .inl (vs.length : Nat)]
  | _ => []
def Q.keys (q : Q) : List (List L2.Key) := (q.subs.filter Q.isRel).map Q.key
def Q.uses (q : Q) : List (List L2.Key) := sortT (ddT q.keys)
def Q.bare (q : Q) : Bool := !q.subs.any Q.isBind
def Q.ord (q : Q) : Bool := q.subs.any Q.isOrd
abbrev quN : List Str := ["tree", "_free", "_uses", "_bare", "_ordered"]
abbrev quD (q : Q) : D := .ins "Question" quN [tenc q, nms .t q.free, .tup (q.uses.map tupK), .bl q.bare, .bl q.ord]
section
variable {m : Mem}
theorem perm_any {α : Type} {p : α → Bool} {a b : List α} (h : a.Perm b) : a.any p = b.any p := by
  rw [Bool.eq_iff_iff, List.any_eq_true, List.any_eq_true]
  exact ⟨fun ⟨x, h1, h2⟩ => ⟨x, h.mem_iff.mp h1, h2⟩, fun ⟨x, h1, h2⟩ => ⟨x, h.mem_iff.mpr h1, h2⟩⟩
theorem word_rel (q : Q) : (decide (q.word = ("rel" : Str))) = q.isRel := by
  rcases q with _ | ⟨_, w, _, _⟩ | ⟨_, w, _⟩ | _ | ⟨_, w, _, _⟩ | ⟨_, w, _, _⟩ | _ | _ <;> first | rfl | (cases w <;> rfl) | skip
  all_goals first | (simp [Q.word, Q.isRel, str_inj]) | (cases w <;> simp [Q.word, Q.isRel, W1.nm, W2.nm, WB.nm, WQ.nm, str_inj])
theorem word_bind (q : Q) : gInA false m (.str q.word) c_BINDERS = some (.bl q.isBind) := by
  have e : c_BINDERS = mk .t ((["some", "every", "more", "walk"] : List Str).map .str) := rfl
  rw [e, in_strs]
  rcases q with _ | ⟨_, w, _, _⟩ | ⟨_, w, _⟩ | _ | ⟨_, w, _, _⟩ | ⟨_, w, _, _⟩ | _ | _ <;> first | rfl | (cases w <;> rfl)
theorem word_ord (q : Q) : gInA false m (.str q.word) c_ORDERED = some (.bl q.isOrd) := by
  have e : c_ORDERED = mk .t ((["before", "next", "first", "last"] : List Str).map .str) := rfl
  rw [e, in_strs]
  rcases q with _ | ⟨_, w, _, _⟩ | ⟨_, w, _⟩ | _ | ⟨_, w, _, _⟩ | ⟨_, w, _, _⟩ | _ | _ <;> first | rfl | (cases w <;> rfl)
theorem rel_of {q : Q} (h : q.isRel = true) : ∃ k n kv vs, q = .rel k n kv vs := by
  cases q with
  | rel k n kv vs => exact ⟨k, n, kv, vs, rfl⟩
  | _ => exact nomatch h
theorem word_tup (q : Q) : q.tup.word = q.word := by cases q <;> rfl
theorem ix_word (q : Q) : gIxA m (tenc q) (.int 0) = some (.str q.word) := by rw [enc_word, word_tup]
theorem e_Question {ar : Str → Nat} {q : Q} (h : q.Ok ar) (hd : q.depth ≤ 40) (hs : q.size ≤ 800) (hk : (ddT q.keys).length < 63) {fa : FA} {env : Sv} {m1 : Mem} (hfa : fa env m = .ok [q.enc] m1) : eMk false "Question" f_Question_init fa env m = .ok (quD q) m1 := by
  obtain ⟨fs, hf, hp⟩ := e_trees_in (m := m1 ++ [.ins "Question" ["tree"] [tenc q]]) (q := q) (by omega)
  have hlen : fs.length ≤ 800 := by rw [hp.length_eq, subs_len]; exact hs
  have hck := e_check (m := m1 ++ [.ins "Question" [] []]) h hd (by omega)
  have hwt := e_with_tuples 60 q (m1 ++ [.ins "Question" [] []]) (by omega)
  have hfr := e_free_in 60 q (m1 ++ [.ins "Question" ["tree"] [tenc q]]) h (by omega) hs
  have huse : (nSsc [3] (iPl (eV 2)) (gN 3) (tB' (e2 (gEq false) (e2 gIxA (eV 3) (eC (.int 0))) (eC (.str "rel")))) (eTup (aC (e2 gIxA (eV 3) (eC (.int 1))) (aC (eB gLen (aC (e2 gIxA (eV 3) (eC (.int 2))) aN)) aN)))) [some (.hdl m1.length), some q.enc, some (.lst (fs.map tenc)), none] (m1 ++ [.ins "Question" ["tree", "_free"] [tenc q, nms .t q.free]]) = .ok (.lst (q.uses.map tupK)) (m1 ++ [.ins "Question" ["tree", "_free"] [tenc q, nms .t q.free]]) := by
    have hmem : ∀ k, k ∈ (fs.filter Q.isRel).map Q.key ↔ k ∈ q.keys := fun k => ((hp.filter Q.isRel).map Q.key).mem_iff
    have hpp := ddT_perm hmem
    have e : q.uses = sortT (ddT ((fs.filter Q.isRel).map Q.key)) := (sortT_perm hpp).symm
    rw [e]
    refine ssc_filt (ipl_mk (k := .l) rfl) (by omega) (fun x hx => ⟨_, rfl, ?_, fun hx2 => ?_⟩) (by rw [hpp.length_eq]; exact hk) (fun x hx hx2 => ?_)
    · have := word_rel x
      dsimp! only [ix_word, this, wipeE]
    · obtain ⟨k0, n0, kv0, vs0, rfl⟩ := rel_of hx2
      dsimp! only [tenc, Q.tup, Q.enc, Q.key, tupK, kD, List.length_map, wipeE]
    · obtain ⟨k0, n0, kv0, vs0, rfl⟩ := rel_of hx2
      exact ⟨List.cons_ne_nil _ _, rfl⟩
  have hbare : (nLc [3] (iPl (eV 2)) (gN 3) cTrue (e2 (gInA false) (e2 gIxA (eV 3) (eC (.int 0))) (eC c_BINDERS))) [some (.hdl m1.length), some q.enc, some (.lst (fs.map tenc)), none] (m1 ++ [.ins "Question" ["tree", "_free", "_uses"] [tenc q, nms .t q.free, .tup (q.uses.map tupK)]]) = .ok (.lst ((fs.map Q.isBind).map .bl)) (m1 ++ [.ins "Question" ["tree", "_free", "_uses"] [tenc q, nms .t q.free, .tup (q.uses.map tupK)]]) := by
    rw [List.map_map]
    refine lc_map (enc := tenc) (φ := fun x => .bl x.isBind) (ipl_mk (k := .l) rfl) (by omega) fun x hx => ⟨_, rfl, rfl, ?_⟩
    dsimp! only [ix_word, word_bind, wipeE]
  have hord : (nLc [3] (iPl (eV 2)) (gN 3) cTrue (e2 (gInA false) (e2 gIxA (eV 3) (eC (.int 0))) (eC c_ORDERED))) [some (.hdl m1.length), some q.enc, some (.lst (fs.map tenc)), none] (m1 ++ [.ins "Question" ["tree", "_free", "_uses", "_bare"] [tenc q, nms .t q.free, .tup (q.uses.map tupK), .bl q.bare]]) = .ok (.lst ((fs.map Q.isOrd).map .bl)) (m1 ++ [.ins "Question" ["tree", "_free", "_uses", "_bare"] [tenc q, nms .t q.free, .tup (q.uses.map tupK), .bl q.bare]]) := by
    rw [List.map_map]
    refine lc_map (enc := tenc) (φ := fun x => .bl x.isOrd) (ipl_mk (k := .l) rfl) (by omega) fun x hx => ⟨_, rfl, rfl, ?_⟩
    dsimp! only [ix_word, word_ord, wipeE]
  have eb : (!(fs.map Q.isBind).any id) = q.bare := by
    unfold Q.bare
    rw [List.any_map, perm_any hp]
    rfl
  have eo : ((fs.map Q.isOrd).any id) = q.ord := by
    unfold Q.ord
    rw [List.any_map, perm_any hp]
    rfl
  have hh : ∀ f ∈ quN, hasF csN "Question" f = true := by
    intro f hf
    rcases List.mem_cons.mp hf with rfl | hf
    · decide +kernel
    rcases List.mem_cons.mp hf with rfl | hf
    · decide +kernel
    rcases List.mem_cons.mp hf with rfl | hf
    · decide +kernel
    rcases List.mem_cons.mp hf with rfl | hf
    · decide +kernel
    rw [List.mem_singleton.mp hf]
    decide +kernel
  have h1 := hh "tree" (by simp)
  have h2 := hh "_free" (by simp)
  have h3 := hh "_uses" (by simp)
  have h4 := hh "_bare" (by simp)
  have h5 := hh "_ordered" (by simp)
  have key : F_Question_init (start0 4 [.hdl m1.length, q.enc]) (m1 ++ [.ins "Question" [] []]) = .nx [some (.hdl m1.length), some q.enc, some (.lst (fs.map tenc)), none] (m1 ++ [.ins "Question" quN [tenc q, nms .t q.free, .tup (q.uses.map tupK), .bl q.bare, .bl q.ord]]) := by
    unfold F_Question_init
    dsimp! only [hck, hwt, hfr, hf, huse, hbare, hord, sStF, gFld, lk_hdl getN0, Ob.d, getN0, setN0, h1, h2, h3, h4, h5, putL, look, eb, eo, str_inj]
  have hr : f_Question_init [.hdl m1.length, q.enc] (m1 ++ [.ins "Question" [] []]) = .ok .non (m1 ++ [.ins "Question" quN [tenc q, nms .t q.free, .tup (q.uses.map tupK), .bl q.bare, .bl q.ord]]) := run_end key (exit_same (by rw [List.length_append, List.length_append]; rfl))
  unfold eMk
  rw [hfa]
  show (match f_Question_init (.hdl m1.length :: [q.enc]) (m1 ++ [.ins "Question" [] []]) with
  | .ok .non m2 => if false = true then Rs.ok (D.hdl m1.length) m2 else exit_ m1 (.hdl m1.length) m2
  | .ex x m2 => exitX m1 x m2
  | _ => .no) = _
  rw [hr]
  show exit_ m1 (.hdl m1.length) _ = _
  refine exit_ins (Nat.le_refl _) getN0 ?_
  simp only [olds, old_enc, old_nms, old, Bool.and_true, Bool.true_and]
  exact olds_map fun a => old_tupK
end
end Kx
/-! what laws draw: digits, places -/
namespace DY
open PySem PySem.Spec PyProof.Rows L2
/-- a row of digits: each at least 0, below many -/
def Dig (many : Int) (row : List Int) : Prop := ∀ i ∈ row, 0 ≤ i ∧ i < many
abbrev iD (row : List Int) : List D := row.map .int
theorem dig_app {many : Int} {a b : List Int} (h : Dig many a) (k : Dig many b) : Dig many (a ++ b) := fun j hj => (List.mem_append.mp hj).elim (h j) (k j)
/-- the digit at a place of the row -/
theorem dig_at {many : Int} {row : List Int} (h : Dig many row) (k : Int) (h0 : 0 ≤ k) (h1 : k < row.length) : ∃ i, atI (iD row) k = some (.int i) ∧ 0 ≤ i ∧ i < many := by
  have hk : k.toNat < row.length := by omega
  refine ⟨row[k.toNat], ?_, h _ (List.getElem_mem hk)⟩
  rw [atI_at h0 (by rw [List.length_map]; exact h1), List.getElem?_map, List.getElem?_eq_getElem hk]
  rfl
theorem atI_pick {α : Type} {xs : List α} (k : Int) (h0 : 0 ≤ k) (h1 : k < xs.length) : ∃ a ∈ xs, atI xs k = some a := by
  have hk : k.toNat < xs.length := by omega
  exact ⟨xs[k.toNat], List.getElem_mem hk, by rw [atI_at h0 h1, List.getElem?_eq_getElem hk]⟩
theorem atI_pickm {α : Type} {xs : List α} {enc : α → D} (k : Int) (h0 : 0 ≤ k) (h1 : k < xs.length) : ∃ a ∈ xs, atI (xs.map enc) k = some (enc a) := by
  obtain ⟨a, h, e⟩ := atI_pick (xs := xs) k h0 h1
  refine ⟨a, h, ?_⟩
  have hk : k.toNat < xs.length := by omega
  rw [atI_at h0 h1, List.getElem?_eq_getElem hk] at e
  rw [atI_at h0 (by rw [List.length_map]; exact h1), List.getElem?_map, List.getElem?_eq_getElem hk]
  cases e
  rfl
theorem em_nonneg (i : Int) {j : Int} (h : 0 < j) : 0 ≤ i % j := Int.emod_nonneg _ (by omega)
theorem em_lt (i : Int) {j : Int} (h : 0 < j) : i % j < j := Int.emod_lt_of_pos _ h
/-- range(n): its members -/
theorem rngD_get {lo : Int} {n i : Nat} {d : D} (h : (rngD lo n)[i]? = some d) : i < n ∧ d = .int (lo + (i : Int)) := by
  unfold rngD at h
  rw [List.getElem?_map] at h
  obtain ⟨a, h1, rfl⟩ := Option.map_eq_some_iff.mp h
  obtain ⟨h2, h3⟩ := List.getElem?_eq_some_iff.mp h1
  rw [List.length_range] at h2
  rw [List.getElem_range] at h3
  subst h3
  exact ⟨h2, rfl⟩
theorem rngD_len {lo : Int} {n : Nat} : (rngD lo n).length = n := by unfold rngD; rw [List.length_map, List.length_range]
theorem iR1_ok {fa : FA} {env : Sv} {m m1 : Mem} {n : Int} (h : fa env m = .ok [.int n] m1) (hb : -1000000 ≤ n ∧ n ≤ 1000000) : iR1 fa env m = .ok (.fix (rngD 0 n.toNat)) m1 := by
  unfold iR1
  rw [h]
  exact if_pos hb
/-- a walk over range(n) -/
theorem for_rng {I : Nat → Sv → Mem → Prop} {g : FG} {body : FS} {fa : FA} {env : Sv} {m m1 : Mem} {n : Nat} (hi : fa env m = .ok [.int (n : Int)] m1) (hl : n < 1000000) (h0 : I 0 env m1) (hs : ∀ (i : Nat) e m, i < n → I i e m → ∃ e1, g (.int (i : Int)) e m = some e1 ∧ ∃ e2 m2, (body e1 m = .nx e2 m2 ∨ body e1 m = .ct e2 m2) ∧ I (i + 1) e2 m2) :
    ∃ e' m', sFor (iR1 fa) g body env m = .nx e' m' ∧ I n e' m' := by
  have h := for_nx (I := I) (g := g) (body := body) (iR1_ok hi (by omega)) (by rw [rngD_len, Int.toNat_natCast]; exact hl) h0 fun i d e m hd hI => by
    obtain ⟨h1, rfl⟩ := rngD_get hd
    rw [Int.toNat_natCast] at h1
    rw [Int.zero_add]
    exact hs i e m h1 hI
  rw [rngD_len, Int.toNat_natCast] at h
  exact h
/-- [.. for k in range(n)], whatever the memory does -/
theorem lc_rng {I : Nat → Mem → List D → Prop} {vs : List Nat} {g : FG} {t : FT} {f : FE} {fa : FA} {env : Sv} {m m1 : Mem} {n : Nat} (hi : fa env m = .ok [.int (n : Int)] m1) (hl : n ≤ 99999) (h0 : I 0 m1 []) (hs : ∀ (i : Nat) m acc, i < n → I i m acc → ∃ e1, g (.int (i : Int)) (wipeE env vs) m = some e1 ∧ ∃ b m2, t e1 m = .ok b m2 ∧ ((b = false ∧ I (i + 1) m2 acc) ∨ (b = true ∧ ∃ r m3, f e1 m2 = .ok r m3 ∧ I (i + 1) m3 (acc ++ [r])))) :
    ∃ m' out, nLc vs (iR1 fa) g t f env m = .ok (.lst out) m' ∧ I n m' out := by
  have h := lc_st (I := I) (vs := vs) (g := g) (t := t) (f := f) (iR1_ok hi (by omega)) (by rw [rngD_len, Int.toNat_natCast]; exact hl) h0 fun i d m acc hd hI => by
    obtain ⟨h1, rfl⟩ := rngD_get hd
    rw [Int.toNat_natCast] at h1
    rw [Int.zero_add]
    exact hs i m acc h1 hI
  rw [rngD_len, Int.toNat_natCast] at h
  exact h
/-- .. each by φ -/
theorem lc_rngm {vs : List Nat} {g : FG} {t : FT} {f : FE} {fa : FA} {env : Sv} {m m1 : Mem} {n : Nat} {φ : Nat → D} (hi : fa env m = .ok [.int (n : Int)] m1) (hl : n ≤ 99999) (hs : ∀ (i : Nat), i < n → ∃ e1, g (.int (i : Int)) (wipeE env vs) m1 = some e1 ∧ t e1 m1 = .ok true m1 ∧ f e1 m1 = .ok (φ i) m1) :
    nLc vs (iR1 fa) g t f env m = .ok (.lst ((List.range n).map φ)) m1 := by
  obtain ⟨m', out, h, rfl, rfl⟩ := lc_rng (I := fun i mm acc => mm = m1 ∧ acc = (List.range i).map φ) (vs := vs) (g := g) (t := t) (f := f) hi hl ⟨rfl, rfl⟩ fun i m acc h1 ⟨h2, h3⟩ => by
    subst h2 h3
    obtain ⟨e1, g1, t1, f1⟩ := hs i h1
    exact ⟨e1, g1, true, m, t1, .inr ⟨rfl, φ i, m, f1, rfl, by rw [List.range_succ, List.map_append]; rfl⟩⟩
  exact h
/-- at the place of a list that changes -/
theorem set_set {m : Mem} {a : Nat} {x y : Ob} : (m.set a x).set a y = m.set a y := by
  rw [List.set_set]
/-- a memory with a counter at the place a -/
def mA (m : Mem) (a n : Nat) : Mem := m.set a (.lst [.int (n : Int)])
theorem mA_len {m : Mem} {a n : Nat} : (mA m a n).length = m.length := List.length_set
theorem mA_same {m : Mem} {a n k : Nat} : (mA m a n).length = (mA m a k).length := by rw [mA_len, mA_len]
theorem mA_get {m : Mem} {a n : Nat} (h : a < m.length) : (mA m a n)[a]? = some (.lst [.int (n : Int)]) := by
  unfold mA
  rw [List.getElem?_set_self h]
theorem mA_set {m : Mem} {a n k : Nat} : (mA m a n).set a (.lst [.int (k : Int)]) = mA m a k := by
  unfold mA
  rw [List.set_set]
theorem mA_app {m : Mem} {n k : Nat} : mA (m ++ [.lst [.int (n : Int)]]) m.length k = m ++ [.lst [.int (k : Int)]] := by
  unfold mA
  rw [setN0]
/-- a walk over range(n) that may return -/
theorem for_rng_rt {I : Nat → Sv → Mem → Prop} {R : D → Mem → Prop} {g : FG} {body : FS} {fa : FA} {env : Sv} {m m1 : Mem} {n : Nat} (hi : fa env m = .ok [.int (n : Int)] m1) (hl : n < 1000000) (h0 : I 0 env m1) (hs : ∀ (i : Nat) e m, i < n → I i e m → ∃ e1, g (.int (i : Int)) e m = some e1 ∧ ((∃ e2 m2, (body e1 m = .nx e2 m2 ∨ body e1 m = .ct e2 m2) ∧ I (i + 1) e2 m2) ∨ ∃ r m2, body e1 m = .rt r m2 ∧ R r m2)) :
    (∃ e' m', sFor (iR1 fa) g body env m = .nx e' m' ∧ I n e' m') ∨ ∃ r m', sFor (iR1 fa) g body env m = .rt r m' ∧ R r m' := by
  have h := for_rt (I := I) (R := R) (g := g) (body := body) (iR1_ok hi (by omega)) (by rw [rngD_len, Int.toNat_natCast]; exact hl) h0 fun i d e m hd hI => by
    obtain ⟨h1, rfl⟩ := rngD_get hd
    rw [Int.toNat_natCast] at h1
    rw [Int.zero_add]
    exact hs i e m h1 hI
  rw [rngD_len, Int.toNat_natCast] at h
  exact h
theorem seq_rt {s t : FS} {e : Sv} {m m' : Mem} {d : D} (h : s e m = .rt d m') : sSeq s t e m = .rt d m' := by
  unfold sSeq; rw [h]
theorem mA_app2 {m : Mem} {o : Ob} {n k : Nat} : mA (m ++ [.lst [.int (n : Int)], o]) m.length k = m ++ [.lst [.int (k : Int)], o] := by
  unfold mA
  rw [setN0]
theorem add_hdl {m : Mem} {n : Nat} {ds es : List D} (h : m[n]? = some (.lst ds)) : gAdd m (.hdl n) (.lst es) = if ds.length + es.length ≤ 99999 then some (.lst (ds ++ es)) else none := by
  unfold gAdd
  rw [lk_hdl h]
  rfl
theorem seq_assoc {s t u : FS} : sSeq (sSeq s t) u = sSeq s (sSeq t u) := by
  funext e m
  unfold sSeq
  cases s e m <;> rfl
theorem cut_upto {ds : List D} {k : Nat} (h : k ≤ ds.length) : cutD ds none (some (k : Int)) = ds.take k := by
  unfold cutD
  rw [HT.sIx_none, HT.sIx_nat, Nat.min_eq_left h]
  rw [List.drop_zero, Nat.sub_zero]
theorem cutL_cnt {f : Nat} {M : Mem} {n k : Int} : ∀ {m t : Mem} {a : Nat}, cutL f M (m.set a (.lst [.int n])) (m.set a (.lst [.int k]) ++ t) = some (m.set a (.lst [.int k]))
  | [], t, a => by unfold cutL; rfl
  | o :: m, t, 0 => by
    show cutL f M (.lst [.int n] :: m) (.lst [.int k] :: (m ++ t)) = _
    unfold cutL
    by_cases c : Ob.lst [.int k] = .lst [.int n]
    · rw [if_pos c]
      show (cutL f M m (m ++ t)).map (_ :: ·) = _
      rw [cutL_self]
      rfl
    · rw [if_neg c]
      show (cutL f M m (m ++ t)).map (_ :: ·) = _
      rw [cutL_self]
      rfl
  | o :: m, t, a + 1 => by
    show cutL f M (o :: m.set a (.lst [.int n])) (o :: (m.set a (.lst [.int k]) ++ t)) = _
    unfold cutL
    rw [if_pos rfl]
    show (cutL f M (m.set a (.lst [.int n])) (m.set a (.lst [.int k]) ++ t)).map (o :: ·) = _
    rw [cutL_cnt]
    rfl
/-- a counter has gone on, there are new objects; the answer has none of them -/
theorem exit_mA {m t : Mem} {a n k : Nat} {d : D} (h : old m.length d = true) : exit_ (mA m a n) d (mA m a k ++ t) = .ok d (mA m a k) := by
  cases t with
  | nil => rw [List.append_nil]; exact exit_same mA_same
  | cons o t =>
    unfold exit_
    rw [if_neg (by rw [List.length_append, List.length_cons, mA_len, mA_len]; omega), rz_old (by rw [mA_len]; exact h)]
    unfold mA
    rw [cutL_cnt]
theorem mA_appR {m t : Mem} {a n : Nat} (h : a < m.length) : mA (m ++ t) a n = mA m a n ++ t := by
  unfold mA
  rw [List.set_append_left _ _ h]
theorem cut_take {ds : List D} {k : Nat} : cutD ds none (some (k : Int)) = ds.take k := by
  rcases Nat.le_total k ds.length with h | h
  · exact cut_upto h
  · unfold cutD
    rw [HT.sIx_none, HT.sIx_nat, Nat.min_eq_right h, List.drop_zero, Nat.sub_zero, List.take_of_length_le (Nat.le_refl _), List.take_of_length_le h]
theorem sl_hdl {m : Mem} {n : Nat} {ds : List D} (h : m[n]? = some (.lst ds)) {lo hi : Option Int} : gSl m (.hdl n) lo hi = some (.lst (cutD ds lo hi)) := by
  unfold gSl
  rw [lk_hdl h]
  rfl
theorem mod_shift {L t i j : Nat} (hi : i < L) (hj : j < L) (h : (t + i) % L = (t + j) % L) : i = j := by
  have key : ∀ {i j : Nat}, i ≤ j → j < L → (t + i) % L = (t + j) % L → i = j := by
    intro i j hij hj h
    have h1 := Nat.sub_mod_eq_zero_of_mod_eq h.symm
    have h2 : t + j - (t + i) = j - i := by omega
    rw [h2, Nat.mod_eq_of_lt (by omega)] at h1
    omega
  rcases Nat.le_total i j with c | c
  · exact key c hj h
  · exact (key c hi h.symm).symm
end DY
/-! == of data made of texts, lists, tuples -/
namespace DY
open PySem PySem.Spec PyProof.Rows L2
mutual
def txt : PyData → Bool
  | .str x => PyData.strOk x
  | .int _ => true
  | .list xs => txts xs
  | .tuple xs => txts xs
  | _ => false
def txts : List PyData → Bool
  | [] => true
  | x :: xs => txt x && txts xs
end
mutual
theorem txt_lay : ∀ {p : PyData}, txt p = true → p.canLay0 = true
  | .str x, h => by unfold txt at h; unfold PyData.canLay0; exact h
  | .list xs, h => by unfold txt at h; unfold PyData.canLay0; exact txts_lay h
  | .tuple xs, h => by unfold txt at h; unfold PyData.canLay0; exact txts_lay h
  | .none, h => by unfold txt at h; exact nomatch h
  | .bool _, h => by unfold txt at h; exact nomatch h
  | .int _, h => by unfold PyData.canLay0; rfl
  | .dict _, h => by unfold txt at h; exact nomatch h
theorem txts_lay : ∀ {ps : List PyData}, txts ps = true → PyData.canLayAll0 ps = true
  | [], _ => by unfold PyData.canLayAll0; rfl
  | p :: ps, h => by
    unfold txts at h
    obtain ⟨h1, h2⟩ := Bool.and_eq_true_iff.mp h
    unfold PyData.canLayAll0
    rw [txt_lay h1, txts_lay h2]
    rfl
end
/-- a value whose data are texts in lists and tuples, so deep -/
def Tx (d : D) (n : Nat) (p : PyData) : Prop := d.py = some p ∧ txt p = true ∧ p.depth ≤ n
def Kd.py : Kd → List PyData → PyData
  | .t, ps => .tuple ps
  | .l, ps => .list ps
theorem Tx.mono {d : D} {n k : Nat} {p : PyData} (h : Tx d n p) (hk : n ≤ k) : Tx d k p := ⟨h.1, h.2.1, Nat.le_trans h.2.2 hk⟩
theorem Tx.shaped {d : D} {n : Nat} {p : PyData} (h : Tx d n p) (hn : n ≤ 64) : SeqAt.shaped p = true := by
  unfold SeqAt.shaped
  rw [txt_lay h.2.1, decide_eq_true (Nat.le_trans h.2.2 hn)]
  rfl
end DY
/-! sorted lists of texts, of tuples; each once -/
namespace DY
open PySem PySem.Spec PyProof.Rows L2
/-- a memory with a number at the place a -/
def mI (m : Mem) (a : Nat) (i : Int) : Mem := m.set a (.lst [.int i])
theorem mI_len {m : Mem} {a : Nat} {i : Int} : (mI m a i).length = m.length := List.length_set
theorem mI_same {m : Mem} {a : Nat} {i j : Int} : (mI m a i).length = (mI m a j).length := by rw [mI_len, mI_len]
theorem mI_get {m : Mem} {a : Nat} {i : Int} (h : a < m.length) : (mI m a i)[a]? = some (.lst [.int i]) := by
  unfold mI
  rw [List.getElem?_set_self h]
theorem mI_set {m : Mem} {a : Nat} {i j : Int} : (mI m a i).set a (.lst [.int j]) = mI m a j := by
  unfold mI
  rw [List.set_set]
theorem mI_app {m : Mem} {i j : Int} : mI (m ++ [.lst [.int i]]) m.length j = m ++ [.lst [.int j]] := by
  unfold mI
  rw [setN0]
theorem mI_put {m : Mem} {a : Nat} {i j : Int} (h : a < m.length) : putO (mI m a i) a (.int 0) (.int j) = some (mI m a j) := by
  unfold putO
  rw [mI_get h]
  show some ((mI m a i).set a (.lst [.int j])) = _
  rw [mI_set]
end DY
/-! names by their signs -/
namespace Kx
open PySem T DY
def low (c : Nat) : Prop := 97 ≤ c ∧ c ≤ 122
def sgn (c : Nat) : Prop := low c ∨ (48 ≤ c ∧ c ≤ 57)
instance : DecidablePred low := fun c => by unfold low; infer_instance
instance : DecidablePred sgn := fun c => by unfold sgn; infer_instance
/-- small letters and digits, a letter first -/
structure NameC (s : Str) : Prop where
  fst : ∃ c l, s.cps.toList = c :: l ∧ low c
  all : ∀ c ∈ s.cps.toList, sgn c
  len : s.length ≤ 12
abbrev RES : List Str := ["some", "every", "not", "and", "or", "walk", "more", "than", "first", "last", "next"]
theorem len_cps {s : Str} : s.length = s.cps.toList.length := by
  show s.cps.size = _
  rw [Array.length_toList]
theorem sgn_alnum : ∀ c < 123, sgn c → Unicode.isAlnum c = true ∧ Unicode.isUpper c = false ∧ Unicode.isTitle c = false := by decide +kernel
theorem low_lower : ∀ c < 123, low c → Unicode.isLower c = true ∧ Unicode.isDigit c = false := by decide +kernel
theorem sgn_lt {c : Nat} (h : sgn c) : c < 123 := by unfold sgn low at h; omega
theorem low_lt {c : Nat} (h : low c) : c < 123 := sgn_lt (.inl h)
theorem all_list {s : Str} {p : Nat → Bool} : s.cps.all p = s.cps.toList.all p := by rw [Array.all_toList]
theorem any_list {s : Str} {p : Nat → Bool} : s.cps.any p = s.cps.toList.any p := by rw [Array.any_toList]
theorem NameC.name {s : Str} (h : NameC s) (hr : s ∉ RES) : isName s = true := by
  obtain ⟨c, l, e, hc⟩ := h.fst
  have hl : 1 ≤ s.length := by rw [len_cps, e]; exact Nat.succ_le_succ (Nat.zero_le _)
  have h12 := h.len
  have hall := h.all
  obtain ⟨b1, b2⟩ := low_lower c (low_lt hc) hc
  unfold isName
  have i1 : Txt.isascii s = true := by
    unfold Txt.isascii
    rw [all_list, List.all_eq_true]
    intro x hx
    have := sgn_lt (hall x hx)
    exact decide_eq_true (by omega)
  have i2 : Txt.isalnum s = true := by
    unfold Txt.isalnum
    rw [all_list, Bool.and_eq_true]
    refine ⟨decide_eq_true (by omega), List.all_eq_true.mpr fun x hx => (sgn_alnum x (sgn_lt (hall x hx)) (hall x hx)).1⟩
  have i3 : Txt.islower s = true := by
    unfold Txt.islower
    rw [any_list, any_list, Bool.and_eq_true]
    refine ⟨List.any_eq_true.mpr ⟨c, by rw [e]; exact List.mem_cons_self, b1⟩, ?_⟩
    rw [Bool.not_eq_true', List.any_eq_false]
    intro x hx
    obtain ⟨_, j1, j2⟩ := sgn_alnum x (sgn_lt (hall x hx)) (hall x hx)
    rw [j1, j2]
    decide
  have i4 : Txt.isdigit ⟨#[c]⟩ = false := by
    unfold Txt.isdigit
    rw [all_list]
    show (_ && (([c] : List Nat).all Unicode.isDigit)) = false
    rw [List.all_cons, b2]
    simp
  rw [i1, i2, i3, decide_eq_true ⟨hl, h12⟩, decide_eq_false hr]
  simp only [e, i4]
  rfl
theorem cps_app {a b : Str} : (a ++ b).cps.toList = a.cps.toList ++ b.cps.toList := by
  rw [Str.cps_append, Array.toList_append]
theorem NameC.app {a b : Str} (h : NameC a) (hb : ∀ c ∈ b.cps.toList, sgn c) (hl : a.length + b.length ≤ 12) : NameC (a ++ b) := by
  obtain ⟨c, l, e, hc⟩ := h.fst
  refine ⟨⟨c, l ++ b.cps.toList, by rw [cps_app, e]; rfl, hc⟩, fun x hx => ?_, ?_⟩
  · rw [cps_app] at hx
    exact (List.mem_append.mp hx).elim (h.all x) (hb x)
  · rw [len_cps, cps_app, List.length_append, ← len_cps, ← len_cps]; exact hl
/-- s[lo:hi] -/
theorem cutS_cps (s : Str) (lo hi : Option Int) : (L2.cutS s lo hi).cps.toList = (s.cps.toList.drop (HT.sIx s.length 0 lo)).take (HT.sIx s.length s.length hi - HT.sIx s.length 0 lo) := by
  unfold L2.cutS
  rw [List.toList_toArray]
theorem cutS_to (s : Str) (k : Nat) : (L2.cutS s none (some (k : Int))).cps.toList = s.cps.toList.take k := by
  rw [cutS_cps, HT.sIx_none, HT.sIx_nat, List.drop_zero, Nat.sub_zero]
  rcases Nat.le_total k s.length with h | h
  · rw [Nat.min_eq_left h]
  · rw [Nat.min_eq_right h, List.take_of_length_le (by rw [len_cps]; exact Nat.le_refl _), List.take_of_length_le (by rw [← len_cps]; exact h)]
theorem cutS_from (s : Str) {k : Nat} (h : k ≤ s.length) : (L2.cutS s (some (k : Int)) none).cps.toList = s.cps.toList.drop k := by
  rw [cutS_cps, HT.sIx_none, HT.sIx_nat, Nat.min_eq_left h]
  rw [List.take_of_length_le (by rw [List.length_drop, len_cps]; exact Nat.le_refl _)]
abbrev one (c : Nat) : Str := ⟨#[c]⟩
theorem one_cps (c : Nat) : (one c).cps.toList = [c] := rfl
theorem NameC.cut {s : Str} (h : NameC s) {c : Nat} (hc : sgn c) : NameC (L2.cutS s none (some 11) ++ one c) := by
  obtain ⟨a, l, e, ha⟩ := h.fst
  have e1 : (L2.cutS s none (some 11)).cps.toList = s.cps.toList.take 11 := cutS_to s 11
  refine ⟨⟨a, l.take 10 ++ [c], by rw [cps_app, e1, e]; rfl, ha⟩, fun x hx => ?_, ?_⟩
  · rw [cps_app, e1, one_cps] at hx
    rcases List.mem_append.mp hx with hx | hx
    · exact h.all x (List.mem_of_mem_take hx)
    · rw [List.mem_singleton.mp hx]; exact hc
  · rw [len_cps, cps_app, e1, one_cps, List.length_append, List.length_take, List.length_singleton]
    omega
theorem NameC.put {s : Str} (h : NameC s) {k : Nat} (hk : k < s.length) {c : Nat} (hc : low c) : NameC (L2.cutS s none (some (k : Int)) ++ one c ++ L2.cutS s (some ((k : Int) + 1)) none) := by
  obtain ⟨a, l, e, ha⟩ := h.fst
  have e1 := cutS_to s k
  have e2 : (L2.cutS s (some ((k : Int) + 1)) none).cps.toList = s.cps.toList.drop (k + 1) := cutS_from s (k := k + 1) hk
  have hl := h.len
  refine ⟨?_, fun x hx => ?_, ?_⟩
  · cases k with
    | zero => exact ⟨c, s.cps.toList.drop 1, by rw [cps_app, cps_app, e1, e2, one_cps, List.take_zero]; rfl, hc⟩
    | succ k => exact ⟨a, l.take k ++ [c] ++ s.cps.toList.drop (k + 1 + 1), by rw [cps_app, cps_app, e1, e2, one_cps, e]; rfl, ha⟩
  · rw [cps_app, cps_app, e1, e2, one_cps] at hx
    rcases List.mem_append.mp hx with hx | hx
    · rcases List.mem_append.mp hx with hx | hx
      · exact h.all x (List.mem_of_mem_take hx)
      · rw [List.mem_singleton.mp hx]; exact .inl hc
    · exact h.all x (List.mem_of_mem_drop hx)
  · rw [len_cps] at hk hl ⊢
    rw [cps_app, cps_app, e1, e2, one_cps, List.length_append, List.length_append, List.length_take, List.length_singleton, List.length_drop]
    omega
/-! ### signs -/
abbrev SIGNS : Str := "0123456789abcdefghijklmnopqrstuvwxyz"
abbrev LETS : Str := "abcdefghijklmnopqrstuvwxyz0123456789"
abbrev LET26 : Str := "abcdefghijklmnopqrstuvwxyz"
theorem signs_len : SIGNS.cps.toList.length = 36 := by decide +kernel
theorem signs_nd : SIGNS.cps.toList.Nodup := by decide +kernel
theorem signs_ok : ∀ c ∈ SIGNS.cps.toList, sgn c := by decide +kernel
theorem lets_len : LETS.cps.toList.length = 36 := by decide +kernel
theorem lets_ok : ∀ c ∈ LETS.cps.toList, sgn c := by decide +kernel
theorem lets_low : ∀ c ∈ LETS.cps.toList.take 26, low c := by decide +kernel
theorem let26_len : LET26.cps.toList.length = 26 := by decide +kernel
theorem let26_low : ∀ c ∈ LET26.cps.toList, low c := by decide +kernel
theorem ix_sign {m : Mem} {s : Str} (h : s.cps.toList.length ≤ 90000) {k : Int} {c : Nat} (hc : L2.atI s.cps.toList k = some c) : gIxA m (.str s) (.int k) = some (.str (one c)) := by
  rw [ix_str, if_pos (by rw [len_cps]; omega), hc]
  rfl
theorem sl_str {m : Mem} {s : Str} (h : s.length ≤ 90000) {lo hi : Option Int} : gSl m (.str s) lo hi = some (.str (L2.cutS s lo hi)) := if_pos (by rw [big_eq]; omega)
/-- the k-th sign -/
def sg (k : Nat) : Nat := (SIGNS.cps.toList[k]?).getD 48
theorem sg_at {k : Nat} (h : k < 36) : L2.atI SIGNS.cps.toList (k : Int) = some (sg k) ∧ sgn (sg k) := by
  have hk : k < SIGNS.cps.toList.length := by rw [signs_len]; exact h
  have e : sg k = SIGNS.cps.toList[k] := by unfold sg; rw [List.getElem?_eq_getElem hk]; rfl
  rw [e]
  exact ⟨by rw [atI_nat k hk, List.getElem?_eq_getElem hk], signs_ok _ (List.getElem_mem hk)⟩
theorem sg_inj {i j : Nat} (hi : i < 36) (hj : j < 36) (h : sg i = sg j) : i = j := by
  have h1 := (sg_at hi).1
  have h2 := (sg_at hj).1
  rw [atI_nat i (by rw [signs_len]; exact hi)] at h1
  rw [atI_nat j (by rw [signs_len]; exact hj), ← h] at h2
  exact nodup_at signs_nd h1 h2
/-! ### a fresh name -/
def cand (s : Str) : Nat → Str
  | 0 => s
  | k + 1 => L2.cutS (cand s k) none (some 11) ++ one (sg k)
theorem cand_name {s : Str} (h : NameC s) : ∀ k ≤ 36, NameC (cand s k)
  | 0, _ => h
  | k + 1, hk => (cand_name h k (by omega)).cut (sg_at (by omega)).2
theorem cand_last {s : Str} {k : Nat} : (cand s (k + 1)).cps.toList.getLast? = some (sg k) := by
  show (L2.cutS (cand s k) none (some 11) ++ one (sg k)).cps.toList.getLast? = _
  rw [cps_app, one_cps, List.getLast?_append]
  rfl
theorem cand_inj {s : Str} {i j : Nat} (hi : i < 36) (hj : j < 36) (h : cand s (i + 1) = cand s (j + 1)) : i = j := by
  have h1 := cand_last (s := s) (k := i)
  rw [h, cand_last] at h1
  exact (sg_inj hj hi (Option.some.inj h1)).symm
theorem nodup_len2 {α : Type} [DecidableEq α] : ∀ {l L : List α}, l.Nodup → (∀ x ∈ l, x ∈ L) → l.length ≤ L.length
  | [], _, _, _ => Nat.zero_le _
  | x :: l, L, h, hs => by
    obtain ⟨h1, h2⟩ := List.nodup_cons.mp h
    have := nodup_len2 (l := l) (L := L.erase x) h2 fun y hy => (List.mem_erase_of_ne (fun e => h1 (by rw [← e]; exact hy))).mpr (hs y (List.mem_cons_of_mem _ hy))
    rw [List.length_erase_of_mem (hs x List.mem_cons_self)] at this
    have hp : 0 < L.length := List.length_pos_of_mem (hs x List.mem_cons_self)
    rw [List.length_cons]
    omega
theorem nodup_map {α β : Type} {f : α → β} : ∀ {l : List α}, l.Nodup → (∀ x ∈ l, ∀ y ∈ l, f x = f y → x = y) → (l.map f).Nodup
  | [], _, _ => List.nodup_nil
  | x :: l, h, hf => by
    obtain ⟨h1, h2⟩ := List.nodup_cons.mp h
    rw [List.map_cons, List.nodup_cons]
    refine ⟨fun hm => ?_, nodup_map h2 fun a ha b hb => hf a (List.mem_cons_of_mem _ ha) b (List.mem_cons_of_mem _ hb)⟩
    obtain ⟨y, hy, e⟩ := List.mem_map.mp hm
    have := hf y (List.mem_cons_of_mem _ hy) x List.mem_cons_self e
    exact h1 (this ▸ hy)
theorem cand_all {s : Str} {taken : List Str} (hl : taken.length ≤ 34) : ¬ ∀ k < 36, cand s k ∈ taken := fun h => by
  have := nodup_len2 (l := (List.range 35).map fun k => cand s (k + 1)) (L := taken) (nodup_map List.nodup_range fun i hi j hj e => cand_inj (by have := List.mem_range.mp hi; omega) (by have := List.mem_range.mp hj; omega) e) fun x hx => by
    obtain ⟨k, hk, rfl⟩ := List.mem_map.mp hx
    exact h (k + 1) (by have := List.mem_range.mp hk; omega)
  rw [List.length_map, List.length_range] at this
  omega
end Kx
/-! the laws' cells, digits, draws, names -/
namespace Kx
open PySem T DY
section
variable {m : Mem}
theorem e_cell {ns : List Int} (hl : ns.length ≤ 63) {k : Nat} : ∃ c : Int, f_law_cell [scr ns, .int (k : Int)] m = .ok (.int c) m := by
  by_cases h : k < ns.length
  · have e : L2.atI (iD ns) (k : Int) = some (.int ns[k]) := by
      rw [atI_nat k (by rw [List.length_map]; exact h), List.getElem?_map, List.getElem?_eq_getElem h]; rfl
    refine ⟨ns[k], run_ret (s := F_law_cell) (d := .int ns[k]) (m' := m) ?_ (exit_same rfl)⟩
    unfold F_law_cell
    dsimp! only [List.length_map, pLt, show ((k : Int) < (ns.length : Nat)) by omega, e]
  · obtain ⟨e', m', hf, sd, x, rfl, rfl, s0, s1⟩ := for_nx (I := fun i e mm => ∃ (sd : Int) (x : Option D), e = [some (scr ns), some (.int (k : Int)), some (.int sd), x] ∧ m = mm ∧ 0 ≤ sd ∧ sd < 1000003) (g := gN 3) (body := (sAsg 2 (e2 (gIc cMod fun i j => i % j) (eB gInt (aC (e2 gAdd (e2 (gIc cMul fun i j => i * j) (eV 2) (eC (.int 31))) (e2 (gIc cMod fun i j => i % j) (eB gInt (aC (eV 3) aN)) (eC (.int 1000003)))) aN)) (eC (.int 1000003))))) (fi := iPl (eV 0)) (env := [some (scr ns), some (.int (k : Int)), some (.int 17), none]) (m := m) (m1 := m) (ds := iD ns) (by dsimp! only [iPl]) (by rw [List.length_map]; omega) ⟨17, none, rfl, rfl, by omega, by omega⟩ (fun i d e mm hd ⟨sd, x, h1, h2, h3, h4⟩ => by
      subst h1 h2
      rw [List.getElem?_map] at hd
      obtain ⟨n, _, rfl⟩ := Option.map_eq_some_iff.mp hd
      refine ⟨_, rfl, [some (scr ns), some (.int (k : Int)), some (.int ((sd * 31 + n % 1000003) % 1000003)), some (.int n)], m, .inl ?_, _, _, rfl, rfl, em_nonneg _ (by decide), em_lt _ (by decide)⟩
      dsimp! only [gN])
    refine ⟨((sd + 7) * ((k : Int) + 3) * 69621) % 2147483647, run_ret (s := F_law_cell) (d := .int (((sd + 7) * ((k : Int) + 3) * 69621) % 2147483647)) (m' := m) ?_ (exit_same rfl)⟩
    unfold F_law_cell
    dsimp! only [List.length_map, pLt, show ¬ ((k : Int) < (ns.length : Nat)) by omega]
    rw [hf]
    dsimp! only [cMulL (i := sd + 7) (j := (k : Int) + 3) (by omega)]
/-- each digit below its size -/
theorem e_digits {c : Int} {sizes : List Int} (hn : sizes.length < 90000) {many : Int} (hs : ∀ s ∈ sizes, 0 < s ∧ s ≤ many) (hmany : many ≤ 1000000) : ∃ row, f_law_digits [.int c, .lst (iD sizes)] m = .ok (.lst (iD row)) m ∧ row.length = sizes.length ∧ ∀ i (hi : i < sizes.length) (hr : i < row.length), 0 ≤ row[i] ∧ row[i] < sizes[i] := by
  have snoc : ∀ (row : List Int) (i : Nat) (x : Int) (hi : i < sizes.length), row.length = i → (∀ j (hj : j < sizes.length) (hr : j < row.length), 0 ≤ row[j] ∧ row[j] < sizes[j]) → 0 ≤ x → x < sizes[i] → ∀ j (hj : j < sizes.length) (hr : j < (row ++ [x]).length), 0 ≤ (row ++ [x])[j] ∧ (row ++ [x])[j] < sizes[j] := by
    intro row i x hi hl h h0 h1 j hj hr
    rw [List.length_append, List.length_singleton] at hr
    by_cases c : j < row.length
    · rw [List.getElem_append_left c]; exact h j hj c
    · have : j = i := by omega
      subst this
      rw [List.getElem_append_right (by omega)]
      simp only [hl, Nat.sub_self, List.getElem_singleton]
      exact ⟨h0, h1⟩
  have na : Int.natAbs 10 < 18446744073709551616 := by decide
  by_cases h : (1000000000000000000 : Int) ≤ c
  · obtain ⟨e', m', hf, row, c', x, rfl, rfl, h1, h2⟩ := for_nx (I := fun i e mm => ∃ (row : List Int) (c' : Int) (x : Option D), e = [some (.int c), some (.lst (iD sizes)), some (.hdl m.length), some (.int c'), x, none, none, none] ∧ mm = m ++ [.lst (iD row)] ∧ row.length = i ∧ ∀ j (hj : j < sizes.length) (hr : j < row.length), 0 ≤ row[j] ∧ row[j] < sizes[j]) (g := gN 4) (body := (sSeq (sDrop (eMt mApp (eV 2) (aC (e2 (gIc cMod fun i j => i % j) (eB gInt (aC (eV 3) aN)) (eV 4)) aN))) (sAsg 3 (e2 (gIc cDiv fun i j => i / j) (eB gInt (aC (eV 3) aN)) (eV 4))))) (fi := iPl (eV 1)) (env := [some (.int c), some (.lst (iD sizes)), some (.hdl m.length), some (.int (c - 1000000000000000000)), none, none, none, none]) (m := m ++ [.lst []]) (m1 := m ++ [.lst []]) (ds := iD sizes) rfl (by rw [List.length_map]; omega) ⟨[], _, _, rfl, rfl, rfl, fun j hj hr => absurd hr (Nat.not_lt_zero _)⟩ (fun i d e mm hd ⟨row, c', x, h1, h2, h3, h4⟩ => by
      subst h1 h2
      rw [List.getElem?_map] at hd
      obtain ⟨s, hsz, rfl⟩ := Option.map_eq_some_iff.mp hd
      obtain ⟨hi, rfl⟩ := List.getElem?_eq_some_iff.mp hsz
      obtain ⟨p1, p2⟩ := hs _ (List.getElem_mem hi)
      obtain ⟨s, hss⟩ : ∃ s, s = sizes[i] := ⟨_, rfl⟩
      rw [← hss] at p1 p2 ⊢
      have q1 : cMod c' s = true := decide_eq_true p1
      have q2 : cDiv c' s = true := cDivV ⟨p1, by omega⟩
      refine ⟨_, rfl, [some (.int c), some (.lst (iD sizes)), some (.hdl m.length), some (.int (c' / s)), some (.int s), none, none, none], m ++ [.lst (iD (row ++ [c' % s]))], .inl ?_, row ++ [c' % s], _, _, rfl, rfl, by rw [List.length_append, h3]; rfl, snoc row i _ hi h3 h4 (em_nonneg _ p1) (by rw [← hss]; exact em_lt _ p1)⟩
      simp?! only [List.length_map, show row.length < 99999 by omega, List.map_append, q1, q2, gN])
    rw [List.length_map] at h1
    refine ⟨row, run_ret (s := F_law_digits) (d := .hdl m.length) (m' := m ++ [.lst (iD row)]) ?_ (exit_lst (Nat.le_refl _) getN0 old_ints), h1, h2⟩
    unfold F_law_digits
    dsimp! only [na, pGe, h, hf]
  · obtain ⟨e', m', hf, row, sd, x, y, rfl, rfl, h1, h2, h3, h4⟩ := for_rng (I := fun i e mm => ∃ (row : List Int) (sd : Int) (x y : Option D), e = [some (.int c), some (.lst (iD sizes)), some (.hdl m.length), some (.int c), none, some (.int sd), x, y] ∧ mm = m ++ [.lst (iD row)] ∧ row.length = i ∧ (∀ j (hj : j < sizes.length) (hr : j < row.length), 0 ≤ row[j] ∧ row[j] < sizes[j]) ∧ 0 ≤ sd ∧ sd < 2147483647) (g := gN 6) (body := (sSeq (sAsg 5 (e2 (gIc cMod fun i j => i % j) (eB gInt (aC (e2 gAdd (e2 gAdd (e2 (gIc cMul fun i j => i * j) (eV 5) (eC (.int 48271))) (e2 (gIc cMul fun i j => i * j) (eC (.int 974711)) (eV 6))) (eC (.int 12345))) aN)) (eC (.int 2147483647)))) (sSeq (sAsg 7 (e2 (gIc cMod fun i j => i % j) (eB gInt (aC (e2 (gIc cMul fun i j => i * j) (eV 5) (e2 gAdd (e2 (gIc cDiv fun i j => i / j) (eV 5) (eC (.int 65537))) (eC (.int 3)))) aN)) (eC (.int 2147483629)))) (sDrop (eMt mApp (eV 2) (aC (e2 (gIc cMod fun i j => i % j) (e2 (gIc cDiv fun i j => i / j) (eV 7) (eC (.int 19))) (e2 gIxA (eV 1) (eV 6))) aN)))))) (fa := aC (eB gLen (aC (eV 1) aN)) aN) (env := [some (.int c), some (.lst (iD sizes)), some (.hdl m.length), some (.int c), none, some (.int (c % 2147483629)), none, none]) (m := m ++ [.lst []]) (m1 := m ++ [.lst []]) (n := sizes.length) (by dsimp! only [List.length_map]) (by omega) ⟨[], _, _, _, rfl, rfl, rfl, (fun j hj hr => absurd hr (Nat.not_lt_zero _)), em_nonneg _ (by decide), by have := em_lt c (j := 2147483629) (by decide); omega⟩ (fun i e mm hi ⟨row, sd, x, y, h1, h2, h3, h4, h5, h6⟩ => by
      subst h1 h2
      have b1 := em_nonneg (sd * 48271 + 974711 * (i : Int) + 12345) (j := 2147483647) (by decide)
      have b2 := em_lt (sd * 48271 + 974711 * (i : Int) + 12345) (j := 2147483647) (by decide)
      generalize hsd : (sd * 48271 + 974711 * (i : Int) + 12345) % 2147483647 = sd2 at b1 b2
      obtain ⟨p1, p2⟩ := hs _ (List.getElem_mem hi)
      obtain ⟨s, hss⟩ : ∃ s, s = sizes[i] := ⟨_, rfl⟩
      rw [← hss] at p1 p2
      have q1 : cMod (sd2 * (sd2 / 65537 + 3) % 2147483629 / 19) s = true := decide_eq_true p1
      have q3 : cMul sd2 (sd2 / 65537 + 3) = true := cMulL (by omega)
      have q4 : cMul sd 48271 = true := cMulR (by omega)
      have q5 : cMul 974711 (i : Int) = true := cMulL (by omega)
      have hix : L2.atI (iD sizes) (i : Int) = some (.int s) := by
        rw [atI_nat i (by rw [List.length_map]; exact hi), List.getElem?_map, List.getElem?_eq_getElem hi, hss]; rfl
      refine ⟨_, rfl, [some (.int c), some (.lst (iD sizes)), some (.hdl m.length), some (.int c), none, some (.int sd2), some (.int (i : Int)), some (.int (sd2 * (sd2 / 65537 + 3) % 2147483629))], m ++ [.lst (iD (row ++ [sd2 * (sd2 / 65537 + 3) % 2147483629 / 19 % s]))], .inl ?_, row ++ [sd2 * (sd2 / 65537 + 3) % 2147483629 / 19 % s], _, _, _, rfl, rfl, by rw [List.length_append, h3]; rfl, snoc row i _ hi h3 h4 (em_nonneg _ p1) (by rw [← hss]; exact em_lt _ p1), b1, b2⟩
      have m1 : ∀ i : Int, cMod i 2147483647 = true := fun i => decide_eq_true (by decide)
      have m2 : ∀ i : Int, cMod i 2147483629 = true := fun i => decide_eq_true (by decide)
      have m3 : ∀ i : Int, cDiv i 65537 = true := fun i => cDivV (by decide)
      have m4 : ∀ i : Int, cDiv i 19 = true := fun i => cDivV (by decide)
      simp?! only [List.length_map, show row.length < 99999 by omega, List.map_append, q1, q3, q4, q5, m1, m2, m3, m4, hsd, hix, gN])
    refine ⟨row, run_ret (s := F_law_digits) (d := .hdl m.length) (m' := m ++ [.lst (iD row)]) ?_ (exit_lst (Nat.le_refl _) getN0 old_ints), h1, h2⟩
    unfold F_law_digits
    dsimp! only [na, pGe, h, hf]
theorem e_stream {c : Int} {n : Nat} (hn : n < 90000) : ∃ row, f_law_stream [.int c, .int (n : Int)] m = .ok (.lst (iD row)) m ∧ row.length = n ∧ Dig 60 row := by
  obtain ⟨row, h1, h2, h3⟩ := e_digits (m := m) (c := c) (sizes := (List.range n).map fun _ => 60) (by rw [List.length_map, List.length_range]; exact hn) (many := 60) (fun s hs => by
    obtain ⟨_, _, rfl⟩ := List.mem_map.mp hs
    omega) (by decide)
  rw [List.length_map, List.length_range] at h2
  refine ⟨row, run_ret (s := F_law_stream) (d := .lst (iD row)) (m' := m) ?_ (exit_same rfl), h2, fun i hi => ?_⟩
  · have hc : nLc [2] (iR1 (aC (eV 1) aN)) (gN 2) cTrue (eC (.int 60)) [some (.int c), some (.int (n : Int)), none] m = .ok (.lst (iD ((List.range n).map fun _ => 60))) m := by
      rw [show iD ((List.range n).map fun _ => 60) = (List.range n).map fun _ => D.int 60 from List.map_map]
      exact lc_rngm rfl (by omega) fun i hi => ⟨_, rfl, rfl, rfl⟩
    unfold F_law_stream
    dsimp! only [hc, h1]
  · obtain ⟨k, hk, rfl⟩ := List.mem_iff_getElem.mp hi
    have := h3 k (by rw [List.length_map, List.length_range]; omega) hk
    rw [List.getElem_map] at this
    exact this
theorem e_take {row : List Int} (hr : Dig 60 row) (h0 : row ≠ []) (hl : row.length < 90000) {a n : Nat} {many : Int} (hm : 0 < many) (ha : m[a]? = some (.lst [.int (n : Int)])) : ∃ v : Nat, (v : Int) < many ∧ f_law_take [.lst (iD row), .hdl a, .int many] m = .ok (.int (v : Int)) (m.set a (.lst [.int ((n + 1 : Nat) : Int)])) := by
  have hp : 0 < row.length := List.length_pos_iff.mpr h0
  have hp2 : (0 : Int) < (row.length : Nat) := by omega
  obtain ⟨v, e, v1, v2⟩ := dig_at hr ((n : Int) % (row.length : Nat)) (em_nonneg _ hp2) (em_lt _ hp2)
  obtain ⟨w, hw⟩ : ∃ w : Int, (n : Int) / (row.length : Nat) = w := ⟨_, rfl⟩
  have w1 := em_nonneg (v + w * 7) (j := many) (by omega)
  have w2 := em_lt (v + w * 7) (j := many) (by omega)
  refine ⟨((v + w * 7) % many).toNat, by omega, run_ret (s := F_law_take) (d := .int (((v + w * 7) % many).toNat : Nat)) (m' := m.set a (.lst [.int ((n + 1 : Nat) : Int)])) ?_ (exit_same (by rw [List.length_set]))⟩
  have hput : putO m a (.int 0) (.int ((n : Int) + 1)) = some (m.set a (.lst [.int ((n + 1 : Nat) : Int)])) := by
    unfold putO
    rw [ha]
    rfl
  rw [Int.toNat_of_nonneg w1]
  have hcd : cDiv (n : Int) (row.length : Nat) = true := cDivV ⟨hp2, by omega⟩
  have hcm : cMod (n : Int) (row.length : Nat) = true := decide_eq_true hp2
  have hcm2 : cMod (v + w * 7) many = true := decide_eq_true hm
  have hcu : cMul w 7 = true := cMulR (by omega)
  unfold F_law_take
  simp?! only [ix_hdl ha, hput, List.length_map, e, hw, hcd, hcm, hcm2, hcu]
theorem e_tk {row : List Int} (hr : Dig 60 row) (h0 : row ≠ []) (hl : row.length < 90000) {a : Nat} (ha : a < m.length) {many : Int} (hm : 0 < many) (n : Nat) : ∃ v : Nat, (v : Int) < many ∧ f_law_take [.lst (iD row), .hdl a, .int many] (mA m a n) = .ok (.int (v : Int)) (mA m a (n + 1)) := by
  obtain ⟨v, h1, h2⟩ := e_take hr h0 hl hm (mA_get (n := n) ha)
  rw [mA_set] at h2
  exact ⟨v, h1, h2⟩
theorem e_reserved : f_law_reserved [] m = .ok (.lst (RES.map .str)) m := by
  refine run_ret (s := F_law_reserved) (d := .lst (RES.map .str)) (m' := m) ?_ (exit_same rfl)
  unfold F_law_reserved
  dsimp! only [reduceCtorEq]
theorem e_fresh {s : Str} (hs : NameC s) {taken : List Str} (hl : taken.length ≤ 34) : ∃ r, f_law_fresh [.str s, .lst (taken.map .str)] m = .ok (.str r) m ∧ NameC r ∧ r ∉ taken := by
  rcases for_rng_rt (I := fun i e mm => ∃ x : Option D, e = [some (.str s), some (.lst (taken.map .str)), some (.str SIGNS), some (.str (cand s i)), x] ∧ m = mm ∧ ∀ k < i, cand s k ∈ taken) (R := fun r mm => m = mm ∧ ∃ k ≤ 36, r = .str (cand s k) ∧ cand s k ∉ taken) (g := gN 4) (body := (sSeq (sIf (tB' (e2 (gInA true) (eV 3) (eV 1))) (sRet (eV 3)) sNx) (sAsg 3 (e2 gAdd (eSl (eV 3) oN (oS (eC (.int 11)))) (e2 gIxA (eV 2) (eV 4)))))) (fa := aC (eC (.int 36)) aN) (env := [some (.str s), some (.lst (taken.map .str)), some (.str SIGNS), some (.str s), none]) (m := m) (m1 := m) (n := 36) rfl (by decide) ⟨none, rfl, rfl, fun k h => absurd h (Nat.not_lt_zero _)⟩ (fun i e mm hi ⟨x, he, hm, h⟩ => by
    subst he hm
    refine ⟨_, rfl, ?_⟩
    have hin : gInA true m (.str (cand s i)) (.lst (taken.map .str)) = some (.bl (!decide (cand s i ∈ taken))) := nin_strs (k := .l)
    by_cases c : cand s i ∈ taken
    · rw [decide_eq_true c] at hin
      have hc := cand_name hs i (by omega)
      have h11 := cutS_to (cand s i) 11
      have hsg := ix_sign (m := m) (s := SIGNS) (by rw [signs_len]; decide) (sg_at hi).1
      have hsl := sl_str (m := m) (s := cand s i) (lo := none) (hi := some 11) (by have := hc.len; omega)
      have hln : (L2.cutS (cand s i) none (some 11)).length + (one (sg i)).length ≤ 99999 := by
        have : (L2.cutS (cand s i) none (some 11)).length = ((cand s i).cps.toList.take 11).length := by rw [len_cps]; exact congrArg List.length h11
        rw [this, List.length_take]
        show _ + 1 ≤ _
        omega
      refine .inl ⟨[some (.str s), some (.lst (taken.map .str)), some (.str SIGNS), some (.str (cand s (i + 1))), some (.int (i : Int))], m, .inl ?_, _, rfl, rfl, fun k hk => ?_⟩
      · show _ = Fl.nx [some (.str s), some (.lst (taken.map .str)), some (.str SIGNS), some (.str (L2.cutS (cand s i) none (some 11) ++ one (sg i))), some (.int (i : Int))] m
        generalize SIGNS = S0 at *
        dsimp! only [gN, hin, hsl, hsg, hln]
      · by_cases ck : k = i
        · rw [ck]; exact c
        · exact h k (by omega)
    · rw [decide_eq_false c] at hin
      refine .inr ⟨.str (cand s i), m, ?_, rfl, i, by omega, rfl, c⟩
      generalize SIGNS = S0 at *
      dsimp! only [gN, hin]) with ⟨e', m', hf, x, rfl, rfl, h⟩ | ⟨r, m', hf, rfl, k, hk, rfl, h⟩
  · exact absurd h (cand_all hl)
  · refine ⟨cand s k, run_ret (s := F_law_fresh) (d := .str (cand s k)) (m' := m) ?_ (exit_same rfl), cand_name hs k hk, h⟩
    unfold F_law_fresh
    exact seq_nx rfl (seq_nx rfl (seq_rt hf))
end
end Kx
/-! drawn names, relations -/
namespace Kx
open PySem T DY
def nameB (s : Str) : Bool := (match s.cps.toList with | c :: _ => decide (low c) | [] => false) && (s.cps.toList.all (fun c => decide (sgn c)) && decide (s.length ≤ 12))
theorem nameB_ok {s : Str} (h : nameB s = true) : NameC s := by
  unfold nameB at h
  rw [Bool.and_eq_true, Bool.and_eq_true, List.all_eq_true] at h
  obtain ⟨h1, h2, h3⟩ := h
  refine ⟨?_, fun c hc => of_decide_eq_true (h2 c hc), of_decide_eq_true h3⟩
  split at h1
  · rename_i c l e; exact ⟨c, l, e, of_decide_eq_true h1⟩
  · exact nomatch h1
abbrev menuN : List Str := ["rel", "same", "before", "an", "ands", "or1", "no", "nots", "walk1", "mor", "tha", "than2", "firs", "first1", "lasts", "nex", "next0", "somes", "ever", "everyy"]
theorem menuN_ok : ∀ v ∈ menuN, NameC v := fun v hv => nameB_ok ((by decide +kernel : ∀ v ∈ menuN, nameB v = true) v hv)
theorem one_len (c : Nat) : (one c).length = 1 := rfl
theorem str_app_len (a b : Str) : (a ++ b).length = a.length + b.length := by rw [len_cps, cps_app, List.length_append, ← len_cps, ← len_cps]
section
variable {m : Mem}
theorem e_name {row : List Int} (hr : Dig 60 row) (h0 : row ≠ []) (hl : row.length < 90000) {a : Nat} (ha : a < m.length) (n : Nat) : ∃ (s : Str) (n' : Nat), f_law_name [.lst (iD row), .hdl a] (mA m a n) = .ok (.str s) (mA m a n') ∧ NameC s := by
  obtain ⟨v1, l1, k1⟩ := e_tk hr h0 hl ha (many := 20) (by decide) n
  have hmn : D.lst ([D.str "rel", .str "same", .str "before", .str "an", .str "ands", .str "or1", .str "no", .str "nots", .str "walk1", .str "mor"] ++ [.str "tha", .str "than2", .str "firs", .str "first1", .str "lasts", .str "nex", .str "next0", .str "somes", .str "ever", .str "everyy"]) = .lst (menuN.map .str) := rfl
  have s1 : ((sAsg 2 (eC (.str "abcdefghijklmnopqrstuvwxyz0123456789")))) (start0 8 [.lst (iD row), .hdl a]) (mA m a n) = .nx [some (.lst (iD row)), some (.hdl a), some (.str LETS), none, none, none, none, none] (mA m a n) := rfl
  have s2 : (sSeq ((sAsg 3 (eFz (nL (aC (eC (.str "rel")) (aC (eC (.str "same")) (aC (eC (.str "before")) (aC (eC (.str "an")) (aC (eC (.str "ands")) (aC (eC (.str "or1")) (aC (eC (.str "no")) (aC (eC (.str "nots")) (aC (eC (.str "walk1")) (aC (eC (.str "mor")) aN)))))))))))))) ((sAsg 3 (e2 gAdd (eV 3) (eFz (nL (aC (eC (.str "tha")) (aC (eC (.str "than2")) (aC (eC (.str "firs")) (aC (eC (.str "first1")) (aC (eC (.str "lasts")) (aC (eC (.str "nex")) (aC (eC (.str "next0")) (aC (eC (.str "somes")) (aC (eC (.str "ever")) (aC (eC (.str "everyy")) aN)))))))))))))))) [some (.lst (iD row)), some (.hdl a), some (.str LETS), none, none, none, none, none] (mA m a n) = .nx [some (.lst (iD row)), some (.hdl a), some (.str LETS), some (.lst (menuN.map .str)), none, none, none, none] (mA m a n) := by
    rw [← hmn]
    generalize LETS = S0 at *
    dsimp! only [reduceCtorEq]
  have s3 : ((sAsg 4 (eCall f_law_take (aC (eV 0) (aC (eV 1) (aC (eC (.int 20)) aN)))))) [some (.lst (iD row)), some (.hdl a), some (.str LETS), some (.lst (menuN.map .str)), none, none, none, none] (mA m a n) = .nx [some (.lst (iD row)), some (.hdl a), some (.str LETS), some (.lst (menuN.map .str)), some (.int (v1 : Int)), none, none, none] (mA m a (n + 1)) := by
    generalize menuN.map D.str = M0 at *
    generalize LETS = S0 at *
    dsimp! only [k1]
  by_cases c : v1 < 4
  · obtain ⟨v2, l2, k2⟩ := e_tk hr h0 hl ha (many := 20) (by decide) (n + 1)
    obtain ⟨s, hs, is⟩ := atI_pickm (xs := menuN) (enc := .str) v2 (by omega) l2
    refine ⟨s, n + 1 + 1, run_ret (s := F_law_name) (d := .str s) (m' := mA m a (n + 1 + 1)) ?_ (exit_same mA_same), menuN_ok s hs⟩
    have s4 : ((sIf (tB' (e2 (gCmp pLt) (eV 4) (eC (.int 4)))) (sRet (e2 gIxA (eV 3) (eCall f_law_take (aC (eV 0) (aC (eV 1) (aC (eC (.int 20)) aN)))))) sNx)) [some (.lst (iD row)), some (.hdl a), some (.str LETS), some (.lst (menuN.map .str)), some (.int (v1 : Int)), none, none, none] (mA m a (n + 1)) = .rt (.str s) (mA m a (n + 1 + 1)) := by
      generalize menuN.map D.str = M0 at *
      generalize LETS = S0 at *
      dsimp! only [pLt, show (v1 : Int) < 4 by omega, k2, is]
    unfold F_law_name
    rw [show ∀ A B C R : FS, sSeq A (sSeq B (sSeq C R)) = sSeq A (sSeq (sSeq B C) R) from fun A B C R => by rw [DY.seq_assoc]]
    exact seq_nx s1 (seq_nx s2 (seq_nx s3 (seq_rt s4)))
  · have s4 : ((sIf (tB' (e2 (gCmp pLt) (eV 4) (eC (.int 4)))) (sRet (e2 gIxA (eV 3) (eCall f_law_take (aC (eV 0) (aC (eV 1) (aC (eC (.int 20)) aN)))))) sNx)) [some (.lst (iD row)), some (.hdl a), some (.str LETS), some (.lst (menuN.map .str)), some (.int (v1 : Int)), none, none, none] (mA m a (n + 1)) = .nx [some (.lst (iD row)), some (.hdl a), some (.str LETS), some (.lst (menuN.map .str)), some (.int (v1 : Int)), none, none, none] (mA m a (n + 1)) := by
      generalize menuN.map D.str = M0 at *
      generalize LETS = S0 at *
      dsimp! only [pLt, show ¬ (v1 : Int) < 4 by omega]
    obtain ⟨z, hz, iz⟩ := atI_pickm (xs := [1, 1, 2, 12, 3, 6, 1, 2, 11, 4, 12, 1, 2, 8, 5, 3]) (enc := fun (w : Nat) => D.int (w : Int)) ((v1 : Int) - 4) (by omega) (by show (v1 : Int) - 4 < 16; omega)
    have iz : L2.atI [D.int 1, .int 1, .int 2, .int 12, .int 3, .int 6, .int 1, .int 2, .int 11, .int 4, .int 12, .int 1, .int 2, .int 8, .int 5, .int 3] ((v1 : Int) - 4) = some (.int (z : Int)) := iz
    have hz2 : 1 ≤ z ∧ z ≤ 12 := by
      clear iz
      revert z
      simp only [List.forall_mem_cons, List.not_mem_nil, false_implies, implies_true, and_true]
      omega
    obtain ⟨v2, l2, k2⟩ := e_tk hr h0 hl ha (many := 26) (by decide) (n + 1)
    have hL : LETS.cps.toList.length ≤ 90000 := by rw [lets_len]; decide
    obtain ⟨c0, hc0, ic0⟩ := atI_pick (xs := LETS.cps.toList.take 26) v2 (by omega) (by rw [List.length_take, lets_len]; exact l2)
    have ic1 : L2.atI LETS.cps.toList (v2 : Int) = some c0 := by
      rw [atI_nat v2 (by rw [List.length_take, lets_len]; omega), List.getElem?_take, if_pos (by omega)] at ic0
      rw [atI_nat v2 (by rw [lets_len]; omega)]
      exact ic0
    have hlow := lets_low c0 hc0
    have s5 : ((sAsg 5 (e2 gIxA (eFz (nL (aC (eC (.int 1)) (aC (eC (.int 1)) (aC (eC (.int 2)) (aC (eC (.int 12)) (aC (eC (.int 3)) (aC (eC (.int 6)) (aC (eC (.int 1)) (aC (eC (.int 2)) (aC (eC (.int 11)) (aC (eC (.int 4)) (aC (eC (.int 12)) (aC (eC (.int 1)) (aC (eC (.int 2)) (aC (eC (.int 8)) (aC (eC (.int 5)) (aC (eC (.int 3)) aN)))))))))))))))))) (e2 (gI fun i j => i - j) (eV 4) (eC (.int 4)))))) [some (.lst (iD row)), some (.hdl a), some (.str LETS), some (.lst (menuN.map .str)), some (.int (v1 : Int)), none, none, none] (mA m a (n + 1)) = .nx [some (.lst (iD row)), some (.hdl a), some (.str LETS), some (.lst (menuN.map .str)), some (.int (v1 : Int)), some (.int (z : Int)), none, none] (mA m a (n + 1)) := by
      generalize menuN.map D.str = M0 at *
      generalize LETS = S0 at *
      dsimp! only [iz]
    have hix := ix_sign (m := mA m a (n + 1 + 1)) hL ic1
    have s6 : ((sAsg 6 (e2 gIxA (eV 2) (eCall f_law_take (aC (eV 0) (aC (eV 1) (aC (eC (.int 26)) aN))))))) [some (.lst (iD row)), some (.hdl a), some (.str LETS), some (.lst (menuN.map .str)), some (.int (v1 : Int)), some (.int (z : Int)), none, none] (mA m a (n + 1)) = .nx [some (.lst (iD row)), some (.hdl a), some (.str LETS), some (.lst (menuN.map .str)), some (.int (v1 : Int)), some (.int (z : Int)), some (.str (one c0)), none] (mA m a (n + 1 + 1)) := by
      generalize menuN.map D.str = M0 at *
      generalize LETS = S0 at *
      dsimp! only [k2, hix]
    obtain ⟨e', m', hf, s, n', x, rfl, rfl, hs, hsl⟩ := for_rng (I := fun i e mm => ∃ (s : Str) (n' : Nat) (x : Option D), e = [some (.lst (iD row)), some (.hdl a), some (.str LETS), some (.lst (menuN.map .str)), some (.int (v1 : Int)), some (.int (z : Int)), some (.str s), x] ∧ mm = mA m a n' ∧ NameC s ∧ s.length = i + 1) (g := gN 7) (body := (sAsg 6 (e2 gAdd (eV 6) (e2 gIxA (eV 2) (eCall f_law_take (aC (eV 0) (aC (eV 1) (aC (eC (.int 36)) aN)))))))) (fa := aC (e2 (gI fun i j => i - j) (eV 5) (eC (.int 1))) aN) (env := [some (.lst (iD row)), some (.hdl a), some (.str LETS), some (.lst (menuN.map .str)), some (.int (v1 : Int)), some (.int (z : Int)), some (.str (one c0)), none]) (m := mA m a (n + 1 + 1)) (m1 := mA m a (n + 1 + 1)) (n := z - 1) (by
      generalize menuN.map D.str = M0 at *
      generalize LETS = S0 at *
      dsimp! only [show (z : Int) - 1 = ((z - 1 : Nat) : Int) by omega]) (by omega) ⟨one c0, n + 1 + 1, none, rfl, rfl, ⟨⟨c0, [], rfl, hlow⟩, fun c hc => by rw [List.mem_singleton.mp hc]; exact .inl hlow, by rw [one_len]; decide⟩, rfl⟩ (fun i e mm hi ⟨s, n', x, he, hm, hs, hsl⟩ => by
      subst he hm
      obtain ⟨v3, l3, k3⟩ := e_tk hr h0 hl ha (many := 36) (by decide) n'
      obtain ⟨c1, hc1, ic1⟩ := atI_pick (xs := LETS.cps.toList) v3 (by omega) (by rw [lets_len]; exact l3)
      have hix := ix_sign (m := mA m a (n' + 1)) hL ic1
      have hsg := lets_ok c1 hc1
      have hln : s.length + (one c1).length ≤ 99999 := by rw [one_len]; omega
      refine ⟨_, rfl, [some (.lst (iD row)), some (.hdl a), some (.str LETS), some (.lst (menuN.map .str)), some (.int (v1 : Int)), some (.int (z : Int)), some (.str (s ++ one c1)), some (.int (i : Int))], mA m a (n' + 1), .inl ?_, s ++ one c1, n' + 1, _, rfl, rfl, hs.app (fun c hc => by rw [List.mem_singleton.mp hc]; exact hsg) (by rw [one_len]; omega), by rw [str_app_len, hsl, one_len]⟩
      generalize menuN.map D.str = M0 at *
      generalize LETS = S0 at *
      dsimp! only [gN, k3, hix, hln])
    refine ⟨s, n', run_ret (s := F_law_name) (d := .str s) (m' := mA m a n') ?_ (exit_same mA_same), hs⟩
    unfold F_law_name
    rw [show ∀ A B C R : FS, sSeq A (sSeq B (sSeq C R)) = sSeq A (sSeq (sSeq B C) R) from fun A B C R => by rw [DY.seq_assoc]]
    exact seq_nx s1 (seq_nx s2 (seq_nx s3 (seq_nx s4 (seq_nx s5 (seq_nx s6 (seq_nx hf rfl))))))
end
end Kx
/-! pools of names, relations -/
namespace Kx
open PySem T DY
theorem cut_len (s : Str) (lo hi : Option Int) : (L2.cutS s lo hi).length ≤ s.length := by
  rw [len_cps, cutS_cps, List.length_take, List.length_drop, len_cps]
  omega
/-- names of a pool -/
structure Pool (xs : List Str) : Prop where
  nd : xs.Nodup
  ok : ∀ v ∈ xs, NameC v ∧ v ∉ RES
theorem Pool.name {xs : List Str} (h : Pool xs) {v : Str} (hv : v ∈ xs) : isName v = true := (h.ok v hv).1.name (h.ok v hv).2
section
variable {m : Mem}
theorem pool_round {row : List Int} (hr : Dig 60 row) (hl : row.length = 90) {c0 : Int} {dm : D} {names : List Str} (hp : Pool names) (hlen : names.length ≤ 12) {n : Nat} {y7 y8 : Option D} :
    ∃ (r : Str) (n' : Nat) (z7 z8 : Option D), ((sSeq (sAsg 7 (eCall f_law_name (aC (eV 3) (aC (eV 4) aN)))) (sSeq (sIf (tA (tB' (e2 (gCmp pGt) (eV 6) (eC (.int 0)))) (tB' (e2 (gEq false) (e2 (gIc cMod fun i j => i % j) (eB gInt (aC (e2 gIxA (eV 3) (eC (.int 0))) aN)) (eC (.int 2))) (eC (.int 1))))) (sSeq (sAsg 8 (eCall f_law_take (aC (eV 3) (aC (eV 4) (aC (eB gLen (aC (e2 gIxA (eV 5) (eC (.int 0))) aN)) aN))))) (sAsg 7 (e2 gAdd (e2 gAdd (eSl (e2 gIxA (eV 5) (eC (.int 0))) oN (oS (eV 8))) (e2 gIxA (eV 2) (eCall f_law_take (aC (eV 3) (aC (eV 4) (aC (eC (.int 26)) aN)))))) (eSl (e2 gIxA (eV 5) (eC (.int 0))) (oS (e2 gAdd (eV 8) (eC (.int 1)))) oN)))) sNx) (sDrop (eMt mApp (eV 5) (aC (eCall f_law_fresh (aC (eV 7) (aC (e2 gAdd (eV 5) (eCall f_law_reserved aN)) aN))) aN)))))) [some (.int c0), some dm, some (.str LET26), some (.lst (iD row)), some (.hdl m.length), some (.hdl (m.length + 1)), some (.int ((names.length : Nat) : Int)), y7, y8] (m ++ [.lst [.int (n : Int)], .lst (names.map .str)]) = .nx [some (.int c0), some dm, some (.str LET26), some (.lst (iD row)), some (.hdl m.length), some (.hdl (m.length + 1)), some (.int ((names.length : Nat) : Int)), z7, z8] (m ++ [.lst [.int (n' : Int)], .lst ((names ++ [r]).map .str)]) ∧ Pool (names ++ [r]) := by
  have hne : row ≠ [] := fun e => by rw [e] at hl; exact nomatch hl
  have hM : ∀ k : Nat, mA (m ++ [.lst [.int (n : Int)], .lst (names.map .str)]) m.length k = m ++ [.lst [.int (k : Int)], .lst (names.map .str)] := fun k => mA_app2
  have ha : m.length < (m ++ [Ob.lst [.int (n : Int)], .lst (names.map .str)]).length := by rw [List.length_append]; exact Nat.lt_add_of_pos_right (by show 0 < 2; decide)
  obtain ⟨s, n1, k1, hs⟩ := e_name (m := m ++ [.lst [.int (n : Int)], .lst (names.map .str)]) hr hne (by omega) ha n
  rw [hM, hM] at k1
  obtain ⟨d0, i0, a0, b0⟩ := dig_at hr 0 (by decide) (by omega)
  have s1 : ((sAsg 7 (eCall f_law_name (aC (eV 3) (aC (eV 4) aN))))) [some (.int c0), some dm, some (.str LET26), some (.lst (iD row)), some (.hdl m.length), some (.hdl (m.length + 1)), some (.int ((names.length : Nat) : Int)), y7, y8] (m ++ [.lst [.int (n : Int)], .lst (names.map .str)]) = .nx [some (.int c0), some dm, some (.str LET26), some (.lst (iD row)), some (.hdl m.length), some (.hdl (m.length + 1)), some (.int ((names.length : Nat) : Int)), some (.str s), y8] (m ++ [.lst [.int (n1 : Int)], .lst (names.map .str)]) := by
    generalize LET26 = S0 at *
    dsimp! only [k1]
  obtain ⟨s2', n2, z8, s2, hs2⟩ : ∃ (s2' : Str) (n2 : Nat) (z8 : Option D), ((sIf (tA (tB' (e2 (gCmp pGt) (eV 6) (eC (.int 0)))) (tB' (e2 (gEq false) (e2 (gIc cMod fun i j => i % j) (eB gInt (aC (e2 gIxA (eV 3) (eC (.int 0))) aN)) (eC (.int 2))) (eC (.int 1))))) (sSeq (sAsg 8 (eCall f_law_take (aC (eV 3) (aC (eV 4) (aC (eB gLen (aC (e2 gIxA (eV 5) (eC (.int 0))) aN)) aN))))) (sAsg 7 (e2 gAdd (e2 gAdd (eSl (e2 gIxA (eV 5) (eC (.int 0))) oN (oS (eV 8))) (e2 gIxA (eV 2) (eCall f_law_take (aC (eV 3) (aC (eV 4) (aC (eC (.int 26)) aN)))))) (eSl (e2 gIxA (eV 5) (eC (.int 0))) (oS (e2 gAdd (eV 8) (eC (.int 1)))) oN)))) sNx)) [some (.int c0), some dm, some (.str LET26), some (.lst (iD row)), some (.hdl m.length), some (.hdl (m.length + 1)), some (.int ((names.length : Nat) : Int)), some (.str s), y8] (m ++ [.lst [.int (n1 : Int)], .lst (names.map .str)]) = .nx [some (.int c0), some dm, some (.str LET26), some (.lst (iD row)), some (.hdl m.length), some (.hdl (m.length + 1)), some (.int ((names.length : Nat) : Int)), some (.str s2'), z8] (m ++ [.lst [.int (n2 : Int)], .lst (names.map .str)]) ∧ NameC s2' := by
    by_cases c : 0 < names.length ∧ d0 % 2 = 1
    · obtain ⟨c1, c2⟩ := c
      obtain ⟨x, rest, rfl⟩ : ∃ x rest, names = x :: rest := by
        cases names with
        | nil => exact absurd c1 (Nat.lt_irrefl _)
        | cons x rest => exact ⟨x, rest, rfl⟩
      have hx := (hp.ok x List.mem_cons_self).1
      obtain ⟨cx, lx, ex, _⟩ := hx.fst
      have hxl : 1 ≤ x.length := by rw [len_cps, ex]; exact Nat.succ_le_succ (Nat.zero_le _)
      have hx12 := hx.len
      obtain ⟨v, lv, kv⟩ := e_tk (m := m ++ [.lst [.int (n : Int)], .lst ((x :: rest).map .str)]) hr hne (by omega) ha (many := (x.length : Nat)) (by omega) n1
      obtain ⟨w, lw, kw⟩ := e_tk (m := m ++ [.lst [.int (n : Int)], .lst ((x :: rest).map .str)]) hr hne (by omega) ha (many := 26) (by decide) (n1 + 1)
      rw [hM, hM] at kv kw
      have hL : LET26.cps.toList.length ≤ 90000 := by rw [let26_len]; decide
      obtain ⟨cc, hcc, icc⟩ := atI_pick (xs := LET26.cps.toList) w (by omega) (by rw [let26_len]; exact lw)
      have hix := ix_sign (m := m ++ [.lst [.int ((n1 + 1 + 1 : Nat) : Int)], .lst ((x :: rest).map .str)]) hL icc
      have hlow := let26_low cc hcc
      have sl1 := fun mm => sl_str (m := mm) (s := x) (lo := none) (hi := some (v : Int)) (by omega)
      have sl2 := fun mm => sl_str (m := mm) (s := x) (lo := some ((v : Int) + 1)) (hi := none) (by omega)
      have ln1 : (L2.cutS x none (some (v : Int))).length + (one cc).length ≤ 99999 := by have := cut_len x none (some (v : Int)); rw [one_len]; omega
      have ln2 : (L2.cutS x none (some (v : Int)) ++ one cc).length + (L2.cutS x (some ((v : Int) + 1)) none).length ≤ 99999 := by
        have h1 := cut_len x none (some (v : Int))
        have h2 := cut_len x (some ((v : Int) + 1)) none
        rw [str_app_len, one_len]
        omega
      have hxl9 : x.length ≤ 99999 := by omega
      refine ⟨L2.cutS x none (some (v : Int)) ++ one cc ++ L2.cutS x (some ((v : Int) + 1)) none, n1 + 1 + 1, some (.int (v : Int)), ?_, hx.put (by omega) hlow⟩
      have hgt : (0 : Int) < (((x :: rest).length : Nat) : Int) := by rw [List.length_cons]; omega
      generalize hln : (((x :: rest).length : Nat) : Int) = LN at *
      simp only [List.map_cons] at kv kw hix ⊢
      generalize LET26 = S0 at *
      dsimp! only [pGt, hgt, i0, c2, hxl9, kv, kw, hix, sl1, sl2, ln1, ln2]
    · refine ⟨s, n1, y8, ?_, hs⟩
      generalize LET26 = S0 at *
      by_cases c1 : 0 < names.length
      · have c2 : ¬ d0 % 2 = 1 := fun h => c ⟨c1, h⟩
        dsimp! only [pGt, show (0 : Int) < (names.length : Nat) by omega, i0, c2]
      · dsimp! only [pGt, show ¬ (0 : Int) < (names.length : Nat) by omega]
  obtain ⟨r, kf, hr1, hr2⟩ := e_fresh (m := m ++ [.lst [.int (n2 : Int)], .lst (names.map .str)]) hs2 (taken := names ++ RES) (by rw [List.length_append]; show names.length + 11 ≤ 34; omega)
  have hres := e_reserved (m := m ++ [.lst [.int (n2 : Int)], .lst (names.map .str)])
  refine ⟨r, n2, some (.str s2'), z8, seq_nx s1 (seq_nx s2 ?_), ⟨List.nodup_append.mpr ⟨hp.nd, by simp, fun a ha b hb e => ?_⟩, fun v hv => ?_⟩⟩
  · have hadd : gAdd (m ++ [.lst [.int (n2 : Int)], .lst (names.map .str)]) (.hdl (m.length + 1)) (.lst (RES.map .str)) = some (.lst ((names ++ RES).map .str)) := by
      rw [add_hdl getN1, if_pos (by rw [List.length_map, List.length_map]; show names.length + 11 ≤ 99999; omega), ← List.map_append]
    generalize LET26 = S0 at *
    rw [List.map_append]
    generalize RES.map D.str = R0 at *
    dsimp! only [hres, hadd, kf, List.length_map, show names.length < 99999 by omega]
  · rw [List.mem_singleton.mp hb] at e
    exact hr2 (List.mem_append_left _ (e ▸ ha))
  · rcases List.mem_append.mp hv with hv | hv
    · exact hp.ok v hv
    · rw [List.mem_singleton.mp hv]
      exact ⟨hr1, fun h => hr2 (List.mem_append_right _ h)⟩
theorem e_pool {c : Int} {k : Nat} (hk : k ≤ 12) : ∃ names : List Str, f_law_pool [.int c, .int (k : Int)] m = .ok (.lst (names.map .str)) m ∧ names.length = k ∧ Pool names := by
  obtain ⟨row, kr, hl, hr⟩ := e_stream (m := m) (c := c) (n := 90) (by decide)
  have kr : f_law_stream [.int c, .int 90] m = .ok (.lst (iD row)) m := kr
  obtain ⟨e', m', hf, names, n, x6, x7, x8, rfl, rfl, h1, h2⟩ := for_rng (I := fun i e mm => ∃ (names : List Str) (n : Nat) (x6 x7 x8 : Option D), e = [some (.int c), some (.int (k : Int)), some (.str LET26), some (.lst (iD row)), some (.hdl m.length), some (.hdl (m.length + 1)), x6, x7, x8] ∧ mm = m ++ [.lst [.int (n : Int)], .lst (names.map .str)] ∧ names.length = i ∧ Pool names) (g := gN 6) (body := (sSeq (sAsg 7 (eCall f_law_name (aC (eV 3) (aC (eV 4) aN)))) (sSeq (sIf (tA (tB' (e2 (gCmp pGt) (eV 6) (eC (.int 0)))) (tB' (e2 (gEq false) (e2 (gIc cMod fun i j => i % j) (eB gInt (aC (e2 gIxA (eV 3) (eC (.int 0))) aN)) (eC (.int 2))) (eC (.int 1))))) (sSeq (sAsg 8 (eCall f_law_take (aC (eV 3) (aC (eV 4) (aC (eB gLen (aC (e2 gIxA (eV 5) (eC (.int 0))) aN)) aN))))) (sAsg 7 (e2 gAdd (e2 gAdd (eSl (e2 gIxA (eV 5) (eC (.int 0))) oN (oS (eV 8))) (e2 gIxA (eV 2) (eCall f_law_take (aC (eV 3) (aC (eV 4) (aC (eC (.int 26)) aN)))))) (eSl (e2 gIxA (eV 5) (eC (.int 0))) (oS (e2 gAdd (eV 8) (eC (.int 1)))) oN)))) sNx) (sDrop (eMt mApp (eV 5) (aC (eCall f_law_fresh (aC (eV 7) (aC (e2 gAdd (eV 5) (eCall f_law_reserved aN)) aN))) aN)))))) (fa := aC (eV 1) aN) (env := [some (.int c), some (.int (k : Int)), some (.str LET26), some (.lst (iD row)), some (.hdl m.length), some (.hdl (m.length + 1)), none, none, none]) (m := m ++ [.lst [.int (1 : Nat)], .lst []]) (m1 := m ++ [.lst [.int (1 : Nat)], .lst []]) (n := k) (by
    generalize LET26 = S0 at *
    dsimp! only [reduceCtorEq]) (by omega) ⟨[], 1, none, none, none, rfl, rfl, rfl, List.nodup_nil, fun v h => nomatch h⟩ (fun i e mm hi ⟨names, n, x6, x7, x8, he, hm, h1, h2⟩ => by
    subst he hm h1
    obtain ⟨r, n', z7, z8, hb, hp⟩ := pool_round (m := m) hr hl (c0 := c) (dm := .int (k : Int)) h2 (by omega) (n := n) (y7 := x7) (y8 := x8)
    exact ⟨_, rfl, _, _, .inl hb, names ++ [r], n', _, z7, z8, rfl, rfl, by rw [List.length_append]; rfl, hp⟩)
  refine ⟨names, run_ret (s := F_law_pool) (d := .hdl (m.length + 1)) (m' := m ++ [.lst [.int (n : Int)], .lst (names.map .str)]) ?_ (exit_lst (Nat.le_succ _) getN1 old_strs), h1, h2⟩
  have s0 : ((sAsg 2 (eC (.str "abcdefghijklmnopqrstuvwxyz")))) (start0 9 [.int c, .int (k : Int)]) m = .nx [some (.int c), some (.int (k : Int)), some (.str LET26), none, none, none, none, none, none] m := rfl
  have s1 : ((sAsg 3 (eCall f_law_stream (aC (eV 0) (aC (eC (.int 90)) aN))))) [some (.int c), some (.int (k : Int)), some (.str LET26), none, none, none, none, none, none] m = .nx [some (.int c), some (.int (k : Int)), some (.str LET26), some (.lst (iD row)), none, none, none, none, none] m := by
    generalize LET26 = S0 at *
    dsimp! only [kr]
  have s2 : ((sAsg 4 (eNew (nL (aC (eC (.int 1)) aN))))) [some (.int c), some (.int (k : Int)), some (.str LET26), some (.lst (iD row)), none, none, none, none, none] m = .nx [some (.int c), some (.int (k : Int)), some (.str LET26), some (.lst (iD row)), some (.hdl m.length), none, none, none, none] (m ++ [.lst [.int 1]]) := by
    generalize LET26 = S0 at *
    dsimp! only [reduceCtorEq]
  have s3 : ((sAsg 5 (eNew (nL aN)))) [some (.int c), some (.int (k : Int)), some (.str LET26), some (.lst (iD row)), some (.hdl m.length), none, none, none, none] (m ++ [.lst [.int 1]]) = .nx [some (.int c), some (.int (k : Int)), some (.str LET26), some (.lst (iD row)), some (.hdl m.length), some (.hdl (m.length + 1)), none, none, none] (m ++ [.lst [.int 1], .lst []]) := by
    generalize LET26 = S0 at *
    dsimp! only [reduceCtorEq]
  unfold F_law_pool
  exact seq_nx s0 (seq_nx s1 (seq_nx s2 (seq_nx s3 (seq_nx hf rfl))))
/-- relations: names with their numbers -/
abbrev pairD (p : Str × Int) : D := .lst [.str p.1, .int p.2]
structure Pairs (ps : List (Str × Int)) : Prop where
  len : ps.length = 4
  nd : (ps.map (·.1)).Nodup
  ok : ∀ p ∈ ps, isName p.1 = true ∧ 1 ≤ p.2 ∧ p.2 ≤ 3
theorem e_pairs {c : Int} {names : List Str} (hp : Pool names) (hn : 4 ≤ names.length) : ∃ ps : List (Str × Int), f_law_pairs [.int c, .lst (names.map .str)] m = .ok (.lst (ps.map pairD)) m ∧ Pairs ps := by
  obtain ⟨row, kr, hl, hr⟩ := e_stream (m := m) (c := c) (n := 90) (by decide)
  have kr : f_law_stream [.int c, .int 90] m = .ok (.lst (iD row)) m := kr
  obtain ⟨mine0, km, hml0, hmp0⟩ := e_pool (m := m) (c := c) (k := 4) (by decide)
  have km : f_law_pool [.int c, .int 4] m = .ok (.lst (mine0.map .str)) m := km
  obtain ⟨d, i84, a, b⟩ := dig_at hr 84 (by decide) (by omega)
  obtain ⟨mine, hml, hmp, s2⟩ : ∃ mine : List Str, mine.length = 4 ∧ Pool mine ∧ ((sIf (tB' (e2 (gEq false) (e2 (gIc cMod fun i j => i % j) (eB gInt (aC (e2 gIxA (eV 2) (eC (.int 84))) aN)) (eC (.int 4))) (eC (.int 0)))) (sAsg 3 (eFz (nLc [4] (iR1 (aC (eC (.int 4)) aN)) (gN 4) cTrue (e2 gIxA (eV 1) (eV 4))))) sNx)) [some (.int c), some (.lst (names.map .str)), some (.lst (iD row)), some (.lst (mine0.map .str)), none] m = .nx [some (.int c), some (.lst (names.map .str)), some (.lst (iD row)), some (.lst (mine.map .str)), none] m := by
    by_cases cc : d % 4 = 0
    · refine ⟨names.take 4, by rw [List.length_take]; omega, ⟨(List.take_sublist 4 names).nodup hp.nd, fun v hv => hp.ok v (List.mem_of_mem_take hv)⟩, ?_⟩
      obtain ⟨m', out, hc, rfl, rfl⟩ := lc_rng (vs := [4]) (g := gN 4) (t := cTrue) (f := (e2 gIxA (eV 1) (eV 4))) (fa := aC (eC (.int 4)) aN) (env := [some (.int c), some (.lst (names.map .str)), some (.lst (iD row)), some (.lst (mine0.map .str)), none]) (m := m) (m1 := m) (n := 4) (I := fun i mm acc => m = mm ∧ acc = (names.take i).map .str) rfl (by decide) ⟨rfl, by rw [List.take_zero]; rfl⟩ (fun i mm acc hi ⟨h1, h2⟩ => by
        subst h1 h2
        have hi2 : i < names.length := by omega
        have hix : L2.atI (names.map D.str) (i : Int) = some (.str names[i]) := by rw [atI_nat i (by rw [List.length_map]; exact hi2), List.getElem?_map, List.getElem?_eq_getElem hi2]; rfl
        refine ⟨_, rfl, true, m, rfl, .inr ⟨rfl, .str names[i], m, ?_, rfl, ?_⟩⟩
        · dsimp! only [wipeE, hix]
        · rw [List.take_succ, List.getElem?_eq_getElem hi2, List.map_append]; rfl)
      dsimp! only [i84, cc, hc]
    · exact ⟨mine0, hml0, hmp0, by dsimp! only [i84, cc]⟩
  obtain ⟨m', out, hc, rfl, ps, rfl, h1, h2⟩ := lc_rng (vs := [4]) (g := gN 4) (t := cTrue) (f := (eFz (nL (aC (e2 gIxA (eV 3) (eV 4)) (aC (e2 gAdd (eC (.int 1)) (e2 (gIc cMod fun i j => i % j) (eB gInt (aC (e2 gIxA (eV 2) (e2 gAdd (eC (.int 80)) (eV 4))) aN)) (eC (.int 3)))) aN))))) (fa := aC (eC (.int 4)) aN) (env := [some (.int c), some (.lst (names.map .str)), some (.lst (iD row)), some (.lst (mine.map .str)), none]) (m := m) (m1 := m) (n := 4) (I := fun i mm acc => m = mm ∧ ∃ ps : List (Str × Int), acc = ps.map pairD ∧ ps.map (·.1) = mine.take i ∧ ∀ p ∈ ps, 1 ≤ p.2 ∧ p.2 ≤ 3) rfl (by decide) ⟨rfl, [], rfl, rfl, fun p h => nomatch h⟩ (fun i mm acc hi ⟨h1, ps, h2, h3, h4⟩ => by
    subst h1 h2
    have hi2 : i < mine.length := by omega
    have hix : L2.atI (mine.map D.str) (i : Int) = some (.str mine[i]) := by rw [atI_nat i (by rw [List.length_map]; exact hi2), List.getElem?_map, List.getElem?_eq_getElem hi2]; rfl
    obtain ⟨t, it, ta, tb⟩ := dig_at hr (80 + (i : Int)) (by omega) (by omega)
    refine ⟨_, rfl, true, m, rfl, .inr ⟨rfl, pairD (mine[i], 1 + t % 3), m, ?_, rfl, ps ++ [(mine[i], 1 + t % 3)], by rw [List.map_append]; rfl, ?_, fun p hp => ?_⟩⟩
    · dsimp! only [wipeE, hix, it]
    · rw [List.map_append, h3, List.take_succ, List.getElem?_eq_getElem hi2]; rfl
    · rcases List.mem_append.mp hp with hp | hp
      · exact h4 p hp
      · rw [List.mem_singleton.mp hp]
        show 1 ≤ 1 + t % 3 ∧ 1 + t % 3 ≤ 3
        omega)
  have h1 : ps.map (·.1) = mine := by rw [h1, List.take_of_length_le (by omega)]
  refine ⟨ps, run_ret (s := F_law_pairs) (d := .lst (ps.map pairD)) (m' := m) ?_ (exit_same rfl), ⟨by rw [← hml, ← h1, List.length_map], by rw [h1]; exact hmp.nd, fun p hp => ⟨hmp.name (by rw [← h1]; exact List.mem_map_of_mem hp), h2 p hp⟩⟩⟩
  have s0 : ((sAsg 2 (eCall f_law_stream (aC (eV 0) (aC (eC (.int 90)) aN))))) (start0 5 [.int c, .lst (names.map .str)]) m = .nx [some (.int c), some (.lst (names.map .str)), some (.lst (iD row)), none, none] m := by dsimp! only [kr]
  have s1 : ((sAsg 3 (eCall f_law_pool (aC (eV 0) (aC (eC (.int 4)) aN))))) [some (.int c), some (.lst (names.map .str)), some (.lst (iD row)), none, none] m = .nx [some (.int c), some (.lst (names.map .str)), some (.lst (iD row)), some (.lst (mine0.map .str)), none] m := by dsimp! only [km]
  unfold F_law_pairs
  refine seq_nx s0 (seq_nx s1 (seq_nx s2 ?_))
  dsimp! only [hc]
end
end Kx
/-! drawn trees: atoms, how trees are put together -/
namespace Kx
open PySem T DY
/-- its size, each walk by its width more -/
def Q.wsz : Q → Nat
  | .nt _ q => q.wsz + 1 | .bi _ _ a b => a.wsz + b.wsz + 1 | .qu _ _ _ q => q.wsz + 1 | .more _ _ a _ b => a.wsz + b.wsz + 1 | .walk _ _ l _ _ q .. => q.wsz + 1 + l.length | _ => 1
theorem size_wsz (q : Q) : q.size ≤ q.wsz := by induction q <;> simp only [Q.size, Q.wsz] <;> omega
/-- a tree in tuples, so deep, so big, with these relations -/
structure Gt (ar : Str → Nat) (K : List (List L2.Key)) (d s : Nat) (q : Q) : Prop where
  ok : q.Ok ar
  tup : q.tup = q
  dep : q.depth ≤ d
  siz : q.wsz ≤ s
  key : ∀ k ∈ q.keys, k ∈ K
theorem keys_nt {k : Kd} {q : Q} : (Q.nt k q).keys = q.keys := by simp [Q.keys, Q.subs, Q.isRel]
theorem keys_bi {k : Kd} {w : WB} {a b : Q} : (Q.bi k w a b).keys = a.keys ++ b.keys := by simp [Q.keys, Q.subs, Q.isRel]
theorem keys_qu {k : Kd} {w : WQ} {x : Str} {q : Q} : (Q.qu k w x q).keys = q.keys := by simp [Q.keys, Q.subs, Q.isRel]
theorem keys_more {k : Kd} {x y : Str} {a b : Q} : (Q.more k x a y b).keys = a.keys ++ b.keys := by simp [Q.keys, Q.subs, Q.isRel]
theorem keys_walk {k kl kr ks kg : Kd} {l r s g : List Str} {q : Q} : (Q.walk k kl l kr r q ks s kg g).keys = q.keys := by simp [Q.keys, Q.subs, Q.isRel]
section
variable {ar : Str → Nat} {K : List (List L2.Key)}
theorem Gt.size {d s : Nat} {q : Q} (h : Gt ar K d s q) : q.size ≤ s := Nat.le_trans (size_wsz q) h.siz
theorem Gt.few {d s : Nat} {q : Q} (h : Gt ar K d s q) (hK : K.length ≤ 60) : (ddT q.keys).length < 63 := by
  have := nodup_len2 (l := ddT q.keys) (L := K) (foldT_nd List.nodup_nil) fun k hk => h.key k ((foldT_mem.mp hk).elim (fun h => nomatch h) id)
  omega
theorem gt_rel {n : Str} {vs : List Str} (hn : isName n = true) (hv : ∀ v ∈ vs, isName v = true) (hl : vs.length = ar n) (h1 : 1 ≤ vs.length) (h3 : vs.length ≤ 3) (hk : [.inr n, .inl (vs.length : Nat)] ∈ K) : Gt ar K 1 1 (.rel .t n .t vs) :=
  ⟨⟨hn, hv, hl, h1, h3⟩, rfl, Nat.le_refl _, Nat.le_refl _, fun k h => by
    rw [show (Q.rel .t n .t vs).keys = [[.inr n, .inl (vs.length : Nat)]] from rfl] at h
    rw [List.mem_singleton.mp h]; exact hk⟩
theorem gt_two {w : W2} {a b : Str} (ha : isName a = true) (hb : isName b = true) : Gt ar K 1 1 (.two .t w a b) := ⟨⟨ha, hb⟩, rfl, Nat.le_refl _, Nat.le_refl _, fun k h => nomatch h⟩
theorem gt_one {w : W1} {a : Str} (ha : isName a = true) : Gt ar K 1 1 (.one .t w a) := ⟨ha, rfl, Nat.le_refl _, Nat.le_refl _, fun k h => nomatch h⟩
theorem Gt.nt {d s : Nat} {q : Q} (h : Gt ar K d s q) : Gt ar K (d + 1) (s + 1) (.nt .t q) := ⟨h.ok, by show Q.nt .t q.tup = _; rw [h.tup], Nat.succ_le_succ h.dep, Nat.succ_le_succ h.siz, by rw [keys_nt]; exact h.key⟩
theorem Gt.bi {d s e r : Nat} {w : WB} {a b : Q} (h : Gt ar K d s a) (k : Gt ar K e r b) : Gt ar K (max d e + 1) (s + r + 1) (.bi .t w a b) := ⟨⟨h.ok, k.ok⟩, by show Q.bi .t w a.tup b.tup = _; rw [h.tup, k.tup], by have := h.dep; have := k.dep; simp only [Q.depth]; omega, by have := h.siz; have := k.siz; simp only [Q.wsz]; omega, by rw [keys_bi]; exact fun x hx => (List.mem_append.mp hx).elim (h.key x) (k.key x)⟩
theorem Gt.qu {d s : Nat} {w : WQ} {x : Str} {q : Q} (h : Gt ar K d s q) (hx : isName x = true) : Gt ar K (d + 1) (s + 1) (.qu .t w x q) := ⟨⟨hx, h.ok⟩, by show Q.qu .t w x q.tup = _; rw [h.tup], Nat.succ_le_succ h.dep, Nat.succ_le_succ h.siz, by rw [keys_qu]; exact h.key⟩
theorem Gt.more {d s e r : Nat} {x y : Str} {a b : Q} (h : Gt ar K d s a) (k : Gt ar K e r b) (hx : isName x = true) (hy : isName y = true) : Gt ar K (max d e + 1) (s + r + 1) (.more .t x a y b) := ⟨⟨hx, h.ok, hy, k.ok⟩, by show Q.more .t x a.tup y b.tup = _; rw [h.tup, k.tup], by have := h.dep; have := k.dep; simp only [Q.depth]; omega, by have := h.siz; have := k.siz; simp only [Q.wsz]; omega, by rw [keys_more]; exact fun x hx => (List.mem_append.mp hx).elim (h.key x) (k.key x)⟩
theorem Gt.walk {d t : Nat} {l r s g : List Str} {q : Q} (h : Gt ar K d t q) (h1 : 1 ≤ l.length) (h2 : l.length ≤ 60) (h3 : r.length = l.length) (h4 : s.length = l.length) (h5 : g.length = l.length) (h6 : ∀ v ∈ l ++ r, isName v = true) (h7 : ∀ v ∈ s, isName v = true) (h8 : ∀ v ∈ g, isName v = true) (h9 : (l ++ r).Nodup) : Gt ar K (d + 1) (t + 1 + l.length) (.walk .t .t l .t r q .t s .t g) := ⟨⟨h.ok, h1, h2, h3, h4, h5, h6, h7, h8, h9⟩, by show Q.walk .t .t l .t r q.tup .t s .t g = _; rw [h.tup], Nat.succ_le_succ h.dep, by have := h.siz; simp only [Q.wsz]; omega, by rw [keys_walk]; exact h.key⟩
theorem Gt.mono {d s e r : Nat} {q : Q} (h : Gt ar K d s q) (h1 : d ≤ e) (h2 : s ≤ r) : Gt ar K e r q := ⟨h.ok, h.tup, Nat.le_trans h.dep h1, Nat.le_trans h.siz h2, h.key⟩
end
def arP (ps : List (Str × Int)) (s : Str) : Nat := match ps.find? fun p => decide (p.1 = s) with
  | some p => p.2.toNat
  | none => 1
def keysP (ps : List (Str × Int)) : List (List L2.Key) := ps.map fun p => [.inr p.1, .inl p.2]
theorem arP_of : ∀ {ps : List (Str × Int)} {p : Str × Int}, (ps.map (·.1)).Nodup → p ∈ ps → arP ps p.1 = p.2.toNat
  | q :: ps, p, hn, hp => by
    rw [List.map_cons, List.nodup_cons] at hn
    unfold arP
    rw [List.find?_cons]
    rcases List.mem_cons.mp hp with rfl | hp
    · simp
    · have hne : ¬ q.1 = p.1 := fun e => hn.1 (by rw [e]; exact List.mem_map_of_mem hp)
      simp only [hne, decide_false]
      have := arP_of hn.2 hp
      unfold arP at this
      exact this
theorem keysP_len {ps : List (Str × Int)} (h : Pairs ps) : (keysP ps).length ≤ 60 := by
  unfold keysP
  rw [List.length_map, h.len]
  decide
/-- names for variables -/
structure Vars (xs : List Str) : Prop where
  pool : Pool xs
  pos : 1 ≤ xs.length
  few : xs.length ≤ 60
section
variable {m : Mem}
/-- a drawn name -/
theorem pick_name {xs : List Str} (h : Vars xs) {v : Nat} (hv : (v : Int) < ((xs.length : Nat) : Int)) : ∃ x ∈ xs, L2.atI (xs.map D.str) (v : Int) = some (.str x) ∧ isName x = true := by
  obtain ⟨x, hx, ix⟩ := atI_pickm (xs := xs) (enc := .str) (v : Int) (by omega) hv
  exact ⟨x, hx, ix, h.pool.name hx⟩
theorem e_atom {row : List Int} (hr : Dig 60 row) (h0 : row ≠ []) (hl : row.length < 90000) {a : Nat} (ha : a < m.length) {names : List Str} (hn : Vars names) {ps : List (Str × Int)} (hp : Pairs ps) (n : Nat) : ∃ (q : Q) (n' : Nat), f_law_atom [.lst (iD row), .hdl a, .lst (names.map .str), .lst (ps.map pairD)] (mA m a n) = .ok q.enc (mA m a n') ∧ Gt (arP ps) (keysP ps) 1 1 q := by
  have hnl : (0 : Int) < ((names.length : Nat) : Int) := by have := hn.pos; omega
  obtain ⟨v1, l1, k1⟩ := e_tk hr h0 hl ha (many := 10) (by decide) n
  obtain ⟨v2, l2, k2⟩ := e_tk hr h0 hl ha (many := (names.length : Nat)) hnl (n + 1)
  obtain ⟨v3, l3, k3⟩ := e_tk hr h0 hl ha (many := (names.length : Nat)) hnl (n + 1 + 1)
  obtain ⟨x, hx, ix, nx⟩ := pick_name hn l2
  obtain ⟨y, hy, iy, ny⟩ := pick_name hn l3
  by_cases c1 : v1 < 5
  · obtain ⟨v4, l4, k4⟩ := e_tk hr h0 hl ha (many := 4) (by decide) (n + 1 + 1 + 1)
    obtain ⟨v5, l5, k5⟩ := e_tk hr h0 hl ha (many := (names.length : Nat)) hnl (n + 1 + 1 + 1 + 1)
    obtain ⟨z, hz, iz, nz⟩ := pick_name hn l5
    obtain ⟨p, hpp, ip⟩ := atI_pickm (xs := ps) (enc := pairD) (v4 : Int) (by omega) (by rw [hp.len]; exact l4)
    obtain ⟨p1, p2, p3⟩ := hp.ok p hpp
    obtain ⟨k, hk⟩ : ∃ k : Nat, p.2 = (k : Int) := ⟨p.2.toNat, by omega⟩
    have hk3 : k ≤ 3 := by omega
    have hcut : cutD [D.str x, .str y, .str z] none (some p.2) = ([x, y, z].take k).map .str := by
      rw [hk, cut_upto (by show k ≤ 3; exact hk3), List.map_take]
      rfl
    have hlen : ([x, y, z].take k).length = k := by rw [List.length_take]; exact Nat.min_eq_left hk3
    have hl4 : ((ps.length : Nat) : Int) = 4 := by rw [hp.len]; rfl
    refine ⟨.rel .t p.1 .t ([x, y, z].take k), n + 1 + 1 + 1 + 1 + 1, run_ret (s := F_law_atom) (d := (Q.rel .t p.1 .t ([x, y, z].take k)).enc) (m' := mA m a (n + 1 + 1 + 1 + 1 + 1)) ?_ (exit_same mA_same), gt_rel p1 (fun v hv => ?_) ?_ (by omega) (by omega) ?_⟩
    · unfold F_law_atom
      dsimp! only [List.length_map, k1, k2, ix, k3, iy, pLt, show (v1 : Int) < 5 by omega, hl4, k4, ip, k5, iz, hcut]
      rfl
    · have := List.mem_of_mem_take hv
      simp only [List.mem_cons, List.not_mem_nil, or_false] at this
      rcases this with rfl | rfl | rfl <;> assumption
    · rw [hlen, arP_of hp.nd hpp, hk]; rfl
    · rw [hlen, ← hk]
      exact List.mem_map_of_mem (f := fun p : Str × Int => ([.inr p.1, .inl p.2] : List L2.Key)) hpp
  by_cases c2 : v1 < 8
  · obtain ⟨w, hw, iw⟩ := atI_pickm (xs := [W2.same, W2.before, W2.next]) (enc := fun w => .str w.nm) ((v1 : Int) - 5) (by omega) (by show (v1 : Int) - 5 < 3; omega)
    have iw : L2.atI [D.str "same", .str "before", .str "next"] ((v1 : Int) - 5) = some (.str w.nm) := iw
    refine ⟨.two .t w x y, n + 1 + 1 + 1, run_ret (s := F_law_atom) (d := (Q.two .t w x y).enc) (m' := mA m a (n + 1 + 1 + 1)) ?_ (exit_same mA_same), gt_two nx ny⟩
    unfold F_law_atom
    dsimp! only [List.length_map, k1, k2, ix, k3, iy, pLt, show ¬ (v1 : Int) < 5 by omega, show (v1 : Int) < 8 by omega, iw]
    rfl
  · obtain ⟨w, hw, iw⟩ := atI_pickm (xs := [W1.first, W1.last]) (enc := fun w => .str w.nm) ((v1 : Int) - 8) (by omega) (by show (v1 : Int) - 8 < 2; omega)
    have iw : L2.atI [D.str "first", .str "last"] ((v1 : Int) - 8) = some (.str w.nm) := iw
    refine ⟨.one .t w x, n + 1 + 1 + 1, run_ret (s := F_law_atom) (d := (Q.one .t w x).enc) (m' := mA m a (n + 1 + 1 + 1)) ?_ (exit_same mA_same), gt_one nx⟩
    unfold F_law_atom
    dsimp! only [List.length_map, k1, k2, ix, k3, iy, pLt, show ¬ (v1 : Int) < 5 by omega, show ¬ (v1 : Int) < 8 by omega, iw]
    rfl
end
end Kx
/-! names with numbers; the names of a drawn walk -/
namespace Kx
open PySem T DY
/-- a number as a text -/
def strJ (j : Nat) : Str := Str.ofString (toString (j : Int))
def valD (l : List Nat) : Nat := l.foldl (fun a c => a * 10 + (c - 48)) 0
theorem strJ_all : ∀ j < 120, (strJ j).length ≤ 3 ∧ (∃ c, (strJ j).cps.toList.getLast? = some c ∧ 48 ≤ c ∧ c ≤ 57) ∧ valD (strJ j).cps.toList = j ∧ (∀ c ∈ (strJ j).cps.toList, 48 ≤ c ∧ c ≤ 57) ∧ ((j : Nat) : Int).natAbs.log2 < 1920 := by
  have h : ∀ j < 120, (decide ((strJ j).length ≤ 3) && ((match (strJ j).cps.toList.getLast? with | some c => decide (48 ≤ c ∧ c ≤ 57) | none => false) && (decide (valD (strJ j).cps.toList = j) && ((strJ j).cps.toList.all (fun c => decide (48 ≤ c ∧ c ≤ 57)) && decide (((j : Nat) : Int).natAbs.log2 < 1920))))) = true := by decide +kernel
  intro j hj
  have := h j hj
  simp only [Bool.and_eq_true, List.all_eq_true, decide_eq_true_eq] at this
  obtain ⟨h1, h2, h3, h4, h5⟩ := this
  refine ⟨h1, ?_, h3, h4, h5⟩
  split at h2
  · rename_i c e; exact ⟨c, e, of_decide_eq_true h2⟩
  · exact nomatch h2
theorem strJ_inj {i j : Nat} (hi : i < 120) (hj : j < 120) (h : strJ i = strJ j) : i = j := by
  rw [← (strJ_all i hi).2.2.1, ← (strJ_all j hj).2.2.1, h]
theorem gStrJ {m : Mem} {j : Nat} (h : j < 120) : gStr m [.int (j : Int)] = some (.str (strJ j)) := if_pos (strJ_all j h).2.2.2.2
theorem res_last : ∀ s ∈ RES, ∃ c, s.cps.toList.getLast? = some c ∧ 58 ≤ c := by
  have h : ∀ s ∈ RES, (match s.cps.toList.getLast? with | some c => decide (58 ≤ c) | none => false) = true := by decide +kernel
  intro s hs
  have := h s hs
  split at this
  · rename_i c e; exact ⟨c, e, of_decide_eq_true this⟩
  · exact nomatch this
/-- the beginning of a name, a number behind it -/
def nm9 (s : Str) (j : Nat) : Str := L2.cutS s none (some 9) ++ strJ j
theorem cut9_len (s : Str) : (L2.cutS s none (some 9)).length ≤ 9 := by
  have e1 : (L2.cutS s none (some 9)).cps.toList = s.cps.toList.take 9 := cutS_to s 9
  rw [len_cps, e1, List.length_take]
  omega
theorem nm9_ok {s : Str} (h : NameC s) {j : Nat} (hj : j < 120) : NameC (nm9 s j) ∧ nm9 s j ∉ RES := by
  obtain ⟨a, l, e, ha⟩ := h.fst
  obtain ⟨h1, ⟨c, h2, h3, h3'⟩, _, h4, _⟩ := strJ_all j hj
  have e1 : (L2.cutS s none (some 9)).cps.toList = s.cps.toList.take 9 := cutS_to s 9
  have hl := cut9_len s
  refine ⟨⟨⟨a, l.take 8 ++ (strJ j).cps.toList, by unfold nm9; rw [cps_app, e1, e]; rfl, ha⟩, fun x hx => ?_, by unfold nm9; rw [str_app_len]; omega⟩, fun hr => ?_⟩
  · unfold nm9 at hx
    rw [cps_app, e1] at hx
    rcases List.mem_append.mp hx with hx | hx
    · exact h.all x (List.mem_of_mem_take hx)
    · exact .inr (h4 x hx)
  · obtain ⟨c', k1, k2⟩ := res_last _ hr
    unfold nm9 at k1
    rw [cps_app, List.getLast?_append, h2] at k1
    cases k1
    omega
theorem nm9_inj {s : Str} {i j : Nat} (hi : i < 120) (hj : j < 120) (h : nm9 s i = nm9 s j) : i = j := by
  unfold nm9 at h
  have h1 := congrArg (fun s : Str => s.cps.toList) h
  simp only [cps_app] at h1
  have h2 := List.append_cancel_left h1
  refine strJ_inj hi hj ?_
  exact TM.str_ext h2
theorem pool_map {n : Nat} {f : Nat → Str} (h1 : ∀ k < n, NameC (f k) ∧ f k ∉ RES) (h2 : ∀ i < n, ∀ j < n, f i = f j → i = j) : Pool ((List.range n).map f) :=
  ⟨nodup_map List.nodup_range fun i hi j hj e => h2 i (List.mem_range.mp hi) j (List.mem_range.mp hj) e, fun v hv => by
    obtain ⟨k, hk, rfl⟩ := List.mem_map.mp hv
    exact h1 k (List.mem_range.mp hk)⟩
/-- a name of a list by its place -/
def nmAt (xs : List Str) (i : Nat) : Str := (xs[i]?).getD "x"
theorem nmAt_at {xs : List Str} {i : Nat} (h : i < xs.length) : L2.atI (xs.map D.str) (i : Int) = some (.str (nmAt xs i)) ∧ nmAt xs i ∈ xs := by
  have e : nmAt xs i = xs[i] := by unfold nmAt; rw [List.getElem?_eq_getElem h]; rfl
  rw [e]
  exact ⟨by rw [atI_nat i (by rw [List.length_map]; exact h), List.getElem?_map, List.getElem?_eq_getElem h]; rfl, List.getElem_mem h⟩
theorem nmAt_inj {xs : List Str} (hn : xs.Nodup) {i j : Nat} (hi : i < xs.length) (hj : j < xs.length) (h : nmAt xs i = nmAt xs j) : i = j := by
  have h1 : xs[i]? = some (nmAt xs i) := by unfold nmAt; rw [List.getElem?_eq_getElem hi]; rfl
  have h2 : xs[j]? = some (nmAt xs i) := by rw [h]; unfold nmAt; rw [List.getElem?_eq_getElem hj]; rfl
  exact nodup_at hn h1 h2
/-- two rows of names out of one -/
theorem split_pool {B : List Str} (hB : Pool B) {w : Nat} {f g : Nat → Nat} (hf : ∀ k < w, f k < B.length) (hg : ∀ k < w, g k < B.length) (fi : ∀ i < w, ∀ j < w, f i = f j → i = j) (gi : ∀ i < w, ∀ j < w, g i = g j → i = j) (fg : ∀ i < w, ∀ j < w, f i ≠ g j) : Pool ((List.range w).map (fun k => nmAt B (f k)) ++ (List.range w).map fun k => nmAt B (g k)) := by
  have p1 := pool_map (f := fun k => nmAt B (f k)) (fun k hk => hB.ok _ (nmAt_at (hf k hk)).2) fun i hi j hj e => fi i hi j hj (nmAt_inj hB.nd (hf i hi) (hf j hj) e)
  have p2 := pool_map (f := fun k => nmAt B (g k)) (fun k hk => hB.ok _ (nmAt_at (hg k hk)).2) fun i hi j hj e => gi i hi j hj (nmAt_inj hB.nd (hg i hi) (hg j hj) e)
  refine ⟨List.nodup_append.mpr ⟨p1.nd, p2.nd, fun a ha b hb e => ?_⟩, fun v hv => (List.mem_append.mp hv).elim (p1.ok v) (p2.ok v)⟩
  obtain ⟨i, hi, rfl⟩ := List.mem_map.mp ha
  obtain ⟨j, hj, rfl⟩ := List.mem_map.mp hb
  have hi := List.mem_range.mp hi
  have hj := List.mem_range.mp hj
  exact fg i hi j hj (nmAt_inj hB.nd (hf i hi) (hg j hj) e)
section
variable {m : Mem}
/-- the variables that a drawn walk binds -/
theorem walk_bound {rw fr : Fn} {names : List Str} (hn : Vars names) {w t : Nat} (hw1 : 1 ≤ w) (hw2 : w ≤ 60) (ht : t < 60) {d0 d1 d2 d4 : D} {y8 y9 y10 y11 y12 y13 y14 : Option D} :
    ∃ B : List Str, B.length = 2 * w ∧ Pool B ∧ (sSeq ((sAsg 7 (eFz (nLc [15] (iR1 (aC (e2 (gIc cMul fun i j => i * j) (eC (.int 2)) (eV 5)) aN)) (gN 15) cTrue (e2 gIxA (eV 3) (e2 (gIc cMod fun i j => i % j) (eB gInt (aC (e2 gAdd (eV 6) (eV 15)) aN)) (eB gLen (aC (eV 3) aN)))))))) ((sIf (tB' (e2 (gCmp pGt) (e2 (gIc cMul fun i j => i * j) (eC (.int 2)) (eV 5)) (eB gLen (aC (eV 3) aN)))) (sAsg 7 (eFz (nLc [15] (iR1 (aC (e2 (gIc cMul fun i j => i * j) (eC (.int 2)) (eV 5)) aN)) (gN 15) cTrue (e2 gAdd (eSl (e2 gIxA (eV 3) (e2 (gIc cMod fun i j => i % j) (eV 6) (eB gLen (aC (eV 3) aN)))) oN (oS (eC (.int 9)))) (eB gStr (aC (e2 (gIc cMod fun i j => i % j) (eB gInt (aC (e2 gAdd (eV 6) (eV 15)) aN)) (e2 (gIc cMul fun i j => i * j) (eC (.int 2)) (eV 5))) aN)))))) sNx))) [some d0, some d1, some d2, some (.lst (names.map .str)), some d4, some (.int (w : Int)), some (.int (t : Int)), none, y8, y9, y10, y11, y12, y13, y14, none] m = .nx [some d0, some d1, some d2, some (.lst (names.map .str)), some d4, some (.int (w : Int)), some (.int (t : Int)), some (.lst (B.map .str)), y8, y9, y10, y11, y12, y13, y14, none] m := by
  have hL := hn.pos
  have hL2 : (0 : Int) < ((names.length : Nat) : Int) := by omega
  have h2w : (2 : Int) * (w : Int) = ((2 * w : Nat) : Int) := by omega
  have hcm : ∀ i : Int, cMod i ((names.length : Nat) : Int) = true := fun i => decide_eq_true hL2
  have hcm2 : ∀ i : Int, cMod i ((2 * w : Nat) : Int) = true := fun i => decide_eq_true (by omega)
  have hcu : cMul 2 (w : Int) = true := cMulL (by omega)
  have c0 : ∀ y7 : Option D, nLc [15] (iR1 (aC (e2 (gIc cMul fun i j => i * j) (eC (.int 2)) (eV 5)) aN)) (gN 15) cTrue ((e2 gIxA (eV 3) (e2 (gIc cMod fun i j => i % j) (eB gInt (aC (e2 gAdd (eV 6) (eV 15)) aN)) (eB gLen (aC (eV 3) aN))))) [some d0, some d1, some d2, some (.lst (names.map .str)), some d4, some (.int (w : Int)), some (.int (t : Int)), y7, y8, y9, y10, y11, y12, y13, y14, none] m = .ok (.lst (((List.range (2 * w)).map fun k => nmAt names ((t + k) % names.length)).map .str)) m := by
    intro y7
    rw [List.map_map]
    refine lc_rngm (by simp?! only [h2w, hcu]) (by omega) fun k hk => ⟨_, rfl, rfl, ?_⟩
    have hix := (nmAt_at (xs := names) (i := (t + k) % names.length) (Nat.mod_lt _ hL)).1
    have he : ((t : Int) + (k : Int)) % ((names.length : Nat) : Int) = (((t + k) % names.length : Nat) : Int) := rfl
    simp?! only [wipeE, List.length_map, hcm, he, hix, Function.comp]
  have s1 : ((sAsg 7 (eFz (nLc [15] (iR1 (aC (e2 (gIc cMul fun i j => i * j) (eC (.int 2)) (eV 5)) aN)) (gN 15) cTrue (e2 gIxA (eV 3) (e2 (gIc cMod fun i j => i % j) (eB gInt (aC (e2 gAdd (eV 6) (eV 15)) aN)) (eB gLen (aC (eV 3) aN)))))))) [some d0, some d1, some d2, some (.lst (names.map .str)), some d4, some (.int (w : Int)), some (.int (t : Int)), none, y8, y9, y10, y11, y12, y13, y14, none] m = .nx [some d0, some d1, some d2, some (.lst (names.map .str)), some d4, some (.int (w : Int)), some (.int (t : Int)), some (.lst (((List.range (2 * w)).map fun k => nmAt names ((t + k) % names.length)).map .str)), y8, y9, y10, y11, y12, y13, y14, none] m := by
    have := c0 none
    simp?! only [this]
  by_cases c : names.length < 2 * w
  · have hx := nmAt_at (xs := names) (i := t % names.length) (Nat.mod_lt _ hL)
    have hxn := hn.pool.ok _ hx.2
    obtain ⟨x, hxe⟩ : ∃ x, x = nmAt names (t % names.length) := ⟨_, rfl⟩
    rw [← hxe] at hx hxn
    have hlt : ∀ k, (t + k) % (2 * w) < 120 := fun k => by have := Nat.mod_lt (t + k) (y := 2 * w) (by omega); omega
    refine ⟨(List.range (2 * w)).map fun k => nm9 x ((t + k) % (2 * w)), by rw [List.length_map, List.length_range], pool_map (fun k hk => nm9_ok hxn.1 (hlt k)) (fun i hi j hj e => mod_shift hi hj (nm9_inj (hlt i) (hlt j) e)), seq_nx s1 ?_⟩
    have c1 : ∀ y7 : Option D, nLc [15] (iR1 (aC (e2 (gIc cMul fun i j => i * j) (eC (.int 2)) (eV 5)) aN)) (gN 15) cTrue ((e2 gAdd (eSl (e2 gIxA (eV 3) (e2 (gIc cMod fun i j => i % j) (eV 6) (eB gLen (aC (eV 3) aN)))) oN (oS (eC (.int 9)))) (eB gStr (aC (e2 (gIc cMod fun i j => i % j) (eB gInt (aC (e2 gAdd (eV 6) (eV 15)) aN)) (e2 (gIc cMul fun i j => i * j) (eC (.int 2)) (eV 5))) aN)))) [some d0, some d1, some d2, some (.lst (names.map .str)), some d4, some (.int (w : Int)), some (.int (t : Int)), y7, y8, y9, y10, y11, y12, y13, y14, none] m = .ok (.lst (((List.range (2 * w)).map fun k => nm9 x ((t + k) % (2 * w))).map .str)) m := by
      intro y7
      rw [List.map_map]
      refine lc_rngm (by simp?! only [h2w, hcu]) (by omega) fun k hk => ⟨_, rfl, rfl, ?_⟩
      have he : ((t : Int) + (k : Int)) % ((2 * w : Nat) : Int) = (((t + k) % (2 * w) : Nat) : Int) := rfl
      have he2 : (t : Int) % ((names.length : Nat) : Int) = ((t % names.length : Nat) : Int) := rfl
      have hsl := sl_str (m := m) (s := x) (lo := none) (hi := some 9) (by have := hxn.1.len; omega)
      have hg := gStrJ (m := m) (hlt k)
      have hln : (L2.cutS x none (some 9)).length + (strJ ((t + k) % (2 * w))).length ≤ 99999 := by
        have := cut9_len x
        have := (strJ_all _ (hlt k)).1
        omega
      simp? only [wipeE, List.length_map, hcm, hcm2, hcu, h2w, he, he2, hx.1, hsl, hg, hln, Function.comp, nm9]
    have := c1 (some (.lst (((List.range (2 * w)).map fun k => nmAt names ((t + k) % names.length)).map .str)))
    simp?! only [List.length_map, pGt, hcu, h2w, show ((names.length : Nat) : Int) < ((2 * w : Nat) : Int) by omega, this]
  · refine ⟨(List.range (2 * w)).map fun k => nmAt names ((t + k) % names.length), by rw [List.length_map, List.length_range], pool_map (fun k hk => hn.pool.ok _ (nmAt_at (Nat.mod_lt _ hL)).2) (fun i hi j hj e => mod_shift (by omega) (by omega) (nmAt_inj hn.pool.nd (Nat.mod_lt _ hL) (Nat.mod_lt _ hL) e)), seq_nx s1 ?_⟩
    simp?! only [List.length_map, pGt, hcu, h2w, show ¬ ((names.length : Nat) : Int) < ((2 * w : Nat) : Int) by omega]
end
end Kx
/-! drawn walks and trees -/
namespace Kx
open PySem T DY
def TreeSp (b : Nat) : Prop := ∀ (m : Mem) (row : List Int), Dig 60 row → row ≠ [] → row.length < 90000 → ∀ a, a < m.length → ∀ (names : List Str), Vars names → ∀ ps, Pairs ps → ∀ (d n : Nat), 1 ≤ d → 2 * d - 1 ≤ b → d ≤ 30 → ∃ (q : Q) (n' : Nat), rec_law_walk b 1 [.lst (iD row), .hdl a, .int (d : Int), .lst (names.map .str), .lst (ps.map pairD)] (mA m a n) = .ok q.enc (mA m a n') ∧ Gt (arP ps) (keysP ps) d (4 * 2 ^ d - 4) q
def WalkSp (b : Nat) : Prop := ∀ (m : Mem) (row : List Int), Dig 60 row → row ≠ [] → row.length < 90000 → ∀ a, a < m.length → ∀ (names : List Str), Vars names → ∀ ps, Pairs ps → ∀ (d n w : Nat), 2 ≤ d → 2 * d - 2 ≤ b → d ≤ 30 → 1 ≤ w → w ≤ 60 → ∃ (q : Q) (n' : Nat), rec_law_walk b 0 [.lst (iD row), .hdl a, .int (d : Int), .lst (names.map .str), .lst (ps.map pairD), .int (w : Int)] (mA m a n) = .ok q.enc (mA m a n') ∧ Gt (arP ps) (keysP ps) d (4 * 2 ^ (d - 1) + w) q
/-- each once: the walk over the names -/
theorem once_run {m : Mem} {d0 d1 d2 d3 d4 d5 d6 d7 d8 d9 y12 y13 y14 : Option D} : ∀ {xs acc : List Str} {x : Option D}, acc.length + xs.length < 90000 → ∃ x', runL (gN 11) (sIf (tB' (e2 (gInA true) (eV 11) (eV 10))) (sDrop (eMt mApp (eV 10) (aC (eV 11) aN))) sNx) (xs.map .str) [d0, d1, d2, d3, d4, d5, d6, d7, d8, d9, some (.hdl m.length), x, y12, y13, y14, none] (m ++ [.lst (acc.map .str)]) = .nx [d0, d1, d2, d3, d4, d5, d6, d7, d8, d9, some (.hdl m.length), x', y12, y13, y14, none] (m ++ [.lst ((xs.foldl SX.st acc).map .str)])
  | [], acc, x, _ => ⟨x, rfl⟩
  | a :: xs, acc, x, h => by
    rw [List.length_cons] at h
    have hin : gInA true (m ++ [.lst (acc.map .str)]) (.str a) (.hdl m.length) = some (.bl (!decide (a ∈ acc))) := by
      have hseq : seqOf (m ++ [.lst (acc.map .str)]) (.hdl m.length) = some (acc.map .str) := by unfold seqOf; rw [lkN0]
      unfold gInA gNin gIn inM
      rw [lkN0]
      simp only [D.sv, hseq, Option.bind_some, svs_strs, inV_strs, Option.map_some, Bool.false_xor, Bool.true_xor]
    by_cases c : a ∈ acc
    · obtain ⟨x', ih⟩ := once_run (m := m) (d0 := d0) (d1 := d1) (d2 := d2) (d3 := d3) (d4 := d4) (d5 := d5) (d6 := d6) (d7 := d7) (d8 := d8) (d9 := d9) (y12 := y12) (y13 := y13) (y14 := y14) (xs := xs) (acc := acc) (x := some (.str a)) (by omega)
      refine ⟨x', ?_⟩
      rw [decide_eq_true c] at hin
      have hst : SX.st acc a = acc := by unfold SX.st; rw [if_pos c]
      rw [List.foldl_cons, hst, ← ih]
      conv => lhs; rw [List.map_cons]; unfold runL
      dsimp! only [gN, hin]
    · obtain ⟨x', ih⟩ := once_run (m := m) (d0 := d0) (d1 := d1) (d2 := d2) (d3 := d3) (d4 := d4) (d5 := d5) (d6 := d6) (d7 := d7) (d8 := d8) (d9 := d9) (y12 := y12) (y13 := y13) (y14 := y14) (xs := xs) (acc := acc ++ [a]) (x := some (.str a)) (by rw [List.length_append, List.length_singleton]; omega)
      refine ⟨x', ?_⟩
      rw [decide_eq_false c] at hin
      have hst : SX.st acc a = acc ++ [a] := by unfold SX.st; rw [if_neg c]
      rw [List.foldl_cons, hst, ← ih]
      conv => lhs; rw [List.map_cons]; unfold runL
      dsimp! only [gN, hin, List.length_map, show acc.length < 99999 by omega, List.map_append]
section
variable {m : Mem}
/-- [names[take(..)] for k in range(w)] -/
theorem takes_names {row : List Int} (hr : Dig 60 row) (h0 : row ≠ []) (hl : row.length < 90000) {a : Nat} (ha : a < m.length) {names : List Str} (hn : Vars names) {w : Nat} (hw : w ≤ 60) (n : Nat) {d2 d4 : D} {y6 y7 y8 y9 y10 y11 y12 y13 y14 : Option D} :
    ∃ (xs : List Str) (n' : Nat), nLc [15] (iR1 (aC (eV 5) aN)) (gN 15) cTrue (e2 gIxA (eV 3) (eCall f_law_take (aC (eV 0) (aC (eV 1) (aC (eB gLen (aC (eV 3) aN)) aN))))) [some (.lst (iD row)), some (.hdl a), some d2, some (.lst (names.map .str)), some d4, some (.int (w : Int)), y6, y7, y8, y9, y10, y11, y12, y13, y14, none] (mA m a n) = .ok (.lst (xs.map .str)) (mA m a n') ∧ xs.length = w ∧ ∀ v ∈ xs, isName v = true := by
  have hnl : (0 : Int) < ((names.length : Nat) : Int) := by have := hn.pos; omega
  obtain ⟨m', out, hc, xs, n', rfl, rfl, h1, h2⟩ := lc_rng (vs := [15]) (g := gN 15) (t := cTrue) (f := e2 gIxA (eV 3) (eCall f_law_take (aC (eV 0) (aC (eV 1) (aC (eB gLen (aC (eV 3) aN)) aN))))) (fa := aC (eV 5) aN) (env := [some (.lst (iD row)), some (.hdl a), some d2, some (.lst (names.map .str)), some d4, some (.int (w : Int)), y6, y7, y8, y9, y10, y11, y12, y13, y14, none]) (m := mA m a n) (m1 := mA m a n) (n := w) (I := fun i mm acc => ∃ (xs : List Str) (n' : Nat), mm = mA m a n' ∧ acc = xs.map .str ∧ xs.length = i ∧ ∀ v ∈ xs, isName v = true) (by dsimp! only [reduceCtorEq]) (by omega) ⟨[], n, rfl, rfl, rfl, fun v h => nomatch h⟩ (fun i mm acc hi ⟨xs, n', h1, h2, h3, h4⟩ => by
    subst h1 h2
    obtain ⟨v, lv, kv⟩ := e_tk hr h0 hl ha (many := (names.length : Nat)) hnl n'
    obtain ⟨x, hx, ix, nx⟩ := pick_name hn lv
    refine ⟨_, rfl, true, mA m a n', rfl, .inr ⟨rfl, .str x, mA m a (n' + 1), ?_, xs ++ [x], n' + 1, rfl, by rw [List.map_append]; rfl, by rw [List.length_append, h3]; rfl, fun v hv => ?_⟩⟩
    · dsimp! only [wipeE, List.length_map, kv, ix]
    · rcases List.mem_append.mp hv with hv | hv
      · exact h4 v hv
      · rw [List.mem_singleton.mp hv]; exact nx)
  exact ⟨xs, n', hc, h1, h2⟩
theorem walk_sp {b : Nat} (ih : TreeSp b) : WalkSp (b + 1) := by
  intro m row hr h0 hl a ha names hn ps hp d n w hd hb hd30 hw1 hw2
  show ∃ (q : Q) (n' : Nat), run 16 6 (F_law_walk (rec_law_walk b 0) (rec_law_walk b 1)) _ _ = _ ∧ _
  obtain ⟨t, lt, kt⟩ := e_tk hr h0 hl ha (many := 60) (by decide) n
  obtain ⟨B, hBl, hB, sB⟩ := walk_bound (m := mA m a (n + 1)) (rw := rec_law_walk b 0) (fr := rec_law_walk b 1) hn hw1 hw2 (t := t) (by omega) (d0 := .lst (iD row)) (d1 := .hdl a) (d2 := .int (d : Int)) (d4 := .lst (ps.map pairD)) (y8 := none) (y9 := none) (y10 := none) (y11 := none) (y12 := none) (y13 := none) (y14 := none)
  obtain ⟨v2, l2, k2⟩ := e_tk hr h0 hl ha (many := 2) (by decide) (n + 1)
  -- left and right
  obtain ⟨L, R, hLl, hRl, hLR, sLR⟩ : ∃ L R : List Str, L.length = w ∧ R.length = w ∧ Pool (L ++ R) ∧ (sSeq ((sAsg 8 (eBy false (nLc [15] (iR1 (aC (eV 5) aN)) (gN 15) cTrue (e2 gIxA (eV 7) (eV 15)))))) (sSeq ((sAsg 9 (eBy false (nLc [15] (iR1 (aC (eV 5) aN)) (gN 15) cTrue (e2 gIxA (eV 7) (e2 gAdd (eV 5) (eV 15))))))) ((sIf (tB' (e2 (gEq false) (eCall f_law_take (aC (eV 0) (aC (eV 1) (aC (eC (.int 2)) aN)))) (eC (.int 1)))) (sSeq (sAsg 8 (eBy false (nLc [15] (iR1 (aC (eV 5) aN)) (gN 15) cTrue (e2 gIxA (eV 7) (e2 (gIc cMul fun i j => i * j) (eC (.int 2)) (eV 15)))))) (sAsg 9 (eBy false (nLc [15] (iR1 (aC (eV 5) aN)) (gN 15) cTrue (e2 gIxA (eV 7) (e2 gAdd (e2 (gIc cMul fun i j => i * j) (eC (.int 2)) (eV 15)) (eC (.int 1)))))))) sNx)))) [some (.lst (iD row)), some (.hdl a), some (.int (d : Int)), some (.lst (names.map .str)), some (.lst (ps.map pairD)), some (.int (w : Int)), some (.int (t : Int)), some (.lst (B.map .str)), none, none, none, none, none, none, none, none] (mA m a (n + 1)) = .nx [some (.lst (iD row)), some (.hdl a), some (.int (d : Int)), some (.lst (names.map .str)), some (.lst (ps.map pairD)), some (.int (w : Int)), some (.int (t : Int)), some (.lst (B.map .str)), some (.lst (L.map .str)), some (.lst (R.map .str)), none, none, none, none, none, none] (mA m a (n + 1 + 1)) := by
    have pick : ∀ (mm : Mem) (y8 y9 : Option D) (f : Nat → Nat) (elt : FE), (∀ k < w, f k < B.length) → (∀ k < w, elt [some (.lst (iD row)), some (.hdl a), some (.int (d : Int)), some (.lst (names.map .str)), some (.lst (ps.map pairD)), some (.int (w : Int)), some (.int (t : Int)), some (.lst (B.map .str)), y8, y9, none, none, none, none, none, some (.int (k : Int))] mm = .ok (.str (nmAt B (f k))) mm) → nLc [15] (iR1 (aC (eV 5) aN)) (gN 15) cTrue elt [some (.lst (iD row)), some (.hdl a), some (.int (d : Int)), some (.lst (names.map .str)), some (.lst (ps.map pairD)), some (.int (w : Int)), some (.int (t : Int)), some (.lst (B.map .str)), y8, y9, none, none, none, none, none, none] mm = .ok (.lst (((List.range w).map fun k => nmAt B (f k)).map .str)) mm := by
      intro mm y8 y9 f elt hf he
      rw [List.map_map]
      refine lc_rngm (by dsimp! only [reduceCtorEq]) (by omega) fun k hk => ⟨_, rfl, rfl, ?_⟩
      exact he k hk
    have hcu : cMul 2 (w : Int) = true := cMulL (by omega)
    have p0 := fun mm y8 y9 => pick mm y8 y9 (fun k => k) ((e2 gIxA (eV 7) (eV 15))) (fun k hk => by omega) (fun k hk => by
      have hx := (nmAt_at (xs := B) (i := k) (by omega)).1
      dsimp! only [hx])
    have p1 := fun mm y8 y9 => pick mm y8 y9 (fun k => w + k) ((e2 gIxA (eV 7) (e2 gAdd (eV 5) (eV 15)))) (fun k hk => by omega) (fun k hk => by
      have he : (w : Int) + (k : Int) = ((w + k : Nat) : Int) := rfl
      have hx := (nmAt_at (xs := B) (i := w + k) (by omega)).1
      dsimp! only [he, hx])
    by_cases c : v2 = 1
    · have p2 := fun mm y8 y9 => pick mm y8 y9 (fun k => 2 * k) ((e2 gIxA (eV 7) (e2 (gIc cMul fun i j => i * j) (eC (.int 2)) (eV 15)))) (fun k hk => by omega) (fun k hk => by
        have he : (2 : Int) * (k : Int) = ((2 * k : Nat) : Int) := rfl
        have hx := (nmAt_at (xs := B) (i := 2 * k) (by omega)).1
        dsimp! only [he, hx])
      have p3 := fun mm y8 y9 => pick mm y8 y9 (fun k => 2 * k + 1) ((e2 gIxA (eV 7) (e2 gAdd (e2 (gIc cMul fun i j => i * j) (eC (.int 2)) (eV 15)) (eC (.int 1))))) (fun k hk => by omega) (fun k hk => by
        have he : (2 : Int) * (k : Int) + 1 = ((2 * k + 1 : Nat) : Int) := rfl
        have hx := (nmAt_at (xs := B) (i := 2 * k + 1) (by omega)).1
        dsimp! only [he, hx])
      refine ⟨_, _, by rw [List.length_map, List.length_range], by rw [List.length_map, List.length_range], split_pool hB (f := fun k => 2 * k) (g := fun k => 2 * k + 1) (fun k hk => by omega) (fun k hk => by omega) (fun i hi j hj e => by have e : 2 * i = 2 * j := e; omega) (fun i hi j hj e => by have e : 2 * i + 1 = 2 * j + 1 := e; omega) (fun i hi j hj e => by have e : 2 * i = 2 * j + 1 := e; omega), ?_⟩
      have p2' := p2 (mA m a (n + 1 + 1)) (some (.lst (((List.range w).map fun k => nmAt B k).map .str))) (some (.lst (((List.range w).map fun k => nmAt B (w + k)).map .str)))
      have p3' := p3 (mA m a (n + 1 + 1)) (some (.lst (((List.range w).map fun k => nmAt B (2 * k)).map .str))) (some (.lst (((List.range w).map fun k => nmAt B (w + k)).map .str)))
      have p0' := p0 (mA m a (n + 1)) none none
      have p1' := p1 (mA m a (n + 1)) (some (.lst (((List.range w).map fun k => nmAt B k).map .str))) none
      dsimp! only [p0', p1', k2, show (v2 : Int) = 1 by omega, p2', p3']
    · refine ⟨_, _, by rw [List.length_map, List.length_range], by rw [List.length_map, List.length_range], split_pool hB (f := fun k => k) (g := fun k => w + k) (fun k hk => by omega) (fun k hk => by omega) (fun i hi j hj e => e) (fun i hi j hj e => by have e : w + i = w + j := e; omega) (fun i hi j hj e => by have e : i = w + j := e; omega), ?_⟩
      have p0' := p0 (mA m a (n + 1)) none none
      have p1' := p1 (mA m a (n + 1)) (some (.lst (((List.range w).map fun k => nmAt B k).map .str))) none
      dsimp! only [p0', p1', k2, show ¬ (v2 : Int) = 1 by omega]
  -- the names for the step
  have hL0 := nmAt_at (xs := L) (i := 0) (by omega)
  have hR0 := nmAt_at (xs := R) (i := 0) (by omega)
  have hL1 := nmAt_at (xs := L) (i := w - 1) (by omega)
  have hR1 := nmAt_at (xs := R) (i := w - 1) (by omega)
  obtain ⟨src, hsrc⟩ : ∃ src, src = [nmAt L 0, nmAt R 0, nmAt L (w - 1), nmAt R (w - 1)] ++ names := ⟨_, rfl⟩
  have hsok : ∀ v ∈ src, NameC v ∧ v ∉ RES := by
    intro v hv
    rw [hsrc] at hv
    rcases List.mem_append.mp hv with hv | hv
    · simp only [List.mem_cons, List.not_mem_nil, or_false] at hv
      rcases hv with rfl | rfl | rfl | rfl
      · exact hLR.ok _ (List.mem_append_left _ hL0.2)
      · exact hLR.ok _ (List.mem_append_right _ hR0.2)
      · exact hLR.ok _ (List.mem_append_left _ hL1.2)
      · exact hLR.ok _ (List.mem_append_right _ hR1.2)
    · exact hn.pool.ok v hv
  have hsl : src.length ≤ 64 := by
    have := hn.few
    rw [hsrc, List.length_append]
    show 4 + names.length ≤ 64
    omega
  obtain ⟨inn, hinn⟩ : ∃ inn, inn = SX.dis src := ⟨_, rfl⟩
  have hi1 : 1 ≤ inn.length := by
    have : nmAt L 0 ∈ inn := by rw [hinn]; exact SX.dis_mem.mpr (by rw [hsrc]; exact List.mem_append_left _ List.mem_cons_self)
    exact List.length_pos_of_mem this
  have hvars : Vars (inn.take 6) := by
    refine ⟨⟨(List.take_sublist 6 inn).nodup (by rw [hinn]; exact SX.dis_nodup), fun v hv => ?_⟩, by rw [List.length_take]; omega, by rw [List.length_take]; omega⟩
    have := List.mem_of_mem_take hv
    rw [hinn] at this
    exact hsok v (SX.dis_mem.mp this)
  have hml : (mA m a (n + 1 + 1)).length = m.length := mA_len
  obtain ⟨x11, ho⟩ := once_run (m := mA m a (n + 1 + 1)) (d0 := some (.lst (iD row))) (d1 := some (.hdl a)) (d2 := some (.int (d : Int))) (d3 := some (.lst (names.map .str))) (d4 := some (.lst (ps.map pairD))) (d5 := some (.int (w : Int))) (d6 := some (.int (t : Int))) (d7 := some (.lst (B.map .str))) (d8 := some (.lst (L.map .str))) (d9 := some (.lst (R.map .str))) (y12 := none) (y13 := none) (y14 := none) (xs := src) (acc := []) (x := none) (by show 0 + src.length < 90000; omega)
  rw [hml, show src.foldl SX.st [] = inn from hinn.symm] at ho
  have s10 : ((sAsg 10 (eNew (nL aN)))) [some (.lst (iD row)), some (.hdl a), some (.int (d : Int)), some (.lst (names.map .str)), some (.lst (ps.map pairD)), some (.int (w : Int)), some (.int (t : Int)), some (.lst (B.map .str)), some (.lst (L.map .str)), some (.lst (R.map .str)), none, none, none, none, none, none] (mA m a (n + 1 + 1)) = .nx [some (.lst (iD row)), some (.hdl a), some (.int (d : Int)), some (.lst (names.map .str)), some (.lst (ps.map pairD)), some (.int (w : Int)), some (.int (t : Int)), some (.lst (B.map .str)), some (.lst (L.map .str)), some (.lst (R.map .str)), some (.hdl m.length), none, none, none, none, none] (mA m a (n + 1 + 1) ++ [.lst []]) := by
    dsimp! only [hml]
  have s11 : ((sFor (iPl (e2 gAdd (eFz (nL (aC (e2 gIxA (eV 8) (eC (.int 0))) (aC (e2 gIxA (eV 9) (eC (.int 0))) (aC (e2 gIxA (eV 8) (e2 (gI fun i j => i - j) (eV 5) (eC (.int 1)))) (aC (e2 gIxA (eV 9) (e2 (gI fun i j => i - j) (eV 5) (eC (.int 1)))) aN)))))) (eV 3))) (gN 11) (sIf (tB' (e2 (gInA true) (eV 11) (eV 10))) (sDrop (eMt mApp (eV 10) (aC (eV 11) aN))) sNx))) [some (.lst (iD row)), some (.hdl a), some (.int (d : Int)), some (.lst (names.map .str)), some (.lst (ps.map pairD)), some (.int (w : Int)), some (.int (t : Int)), some (.lst (B.map .str)), some (.lst (L.map .str)), some (.lst (R.map .str)), some (.hdl m.length), none, none, none, none, none] (mA m a (n + 1 + 1) ++ [.lst []]) = .nx [some (.lst (iD row)), some (.hdl a), some (.int (d : Int)), some (.lst (names.map .str)), some (.lst (ps.map pairD)), some (.int (w : Int)), some (.int (t : Int)), some (.lst (B.map .str)), some (.lst (L.map .str)), some (.lst (R.map .str)), some (.hdl m.length), x11, none, none, none, none] (mA m a (n + 1 + 1) ++ [.lst (inn.map .str)]) := by
    refine (for_run (ds := src.map .str) (m1 := mA m a (n + 1 + 1) ++ [.lst []]) (ipl_mk (k := .l) ?_) (by rw [List.length_map]; omega)).trans ho
    have h0 : L2.atI (L.map D.str) 0 = some (.str (nmAt L 0)) := hL0.1
    have h1 : L2.atI (R.map D.str) 0 = some (.str (nmAt R 0)) := hR0.1
    have he : (w : Int) - 1 = ((w - 1 : Nat) : Int) := by omega
    have hnf := hn.few
    dsimp! only [h0, h1, he, hL1.1, hR1.1, List.length_map, show 4 + names.length ≤ 99999 by omega]
    rw [hsrc]
    rfl
  obtain ⟨q, n3, kq, gq⟩ := ih (m ++ [.lst (inn.map .str)]) row hr h0 hl a (by rw [List.length_append]; omega) (inn.take 6) hvars ps hp (d - 1) (n + 1 + 1) (by omega) (by omega) (by omega)
  have hap : ∀ k, mA (m ++ [.lst (inn.map .str)]) a k = mA m a k ++ [.lst (inn.map .str)] := fun k => mA_appR ha
  rw [hap, hap] at kq
  have s12 : ((sAsg 12 (eCall (rec_law_walk b 1) (aC (eV 0) (aC (eV 1) (aC (e2 (gI fun i j => i - j) (eV 2) (eC (.int 1))) (aC (eSl (eV 10) oN (oS (eC (.int 6)))) (aC (eV 4) aN)))))))) [some (.lst (iD row)), some (.hdl a), some (.int (d : Int)), some (.lst (names.map .str)), some (.lst (ps.map pairD)), some (.int (w : Int)), some (.int (t : Int)), some (.lst (B.map .str)), some (.lst (L.map .str)), some (.lst (R.map .str)), some (.hdl m.length), x11, none, none, none, none] (mA m a (n + 1 + 1) ++ [.lst (inn.map .str)]) = .nx [some (.lst (iD row)), some (.hdl a), some (.int (d : Int)), some (.lst (names.map .str)), some (.lst (ps.map pairD)), some (.int (w : Int)), some (.int (t : Int)), some (.lst (B.map .str)), some (.lst (L.map .str)), some (.lst (R.map .str)), some (.hdl m.length), x11, some q.enc, none, none, none] (mA m a n3 ++ [.lst (inn.map .str)]) := by
    have hg : (mA m a (n + 1 + 1) ++ [Ob.lst (inn.map .str)])[m.length]? = some (.lst (inn.map .str)) := by
      have := getN0 (m := mA m a (n + 1 + 1)) (o := Ob.lst (inn.map .str)) (t := [])
      rw [hml] at this
      exact this
    have hsl6 := sl_hdl hg (lo := none) (hi := some 6)
    have hc6 : cutD (inn.map D.str) none (some 6) = (inn.take 6).map .str := by
      have := cut_take (ds := inn.map D.str) (k := 6)
      rw [← List.map_take] at this
      exact this
    rw [hc6] at hsl6
    have he : (d : Int) - 1 = ((d - 1 : Nat) : Int) := by omega
    dsimp! only [hsl6, he, kq]
  obtain ⟨S, n4, kS, hSl, hSn⟩ := takes_names (m := m ++ [.lst (inn.map .str)]) hr h0 hl (a := a) (by rw [List.length_append]; omega) hn (w := w) hw2 n3 (d2 := .int (d : Int)) (d4 := .lst (ps.map pairD)) (y6 := some (.int (t : Int))) (y7 := some (.lst (B.map .str))) (y8 := some (.lst (L.map .str))) (y9 := some (.lst (R.map .str))) (y10 := some (.hdl m.length)) (y11 := x11) (y12 := some q.enc) (y13 := none) (y14 := none)
  rw [hap, hap] at kS
  have s13 : ((sAsg 13 (eBy false (nLc [15] (iR1 (aC (eV 5) aN)) (gN 15) cTrue (e2 gIxA (eV 3) (eCall f_law_take (aC (eV 0) (aC (eV 1) (aC (eB gLen (aC (eV 3) aN)) aN))))))))) [some (.lst (iD row)), some (.hdl a), some (.int (d : Int)), some (.lst (names.map .str)), some (.lst (ps.map pairD)), some (.int (w : Int)), some (.int (t : Int)), some (.lst (B.map .str)), some (.lst (L.map .str)), some (.lst (R.map .str)), some (.hdl m.length), x11, some q.enc, none, none, none] (mA m a n3 ++ [.lst (inn.map .str)]) = .nx [some (.lst (iD row)), some (.hdl a), some (.int (d : Int)), some (.lst (names.map .str)), some (.lst (ps.map pairD)), some (.int (w : Int)), some (.int (t : Int)), some (.lst (B.map .str)), some (.lst (L.map .str)), some (.lst (R.map .str)), some (.hdl m.length), x11, some q.enc, some (.lst (S.map .str)), none, none] (mA m a n4 ++ [.lst (inn.map .str)]) := by
    dsimp! only [kS]
  obtain ⟨E, n5, kE, hEl, hEn⟩ := takes_names (m := m ++ [.lst (inn.map .str)]) hr h0 hl (a := a) (by rw [List.length_append]; omega) hn (w := w) hw2 n4 (d2 := .int (d : Int)) (d4 := .lst (ps.map pairD)) (y6 := some (.int (t : Int))) (y7 := some (.lst (B.map .str))) (y8 := some (.lst (L.map .str))) (y9 := some (.lst (R.map .str))) (y10 := some (.hdl m.length)) (y11 := x11) (y12 := some q.enc) (y13 := some (.lst (S.map .str))) (y14 := none)
  rw [hap, hap] at kE
  have s14 : ((sAsg 14 (eBy false (nLc [15] (iR1 (aC (eV 5) aN)) (gN 15) cTrue (e2 gIxA (eV 3) (eCall f_law_take (aC (eV 0) (aC (eV 1) (aC (eB gLen (aC (eV 3) aN)) aN))))))))) [some (.lst (iD row)), some (.hdl a), some (.int (d : Int)), some (.lst (names.map .str)), some (.lst (ps.map pairD)), some (.int (w : Int)), some (.int (t : Int)), some (.lst (B.map .str)), some (.lst (L.map .str)), some (.lst (R.map .str)), some (.hdl m.length), x11, some q.enc, some (.lst (S.map .str)), none, none] (mA m a n4 ++ [.lst (inn.map .str)]) = .nx [some (.lst (iD row)), some (.hdl a), some (.int (d : Int)), some (.lst (names.map .str)), some (.lst (ps.map pairD)), some (.int (w : Int)), some (.int (t : Int)), some (.lst (B.map .str)), some (.lst (L.map .str)), some (.lst (R.map .str)), some (.hdl m.length), x11, some q.enc, some (.lst (S.map .str)), some (.lst (E.map .str)), none] (mA m a n5 ++ [.lst (inn.map .str)]) := by
    dsimp! only [kE]
  obtain ⟨S', hSl', hSn', s15⟩ : ∃ S' : List Str, S'.length = w ∧ (∀ v ∈ S', isName v = true) ∧ ((sIf (tA (tB' (e2 (gCmp pGt) (eV 5) (eC (.int 3)))) (tB' (e2 (gEq false) (e2 (gIc cMod fun i j => i % j) (eB gInt (aC (eV 6) aN)) (eC (.int 2))) (eC (.int 0))))) (sAsg 13 (eBy false (nLc [15] (iR1 (aC (eV 5) aN)) (gN 15) cTrue (e2 gAdd (eSl (e2 gIxA (eV 3) (e2 (gIc cMod fun i j => i % j) (eB gInt (aC (e2 gAdd (eV 6) (eC (.int 1))) aN)) (eB gLen (aC (eV 3) aN)))) oN (oS (eC (.int 9)))) (eB gStr (aC (e2 (gIc cMod fun i j => i % j) (eB gInt (aC (e2 gAdd (e2 (gIc cMul fun i j => i * j) (eV 15) (eC (.int 7))) (eV 6)) aN)) (eC (.int 100))) aN)))))) sNx)) [some (.lst (iD row)), some (.hdl a), some (.int (d : Int)), some (.lst (names.map .str)), some (.lst (ps.map pairD)), some (.int (w : Int)), some (.int (t : Int)), some (.lst (B.map .str)), some (.lst (L.map .str)), some (.lst (R.map .str)), some (.hdl m.length), x11, some q.enc, some (.lst (S.map .str)), some (.lst (E.map .str)), none] (mA m a n5 ++ [.lst (inn.map .str)]) = .nx [some (.lst (iD row)), some (.hdl a), some (.int (d : Int)), some (.lst (names.map .str)), some (.lst (ps.map pairD)), some (.int (w : Int)), some (.int (t : Int)), some (.lst (B.map .str)), some (.lst (L.map .str)), some (.lst (R.map .str)), some (.hdl m.length), x11, some q.enc, some (.lst (S'.map .str)), some (.lst (E.map .str)), none] (mA m a n5 ++ [.lst (inn.map .str)]) := by
    by_cases c1 : (3 : Int) < (w : Int)
    · by_cases c2 : (t : Int) % 2 = 0
      · have hpos := hn.pos
        have hx := nmAt_at (xs := names) (i := (t + 1) % names.length) (Nat.mod_lt _ hpos)
        have hxn := hn.pool.ok _ hx.2
        obtain ⟨x, hxe⟩ : ∃ x, x = nmAt names ((t + 1) % names.length) := ⟨_, rfl⟩
        rw [← hxe] at hx hxn
        have hlt : ∀ k, (k * 7 + t) % 100 < 120 := fun k => by omega
        refine ⟨(List.range w).map fun k => nm9 x ((k * 7 + t) % 100), by rw [List.length_map, List.length_range], fun v hv => ?_, ?_⟩
        · obtain ⟨k, hk, rfl⟩ := List.mem_map.mp hv
          exact (nm9_ok hxn.1 (hlt k)).1.name (nm9_ok hxn.1 (hlt k)).2
        · have hc : nLc [15] (iR1 (aC (eV 5) aN)) (gN 15) cTrue ((e2 gAdd (eSl (e2 gIxA (eV 3) (e2 (gIc cMod fun i j => i % j) (eB gInt (aC (e2 gAdd (eV 6) (eC (.int 1))) aN)) (eB gLen (aC (eV 3) aN)))) oN (oS (eC (.int 9)))) (eB gStr (aC (e2 (gIc cMod fun i j => i % j) (eB gInt (aC (e2 gAdd (e2 (gIc cMul fun i j => i * j) (eV 15) (eC (.int 7))) (eV 6)) aN)) (eC (.int 100))) aN)))) [some (.lst (iD row)), some (.hdl a), some (.int (d : Int)), some (.lst (names.map .str)), some (.lst (ps.map pairD)), some (.int (w : Int)), some (.int (t : Int)), some (.lst (B.map .str)), some (.lst (L.map .str)), some (.lst (R.map .str)), some (.hdl m.length), x11, some q.enc, some (.lst (S.map .str)), some (.lst (E.map .str)), none] (mA m a n5 ++ [.lst (inn.map .str)]) = .ok (.lst (((List.range w).map fun k => nm9 x ((k * 7 + t) % 100)).map .str)) (mA m a n5 ++ [.lst (inn.map .str)]) := by
            rw [List.map_map]
            refine lc_rngm (by dsimp! only [reduceCtorEq]) (by omega) fun k hk => ⟨_, rfl, rfl, ?_⟩
            have he : ((k : Int) * 7 + (t : Int)) % 100 = (((k * 7 + t) % 100 : Nat) : Int) := rfl
            have he2 : ((t : Int) + 1) % ((names.length : Nat) : Int) = (((t + 1) % names.length : Nat) : Int) := rfl
            have hcm : ∀ i : Int, cMod i ((names.length : Nat) : Int) = true := fun i => decide_eq_true (by omega)
            have hcm2 : ∀ i : Int, cMod i 100 = true := fun i => decide_eq_true (by decide)
            have hcu : cMul (k : Int) 7 = true := cMulR (by omega)
            have hsl := fun mm => sl_str (m := mm) (s := x) (lo := none) (hi := some 9) (by have := hxn.1.len; omega)
            have hg := fun mm => gStrJ (m := mm) (hlt k)
            have hln : (L2.cutS x none (some 9)).length + (strJ ((k * 7 + t) % 100)).length ≤ 99999 := by
              have := cut9_len x
              have := (strJ_all _ (hlt k)).1
              omega
            simp? only [wipeE, List.length_map, hcm, hcm2, hcu, he, he2, hx.1, hsl, hg, hln, Function.comp, nm9]
          dsimp! only [pGt, eq_true c1, eq_true c2, hc]
      · exact ⟨S, hSl, hSn, by dsimp! only [pGt, eq_true c1, c2]⟩
    · exact ⟨S, hSl, hSn, by dsimp! only [pGt, c1]⟩
  have hLok : ∀ v ∈ L ++ R, isName v = true := fun v hv => hLR.name hv
  have gw : Gt (arP ps) (keysP ps) d (4 * 2 ^ (d - 1) + w) (.walk .t .t L .t R q .t S' .t E) := by
    refine (gq.walk (by omega) (by omega) (by omega) (by omega) (by omega) hLok hSn' hEn hLR.nd).mono (by omega) ?_
    have := Nat.one_le_two_pow (n := d - 1)
    omega
  refine ⟨_, n5, run_ret (d := (Q.walk .t .t L .t R q .t S' .t E).enc) (m' := mA m a n5 ++ [.lst (inn.map .str)]) ?_ (exit_mA (old_enc _)), gw⟩
  have s0 : ((sAsg 6 (eCall f_law_take (aC (eV 0) (aC (eV 1) (aC (eC (.int 60)) aN)))))) (start0 16 [.lst (iD row), .hdl a, .int (d : Int), .lst (names.map .str), .lst (ps.map pairD), .int (w : Int)]) (mA m a n) = .nx [some (.lst (iD row)), some (.hdl a), some (.int (d : Int)), some (.lst (names.map .str)), some (.lst (ps.map pairD)), some (.int (w : Int)), some (.int (t : Int)), none, none, none, none, none, none, none, none, none] (mA m a (n + 1)) := by
    dsimp! only [kt]
  have sB' : ∀ R : FS, sSeq ((sAsg 7 (eFz (nLc [15] (iR1 (aC (e2 (gIc cMul fun i j => i * j) (eC (.int 2)) (eV 5)) aN)) (gN 15) cTrue (e2 gIxA (eV 3) (e2 (gIc cMod fun i j => i % j) (eB gInt (aC (e2 gAdd (eV 6) (eV 15)) aN)) (eB gLen (aC (eV 3) aN)))))))) (sSeq ((sIf (tB' (e2 (gCmp pGt) (e2 (gIc cMul fun i j => i * j) (eC (.int 2)) (eV 5)) (eB gLen (aC (eV 3) aN)))) (sAsg 7 (eFz (nLc [15] (iR1 (aC (e2 (gIc cMul fun i j => i * j) (eC (.int 2)) (eV 5)) aN)) (gN 15) cTrue (e2 gAdd (eSl (e2 gIxA (eV 3) (e2 (gIc cMod fun i j => i % j) (eV 6) (eB gLen (aC (eV 3) aN)))) oN (oS (eC (.int 9)))) (eB gStr (aC (e2 (gIc cMod fun i j => i % j) (eB gInt (aC (e2 gAdd (eV 6) (eV 15)) aN)) (e2 (gIc cMul fun i j => i * j) (eC (.int 2)) (eV 5))) aN)))))) sNx)) R) = sSeq (sSeq ((sAsg 7 (eFz (nLc [15] (iR1 (aC (e2 (gIc cMul fun i j => i * j) (eC (.int 2)) (eV 5)) aN)) (gN 15) cTrue (e2 gIxA (eV 3) (e2 (gIc cMod fun i j => i % j) (eB gInt (aC (e2 gAdd (eV 6) (eV 15)) aN)) (eB gLen (aC (eV 3) aN)))))))) ((sIf (tB' (e2 (gCmp pGt) (e2 (gIc cMul fun i j => i * j) (eC (.int 2)) (eV 5)) (eB gLen (aC (eV 3) aN)))) (sAsg 7 (eFz (nLc [15] (iR1 (aC (e2 (gIc cMul fun i j => i * j) (eC (.int 2)) (eV 5)) aN)) (gN 15) cTrue (e2 gAdd (eSl (e2 gIxA (eV 3) (e2 (gIc cMod fun i j => i % j) (eV 6) (eB gLen (aC (eV 3) aN)))) oN (oS (eC (.int 9)))) (eB gStr (aC (e2 (gIc cMod fun i j => i % j) (eB gInt (aC (e2 gAdd (eV 6) (eV 15)) aN)) (e2 (gIc cMul fun i j => i * j) (eC (.int 2)) (eV 5))) aN)))))) sNx))) R := fun R => DY.seq_assoc.symm
  unfold F_law_walk
  refine seq_nx s0 ?_
  rw [sB']
  refine seq_nx sB ?_
  rw [show ∀ A B C R : FS, sSeq A (sSeq B (sSeq C R)) = sSeq (sSeq A (sSeq B C)) R from fun A B C R => by rw [DY.seq_assoc, DY.seq_assoc]]
  refine seq_nx sLR (seq_nx s10 (seq_nx s11 (seq_nx s12 (seq_nx s13 (seq_nx s14 (seq_nx s15 ?_))))))
  dsimp! only [tuple_lst]
  rfl
end
end Kx
/-! drawn trees -/
namespace Kx
open PySem T DY
theorem tree_sp {b : Nat} (ih : TreeSp b) (iw : WalkSp b) : TreeSp (b + 1) := by
  intro m row hr h0 hl a ha names hn ps hp d n hd hb hd30
  show ∃ (q : Q) (n' : Nat), run 9 5 (F_law_tree (rec_law_walk b 0) (rec_law_walk b 1)) _ _ = _ ∧ _
  have hnl : (0 : Int) < ((names.length : Nat) : Int) := by have := hn.pos; omega
  have h2d : 2 ^ d = 2 * 2 ^ (d - 1) := by rw [← Nat.pow_succ']; congr 1; omega
  have h1d := Nat.one_le_two_pow (n := d - 1)
  have hed : (d : Int) - 1 = ((d - 1 : Nat) : Int) := by omega
  obtain ⟨v1, l1, k1⟩ := e_tk hr h0 hl ha (many := 15) (by decide) n
  have s0 : ((sAsg 5 (eCall f_law_take (aC (eV 0) (aC (eV 1) (aC (eC (.int 15)) aN)))))) (start0 9 [.lst (iD row), .hdl a, .int (d : Int), .lst (names.map .str), .lst (ps.map pairD)]) (mA m a n) = .nx [some (.lst (iD row)), some (.hdl a), some (.int (d : Int)), some (.lst (names.map .str)), some (.lst (ps.map pairD)), some (.int (v1 : Int)), none, none, none] (mA m a (n + 1)) := by
    dsimp! only [k1]
  obtain ⟨κ, n1, hκ, s1⟩ : ∃ κ n1 : Nat, κ < 15 ∧ ((sIf (tA (tB' (e2 (gCmp pGe) (eV 2) (eC (.int 4)))) (tA (tB' (e2 (gCmp pLt) (eV 5) (eC (.int 4)))) (tB' (e2 (gCmp pGt) (eCall f_law_take (aC (eV 0) (aC (eV 1) (aC (eC (.int 9)) aN)))) (eC (.int 0)))))) (sAsg 5 (e2 gAdd (eV 5) (eC (.int 5)))) sNx)) [some (.lst (iD row)), some (.hdl a), some (.int (d : Int)), some (.lst (names.map .str)), some (.lst (ps.map pairD)), some (.int (v1 : Int)), none, none, none] (mA m a (n + 1)) = .nx [some (.lst (iD row)), some (.hdl a), some (.int (d : Int)), some (.lst (names.map .str)), some (.lst (ps.map pairD)), some (.int (κ : Int)), none, none, none] (mA m a n1) := by
    by_cases c1 : (4 : Int) ≤ (d : Int)
    · by_cases c2 : (v1 : Int) < 4
      · obtain ⟨v2, l2, k2⟩ := e_tk hr h0 hl ha (many := 9) (by decide) (n + 1)
        by_cases c3 : (0 : Int) < (v2 : Int)
        · exact ⟨v1 + 5, n + 1 + 1, by omega, by dsimp! only [pGe, pLt, pGt, c1, c2, k2, c3]; rfl⟩
        · exact ⟨v1, n + 1 + 1, by omega, by dsimp! only [pGe, pLt, pGt, c1, c2, k2, c3]⟩
      · exact ⟨v1, n + 1, by omega, by dsimp! only [pGe, pLt, pGt, c1, c2]⟩
    · exact ⟨v1, n + 1, by omega, by dsimp! only [pGe, pLt, pGt, c1]⟩
  by_cases c1 : d ≤ 1 ∨ κ < 4
  · obtain ⟨q, n2, kq, gq⟩ := e_atom hr h0 hl ha hn hp n1
    refine ⟨q, n2, run_ret (d := q.enc) (m' := mA m a n2) ?_ (exit_same mA_same), gq.mono hd (by omega)⟩
    unfold F_law_tree
    refine seq_nx s0 (seq_nx s1 (seq_rt ?_))
    by_cases c2 : (d : Int) ≤ 1
    · dsimp! only [pLe, pLt, c2, kq]
    · have c3 : (κ : Int) < 4 := by omega
      dsimp! only [pLe, pLt, c2, c3, kq]
  have c1a : ¬ (d : Int) ≤ 1 := by omega
  have c1b : ¬ (κ : Int) < 4 := by omega
  have s2 : ((sIf (tO (tB' (e2 (gCmp pLe) (eV 2) (eC (.int 1)))) (tB' (e2 (gCmp pLt) (eV 5) (eC (.int 4))))) (sRet (eCall f_law_atom (aC (eV 0) (aC (eV 1) (aC (eV 3) (aC (eV 4) aN)))))) sNx)) [some (.lst (iD row)), some (.hdl a), some (.int (d : Int)), some (.lst (names.map .str)), some (.lst (ps.map pairD)), some (.int (κ : Int)), none, none, none] (mA m a n1) = .nx [some (.lst (iD row)), some (.hdl a), some (.int (d : Int)), some (.lst (names.map .str)), some (.lst (ps.map pairD)), some (.int (κ : Int)), none, none, none] (mA m a n1) := by
    dsimp! only [pLe, pLt, c1a, c1b]
  have sub := fun n => ih m row hr h0 hl a ha names hn ps hp (d - 1) n (by omega) (by omega) (by omega)
  by_cases c2 : κ < 6
  · obtain ⟨q, n2, kq, gq⟩ := sub n1
    refine ⟨.nt .t q, n2, run_ret (d := (Q.nt .t q).enc) (m' := mA m a n2) ?_ (exit_same mA_same), gq.nt.mono (by omega) (by omega)⟩
    unfold F_law_tree
    refine seq_nx s0 (seq_nx s1 (seq_nx s2 (seq_rt ?_)))
    dsimp! only [pLt, show (κ : Int) < 6 by omega, hed, kq]
    rfl
  have s3 : ((sIf (tB' (e2 (gCmp pLt) (eV 5) (eC (.int 6)))) (sRet (eTup (aC (eC (.str "not")) (aC (eCall (rec_law_walk b 1) (aC (eV 0) (aC (eV 1) (aC (e2 (gI fun i j => i - j) (eV 2) (eC (.int 1))) (aC (eV 3) (aC (eV 4) aN)))))) aN)))) sNx)) [some (.lst (iD row)), some (.hdl a), some (.int (d : Int)), some (.lst (names.map .str)), some (.lst (ps.map pairD)), some (.int (κ : Int)), none, none, none] (mA m a n1) = .nx [some (.lst (iD row)), some (.hdl a), some (.int (d : Int)), some (.lst (names.map .str)), some (.lst (ps.map pairD)), some (.int (κ : Int)), none, none, none] (mA m a n1) := by
    dsimp! only [pLt, show ¬ (κ : Int) < 6 by omega]
  by_cases c3 : κ < 9
  · obtain ⟨q1, n2, kq1, gq1⟩ := sub n1
    obtain ⟨v, lv, kv⟩ := e_tk hr h0 hl ha (many := 2) (by decide) n2
    obtain ⟨q2, n3, kq2, gq2⟩ := sub (n2 + 1)
    obtain ⟨w, hw, iw2⟩ := atI_pickm (xs := [WB.an, WB.or]) (enc := fun w => .str w.nm) (v : Int) (by omega) lv
    have iw2 : L2.atI [D.str "and", .str "or"] (v : Int) = some (.str w.nm) := iw2
    refine ⟨.bi .t w q1 q2, n3, run_ret (d := (Q.bi .t w q1 q2).enc) (m' := mA m a n3) ?_ (exit_same mA_same), (gq1.bi gq2).mono (by omega) (by omega)⟩
    unfold F_law_tree
    refine seq_nx s0 (seq_nx s1 (seq_nx s2 (seq_nx s3 (seq_rt ?_))))
    dsimp! only [pLt, show (κ : Int) < 9 by omega, hed, kq1, kv, iw2, kq2]
    rfl
  have s4 : ((sIf (tB' (e2 (gCmp pLt) (eV 5) (eC (.int 9)))) (sSeq (sAsg 6 (eCall (rec_law_walk b 1) (aC (eV 0) (aC (eV 1) (aC (e2 (gI fun i j => i - j) (eV 2) (eC (.int 1))) (aC (eV 3) (aC (eV 4) aN))))))) (sRet (eTup (aC (e2 gIxA (eFz (nL (aC (eC (.str "and")) (aC (eC (.str "or")) aN)))) (eCall f_law_take (aC (eV 0) (aC (eV 1) (aC (eC (.int 2)) aN))))) (aC (eV 6) (aC (eCall (rec_law_walk b 1) (aC (eV 0) (aC (eV 1) (aC (e2 (gI fun i j => i - j) (eV 2) (eC (.int 1))) (aC (eV 3) (aC (eV 4) aN)))))) aN)))))) sNx)) [some (.lst (iD row)), some (.hdl a), some (.int (d : Int)), some (.lst (names.map .str)), some (.lst (ps.map pairD)), some (.int (κ : Int)), none, none, none] (mA m a n1) = .nx [some (.lst (iD row)), some (.hdl a), some (.int (d : Int)), some (.lst (names.map .str)), some (.lst (ps.map pairD)), some (.int (κ : Int)), none, none, none] (mA m a n1) := by
    dsimp! only [pLt, show ¬ (κ : Int) < 9 by omega]
  obtain ⟨v, lv, kv⟩ := e_tk hr h0 hl ha (many := (names.length : Nat)) hnl n1
  obtain ⟨x, hx, ix, nx⟩ := pick_name hn lv
  have s5 : ((sAsg 7 (e2 gIxA (eV 3) (eCall f_law_take (aC (eV 0) (aC (eV 1) (aC (eB gLen (aC (eV 3) aN)) aN))))))) [some (.lst (iD row)), some (.hdl a), some (.int (d : Int)), some (.lst (names.map .str)), some (.lst (ps.map pairD)), some (.int (κ : Int)), none, none, none] (mA m a n1) = .nx [some (.lst (iD row)), some (.hdl a), some (.int (d : Int)), some (.lst (names.map .str)), some (.lst (ps.map pairD)), some (.int (κ : Int)), none, some (.str x), none] (mA m a (n1 + 1)) := by
    dsimp! only [List.length_map, kv, ix]
  by_cases c4 : κ < 11
  · obtain ⟨q, n2, kq, gq⟩ := sub (n1 + 1)
    obtain ⟨w, hw, iw2⟩ := atI_pickm (xs := [WQ.some, WQ.every]) (enc := fun w => .str w.nm) ((κ : Int) - 9) (by omega) (by show (κ : Int) - 9 < 2; omega)
    have iw2 : L2.atI [D.str "some", .str "every"] ((κ : Int) - 9) = some (.str w.nm) := iw2
    refine ⟨.qu .t w x q, n2, run_ret (d := (Q.qu .t w x q).enc) (m' := mA m a n2) ?_ (exit_same mA_same), (gq.qu nx).mono (by omega) (by omega)⟩
    unfold F_law_tree
    refine seq_nx s0 (seq_nx s1 (seq_nx s2 (seq_nx s3 (seq_nx s4 (seq_nx s5 (seq_rt ?_))))))
    dsimp! only [pLt, show (κ : Int) < 11 by omega, hed, iw2, kq]
    rfl
  have s6 : ((sIf (tB' (e2 (gCmp pLt) (eV 5) (eC (.int 11)))) (sRet (eTup (aC (e2 gIxA (eFz (nL (aC (eC (.str "some")) (aC (eC (.str "every")) aN)))) (e2 (gI fun i j => i - j) (eV 5) (eC (.int 9)))) (aC (eV 7) (aC (eCall (rec_law_walk b 1) (aC (eV 0) (aC (eV 1) (aC (e2 (gI fun i j => i - j) (eV 2) (eC (.int 1))) (aC (eV 3) (aC (eV 4) aN)))))) aN))))) sNx)) [some (.lst (iD row)), some (.hdl a), some (.int (d : Int)), some (.lst (names.map .str)), some (.lst (ps.map pairD)), some (.int (κ : Int)), none, some (.str x), none] (mA m a (n1 + 1)) = .nx [some (.lst (iD row)), some (.hdl a), some (.int (d : Int)), some (.lst (names.map .str)), some (.lst (ps.map pairD)), some (.int (κ : Int)), none, some (.str x), none] (mA m a (n1 + 1)) := by
    dsimp! only [pLt, show ¬ (κ : Int) < 11 by omega]
  by_cases c5 : κ < 13
  · obtain ⟨v2, lv2, kv2⟩ := e_tk hr h0 hl ha (many := (names.length : Nat)) hnl (n1 + 1)
    obtain ⟨y, hy, iy, ny⟩ := pick_name hn lv2
    obtain ⟨q1, n2, kq1, gq1⟩ := sub (n1 + 1 + 1)
    obtain ⟨q2, n3, kq2, gq2⟩ := sub n2
    refine ⟨.more .t x q1 y q2, n3, run_ret (d := (Q.more .t x q1 y q2).enc) (m' := mA m a n3) ?_ (exit_same mA_same), (gq1.more gq2 nx ny).mono (by omega) (by omega)⟩
    unfold F_law_tree
    refine seq_nx s0 (seq_nx s1 (seq_nx s2 (seq_nx s3 (seq_nx s4 (seq_nx s5 (seq_nx s6 (seq_rt ?_)))))))
    dsimp! only [pLt, show (κ : Int) < 13 by omega, hed, List.length_map, kv2, iy, kq1, kq2]
    rfl
  have s7 : ((sIf (tB' (e2 (gCmp pLt) (eV 5) (eC (.int 13)))) (sSeq (sAsg 8 (e2 gIxA (eV 3) (eCall f_law_take (aC (eV 0) (aC (eV 1) (aC (eB gLen (aC (eV 3) aN)) aN)))))) (sSeq (sAsg 6 (eCall (rec_law_walk b 1) (aC (eV 0) (aC (eV 1) (aC (e2 (gI fun i j => i - j) (eV 2) (eC (.int 1))) (aC (eV 3) (aC (eV 4) aN))))))) (sRet (eTup (aC (eC (.str "more")) (aC (eV 7) (aC (eV 6) (aC (eV 8) (aC (eCall (rec_law_walk b 1) (aC (eV 0) (aC (eV 1) (aC (e2 (gI fun i j => i - j) (eV 2) (eC (.int 1))) (aC (eV 3) (aC (eV 4) aN)))))) aN))))))))) sNx)) [some (.lst (iD row)), some (.hdl a), some (.int (d : Int)), some (.lst (names.map .str)), some (.lst (ps.map pairD)), some (.int (κ : Int)), none, some (.str x), none] (mA m a (n1 + 1)) = .nx [some (.lst (iD row)), some (.hdl a), some (.int (d : Int)), some (.lst (names.map .str)), some (.lst (ps.map pairD)), some (.int (κ : Int)), none, some (.str x), none] (mA m a (n1 + 1)) := by
    dsimp! only [pLt, show ¬ (κ : Int) < 13 by omega]
  obtain ⟨v2, lv2, kv2⟩ := e_tk hr h0 hl ha (many := 6) (by decide) (n1 + 1)
  obtain ⟨w, hw, jw⟩ := atI_pickm (xs := [1, 1, 2, 1, 3, 2]) (enc := fun (w : Nat) => D.int (w : Int)) (v2 : Int) (by omega) lv2
  have jw : L2.atI [D.int 1, .int 1, .int 2, .int 1, .int 3, .int 2] (v2 : Int) = some (.int (w : Int)) := jw
  have hw1 : 1 ≤ w ∧ w ≤ 3 := by
    clear jw
    revert w
    simp only [List.forall_mem_cons, List.not_mem_nil, false_implies, implies_true, and_true]
    omega
  obtain ⟨q, n2, kq, gq⟩ := iw m row hr h0 hl a ha names hn ps hp d (n1 + 1 + 1) w (by omega) (by omega) hd30 hw1.1 (by omega)
  refine ⟨q, n2, run_ret (d := q.enc) (m' := mA m a n2) ?_ (exit_same mA_same), gq.mono (Nat.le_refl _) (by
    have h22 : 2 ^ 1 ≤ 2 ^ (d - 1) := Nat.pow_le_pow_right (by decide) (by omega)
    omega)⟩
  unfold F_law_tree
  refine seq_nx s0 (seq_nx s1 (seq_nx s2 (seq_nx s3 (seq_nx s4 (seq_nx s5 (seq_nx s6 (seq_nx s7 ?_)))))))
  dsimp! only [kv2, jw, kq]
theorem both_sp : ∀ b, TreeSp b ∧ WalkSp b
  | 0 => ⟨fun m row hr h0 hl a ha names hn ps hp d n hd hb => by omega, fun m row hr h0 hl a ha names hn ps hp d n w hd hb => by omega⟩
  | b + 1 => ⟨tree_sp (both_sp b).1 (both_sp b).2, walk_sp (both_sp b).1⟩
section
variable {m : Mem}
theorem e_drawn {c1 c2 : Int} {names : List Str} (hn : Vars names) {ps : List (Str × Int)} (hp : Pairs ps) : ∃ q : Q, f_law_drawn [.int c1, .int c2, .lst (names.map .str), .lst (ps.map pairD)] m = .ok q.enc m ∧ Gt (arP ps) (keysP ps) 36 640 q := by
  obtain ⟨row1, kr1, hl1, hr1⟩ := e_stream (m := m) (c := c1) (n := 90) (by decide)
  obtain ⟨row2, kr2, hl2, hr2⟩ := e_stream (m := m) (c := c2) (n := 90) (by decide)
  have kr1 : f_law_stream [.int c1, .int 90] m = .ok (.lst (iD row1)) m := kr1
  have kr2 : f_law_stream [.int c2, .int 90] m = .ok (.lst (iD row2)) m := kr2
  obtain ⟨row, hrow⟩ : ∃ row, row = row1 ++ row2 := ⟨_, rfl⟩
  have hr : Dig 60 row := by rw [hrow]; exact dig_app hr1 hr2
  have hl : row.length = 180 := by rw [hrow, List.length_append, hl1, hl2]
  have h0 : row ≠ [] := fun e => by rw [e] at hl; exact nomatch hl
  obtain ⟨d0, i0, a0, b0⟩ := dig_at hr 0 (by decide) (by omega)
  obtain ⟨d1, i1, a1, b1⟩ := dig_at hr 1 (by decide) (by omega)
  have hap : ∀ k : Nat, mA (m ++ [.lst [.int (2 : Nat)]]) m.length k = m ++ [.lst [.int (k : Int)]] := fun k => mA_app
  have ha : m.length < (m ++ [Ob.lst [.int (2 : Nat)]]).length := by rw [List.length_append]; exact Nat.lt_succ_self _
  have fin : ∀ (q : Q) (k : Nat), exit_ m q.enc (m ++ [.lst [.int (k : Int)]]) = .ok q.enc m := fun q k => exit_new (old_enc q)
  have s0 : ((sAsg 4 (e2 gAdd (eCall f_law_stream (aC (eV 0) (aC (eC (.int 90)) aN))) (eCall f_law_stream (aC (eV 1) (aC (eC (.int 90)) aN)))))) (start0 10 [.int c1, .int c2, .lst (names.map .str), .lst (ps.map pairD)]) m = .nx [some (.int c1), some (.int c2), some (.lst (names.map .str)), some (.lst (ps.map pairD)), some (.lst (iD row)), none, none, none, none, none] m := by
    dsimp! only [kr1, kr2, List.length_map, hl1, hl2, Nat.reduceLeDiff]
    rw [hrow, show iD (row1 ++ row2) = iD row1 ++ iD row2 from List.map_append]
  have s1 : ((sAsg 5 (eNew (nL (aC (eC (.int 2)) aN))))) [some (.int c1), some (.int c2), some (.lst (names.map .str)), some (.lst (ps.map pairD)), some (.lst (iD row)), none, none, none, none, none] m = .nx [some (.int c1), some (.int c2), some (.lst (names.map .str)), some (.lst (ps.map pairD)), some (.lst (iD row)), some (.hdl m.length), none, none, none, none] (m ++ [.lst [.int 2]]) := by dsimp! only [reduceCtorEq]
  have s2 : ((sAsg 6 (e2 (gIc cMod fun i j => i % j) (eB gInt (aC (e2 gIxA (eV 4) (eC (.int 0))) aN)) (eC (.int 8))))) [some (.int c1), some (.int c2), some (.lst (names.map .str)), some (.lst (ps.map pairD)), some (.lst (iD row)), some (.hdl m.length), none, none, none, none] (m ++ [.lst [.int 2]]) = .nx [some (.int c1), some (.int c2), some (.lst (names.map .str)), some (.lst (ps.map pairD)), some (.lst (iD row)), some (.hdl m.length), some (.int (d0 % 8)), none, none, none] (m ++ [.lst [.int 2]]) := by dsimp! only [i0]
  by_cases cs : d0 % 8 = 0
  · obtain ⟨w, hw, iw⟩ := atI_pickm (xs := [1 + d1.toNat, 60]) (enc := fun (w : Nat) => D.int (w : Int)) (d1 / 7 % 2) (by omega) (by show d1 / 7 % 2 < 2; omega)
    have iw : L2.atI [D.int (1 + d1), .int 60] (d1 / 7 % 2) = some (.int (w : Int)) := by
      have e : ((1 + d1.toNat : Nat) : Int) = 1 + d1 := by omega
      have : L2.atI [D.int ((1 + d1.toNat : Nat) : Int), .int 60] (d1 / 7 % 2) = some (.int (w : Int)) := iw
      rw [e] at this
      exact this
    have hw1 : 1 ≤ w ∧ w ≤ 60 := by
      clear iw
      simp only [List.mem_cons, List.not_mem_nil, or_false] at hw
      omega
    obtain ⟨q, n2, kq, gq⟩ := (both_sp 60).2 (m ++ [.lst [.int (2 : Nat)]]) row hr h0 (by omega) m.length ha names hn ps hp 3 2 w (by decide) (by decide) (by decide) hw1.1 hw1.2
    rw [hap, hap] at kq
    simp only [nc2, nc3] at kq
    refine ⟨q, run_ret (s := F_law_drawn) (d := q.enc) (m' := m ++ [.lst [.int (n2 : Int)]]) ?_ (fin q n2), gq.mono (by decide) (by show 4 * 2 ^ 2 + w ≤ 640; omega)⟩
    have s3 : ((sIf (tB' (e2 (gEq false) (eV 6) (eC (.int 0)))) (sRet (eCall (rec_law_walk 60 0) (aC (eV 4) (aC (eV 5) (aC (eC (.int 3)) (aC (eV 2) (aC (eV 3) (aC (e2 gIxA (eFz (nL (aC (e2 gAdd (eC (.int 1)) (eB gInt (aC (e2 gIxA (eV 4) (eC (.int 1))) aN))) (aC (eC (.int 60)) aN)))) (e2 (gIc cMod fun i j => i % j) (e2 (gIc cDiv fun i j => i / j) (eB gInt (aC (e2 gIxA (eV 4) (eC (.int 1))) aN)) (eC (.int 7))) (eC (.int 2)))) aN)))))))) sNx)) [some (.int c1), some (.int c2), some (.lst (names.map .str)), some (.lst (ps.map pairD)), some (.lst (iD row)), some (.hdl m.length), some (.int (d0 % 8)), none, none, none] (m ++ [.lst [.int 2]]) = .rt q.enc (m ++ [.lst [.int (n2 : Int)]]) := by
      dsimp! only [eq_true cs, i1, iw, kq]
    unfold F_law_drawn
    exact seq_nx s0 (seq_nx s1 (seq_nx s2 (seq_rt s3)))
  · obtain ⟨q, n2, kq, gq⟩ := (both_sp 60).1 (m ++ [.lst [.int (2 : Nat)]]) row hr h0 (by omega) m.length ha names hn ps hp 6 2 (by decide) (by decide) (by decide)
    rw [hap, hap] at kq
    simp only [nc2, nc6] at kq
    have s3 : ((sIf (tB' (e2 (gEq false) (eV 6) (eC (.int 0)))) (sRet (eCall (rec_law_walk 60 0) (aC (eV 4) (aC (eV 5) (aC (eC (.int 3)) (aC (eV 2) (aC (eV 3) (aC (e2 gIxA (eFz (nL (aC (e2 gAdd (eC (.int 1)) (eB gInt (aC (e2 gIxA (eV 4) (eC (.int 1))) aN))) (aC (eC (.int 60)) aN)))) (e2 (gIc cMod fun i j => i % j) (e2 (gIc cDiv fun i j => i / j) (eB gInt (aC (e2 gIxA (eV 4) (eC (.int 1))) aN)) (eC (.int 7))) (eC (.int 2)))) aN)))))))) sNx)) [some (.int c1), some (.int c2), some (.lst (names.map .str)), some (.lst (ps.map pairD)), some (.lst (iD row)), some (.hdl m.length), some (.int (d0 % 8)), none, none, none] (m ++ [.lst [.int 2]]) = .nx [some (.int c1), some (.int c2), some (.lst (names.map .str)), some (.lst (ps.map pairD)), some (.lst (iD row)), some (.hdl m.length), some (.int (d0 % 8)), none, none, none] (m ++ [.lst [.int 2]]) := by
      dsimp! only [cs]
    have s4 : ((sAsg 7 (eCall (rec_law_walk 60 1) (aC (eV 4) (aC (eV 5) (aC (eC (.int 6)) (aC (eV 2) (aC (eV 3) aN)))))))) [some (.int c1), some (.int c2), some (.lst (names.map .str)), some (.lst (ps.map pairD)), some (.lst (iD row)), some (.hdl m.length), some (.int (d0 % 8)), none, none, none] (m ++ [.lst [.int 2]]) = .nx [some (.int c1), some (.int c2), some (.lst (names.map .str)), some (.lst (ps.map pairD)), some (.lst (iD row)), some (.hdl m.length), some (.int (d0 % 8)), some q.enc, none, none] (m ++ [.lst [.int (n2 : Int)]]) := by
      dsimp! only [kq]
    have gq0 : Gt (arP ps) (keysP ps) 6 252 q := gq.mono (by decide) (by decide)
    by_cases c8 : d0 % 8 = 1
    · obtain ⟨w, hw⟩ : ∃ w : Nat, d1 % 30 = (w : Int) := ⟨(d1 % 30).toNat, by omega⟩
      obtain ⟨e', m', hf, q', n', x8, x9, rfl, rfl, hq'⟩ := for_rng (I := fun i e mm => ∃ (q' : Q) (n' : Nat) (x8 x9 : Option D), e = [some (.int c1), some (.int c2), some (.lst (names.map .str)), some (.lst (ps.map pairD)), some (.lst (iD row)), some (.hdl m.length), some (.int (d0 % 8)), some q'.enc, x8, x9] ∧ mm = m ++ [.lst [.int (n' : Int)]] ∧ Gt (arP ps) (keysP ps) (6 + i) (252 + 13 * i) q') (g := gN 8) (body := (sSeq (sAsg 9 (eCall (rec_law_walk 60 1) (aC (eV 4) (aC (eV 5) (aC (eC (.int 2)) (aC (eV 2) (aC (eV 3) aN))))))) (sIf (tB' (e2 (gEq false) (eCall f_law_take (aC (eV 4) (aC (eV 5) (aC (eC (.int 2)) aN)))) (eC (.int 1)))) (sAsg 7 (eTup (aC (e2 gIxA (eFz (nL (aC (eC (.str "and")) (aC (eC (.str "or")) aN)))) (eCall f_law_take (aC (eV 4) (aC (eV 5) (aC (eC (.int 2)) aN))))) (aC (eV 7) (aC (eV 9) aN))))) (sAsg 7 (eTup (aC (e2 gIxA (eFz (nL (aC (eC (.str "and")) (aC (eC (.str "or")) aN)))) (eCall f_law_take (aC (eV 4) (aC (eV 5) (aC (eC (.int 2)) aN))))) (aC (eV 9) (aC (eV 7) aN)))))))) (fa := aC (e2 (gIc cMod fun i j => i % j) (eB gInt (aC (e2 gIxA (eV 4) (eC (.int 1))) aN)) (eC (.int 30))) aN) (env := [some (.int c1), some (.int c2), some (.lst (names.map .str)), some (.lst (ps.map pairD)), some (.lst (iD row)), some (.hdl m.length), some (.int (d0 % 8)), some q.enc, none, none]) (m := m ++ [.lst [.int (n2 : Int)]]) (m1 := m ++ [.lst [.int (n2 : Int)]]) (n := w) (by dsimp! only [i1, hw]) (by omega) ⟨q, n2, none, none, rfl, rfl, gq0⟩ (fun i e mm hi ⟨q', n', x8, x9, he, hm, gq'⟩ => by
        subst he hm
        obtain ⟨r, n3, kr, gr⟩ := (both_sp 60).1 (m ++ [.lst [.int (2 : Nat)]]) row hr h0 (by omega) m.length ha names hn ps hp 2 n' (by decide) (by decide) (by decide)
        obtain ⟨v, lv, kv⟩ := e_tk (m := m ++ [.lst [.int (2 : Nat)]]) hr h0 (by omega) ha (many := 2) (by decide) n3
        obtain ⟨u, lu, ku⟩ := e_tk (m := m ++ [.lst [.int (2 : Nat)]]) hr h0 (by omega) ha (many := 2) (by decide) (n3 + 1)
        rw [hap, hap] at kr kv ku
        simp only [nc2] at kr
        obtain ⟨wb, hwb, iwb⟩ := atI_pickm (xs := [WB.an, WB.or]) (enc := fun w => .str w.nm) (u : Int) (by omega) lu
        have iwb : L2.atI [D.str "and", .str "or"] (u : Int) = some (.str wb.nm) := iwb
        have gr2 : Gt (arP ps) (keysP ps) 2 12 r := gr.mono (by decide) (by decide)
        by_cases cv : (v : Int) = 1
        · refine ⟨_, rfl, [some (.int c1), some (.int c2), some (.lst (names.map .str)), some (.lst (ps.map pairD)), some (.lst (iD row)), some (.hdl m.length), some (.int (d0 % 8)), some (Q.bi .t wb q' r).enc, some (.int (i : Int)), some r.enc], m ++ [.lst [.int ((n3 + 1 + 1 : Nat) : Int)]], .inl ?_, _, _, _, _, rfl, rfl, (gq'.bi gr2).mono (by omega) (by omega)⟩
          dsimp! only [gN, kr, kv, eq_true cv, ku, iwb]
          rfl
        · refine ⟨_, rfl, [some (.int c1), some (.int c2), some (.lst (names.map .str)), some (.lst (ps.map pairD)), some (.lst (iD row)), some (.hdl m.length), some (.int (d0 % 8)), some (Q.bi .t wb r q').enc, some (.int (i : Int)), some r.enc], m ++ [.lst [.int ((n3 + 1 + 1 : Nat) : Int)]], .inl ?_, _, _, _, _, rfl, rfl, (gr2.bi gq').mono (by omega) (by omega)⟩
          dsimp! only [gN, kr, kv, cv, ku, iwb]
          rfl)
      refine ⟨q', run_ret (s := F_law_drawn) (d := q'.enc) (m' := m ++ [.lst [.int (n' : Int)]]) ?_ (fin q' n'), hq'.mono (by omega) (by omega)⟩
      unfold F_law_drawn
      refine seq_nx s0 (seq_nx s1 (seq_nx s2 (seq_nx s3 (seq_nx s4 ?_))))
      refine seq_nx (e' := [some (.int c1), some (.int c2), some (.lst (names.map .str)), some (.lst (ps.map pairD)), some (.lst (iD row)), some (.hdl m.length), some (.int (d0 % 8)), some q'.enc, x8, x9]) (m' := m ++ [.lst [.int (n' : Int)]]) ?_ ?_
      · dsimp! only [eq_true c8, hf]
      · dsimp! only [reduceCtorEq]
    · refine ⟨q, run_ret (s := F_law_drawn) (d := q.enc) (m' := m ++ [.lst [.int (n2 : Int)]]) ?_ (fin q n2), gq0.mono (by omega) (by omega)⟩
      unfold F_law_drawn
      refine seq_nx s0 (seq_nx s1 (seq_nx s2 (seq_nx s3 (seq_nx s4 ?_))))
      dsimp! only [c8]
end
end Kx
/-! texts put together; the written form of a tree -/
namespace DY
open PySem PySem.Spec PyProof.Rows L2
abbrev Sy (f : FE) (env : Sv) (m : Mem) (s : Str) : Prop := f env m = .ok (.str s) m
section
variable {f g : FE} {env : Sv} {m : Mem} {a b s : Str}
theorem sy_lit : Sy (eC (.str s)) env m s := rfl
theorem sy_cat (h : Sy f env m a) (k : Sy g env m b) (hl : a.length + b.length ≤ 99999) : Sy (e2 gAdd f g) env m (a ++ b) := by
  show e2 gAdd f g env m = _
  unfold e2
  rw [h]
  show (g env m).bind _ = _
  rw [k]
  show lift (gAdd m (.str a) (.str b)) m = _
  rw [add_str, if_pos hl]
  rfl
theorem sy_fmt (h : Sy f env m s) (hl : s.length ≤ 99999) : Sy (eFmt f) env m s := by
  show eFmt f env m = _
  unfold eFmt
  rw [h]
  exact if_pos hl
theorem sy_join {fe : FE} {d : D} {ys : List Str} {sep : Str} (h : fe env m = .ok d m) (hs : seqOf m d = some (ys.map .str)) (hl : (ys.map (·.length)).sum + ys.length * sep.length ≤ 99999) : Sy (eJoin (eC (.str sep)) fe) env m (Txt.join sep ys) := by
  show eJoin (eC (.str sep)) fe env m = _
  unfold eJoin
  show (fe env m).bind _ = _
  rw [h]
  show (match (seqOf m d).bind dStrs with
    | some ys => if (List.map (fun x : Str => x.length) ys).sum + List.length ys * sep.length ≤ 16777216 then Rs.ok (D.str (Txt.join sep ys)) m else .no
    | none => .no) = _
  rw [hs]
  show (match dStrs (ys.map .str) with
    | some ys => if (List.map (fun x : Str => x.length) ys).sum + List.length ys * sep.length ≤ 16777216 then Rs.ok (D.str (Txt.join sep ys)) m else .no
    | none => .no) = _
  rw [dStrs_map]
  exact if_pos (by omega)
theorem sy_js0 {acc : Str} : Sy (eJs [] acc) env m acc := rfl
theorem sy_js {fs : List FE} {acc out : Str} (h : Sy f env m s) (hl : acc.length + s.length ≤ 99999) (k : Sy (eJs fs (acc ++ s)) env m out) : Sy (eJs (f :: fs) acc) env m out := by
  show eJs (f :: fs) acc env m = _
  unfold eJs
  rw [h]
  show (if (acc ++ s).length ≤ big then eJs fs (acc ++ s) env m else .no) = _
  rw [if_pos (by rw [Str.length_append, big_eq]; exact hl)]
  exact k
end
theorem seq_mk2 {m : Mem} {k : Kd} {ds : List D} : seqOf m (mk k ds) = some ds := by cases k <;> rfl
theorem join_len (sep : Str) (ys : List Str) : (Txt.join sep ys).length ≤ (ys.map (·.length)).sum + ys.length * sep.length := by
  rw [TL.join_eq]
  exact StrLaws.join_length_le sep ys
end DY
namespace Kx
open PySem T DY
def Q.wraps : Q → Bool
  | .bi .. => true
  | .qu .. => true
  | .more .. => true
  | _ => false
/-- the written form -/
def Q.txt : Q → Str
  | .rel _ n _ vs => n ++ "(" ++ Txt.join ", " vs ++ ")"
  | .two _ .same a b => a ++ " = " ++ b
  | .two _ .before a b => a ++ " < " ++ b
  | .two _ .next a b => "next" ++ "(" ++ Txt.join ", " [a, b] ++ ")"
  | .one _ w a => w.nm ++ "(" ++ Txt.join ", " [a] ++ ")"
  | .nt _ q => "not " ++ (if q.wraps = true then "(" ++ q.txt ++ ")" else q.txt)
  | .bi _ w a b => (if a.wraps = true then "(" ++ a.txt ++ ")" else a.txt) ++ " " ++ w.nm ++ " " ++ (if b.wraps = true then "(" ++ b.txt ++ ")" else b.txt)
  | .qu _ w x q => w.nm ++ " " ++ x ++ ": " ++ q.txt
  | .more _ x a y b => "more " ++ x ++ ": (" ++ a.txt ++ ")" ++ " than " ++ y ++ ": (" ++ b.txt ++ ")"
  | .walk _ _ l _ r q _ s _ g => "walk [" ++ (Txt.join " " l ++ " -> " ++ Txt.join " " r ++ ": " ++ q.txt) ++ "] " ++ Txt.join " " s ++ " -> " ++ Txt.join " " g
def Q.wrp (q : Q) : Str := if q.wraps = true then "(" ++ q.txt ++ ")" else q.txt
theorem l_a : Str.length "(" = 1 := rfl
theorem l_b : Str.length ")" = 1 := rfl
theorem l_c : Str.length ", " = 2 := rfl
theorem l_d : Str.length " = " = 3 := rfl
theorem l_e : Str.length " < " = 3 := rfl
theorem l_f : Str.length "next" = 4 := rfl
theorem l_g : Str.length "not " = 4 := rfl
theorem l_h : Str.length " " = 1 := rfl
theorem l_i : Str.length ": " = 2 := rfl
theorem l_j : Str.length "more " = 5 := rfl
theorem l_k : Str.length ": (" = 3 := rfl
theorem l_l : Str.length " than " = 6 := rfl
theorem l_m : Str.length "walk [" = 6 := rfl
theorem l_n : Str.length " -> " = 4 := rfl
theorem l_o : Str.length "] " = 2 := rfl
theorem l_p : Str.length ") than " = 7 := rfl
theorem l_q : Str.empty.length = 0 := rfl
theorem w1_len (w : W1) : w.nm.length ≤ 5 := by cases w <;> decide
theorem wb_len (w : WB) : w.nm.length ≤ 3 := by cases w <;> decide
theorem wq_len (w : WQ) : w.nm.length ≤ 5 := by cases w <;> decide
theorem name_len {s : Str} (h : isName s = true) : s.length ≤ 12 := by
  unfold isName at h
  simp only [Bool.and_eq_true, decide_eq_true_eq] at h
  exact h.1.2
theorem names_sum {vs : List Str} (h : ∀ v ∈ vs, isName v = true) : (vs.map (·.length)).sum ≤ 12 * vs.length := by
  induction vs with
  | nil => exact Nat.le_refl _
  | cons v vs ih =>
    have h1 := name_len (h v List.mem_cons_self)
    have h2 := ih fun x hx => h x (List.mem_cons_of_mem _ hx)
    rw [List.map_cons, List.sum_cons, List.length_cons]
    omega
theorem wrp_len {q : Q} {n : Nat} (h : q.txt.length ≤ n) : q.wrp.length ≤ n + 2 := by
  unfold Q.wrp
  split
  · rw [str_app_len, str_app_len, l_a, l_b]; omega
  · omega
theorem txt_len {ar : Str → Nat} : ∀ (q : Q), q.Ok ar → q.txt.length ≤ 60 * q.wsz := by
  intro q
  induction q with
  | rel k n kv vs =>
    intro h
    have h1 := name_len h.1
    have h2 := names_sum h.2.1
    have h3 := h.2.2.2.2
    have h4 := join_len ", " vs
    rw [l_c] at h4
    simp only [Q.txt, Q.wsz, str_app_len, l_a, l_b]
    omega
  | two k w a b =>
    intro h
    have h1 := name_len h.1
    have h2 := name_len h.2
    cases w
    · simp only [Q.txt, Q.wsz, str_app_len, l_d]; omega
    · simp only [Q.txt, Q.wsz, str_app_len, l_e]; omega
    · have h4 := join_len ", " [a, b]
      rw [l_c] at h4
      simp only [List.map_cons, List.map_nil, List.sum_cons, List.sum_nil, List.length_cons, List.length_nil] at h4
      simp only [Q.txt, Q.wsz, str_app_len, l_a, l_b, l_f]; omega
  | one k w a =>
    intro h
    have h1 := name_len (s := a) h
    have h2 := w1_len w
    have h4 := join_len ", " [a]
    rw [l_c] at h4
    simp only [List.map_cons, List.map_nil, List.sum_cons, List.sum_nil, List.length_cons, List.length_nil] at h4
    simp only [Q.txt, Q.wsz, str_app_len, l_a, l_b]; omega
  | nt k q ih =>
    intro h
    have h1 := wrp_len (ih h)
    unfold Q.wrp at h1
    simp only [Q.txt, Q.wsz, str_app_len, l_g]
    omega
  | bi k w a b i1 i2 =>
    intro h
    have h1 := wrp_len (i1 h.1)
    have h2 := wrp_len (i2 h.2)
    have h3 := wb_len w
    unfold Q.wrp at h1 h2
    simp only [Q.txt, Q.wsz, str_app_len, l_h]
    omega
  | qu k w x q ih =>
    intro h
    have h1 := ih h.2
    have h2 := name_len h.1
    have h3 := wq_len w
    simp only [Q.txt, Q.wsz, str_app_len, l_h, l_i]
    omega
  | more k x a y b i1 i2 =>
    intro h
    have h1 := i1 h.2.1
    have h2 := i2 h.2.2.2
    have h3 := name_len h.1
    have h4 := name_len h.2.2.1
    simp only [Q.txt, Q.wsz, str_app_len, l_j, l_k, l_b, l_l]
    omega
  | walk k kl l kr r q ks s kg g ih =>
    intro h
    obtain ⟨h1, h2, h3, h4, h5, h6, h7, h8, h9, h10⟩ := h
    have i1 := ih h1
    have a1 := join_len " " l
    have a2 := join_len " " r
    have a3 := join_len " " s
    have a4 := join_len " " g
    have b1 := names_sum fun v hv => h7 v (List.mem_append_left _ hv)
    have b2 := names_sum fun v hv => h7 v (List.mem_append_right _ hv)
    have b3 := names_sum h8
    have b4 := names_sum h9
    rw [l_h] at a1 a2 a3 a4
    simp only [Q.txt, Q.wsz, str_app_len, l_m, l_n, l_i, l_o]
    omega
end Kx
/-! the program writes a tree -/
namespace Kx
open PySem T DY
theorem app3 (a b c : Str) : a ++ (b ++ c) = a ++ b ++ c := (PySem.Str.append_assoc a b c).symm
theorem emp (a : Str) : PySem.Str.empty ++ a = a := PySem.Str.empty_append a
section
variable {m : Mem}
/-- member k of what stands in slot 0 -/
theorem sy_ix {k : Kd} {ds : List D} {i : Int} {s : Str} {env : Sv} (h0 : env[0]? = some (some (mk k ds))) (hi : L2.atI ds i = some (.str s)) : Sy (e2 gIxA (eV 0) (eC (.int i))) env m s := by
  show e2 gIxA (eV 0) (eC (.int i)) env m = _
  unfold e2 eV
  rw [h0]
  show lift (gIxA m (mk k ds) (.int i)) m = _
  rw [ix_mkI, hi]
  rfl
theorem ix_names {k kv : Kd} {ds : List D} {i : Int} {vs : List Str} {env : Sv} (h0 : env[0]? = some (some (mk k ds))) (hi : L2.atI ds i = some (nms kv vs)) : e2 gIxA (eV 0) (eC (.int i)) env m = .ok (nms kv vs) m := by
  unfold e2 eV
  rw [h0]
  show lift (gIxA m (mk k ds) (.int i)) m = _
  rw [ix_mkI, hi]
  rfl
theorem ix_at {k : Kd} {ds : List D} {i : Int} {d : D} {env : Sv} (h0 : env[0]? = some (some (mk k ds))) (hi : L2.atI ds i = some d) : e2 gIxA (eV 0) (eC (.int i)) env m = .ok d m := by
  unfold e2 eV
  rw [h0]
  show lift (gIxA m (mk k ds) (.int i)) m = _
  rw [ix_mkI, hi]
  rfl
theorem sy_call {r : Fn} {f : FE} {d : D} {s : Str} {env : Sv} (h : f env m = .ok d m) (k : r [d] m = .ok (.str s) m) : Sy (eCall r (aC f aN)) env m s := by
  show eCall r (aC f aN) env m = _
  unfold eCall aC
  rw [h]
  exact k
theorem sy_v {i : Nat} {s : Str} {env : Sv} (h : env[i]? = some (some (.str s))) : Sy (eV i) env m s := by
  show eV i env m = _
  unfold eV
  rw [h]
theorem names_join {sep : Str} {vs : List Str} (h : ∀ v ∈ vs, isName v = true) (hl : vs.length ≤ 60) (hs : sep.length ≤ 2) : (vs.map (·.length)).sum + vs.length * sep.length ≤ 99999 := by
  have := names_sum h
  have : vs.length * sep.length ≤ vs.length * 2 := Nat.mul_le_mul_left _ hs
  omega
theorem join_le {sep : Str} {vs : List Str} (h : ∀ v ∈ vs, isName v = true) (hl : vs.length ≤ 60) (hs : sep.length ≤ 2) : (Txt.join sep vs).length ≤ 840 := by
  have h1 := join_len sep vs
  have h2 := names_sum h
  have : vs.length * sep.length ≤ vs.length * 2 := Nat.mul_le_mul_left _ hs
  omega
theorem e_write_atom {ar : Str → Nat} {q : Q} (h : q.Ok ar) (ha : decide (q.word ∈ (["rel", "same", "before", "next", "first", "last"] : List Str)) = true) : f_write_atom [q.enc] m = .ok (.str q.txt) m := by
  refine run_ret (s := F_write_atom) (d := .str q.txt) (m' := m) ?_ (exit_same rfl)
  unfold F_write_atom
  rcases q with ⟨k, n, kv, vs⟩ | ⟨k, w, a, b⟩ | ⟨k, w, a⟩ | _ | ⟨_, w, _, _⟩ | ⟨_, w, _, _⟩ | _ | _
  · have n1 := name_len h.1
    have j1 := join_le (sep := ", ") h.2.1 (by have := h.2.2.2.2; omega) (by decide)
    have e1' : Sy ((e2 gAdd (e2 gAdd (e2 gAdd (e2 gIxA (eV 0) (eC (.int 1))) (eC (.str "("))) (eJoin (eC (.str ", ")) (e2 gIxA (eV 0) (eC (.int 2))))) (eC (.str ")")))) [some (Q.rel k n kv vs).enc, some (.str "rel")] m (Q.rel k n kv vs).txt := sy_cat (sy_cat (sy_cat (sy_ix rfl ai1) sy_lit (by rw [l_a]; omega)) (sy_join (ix_names rfl ai2) seq_mk2 (names_join h.2.1 (by have := h.2.2.2.2; omega) (by decide))) (by simp only [str_app_len, l_a]; omega)) sy_lit (by simp only [str_app_len, l_a, l_b]; omega)
    generalize ((e2 gAdd (e2 gAdd (e2 gAdd (e2 gIxA (eV 0) (eC (.int 1))) (eC (.str "("))) (eJoin (eC (.str ", ")) (e2 gIxA (eV 0) (eC (.int 2))))) (eC (.str ")")))) = E at e1' ⊢
    simp only [Sy, Q.enc] at e1'
    dsimp! only [Q.enc, e1']
  · have n1 := name_len h.1
    have n2 := name_len h.2
    cases w with
    | same =>
      have e1' : Sy ((e2 gAdd (e2 gAdd (e2 gIxA (eV 0) (eC (.int 1))) (eC (.str " = "))) (e2 gIxA (eV 0) (eC (.int 2))))) [some (Q.two k .same a b).enc, some (.str "same")] m (Q.two k .same a b).txt := sy_cat (sy_cat (sy_ix rfl ai1) sy_lit (by rw [l_d]; omega)) (sy_ix rfl ai2) (by simp only [str_app_len, l_d]; omega)
      generalize ((e2 gAdd (e2 gAdd (e2 gIxA (eV 0) (eC (.int 1))) (eC (.str " = "))) (e2 gIxA (eV 0) (eC (.int 2))))) = E at e1' ⊢
      simp only [Sy, Q.enc, W2.nm] at e1'
      dsimp! only [Q.enc, W2.nm, e1']
    | before =>
      have e1' : Sy ((e2 gAdd (e2 gAdd (e2 gIxA (eV 0) (eC (.int 1))) (eC (.str " < "))) (e2 gIxA (eV 0) (eC (.int 2))))) [some (Q.two k .before a b).enc, some (.str "before")] m (Q.two k .before a b).txt := sy_cat (sy_cat (sy_ix rfl ai1) sy_lit (by rw [l_e]; omega)) (sy_ix rfl ai2) (by simp only [str_app_len, l_e]; omega)
      generalize ((e2 gAdd (e2 gAdd (e2 gIxA (eV 0) (eC (.int 1))) (eC (.str " < "))) (e2 gIxA (eV 0) (eC (.int 2))))) = E at e1' ⊢
      simp only [Sy, Q.enc, W2.nm] at e1'
      dsimp! only [Q.enc, W2.nm, e1']
    | next =>
      have hn : ∀ v ∈ [a, b], isName v = true := by
        intro v hv
        rcases List.mem_cons.mp hv with rfl | hv
        · exact h.1
        · rw [List.mem_singleton.mp hv]; exact h.2
      have j1 := join_le (sep := ", ") hn (by show 2 ≤ 60; decide) (by decide)
      have hsl : eSl (eV 0) (oS (eC (.int 1))) oN [some (Q.two k .next a b).enc, some (.str "next")] m = .ok (nms k [a, b]) m := by dsimp! only [Q.enc]; rfl
      have e1' : Sy ((e2 gAdd (e2 gAdd (e2 gAdd (eV 1) (eC (.str "("))) (eJoin (eC (.str ", ")) (eSl (eV 0) (oS (eC (.int 1))) oN))) (eC (.str ")")))) [some (Q.two k .next a b).enc, some (.str "next")] m (Q.two k .next a b).txt := sy_cat (sy_cat (sy_cat (sy_v rfl) sy_lit (by rw [l_a, l_f]; omega)) (sy_join hsl seq_mk2 (names_join hn (by show 2 ≤ 60; decide) (by decide))) (by simp only [str_app_len, l_a, l_f]; omega)) sy_lit (by simp only [str_app_len, l_a, l_b, l_f]; omega)
      generalize ((e2 gAdd (e2 gAdd (e2 gAdd (eV 1) (eC (.str "("))) (eJoin (eC (.str ", ")) (eSl (eV 0) (oS (eC (.int 1))) oN))) (eC (.str ")")))) = E at e1' ⊢
      simp only [Sy, Q.enc, W2.nm] at e1'
      dsimp! only [Q.enc, W2.nm, e1']
  · have n1 := name_len (s := a) h
    have n2 := w1_len w
    have hn : ∀ v ∈ [a], isName v = true := fun v hv => by rw [List.mem_singleton.mp hv]; exact h
    have j1 := join_le (sep := ", ") hn (by show 1 ≤ 60; decide) (by decide)
    have hsl : eSl (eV 0) (oS (eC (.int 1))) oN [some (Q.one k w a).enc, some (.str w.nm)] m = .ok (nms k [a]) m := by dsimp! only [Q.enc]; rfl
    have e1' : Sy ((e2 gAdd (e2 gAdd (e2 gAdd (eV 1) (eC (.str "("))) (eJoin (eC (.str ", ")) (eSl (eV 0) (oS (eC (.int 1))) oN))) (eC (.str ")")))) [some (Q.one k w a).enc, some (.str w.nm)] m (Q.one k w a).txt := sy_cat (sy_cat (sy_cat (sy_v rfl) sy_lit (by rw [l_a]; omega)) (sy_join hsl seq_mk2 (names_join hn (by show 1 ≤ 60; decide) (by decide))) (by simp only [str_app_len, l_a]; omega)) sy_lit (by simp only [str_app_len, l_a, l_b]; omega)
    generalize ((e2 gAdd (e2 gAdd (e2 gAdd (eV 1) (eC (.str "("))) (eJoin (eC (.str ", ")) (eSl (eV 0) (oS (eC (.int 1))) oN))) (eC (.str ")")))) = E at e1' ⊢
    simp only [Sy, Q.enc] at e1'
    cases w <;> (simp only [W1.nm] at e1'; dsimp! only [Q.enc, W1.nm, e1'])
  · exact nomatch ha
  · cases w <;> exact nomatch ha
  · cases w <;> exact nomatch ha
  · exact nomatch ha
  · exact nomatch ha
end
def Q.isAt : Q → Bool
  | .rel .. => true
  | .two .. => true
  | .one .. => true
  | _ => false
theorem word_at {m : Mem} (q : Q) : gInA false m (.str q.word) c_ATOMS = some (.bl q.isAt) := by
  have e : c_ATOMS = mk .t ((["rel", "same", "before", "next", "first", "last"] : List Str).map .str) := rfl
  rw [e, in_strs]
  rcases q with _ | ⟨_, w, _, _⟩ | ⟨_, w, _⟩ | _ | ⟨_, w, _, _⟩ | ⟨_, w, _, _⟩ | _ | _ <;> first | rfl | (cases w <;> rfl)
/-- a tree, a tree within another one, a walk -/
theorem e_write {ar : Str → Nat} : ∀ (b : Nat) (q : Q) (m : Mem), q.Ok ar → q.wsz ≤ 1000 → (2 * q.depth ≤ b → rec_write_walk b 1 [q.enc] m = .ok (.str q.txt) m) ∧ (2 * q.depth + 1 ≤ b → rec_write_walk b 2 [q.enc] m = .ok (.str q.wrp) m) ∧ (q.word = "walk" → 2 * q.depth - 1 ≤ b → rec_write_walk b 0 [q.enc] m = .ok (.str q.txt) m)
  | 0, q, m, _, _ => by
    have : 1 ≤ q.depth := by cases q <;> simp [Q.depth]
    exact ⟨fun h => by omega, fun h => by omega, fun _ h => by omega⟩
  | b + 1, q, m, ho, hz => by
    have ih := fun (q : Q) (m : Mem) => e_write (ar := ar) b q m
    have htl := txt_len q ho
    have hia := word_at (m := m) q
    refine ⟨fun hb => ?_, fun hb => ?_, fun hw hb => ?_⟩
    · show run 2 1 (F_write_tree (rec_write_walk b 0) (rec_write_walk b 1) (rec_write_walk b 2)) [q.enc] m = _
      refine run_ret (d := .str q.txt) (m' := m) ?_ (exit_same rfl)
      unfold F_write_tree
      cases q with
      | rel k n kv vs =>
        have ha := e_write_atom (m := m) ho rfl
        simp only [Q.enc] at ha
        simp only [Q.word, Q.isAt] at hia
        dsimp! only [Q.enc, hia, ha]
      | two k w a c =>
        cases w <;> (have ha := e_write_atom (m := m) ho rfl; simp only [Q.enc, W2.nm] at ha; simp only [Q.word, Q.isAt, W2.nm] at hia; dsimp! only [Q.enc, W2.nm, hia, ha])
      | one k w a =>
        cases w <;> (have ha := e_write_atom (m := m) ho rfl; simp only [Q.enc, W1.nm] at ha; simp only [Q.word, Q.isAt, W1.nm] at hia; dsimp! only [Q.enc, W1.nm, hia, ha])
      | nt k q =>
        simp only [Q.depth] at hb
        simp only [Q.wsz] at hz
        have l1 := wrp_len (txt_len q ho)
        have e' : Sy ((e2 gAdd (eC (.str "not ")) (eCall (rec_write_walk b 2) (aC (e2 gIxA (eV 0) (eC (.int 1))) aN)))) [some (Q.nt k q).enc, some (.str "not")] m ("not " ++ q.wrp) := sy_cat sy_lit (sy_call (ix_at rfl ai1) ((ih q m ho (by omega)).2.1 (by omega))) (by rw [l_g]; omega)
        have e' : Sy ((e2 gAdd (eC (.str "not ")) (eCall (rec_write_walk b 2) (aC (e2 gIxA (eV 0) (eC (.int 1))) aN)))) [some (Q.nt k q).enc, some (.str "not")] m (Q.nt k q).txt := e'
        generalize ((e2 gAdd (eC (.str "not ")) (eCall (rec_write_walk b 2) (aC (e2 gIxA (eV 0) (eC (.int 1))) aN)))) = E at e' ⊢
        simp only [Sy, Q.enc] at e'
        simp only [Q.word, Q.isAt] at hia
        dsimp! only [Q.enc, hia, e']
      | bi k w x y =>
        simp only [Q.depth] at hb
        simp only [Q.wsz] at hz
        have l1 := wrp_len (txt_len x ho.1)
        have l2 := wrp_len (txt_len y ho.2)
        have l3 := wb_len w
        have e' : Sy ((eJs [(eFmt (eCall (rec_write_walk b 2) (aC (e2 gIxA (eV 0) (eC (.int 1))) aN))), (eC (.str " ")), (eFmt (eV 1)), (eC (.str " ")), (eFmt (eCall (rec_write_walk b 2) (aC (e2 gIxA (eV 0) (eC (.int 2))) aN)))] PySem.Str.empty)) [some (Q.bi k w x y).enc, some (.str w.nm)] m (PySem.Str.empty ++ x.wrp ++ " " ++ w.nm ++ " " ++ y.wrp) := sy_js (sy_fmt (sy_call (ix_at rfl ai1) ((ih x m ho.1 (by omega)).2.1 (by omega))) (by omega)) (by rw [l_q]; omega) (sy_js sy_lit (by simp only [str_app_len, l_q, l_h]; omega) (sy_js (sy_fmt (sy_v rfl) (by omega)) (by simp only [str_app_len, l_q, l_h]; omega) (sy_js sy_lit (by simp only [str_app_len, l_q, l_h]; omega) (sy_js (sy_fmt (sy_call (ix_at rfl ai2) ((ih y m ho.2 (by omega)).2.1 (by omega))) (by omega)) (by simp only [str_app_len, l_q, l_h]; omega) sy_js0))))
        rw [emp] at e'
        have e' : Sy ((eJs [(eFmt (eCall (rec_write_walk b 2) (aC (e2 gIxA (eV 0) (eC (.int 1))) aN))), (eC (.str " ")), (eFmt (eV 1)), (eC (.str " ")), (eFmt (eCall (rec_write_walk b 2) (aC (e2 gIxA (eV 0) (eC (.int 2))) aN)))] PySem.Str.empty)) [some (Q.bi k w x y).enc, some (.str w.nm)] m (Q.bi k w x y).txt := e'
        generalize ((eJs [(eFmt (eCall (rec_write_walk b 2) (aC (e2 gIxA (eV 0) (eC (.int 1))) aN))), (eC (.str " ")), (eFmt (eV 1)), (eC (.str " ")), (eFmt (eCall (rec_write_walk b 2) (aC (e2 gIxA (eV 0) (eC (.int 2))) aN)))] PySem.Str.empty)) = E at e' ⊢
        simp only [Sy, Q.enc] at e'
        cases w <;> (simp only [WB.nm] at e'; simp only [Q.word, Q.isAt, WB.nm] at hia; dsimp! only [Q.enc, WB.nm, hia, e'])
      | qu k w x q =>
        simp only [Q.depth] at hb
        simp only [Q.wsz] at hz
        have l1 := txt_len q ho.2
        have l2 := name_len ho.1
        have l3 := wq_len w
        have e' : Sy ((eJs [(eFmt (eV 1)), (eC (.str " ")), (eFmt (e2 gIxA (eV 0) (eC (.int 1)))), (eC (.str ": ")), (eFmt (eCall (rec_write_walk b 1) (aC (e2 gIxA (eV 0) (eC (.int 2))) aN)))] PySem.Str.empty)) [some (Q.qu k w x q).enc, some (.str w.nm)] m (PySem.Str.empty ++ w.nm ++ " " ++ x ++ ": " ++ q.txt) := sy_js (sy_fmt (sy_v rfl) (by omega)) (by rw [l_q]; omega) (sy_js sy_lit (by simp only [str_app_len, l_q, l_h]; omega) (sy_js (sy_fmt (sy_ix rfl ai1) (by omega)) (by simp only [str_app_len, l_q, l_h]; omega) (sy_js sy_lit (by simp only [str_app_len, l_q, l_h, l_i]; omega) (sy_js (sy_fmt (sy_call (ix_at rfl ai2) ((ih q m ho.2 (by omega)).1 (by omega))) (by omega)) (by simp only [str_app_len, l_q, l_h, l_i]; omega) sy_js0))))
        rw [emp] at e'
        have e' : Sy ((eJs [(eFmt (eV 1)), (eC (.str " ")), (eFmt (e2 gIxA (eV 0) (eC (.int 1)))), (eC (.str ": ")), (eFmt (eCall (rec_write_walk b 1) (aC (e2 gIxA (eV 0) (eC (.int 2))) aN)))] PySem.Str.empty)) [some (Q.qu k w x q).enc, some (.str w.nm)] m (Q.qu k w x q).txt := e'
        generalize ((eJs [(eFmt (eV 1)), (eC (.str " ")), (eFmt (e2 gIxA (eV 0) (eC (.int 1)))), (eC (.str ": ")), (eFmt (eCall (rec_write_walk b 1) (aC (e2 gIxA (eV 0) (eC (.int 2))) aN)))] PySem.Str.empty)) = E at e' ⊢
        simp only [Sy, Q.enc] at e'
        cases w <;> (simp only [WQ.nm] at e'; simp only [Q.word, Q.isAt, WQ.nm] at hia; dsimp! only [Q.enc, WQ.nm, hia, e'])
      | more k x a y c =>
        simp only [Q.depth] at hb
        simp only [Q.wsz] at hz
        have l1 := txt_len a ho.2.1
        have l2 := txt_len c ho.2.2.2
        have l3 := name_len ho.1
        have l4 := name_len ho.2.2.1
        have e' : Sy ((eJs [(eC (.str "more ")), (eFmt (e2 gIxA (eV 0) (eC (.int 1)))), (eC (.str ": (")), (eFmt (eCall (rec_write_walk b 1) (aC (e2 gIxA (eV 0) (eC (.int 2))) aN))), (eC (.str ") than ")), (eFmt (e2 gIxA (eV 0) (eC (.int 3)))), (eC (.str ": (")), (eFmt (eCall (rec_write_walk b 1) (aC (e2 gIxA (eV 0) (eC (.int 4))) aN))), (eC (.str ")"))] PySem.Str.empty)) [some (Q.more k x a y c).enc, some (.str "more")] m (PySem.Str.empty ++ "more " ++ x ++ ": (" ++ a.txt ++ ") than " ++ y ++ ": (" ++ c.txt ++ ")") := sy_js sy_lit (by simp only [l_q, l_j]; omega) (sy_js (sy_fmt (sy_ix rfl ai1) (by omega)) (by simp only [str_app_len, l_q, l_j]; omega) (sy_js sy_lit (by simp only [str_app_len, l_q, l_j, l_k]; omega) (sy_js (sy_fmt (sy_call (ix_at rfl ai2) ((ih a m ho.2.1 (by omega)).1 (by omega))) (by omega)) (by simp only [str_app_len, l_q, l_j, l_k]; omega) (sy_js sy_lit (by simp only [str_app_len, l_q, l_j, l_k, l_p]; omega) (sy_js (sy_fmt (sy_ix rfl ai3) (by omega)) (by simp only [str_app_len, l_q, l_j, l_k, l_p]; omega) (sy_js sy_lit (by simp only [str_app_len, l_q, l_j, l_k, l_p]; omega) (sy_js (sy_fmt (sy_call (ix_at rfl ai4) ((ih c m ho.2.2.2 (by omega)).1 (by omega))) (by omega)) (by simp only [str_app_len, l_q, l_j, l_k, l_p]; omega) (sy_js sy_lit (by simp only [str_app_len, l_q, l_j, l_k, l_p, l_b]; omega) sy_js0))))))))
        have e' : Sy ((eJs [(eC (.str "more ")), (eFmt (e2 gIxA (eV 0) (eC (.int 1)))), (eC (.str ": (")), (eFmt (eCall (rec_write_walk b 1) (aC (e2 gIxA (eV 0) (eC (.int 2))) aN))), (eC (.str ") than ")), (eFmt (e2 gIxA (eV 0) (eC (.int 3)))), (eC (.str ": (")), (eFmt (eCall (rec_write_walk b 1) (aC (e2 gIxA (eV 0) (eC (.int 4))) aN))), (eC (.str ")"))] PySem.Str.empty)) [some (Q.more k x a y c).enc, some (.str "more")] m (Q.more k x a y c).txt := by
          rw [emp, show (") than " : Str) = ")" ++ " than " from rfl, app3] at e'
          exact e'
        generalize ((eJs [(eC (.str "more ")), (eFmt (e2 gIxA (eV 0) (eC (.int 1)))), (eC (.str ": (")), (eFmt (eCall (rec_write_walk b 1) (aC (e2 gIxA (eV 0) (eC (.int 2))) aN))), (eC (.str ") than ")), (eFmt (e2 gIxA (eV 0) (eC (.int 3)))), (eC (.str ": (")), (eFmt (eCall (rec_write_walk b 1) (aC (e2 gIxA (eV 0) (eC (.int 4))) aN))), (eC (.str ")"))] PySem.Str.empty)) = E at e' ⊢
        simp only [Sy, Q.enc] at e'
        simp only [Q.word, Q.isAt] at hia
        dsimp! only [Q.enc, hia, e']
      | walk k kl l kr r q ks s kg g =>
        have ha := (ih (.walk k kl l kr r q ks s kg g) m ho hz).2.2 rfl (by omega)
        simp only [Q.enc] at ha
        simp only [Q.word, Q.isAt] at hia
        dsimp! only [Q.enc, hia, ha]
    · show run 1 1 (F_write_within (rec_write_walk b 0) (rec_write_walk b 1) (rec_write_walk b 2)) [q.enc] m = _
      refine run_ret (d := .str q.wrp) (m' := m) ?_ (exit_same rfl)
      have ha := (ih q m ho hz).1 (by omega)
      have e' : Sy ((e2 gAdd (e2 gAdd (eC (.str "(")) (eCall (rec_write_walk b 1) (aC (eV 0) aN))) (eC (.str ")")))) [some q.enc] m ("(" ++ q.txt ++ ")") := sy_cat (sy_cat sy_lit (sy_call (d := q.enc) rfl ha) (by rw [l_a]; omega)) sy_lit (by simp only [str_app_len, l_a, l_b]; omega)
      unfold F_write_within
      generalize ((e2 gAdd (e2 gAdd (eC (.str "(")) (eCall (rec_write_walk b 1) (aC (eV 0) aN))) (eC (.str ")")))) = E at e' ⊢
      simp only [Sy] at e'
      cases q with
      | rel k n kv vs => simp only [Q.enc] at ha; simp only [Q.word, Q.isAt] at hia; dsimp! only [Q.enc, Q.wrp, Q.wraps, hia, ha]
      | two k w a c => cases w <;> (simp only [Q.enc, W2.nm] at ha; simp only [Q.word, Q.isAt, W2.nm] at hia; dsimp! only [Q.enc, W2.nm, Q.wrp, Q.wraps, hia, ha])
      | one k w a => cases w <;> (simp only [Q.enc, W1.nm] at ha; simp only [Q.word, Q.isAt, W1.nm] at hia; dsimp! only [Q.enc, W1.nm, Q.wrp, Q.wraps, hia, ha])
      | nt k q => simp only [Q.enc] at ha; simp only [Q.word, Q.isAt] at hia; dsimp! only [Q.enc, Q.wrp, Q.wraps, hia, ha]
      | walk k kl l kr r q ks s kg g => simp only [Q.enc] at ha; simp only [Q.word, Q.isAt] at hia; dsimp! only [Q.enc, Q.wrp, Q.wraps, hia, ha]
      | bi k w x y => cases w <;> (simp only [Q.enc, WB.nm] at e'; simp only [Q.word, Q.isAt, WB.nm] at hia; dsimp! only [Q.enc, WB.nm, Q.wrp, Q.wraps, hia, e'])
      | qu k w x q => cases w <;> (simp only [Q.enc, WQ.nm] at e'; simp only [Q.word, Q.isAt, WQ.nm] at hia; dsimp! only [Q.enc, WQ.nm, Q.wrp, Q.wraps, hia, e'])
      | more k x a y c => simp only [Q.enc] at e'; simp only [Q.word, Q.isAt] at hia; dsimp! only [Q.enc, Q.wrp, Q.wraps, hia, e']
    · cases q with
      | walk k kl l kr r q ks s kg g =>
        show run 6 1 (F_write_walk (rec_write_walk b 0) (rec_write_walk b 1) (rec_write_walk b 2)) [(Q.walk k kl l kr r q ks s kg g).enc] m = _
        refine run_ret (d := .str (Q.walk k kl l kr r q ks s kg g).txt) (m' := m) ?_ (exit_same rfl)
        simp only [Q.depth] at hb
        simp only [Q.wsz] at hz
        obtain ⟨h1, h2, h3, h4, h5, h6, h7, h8, h9, h10⟩ := ho
        have i1 := txt_len q h1
        have n1 : ∀ v ∈ l, isName v = true := fun v hv => h7 v (List.mem_append_left _ hv)
        have n2 : ∀ v ∈ r, isName v = true := fun v hv => h7 v (List.mem_append_right _ hv)
        have a1 := join_le (sep := " ") n1 (by omega) (by decide)
        have a2 := join_le (sep := " ") n2 (by omega) (by decide)
        have a3 := join_le (sep := " ") h8 (by omega) (by decide)
        have a4 := join_le (sep := " ") h9 (by omega) (by decide)
        have hj : ∀ (i : Int) (kv : Kd) (vs : List Str) (z1 z2 z3 z4 : Option D), L2.atI [.str "walk", nms kl l, nms kr r, q.enc, nms ks s, nms kg g] i = some (nms kv vs) → (∀ v ∈ vs, isName v = true) → vs.length ≤ 60 → eJoin (eC (.str " ")) (e2 gIxA (eV 0) (eV 5)) [some (Q.walk k kl l kr r q ks s kg g).enc, z1, z2, z3, z4, some (.int i)] m = .ok (.str (Txt.join " " vs)) m := by
          intro i kv vs z1 z2 z3 z4 hi hv hl
          refine sy_join (d := nms kv vs) ?_ seq_mk2 (names_join hv hl (by decide))
          show lift (gIxA m (mk k _) (.int i)) m = _
          rw [ix_mkI, hi]
          rfl
        have hc := lc_map (vs := [5]) (fi := iPl (eTup (aC (eC (.int 1)) (aC (eC (.int 2)) (aC (eC (.int 4)) (aC (eC (.int 5)) aN)))))) (g := gN 5) (t := cTrue) (f := eJoin (eC (.str " ")) (e2 gIxA (eV 0) (eV 5))) (env := [some (Q.walk k kl l kr r q ks s kg g).enc, none, none, none, none, none]) (m := m) (m1 := m) (xs := [((1 : Int), l), (2, r), (4, s), (5, g)]) (enc := fun p => .int p.1) (φ := fun p => .str (Txt.join " " p.2)) rfl (by show 4 ≤ 99999; decide) fun x hx => by
          refine ⟨_, rfl, rfl, ?_⟩
          simp only [List.mem_cons, List.not_mem_nil, or_false] at hx
          rcases hx with rfl | rfl | rfl | rfl
          · exact hj 1 kl l _ _ _ _ ai1 n1 (by omega)
          · exact hj 2 kr r _ _ _ _ ai2 n2 (by omega)
          · exact hj 4 ks s _ _ _ _ ai4 h8 (by omega)
          · exact hj 5 kg g _ _ _ _ ai5 h9 (by omega)
        have e' : Sy ((eJs [(eC (.str "walk [")), (eFmt (eV 1)), (eC (.str " -> ")), (eFmt (eV 2)), (eC (.str ": ")), (eFmt (eCall (rec_write_walk b 1) (aC (e2 gIxA (eV 0) (eC (.int 3))) aN))), (eC (.str "] ")), (eFmt (eV 3)), (eC (.str " -> ")), (eFmt (eV 4))] PySem.Str.empty)) [some (Q.walk k kl l kr r q ks s kg g).enc, some (.str (Txt.join " " l)), some (.str (Txt.join " " r)), some (.str (Txt.join " " s)), some (.str (Txt.join " " g)), none] m (PySem.Str.empty ++ "walk [" ++ Txt.join " " l ++ " -> " ++ Txt.join " " r ++ ": " ++ q.txt ++ "] " ++ Txt.join " " s ++ " -> " ++ Txt.join " " g) := by
          refine sy_js sy_lit (by simp only [l_q, l_m]; omega) (sy_js (sy_fmt (sy_v rfl) (by omega)) (by simp only [str_app_len, l_q, l_m]; omega) (sy_js sy_lit (by simp only [str_app_len, l_q, l_m, l_n]; omega) (sy_js (sy_fmt (sy_v rfl) (by omega)) (by simp only [str_app_len, l_q, l_m, l_n]; omega) (sy_js sy_lit (by simp only [str_app_len, l_q, l_m, l_n, l_i]; omega) (sy_js (sy_fmt (sy_call (ix_at rfl ai3) ((ih q m h1 (by omega)).1 (by omega))) (by omega)) (by simp only [str_app_len, l_q, l_m, l_n, l_i]; omega) (sy_js sy_lit (by simp only [str_app_len, l_q, l_m, l_n, l_i, l_o]; omega) (sy_js (sy_fmt (sy_v rfl) (by omega)) (by simp only [str_app_len, l_q, l_m, l_n, l_i, l_o]; omega) (sy_js sy_lit (by simp only [str_app_len, l_q, l_m, l_n, l_i, l_o]; omega) (sy_js (sy_fmt (sy_v rfl) (by omega)) (by simp only [str_app_len, l_q, l_m, l_n, l_i, l_o]; omega) sy_js0)))))))))
        have e' : Sy ((eJs [(eC (.str "walk [")), (eFmt (eV 1)), (eC (.str " -> ")), (eFmt (eV 2)), (eC (.str ": ")), (eFmt (eCall (rec_write_walk b 1) (aC (e2 gIxA (eV 0) (eC (.int 3))) aN))), (eC (.str "] ")), (eFmt (eV 3)), (eC (.str " -> ")), (eFmt (eV 4))] PySem.Str.empty)) [some (Q.walk k kl l kr r q ks s kg g).enc, some (.str (Txt.join " " l)), some (.str (Txt.join " " r)), some (.str (Txt.join " " s)), some (.str (Txt.join " " g)), none] m (Q.walk k kl l kr r q ks s kg g).txt := by
          rw [emp] at e'
          simp only [Q.txt, app3]
          exact e'
        unfold F_write_walk
        generalize ((eJs [(eC (.str "walk [")), (eFmt (eV 1)), (eC (.str " -> ")), (eFmt (eV 2)), (eC (.str ": ")), (eFmt (eCall (rec_write_walk b 1) (aC (e2 gIxA (eV 0) (eC (.int 3))) aN))), (eC (.str "] ")), (eFmt (eV 3)), (eC (.str " -> ")), (eFmt (eV 4))] PySem.Str.empty)) = E at e' ⊢
        simp only [Sy, Q.enc] at e'
        simp only [Q.enc, List.map_cons, List.map_nil] at hc
        dsimp! only [Q.enc, hc, e']
      | two k w a c => cases w <;> simp [Q.word, W2.nm, str_inj] at hw
      | one k w a => cases w <;> simp [Q.word, W1.nm, str_inj] at hw
      | bi k w a c => cases w <;> simp [Q.word, WB.nm, str_inj] at hw
      | qu k w a c => cases w <;> simp [Q.word, WQ.nm, str_inj] at hw
      | _ => simp [Q.word, str_inj] at hw
end Kx
/-! the law writes a tree -/
namespace Kx
open PySem T DY
/-- a tree's text, its text within another one -/
theorem e_text {ar : Str → Nat} : ∀ (b : Nat) (q : Q) (m : Mem), q.Ok ar → q.wsz ≤ 1000 → (2 * q.depth - 1 ≤ b → rec_law_text b 0 [q.enc] m = .ok (.str q.txt) m) ∧ (2 * q.depth ≤ b → rec_law_text b 1 [q.enc] m = .ok (.str q.wrp) m)
  | 0, q, m, _, _ => by
    have : 1 ≤ q.depth := by cases q <;> simp [Q.depth]
    exact ⟨fun h => by omega, fun h => by omega⟩
  | b + 1, q, m, ho, hz => by
    have ih := fun (q : Q) (m : Mem) => e_text (ar := ar) b q m
    have htl := txt_len q ho
    refine ⟨fun hb => ?_, fun hb => ?_⟩
    · show run 4 1 (F_law_text (rec_law_text b 0) (rec_law_text b 1)) [q.enc] m = _
      refine run_ret (d := .str q.txt) (m' := m) ?_ (exit_same rfl)
      unfold F_law_text
      cases q with
      | rel k n kv vs =>
        have n1 := name_len ho.1
        have j1 := join_le (sep := ", ") ho.2.1 (by have := ho.2.2.2.2; omega) (by decide)
        have e' : Sy ((e2 gAdd (e2 gAdd (e2 gAdd (e2 gIxA (eV 0) (eC (.int 1))) (eC (.str "("))) (eJoin (eC (.str ", ")) (e2 gIxA (eV 0) (eC (.int 2))))) (eC (.str ")")))) [some (Q.rel k n kv vs).enc, some (.str "rel"), none, none] m (Q.rel k n kv vs).txt := sy_cat (sy_cat (sy_cat (sy_ix rfl ai1) sy_lit (by rw [l_a]; omega)) (sy_join (ix_names rfl ai2) seq_mk2 (names_join ho.2.1 (by have := ho.2.2.2.2; omega) (by decide))) (by simp only [str_app_len, l_a]; omega)) sy_lit (by simp only [str_app_len, l_a, l_b]; omega)
        generalize ((e2 gAdd (e2 gAdd (e2 gAdd (e2 gIxA (eV 0) (eC (.int 1))) (eC (.str "("))) (eJoin (eC (.str ", ")) (e2 gIxA (eV 0) (eC (.int 2))))) (eC (.str ")")))) = E at e' ⊢
        simp only [Sy, Q.enc] at e'
        dsimp! only [Q.enc, e']
      | two k w a c =>
        have n1 := name_len ho.1
        have n2 := name_len ho.2
        cases w with
        | same =>
          have e' : Sy ((e2 gAdd (e2 gAdd (e2 gIxA (eV 0) (eC (.int 1))) (eC (.str " = "))) (e2 gIxA (eV 0) (eC (.int 2))))) [some (Q.two k .same a c).enc, some (.str "same"), none, none] m (Q.two k .same a c).txt := sy_cat (sy_cat (sy_ix rfl ai1) sy_lit (by rw [l_d]; omega)) (sy_ix rfl ai2) (by simp only [str_app_len, l_d]; omega)
          generalize ((e2 gAdd (e2 gAdd (e2 gIxA (eV 0) (eC (.int 1))) (eC (.str " = "))) (e2 gIxA (eV 0) (eC (.int 2))))) = E at e' ⊢
          simp only [Sy, Q.enc, W2.nm] at e'
          dsimp! only [Q.enc, W2.nm, e']
        | before =>
          have e' : Sy ((e2 gAdd (e2 gAdd (e2 gIxA (eV 0) (eC (.int 1))) (eC (.str " < "))) (e2 gIxA (eV 0) (eC (.int 2))))) [some (Q.two k .before a c).enc, some (.str "before"), none, none] m (Q.two k .before a c).txt := sy_cat (sy_cat (sy_ix rfl ai1) sy_lit (by rw [l_e]; omega)) (sy_ix rfl ai2) (by simp only [str_app_len, l_e]; omega)
          generalize ((e2 gAdd (e2 gAdd (e2 gIxA (eV 0) (eC (.int 1))) (eC (.str " < "))) (e2 gIxA (eV 0) (eC (.int 2))))) = E at e' ⊢
          simp only [Sy, Q.enc, W2.nm] at e'
          dsimp! only [Q.enc, W2.nm, e']
        | next =>
          have hn : ∀ v ∈ [a, c], isName v = true := by
            intro v hv
            rcases List.mem_cons.mp hv with rfl | hv
            · exact ho.1
            · rw [List.mem_singleton.mp hv]; exact ho.2
          have j1 := join_le (sep := ", ") hn (by show 2 ≤ 60; decide) (by decide)
          have hsl : eSl (eV 0) (oS (eC (.int 1))) oN [some (Q.two k .next a c).enc, some (.str "next"), none, none] m = .ok (nms k [a, c]) m := by dsimp! only [Q.enc]; rfl
          have e' : Sy ((e2 gAdd (e2 gAdd (e2 gAdd (eV 1) (eC (.str "("))) (eJoin (eC (.str ", ")) (eSl (eV 0) (oS (eC (.int 1))) oN))) (eC (.str ")")))) [some (Q.two k .next a c).enc, some (.str "next"), none, none] m (Q.two k .next a c).txt := sy_cat (sy_cat (sy_cat (sy_v rfl) sy_lit (by rw [l_a, l_f]; omega)) (sy_join hsl seq_mk2 (names_join hn (by show 2 ≤ 60; decide) (by decide))) (by simp only [str_app_len, l_a, l_f]; omega)) sy_lit (by simp only [str_app_len, l_a, l_b, l_f]; omega)
          generalize ((e2 gAdd (e2 gAdd (e2 gAdd (eV 1) (eC (.str "("))) (eJoin (eC (.str ", ")) (eSl (eV 0) (oS (eC (.int 1))) oN))) (eC (.str ")")))) = E at e' ⊢
          simp only [Sy, Q.enc, W2.nm] at e'
          dsimp! only [Q.enc, W2.nm, e']
      | one k w a =>
        have n1 := name_len (s := a) ho
        have n2 := w1_len w
        have hn : ∀ v ∈ [a], isName v = true := fun v hv => by rw [List.mem_singleton.mp hv]; exact ho
        have j1 := join_le (sep := ", ") hn (by show 1 ≤ 60; decide) (by decide)
        have hsl : eSl (eV 0) (oS (eC (.int 1))) oN [some (Q.one k w a).enc, some (.str w.nm), none, none] m = .ok (nms k [a]) m := by dsimp! only [Q.enc]; rfl
        have e' : Sy ((e2 gAdd (e2 gAdd (e2 gAdd (eV 1) (eC (.str "("))) (eJoin (eC (.str ", ")) (eSl (eV 0) (oS (eC (.int 1))) oN))) (eC (.str ")")))) [some (Q.one k w a).enc, some (.str w.nm), none, none] m (Q.one k w a).txt := sy_cat (sy_cat (sy_cat (sy_v rfl) sy_lit (by rw [l_a]; omega)) (sy_join hsl seq_mk2 (names_join hn (by show 1 ≤ 60; decide) (by decide))) (by simp only [str_app_len, l_a]; omega)) sy_lit (by simp only [str_app_len, l_a, l_b]; omega)
        generalize ((e2 gAdd (e2 gAdd (e2 gAdd (eV 1) (eC (.str "("))) (eJoin (eC (.str ", ")) (eSl (eV 0) (oS (eC (.int 1))) oN))) (eC (.str ")")))) = E at e' ⊢
        simp only [Sy, Q.enc] at e'
        cases w <;> (simp only [W1.nm] at e'; dsimp! only [Q.enc, W1.nm, e'])
      | nt k q =>
        simp only [Q.depth] at hb
        simp only [Q.wsz] at hz
        have l1 := wrp_len (txt_len q ho)
        have e' : Sy ((e2 gAdd (eC (.str "not ")) (eCall (rec_law_text b 1) (aC (e2 gIxA (eV 0) (eC (.int 1))) aN)))) [some (Q.nt k q).enc, some (.str "not"), none, none] m ("not " ++ q.wrp) := sy_cat sy_lit (sy_call (ix_at rfl ai1) ((ih q m ho (by omega)).2 (by omega))) (by rw [l_g]; omega)
        have e' : Sy ((e2 gAdd (eC (.str "not ")) (eCall (rec_law_text b 1) (aC (e2 gIxA (eV 0) (eC (.int 1))) aN)))) [some (Q.nt k q).enc, some (.str "not"), none, none] m (Q.nt k q).txt := e'
        generalize ((e2 gAdd (eC (.str "not ")) (eCall (rec_law_text b 1) (aC (e2 gIxA (eV 0) (eC (.int 1))) aN)))) = E at e' ⊢
        simp only [Sy, Q.enc] at e'
        dsimp! only [Q.enc, e']
      | bi k w x y =>
        simp only [Q.depth] at hb
        simp only [Q.wsz] at hz
        have l1 := wrp_len (txt_len x ho.1)
        have l2 := wrp_len (txt_len y ho.2)
        have l3 := wb_len w
        have e' : Sy ((e2 gAdd (e2 gAdd (e2 gAdd (e2 gAdd (eCall (rec_law_text b 1) (aC (e2 gIxA (eV 0) (eC (.int 1))) aN)) (eC (.str " "))) (eV 1)) (eC (.str " "))) (eCall (rec_law_text b 1) (aC (e2 gIxA (eV 0) (eC (.int 2))) aN)))) [some (Q.bi k w x y).enc, some (.str w.nm), none, none] m (x.wrp ++ " " ++ w.nm ++ " " ++ y.wrp) := sy_cat (sy_cat (sy_cat (sy_cat (sy_call (ix_at rfl ai1) ((ih x m ho.1 (by omega)).2 (by omega))) sy_lit (by rw [l_h]; omega)) (sy_v rfl) (by simp only [str_app_len, l_h]; omega)) sy_lit (by simp only [str_app_len, l_h]; omega)) (sy_call (ix_at rfl ai2) ((ih y m ho.2 (by omega)).2 (by omega))) (by simp only [str_app_len, l_h]; omega)
        have e' : Sy ((e2 gAdd (e2 gAdd (e2 gAdd (e2 gAdd (eCall (rec_law_text b 1) (aC (e2 gIxA (eV 0) (eC (.int 1))) aN)) (eC (.str " "))) (eV 1)) (eC (.str " "))) (eCall (rec_law_text b 1) (aC (e2 gIxA (eV 0) (eC (.int 2))) aN)))) [some (Q.bi k w x y).enc, some (.str w.nm), none, none] m (Q.bi k w x y).txt := e'
        generalize ((e2 gAdd (e2 gAdd (e2 gAdd (e2 gAdd (eCall (rec_law_text b 1) (aC (e2 gIxA (eV 0) (eC (.int 1))) aN)) (eC (.str " "))) (eV 1)) (eC (.str " "))) (eCall (rec_law_text b 1) (aC (e2 gIxA (eV 0) (eC (.int 2))) aN)))) = E at e' ⊢
        simp only [Sy, Q.enc] at e'
        cases w <;> (simp only [WB.nm] at e'; dsimp! only [Q.enc, WB.nm, e'])
      | qu k w x q =>
        simp only [Q.depth] at hb
        simp only [Q.wsz] at hz
        have l1 := txt_len q ho.2
        have l2 := name_len ho.1
        have l3 := wq_len w
        have e' : Sy ((e2 gAdd (e2 gAdd (e2 gAdd (e2 gAdd (eV 1) (eC (.str " "))) (e2 gIxA (eV 0) (eC (.int 1)))) (eC (.str ": "))) (eCall (rec_law_text b 0) (aC (e2 gIxA (eV 0) (eC (.int 2))) aN)))) [some (Q.qu k w x q).enc, some (.str w.nm), none, none] m (Q.qu k w x q).txt := sy_cat (sy_cat (sy_cat (sy_cat (sy_v rfl) sy_lit (by rw [l_h]; omega)) (sy_ix rfl ai1) (by simp only [str_app_len, l_h]; omega)) sy_lit (by simp only [str_app_len, l_h, l_i]; omega)) (sy_call (ix_at rfl ai2) ((ih q m ho.2 (by omega)).1 (by omega))) (by simp only [str_app_len, l_h, l_i]; omega)
        generalize ((e2 gAdd (e2 gAdd (e2 gAdd (e2 gAdd (eV 1) (eC (.str " "))) (e2 gIxA (eV 0) (eC (.int 1)))) (eC (.str ": "))) (eCall (rec_law_text b 0) (aC (e2 gIxA (eV 0) (eC (.int 2))) aN)))) = E at e' ⊢
        simp only [Sy, Q.enc] at e'
        cases w <;> (simp only [WQ.nm] at e'; dsimp! only [Q.enc, WQ.nm, e'])
      | more k x a y c =>
        simp only [Q.depth] at hb
        simp only [Q.wsz] at hz
        have l1 := txt_len a ho.2.1
        have l2 := txt_len c ho.2.2.2
        have l3 := name_len ho.1
        have l4 := name_len ho.2.2.1
        obtain ⟨one, hone⟩ : ∃ t : Str, t = "more " ++ x ++ ": (" ++ a.txt ++ ")" := ⟨_, rfl⟩
        have lone : one.length = 5 + x.length + 3 + a.txt.length + 1 := by rw [hone]; simp only [str_app_len, l_j, l_k, l_b]
        have e'' : Sy ((e2 gAdd (e2 gAdd (e2 gAdd (e2 gAdd (eC (.str "more ")) (e2 gIxA (eV 0) (eC (.int 1)))) (eC (.str ": ("))) (eCall (rec_law_text b 0) (aC (e2 gIxA (eV 0) (eC (.int 2))) aN))) (eC (.str ")")))) [some (Q.more k x a y c).enc, some (.str "more"), none, none] m one := hone ▸ sy_cat (sy_cat (sy_cat (sy_cat sy_lit (sy_ix rfl ai1) (by rw [l_j]; omega)) sy_lit (by simp only [str_app_len, l_j, l_k]; omega)) (sy_call (ix_at rfl ai2) ((ih a m ho.2.1 (by omega)).1 (by omega))) (by simp only [str_app_len, l_j, l_k]; omega)) sy_lit (by simp only [str_app_len, l_j, l_k, l_b]; omega)
        have e' : Sy ((e2 gAdd (e2 gAdd (e2 gAdd (e2 gAdd (e2 gAdd (eV 2) (eC (.str " than "))) (e2 gIxA (eV 0) (eC (.int 3)))) (eC (.str ": ("))) (eCall (rec_law_text b 0) (aC (e2 gIxA (eV 0) (eC (.int 4))) aN))) (eC (.str ")")))) [some (Q.more k x a y c).enc, some (.str "more"), some (.str one), none] m (one ++ " than " ++ y ++ ": (" ++ c.txt ++ ")") := sy_cat (sy_cat (sy_cat (sy_cat (sy_cat (sy_v rfl) sy_lit (by rw [l_l]; omega)) (sy_ix rfl ai3) (by simp only [str_app_len, l_l]; omega)) sy_lit (by simp only [str_app_len, l_l, l_k]; omega)) (sy_call (ix_at rfl ai4) ((ih c m ho.2.2.2 (by omega)).1 (by omega))) (by simp only [str_app_len, l_l, l_k]; omega)) sy_lit (by simp only [str_app_len, l_l, l_k, l_b]; omega)
        have e3 : one ++ " than " ++ y ++ ": (" ++ c.txt ++ ")" = (Q.more k x a y c).txt := by rw [hone]; rfl
        rw [e3] at e'
        generalize ((e2 gAdd (e2 gAdd (e2 gAdd (e2 gAdd (eC (.str "more ")) (e2 gIxA (eV 0) (eC (.int 1)))) (eC (.str ": ("))) (eCall (rec_law_text b 0) (aC (e2 gIxA (eV 0) (eC (.int 2))) aN))) (eC (.str ")")))) = D at e'' ⊢
        generalize ((e2 gAdd (e2 gAdd (e2 gAdd (e2 gAdd (e2 gAdd (eV 2) (eC (.str " than "))) (e2 gIxA (eV 0) (eC (.int 3)))) (eC (.str ": ("))) (eCall (rec_law_text b 0) (aC (e2 gIxA (eV 0) (eC (.int 4))) aN))) (eC (.str ")")))) = E at e' ⊢
        simp only [Sy, Q.enc] at e' e''
        dsimp! only [Q.enc, e'', e']
      | walk k kl l kr r q ks s kg g =>
        simp only [Q.depth] at hb
        simp only [Q.wsz] at hz
        obtain ⟨h1, h2, h3, h4, h5, h6, h7, h8, h9, h10⟩ := ho
        have i1 := txt_len q h1
        have n1 : ∀ v ∈ l, isName v = true := fun v hv => h7 v (List.mem_append_left _ hv)
        have n2 : ∀ v ∈ r, isName v = true := fun v hv => h7 v (List.mem_append_right _ hv)
        have a1 := join_le (sep := " ") n1 (by omega) (by decide)
        have a2 := join_le (sep := " ") n2 (by omega) (by decide)
        have a3 := join_le (sep := " ") h8 (by omega) (by decide)
        have a4 := join_le (sep := " ") h9 (by omega) (by decide)
        have hj : ∀ (e : Sv) (i : Int) (kv : Kd) (vs : List Str), e[0]? = some (some (Q.walk k kl l kr r q ks s kg g).enc) → L2.atI [.str "walk", nms kl l, nms kr r, q.enc, nms ks s, nms kg g] i = some (nms kv vs) → (∀ v ∈ vs, isName v = true) → vs.length ≤ 60 → Sy (eJoin (eC (.str " ")) (e2 gIxA (eV 0) (eC (.int i)))) e m (Txt.join " " vs) := fun e i kv vs he hi hv hl => sy_join (d := nms kv vs) (ix_names (k := k) he hi) seq_mk2 (names_join hv hl (by decide))
        obtain ⟨step, hstep⟩ : ∃ t : Str, t = Txt.join " " l ++ " -> " ++ Txt.join " " r ++ ": " ++ q.txt := ⟨_, rfl⟩
        have lstep : step.length = (Txt.join " " l).length + 4 + (Txt.join " " r).length + 2 + q.txt.length := by rw [hstep]; simp only [str_app_len, l_n, l_i]
        have e'' : Sy ((e2 gAdd (e2 gAdd (e2 gAdd (e2 gAdd (eJoin (eC (.str " ")) (e2 gIxA (eV 0) (eC (.int 1)))) (eC (.str " -> "))) (eJoin (eC (.str " ")) (e2 gIxA (eV 0) (eC (.int 2))))) (eC (.str ": "))) (eCall (rec_law_text b 0) (aC (e2 gIxA (eV 0) (eC (.int 3))) aN)))) [some (Q.walk k kl l kr r q ks s kg g).enc, some (.str "walk"), none, none] m step := hstep ▸ sy_cat (sy_cat (sy_cat (sy_cat (hj _ 1 kl l rfl ai1 n1 (by omega)) sy_lit (by rw [l_n]; omega)) (hj _ 2 kr r rfl ai2 n2 (by omega)) (by simp only [str_app_len, l_n]; omega)) sy_lit (by simp only [str_app_len, l_n, l_i]; omega)) (sy_call (ix_at rfl ai3) ((ih q m h1 (by omega)).1 (by omega))) (by simp only [str_app_len, l_n, l_i]; omega)
        have e' : Sy ((e2 gAdd (e2 gAdd (e2 gAdd (e2 gAdd (e2 gAdd (eC (.str "walk [")) (eV 3)) (eC (.str "] "))) (eJoin (eC (.str " ")) (e2 gIxA (eV 0) (eC (.int 4))))) (eC (.str " -> "))) (eJoin (eC (.str " ")) (e2 gIxA (eV 0) (eC (.int 5)))))) [some (Q.walk k kl l kr r q ks s kg g).enc, some (.str "walk"), none, some (.str step)] m ("walk [" ++ step ++ "] " ++ Txt.join " " s ++ " -> " ++ Txt.join " " g) := sy_cat (sy_cat (sy_cat (sy_cat (sy_cat sy_lit (sy_v rfl) (by rw [l_m]; omega)) sy_lit (by simp only [str_app_len, l_m, l_o]; omega)) (hj _ 4 ks s rfl ai4 h8 (by omega)) (by simp only [str_app_len, l_m, l_o]; omega)) sy_lit (by simp only [str_app_len, l_m, l_o, l_n]; omega)) (hj _ 5 kg g rfl ai5 h9 (by omega)) (by simp only [str_app_len, l_m, l_o, l_n]; omega)
        have e3 : "walk [" ++ step ++ "] " ++ Txt.join " " s ++ " -> " ++ Txt.join " " g = (Q.walk k kl l kr r q ks s kg g).txt := by rw [hstep]; rfl
        rw [e3] at e'
        generalize ((e2 gAdd (e2 gAdd (e2 gAdd (e2 gAdd (eJoin (eC (.str " ")) (e2 gIxA (eV 0) (eC (.int 1)))) (eC (.str " -> "))) (eJoin (eC (.str " ")) (e2 gIxA (eV 0) (eC (.int 2))))) (eC (.str ": "))) (eCall (rec_law_text b 0) (aC (e2 gIxA (eV 0) (eC (.int 3))) aN)))) = D at e'' ⊢
        generalize ((e2 gAdd (e2 gAdd (e2 gAdd (e2 gAdd (e2 gAdd (eC (.str "walk [")) (eV 3)) (eC (.str "] "))) (eJoin (eC (.str " ")) (e2 gIxA (eV 0) (eC (.int 4))))) (eC (.str " -> "))) (eJoin (eC (.str " ")) (e2 gIxA (eV 0) (eC (.int 5)))))) = E at e' ⊢
        simp only [Sy, Q.enc] at e' e''
        dsimp! only [Q.enc, e'', e']
    · show run 1 1 (F_law_wrapped (rec_law_text b 0) (rec_law_text b 1)) [q.enc] m = _
      refine run_ret (d := .str q.wrp) (m' := m) ?_ (exit_same rfl)
      have ha := (ih q m ho hz).1 (by omega)
      have e' : Sy ((e2 gAdd (e2 gAdd (eC (.str "(")) (eCall (rec_law_text b 0) (aC (eV 0) aN))) (eC (.str ")")))) [some q.enc] m ("(" ++ q.txt ++ ")") := sy_cat (sy_cat sy_lit (sy_call (d := q.enc) rfl ha) (by rw [l_a]; omega)) sy_lit (by simp only [str_app_len, l_a, l_b]; omega)
      unfold F_law_wrapped
      generalize ((e2 gAdd (e2 gAdd (eC (.str "(")) (eCall (rec_law_text b 0) (aC (eV 0) aN))) (eC (.str ")")))) = E at e' ⊢
      simp only [Sy] at e'
      cases q with
      | rel k n kv vs => simp only [Q.enc] at ha; dsimp! only [Q.enc, Q.wrp, Q.wraps, ha]
      | two k w a c => cases w <;> (simp only [Q.enc, W2.nm] at ha; dsimp! only [Q.enc, W2.nm, Q.wrp, Q.wraps, ha])
      | one k w a => cases w <;> (simp only [Q.enc, W1.nm] at ha; dsimp! only [Q.enc, W1.nm, Q.wrp, Q.wraps, ha])
      | nt k q => simp only [Q.enc] at ha; dsimp! only [Q.enc, Q.wrp, Q.wraps, ha]
      | walk k kl l kr r q ks s kg g => simp only [Q.enc] at ha; dsimp! only [Q.enc, Q.wrp, Q.wraps, ha]
      | bi k w x y => cases w <;> (simp only [Q.enc, WB.nm] at e'; dsimp! only [Q.enc, WB.nm, Q.wrp, Q.wraps, e'])
      | qu k w x q => cases w <;> (simp only [Q.enc, WQ.nm] at e'; dsimp! only [Q.enc, WQ.nm, Q.wrp, Q.wraps, e'])
      | more k x a y c => simp only [Q.enc] at e'; dsimp! only [Q.enc, Q.wrp, Q.wraps, e']
end Kx
/-! data, the same value of the same kinds -/
namespace DY
open PySem PySem.Spec PyProof.Rows L2
/-- data: numbers, texts, truths in lists and tuples -/
inductive Dat : Nat → D → Prop where
  | str {n : Nat} (s : Str) : Dat n (.str s)
  | int {n : Nat} (i : Int) : Dat n (.int i)
  | bl {n : Nat} (b : Bool) : Dat n (.bl b)
  | mk {n : Nat} (k : Kd) {ds : List D} : (∀ d ∈ ds, Dat n d) → ds.length ≤ 90000 → Dat (n + 1) (mk k ds)
theorem eq_bls {n : Bool} {m : Mem} {a b : Bool} : gEq n m (.bl a) (.bl b) = some (.bl (xor n (decide (a = b)))) := by
  unfold gEq eqM
  simp only [D.sv, scal, if_true, Option.map_some, V.bl.injEq]
theorem Dat.mono {n k : Nat} {d : D} (h : Dat n d) (hk : n ≤ k) : Dat k d := by
  induction h generalizing k with
  | str s => exact .str s
  | int i => exact .int i
  | bl b => exact .bl b
  | mk kd h hl ih =>
    obtain ⟨k, rfl⟩ : ∃ k', k = k' + 1 := ⟨k - 1, by omega⟩
    exact .mk kd (fun d hd => ih d hd (by omega)) hl
theorem dat_strs {n : Nat} {k : Kd} {vs : List Str} (h : vs.length ≤ 90000) : Dat (n + 1) (mk k (vs.map .str)) := .mk k (fun d hd => by
  obtain ⟨x, _, rfl⟩ := List.mem_map.mp hd
  exact .str x) (by rw [List.length_map]; exact h)
end DY
namespace Kx
open PySem T DY
theorem dat_q {ar : Str → Nat} (q : Q) (h : q.Ok ar) : Dat (q.depth + 1) q.enc := by
  induction q with
  | rel k n kv vs =>
    have hl := h.2.2.2.2
    refine .mk k (fun d hd => ?_) (by simp)
    simp only [List.mem_cons, List.not_mem_nil, or_false] at hd
    rcases hd with rfl | rfl | rfl
    · exact .str _
    · exact .str _
    · exact dat_strs (n := 0) (by omega)
  | two k w a b =>
    refine .mk k (fun d hd => ?_) (by simp)
    simp only [List.mem_cons, List.not_mem_nil, or_false] at hd
    rcases hd with rfl | rfl | rfl <;> exact .str _
  | one k w a =>
    refine .mk k (fun d hd => ?_) (by simp)
    simp only [List.mem_cons, List.not_mem_nil, or_false] at hd
    rcases hd with rfl | rfl <;> exact .str _
  | nt k q ih =>
    refine .mk k (fun d hd => ?_) (by simp)
    simp only [List.mem_cons, List.not_mem_nil, or_false] at hd
    rcases hd with rfl | rfl
    · exact .str _
    · exact ih h
  | bi k w a b i1 i2 =>
    refine .mk k (fun d hd => ?_) (by simp)
    simp only [List.mem_cons, List.not_mem_nil, or_false] at hd
    rcases hd with rfl | rfl | rfl
    · exact .str _
    · exact (i1 h.1).mono (by simp only [Q.depth]; omega)
    · exact (i2 h.2).mono (by simp only [Q.depth]; omega)
  | qu k w x q ih =>
    refine .mk k (fun d hd => ?_) (by simp)
    simp only [List.mem_cons, List.not_mem_nil, or_false] at hd
    rcases hd with rfl | rfl | rfl
    · exact .str _
    · exact .str _
    · exact ih h.2
  | more k x a y b i1 i2 =>
    refine .mk k (fun d hd => ?_) (by simp)
    simp only [List.mem_cons, List.not_mem_nil, or_false] at hd
    rcases hd with rfl | rfl | rfl | rfl | rfl
    · exact .str _
    · exact .str _
    · exact (i1 h.2.1).mono (by simp only [Q.depth]; omega)
    · exact .str _
    · exact (i2 h.2.2.2).mono (by simp only [Q.depth]; omega)
  | walk k kl l kr r q ks s kg g ih =>
    obtain ⟨h1, h2, h3, h4, h5, h6, _⟩ := h
    refine .mk k (fun d hd => ?_) (by simp)
    simp only [List.mem_cons, List.not_mem_nil, or_false] at hd
    rcases hd with rfl | rfl | rfl | rfl | rfl | rfl
    · exact .str _
    · exact dat_strs (k := kl) (vs := l) (n := q.depth) (by omega)
    · exact dat_strs (k := kr) (vs := r) (n := q.depth) (by omega)
    · exact ih h1
    · exact dat_strs (k := ks) (vs := s) (n := q.depth) (by omega)
    · exact dat_strs (k := kg) (vs := g) (n := q.depth) (by omega)
theorem e_alike : ∀ (b n : Nat) (d : D) (m : Mem), Dat n d → n + 1 ≤ b → rec_law_alike b 0 [d, d] m = .ok (.bl true) m
  | 0, n, d, m, _, h => by omega
  | b + 1, n, d, m, hd, h => by
    show run 3 2 (F_law_alike (rec_law_alike b 0)) _ _ = _
    refine run_ret ?_ (exit_same rfl)
    unfold F_law_alike
    cases hd with
    | str s => dsimp! only [reduceCtorEq, eq_bls, Bool.or_false, Bool.or_true, Bool.false_or, Bool.true_or]
    | int i => dsimp! only [reduceCtorEq, eq_bls, Bool.or_false, Bool.or_true, Bool.false_or, Bool.true_or]
    | bl x => dsimp! only [reduceCtorEq, eq_bls, Bool.or_false, Bool.or_true, Bool.false_or, Bool.true_or]
    | @mk n' k ds hds hl =>
      have hf : ∀ d0 : D, ∃ x', sFor (iR1 (aC (eB gLen (aC (eV 1) aN)) aN)) (gN 2) (sIf (tNo (tB' (eCall (rec_law_alike b 0) (aC (e2 gIxA (eV 0) (eV 2)) (aC (e2 gIxA (eV 1) (eV 2)) aN))))) (sRet (eC (.bl false))) sNx) [some (mk k ds), some (mk k ds), none] m = .nx [some (mk k ds), some (mk k ds), x'] m := by
        intro _
        obtain ⟨e', m', hf, x, rfl, rfl⟩ := for_rng (I := fun i e mm => ∃ x : Option D, e = [some (mk k ds), some (mk k ds), x] ∧ m = mm) (g := gN 2) (body := sIf (tNo (tB' (eCall (rec_law_alike b 0) (aC (e2 gIxA (eV 0) (eV 2)) (aC (e2 gIxA (eV 1) (eV 2)) aN))))) (sRet (eC (.bl false))) sNx) (fa := aC (eB gLen (aC (eV 1) aN)) aN) (env := [some (mk k ds), some (mk k ds), none]) (m := m) (m1 := m) (n := ds.length) (by dsimp! only [reduceCtorEq]) (by omega) ⟨none, rfl, rfl⟩ (fun i e mm hi ⟨x, h1, h2⟩ => by
          subst h1 h2
          have hix : L2.atI ds (i : Int) = some ds[i] := by rw [atI_nat i hi, List.getElem?_eq_getElem hi]
          have ih := e_alike b n' ds[i] m (hds _ (List.getElem_mem hi)) (by omega)
          refine ⟨_, rfl, [some (mk k ds), some (mk k ds), some (.int (i : Int))], m, .inl ?_, _, rfl, rfl⟩
          dsimp! only [gN, hix, ih])
        exact ⟨x, hf⟩
      obtain ⟨x', hf⟩ := hf .non
      cases k
      · simp only [mk] at hf
        dsimp! only [mk, reduceCtorEq, eq_bls, Bool.or_false, Bool.or_true, Bool.false_or, Bool.true_or, hf]
      · simp only [mk] at hf
        dsimp! only [mk, reduceCtorEq, eq_bls, Bool.or_false, Bool.or_true, Bool.false_or, Bool.true_or, hf]
end Kx
/-! laid in tuples: what stays -/
namespace Kx
open PySem T DY
theorem tup_tup (q : Q) : q.tup.tup = q.tup := by induction q <;> simp only [Q.tup, *]
theorem tup_free (q : Q) : q.tup.free = q.free := by induction q <;> simp only [Q.tup, Q.free, *]
theorem tup_depth (q : Q) : q.tup.depth = q.depth := by induction q <;> simp only [Q.tup, Q.depth, *]
theorem tup_size (q : Q) : q.tup.size = q.size := by induction q <;> simp only [Q.tup, Q.size, *]
theorem tup_ok {ar : Str → Nat} (q : Q) : q.tup.Ok ar ↔ q.Ok ar := by induction q <;> simp only [Q.tup, Q.Ok, *]
theorem tup_subs (q : Q) : q.tup.subs = q.subs.map Q.tup := by induction q <;> simp only [Q.tup, Q.subs, List.map_cons, List.map_append, List.map_nil, *]
theorem any_tup {p : Q → Bool} (hp : ∀ q : Q, p q.tup = p q) (q : Q) : q.tup.subs.any p = q.subs.any p := by
  rw [tup_subs, List.any_map]
  congr 1
  funext x
  exact hp x
theorem tup_bare (q : Q) : q.tup.bare = q.bare := by
  unfold Q.bare
  rw [any_tup fun q => by cases q <;> rfl]
theorem tup_ord (q : Q) : q.tup.ord = q.ord := by
  unfold Q.ord
  rw [any_tup fun q => by rcases q with _ | ⟨_, w, _, _⟩ | _ | _ | _ | _ | _ | _ <;> first | rfl | (cases w <;> rfl)]
theorem tup_keys (q : Q) : q.tup.keys = q.keys := by
  unfold Q.keys
  rw [tup_subs, List.filter_map, List.map_map]
  have e1 : Q.isRel ∘ Q.tup = Q.isRel := by funext q; cases q <;> rfl
  have e2 : Q.key ∘ Q.tup = Q.key := by funext q; cases q <;> rfl
  rw [e1, e2]
theorem tup_quD (q : Q) : quD q.tup = quD q := by
  unfold quD Q.uses tenc
  rw [tup_tup, tup_free, tup_keys, tup_bare, tup_ord]
theorem quD_tup {q p : Q} (h : q.tup = p.tup) : quD q = quD p := by rw [← tup_quD q, h, tup_quD]
end Kx
/-! tuples and lists by turns -/
namespace DY
open PySem PySem.Spec PyProof.Rows L2
inductive All2 {α β : Type} (R : α → β → Prop) : List α → List β → Prop where
  | nil : All2 R [] []
  | cons {a : α} {b : β} {as : List α} {bs : List β} : R a b → All2 R as bs → All2 R (a :: as) (b :: bs)
theorem All2.snoc {α β : Type} {R : α → β → Prop} {as : List α} {bs : List β} {a : α} {b : β} (h : All2 R as bs) (k : R a b) : All2 R (as ++ [a]) (bs ++ [b]) := by
  induction h with
  | nil => exact .cons k .nil
  | cons h _ ih => exact .cons h ih
theorem All2.len {α β : Type} {R : α → β → Prop} {as : List α} {bs : List β} (h : All2 R as bs) : as.length = bs.length := by
  induction h with
  | nil => rfl
  | cons h _ ih => exact congrArg (· + 1) ih
/-- the same but for the kinds of its sequences -/
inductive Mix : D → D → Prop where
  | str (s : Str) : Mix (.str s) (.str s)
  | int (i : Int) : Mix (.int i) (.int i)
  | bl (b : Bool) : Mix (.bl b) (.bl b)
  | l (k : Kd) {ds es : List D} : All2 Mix ds es → Mix (.lst ds) (mk k es)
  | t (k : Kd) {ds es : List D} : All2 Mix ds es → Mix (.tup ds) (mk k es)
theorem Mix.mk {k : Kd} (k' : Kd) {ds es : List D} (h : All2 Mix ds es) : Mix (mk k ds) (mk k' es) := by
  cases k
  · exact .t k' h
  · exact .l k' h
theorem mix_mk {k : Kd} {ds : List D} {d : D} (h : Mix (DY.mk k ds) d) : ∃ k' es, d = DY.mk k' es ∧ All2 Mix ds es := by
  cases k
  · cases h with
    | t k' h => exact ⟨k', _, rfl, h⟩
  · cases h with
    | l k' h => exact ⟨k', _, rfl, h⟩
theorem mix_str {s : Str} {d : D} (h : Mix (.str s) d) : d = .str s := by cases h; rfl
theorem mix_strs : ∀ {vs : List Str} {es : List D}, All2 Mix (vs.map .str) es → es = vs.map .str
  | [], _, h => by cases h; rfl
  | v :: vs, _, h => by
    cases h with
    | cons h1 h2 => rw [mix_str h1, mix_strs h2]; rfl
end DY
namespace Kx
open PySem T DY
theorem mix_nms {k : Kd} {vs : List Str} {d : D} (hh : Mix (nms k vs) d) : ∃ k', d = nms k' vs := by
  obtain ⟨k', es, rfl, h⟩ := mix_mk hh
  exact ⟨k', by rw [mix_strs h]⟩
theorem mix_q : ∀ (q : Q) (d : D), Mix q.enc d → ∃ q' : Q, d = q'.enc ∧ q'.tup = q.tup := by
  intro q
  induction q with
  | rel k n kv vs =>
    intro d hh
    obtain ⟨k', es, rfl, h⟩ := mix_mk hh
    cases h with | cons h1 h => cases h with | cons h2 h => cases h with | cons h3 h => cases h with | nil =>
    obtain ⟨k3, rfl⟩ := mix_nms h3
    rw [mix_str h1, mix_str h2]
    exact ⟨.rel k' n k3 vs, rfl, rfl⟩
  | two k w a b =>
    intro d hh
    obtain ⟨k', es, rfl, h⟩ := mix_mk hh
    cases h with | cons h1 h => cases h with | cons h2 h => cases h with | cons h3 h => cases h with | nil =>
    rw [mix_str h1, mix_str h2, mix_str h3]
    exact ⟨.two k' w a b, rfl, rfl⟩
  | one k w a =>
    intro d hh
    obtain ⟨k', es, rfl, h⟩ := mix_mk hh
    cases h with | cons h1 h => cases h with | cons h2 h => cases h with | nil =>
    rw [mix_str h1, mix_str h2]
    exact ⟨.one k' w a, rfl, rfl⟩
  | nt k q ih =>
    intro d hh
    obtain ⟨k', es, rfl, h⟩ := mix_mk hh
    cases h with | cons h1 h => cases h with | cons h2 h => cases h with | nil =>
    obtain ⟨q', rfl, e⟩ := ih _ h2
    rw [mix_str h1]
    exact ⟨.nt k' q', rfl, by simp only [Q.tup, e]⟩
  | bi k w a b i1 i2 =>
    intro d hh
    obtain ⟨k', es, rfl, h⟩ := mix_mk hh
    cases h with | cons h1 h => cases h with | cons h2 h => cases h with | cons h3 h => cases h with | nil =>
    obtain ⟨q1, rfl, e1'⟩ := i1 _ h2
    obtain ⟨q2, rfl, e2'⟩ := i2 _ h3
    rw [mix_str h1]
    exact ⟨.bi k' w q1 q2, rfl, by simp only [Q.tup, e1', e2']⟩
  | qu k w x q ih =>
    intro d hh
    obtain ⟨k', es, rfl, h⟩ := mix_mk hh
    cases h with | cons h1 h => cases h with | cons h2 h => cases h with | cons h3 h => cases h with | nil =>
    obtain ⟨q', rfl, e⟩ := ih _ h3
    rw [mix_str h1, mix_str h2]
    exact ⟨.qu k' w x q', rfl, by simp only [Q.tup, e]⟩
  | more k x a y b i1 i2 =>
    intro d hh
    obtain ⟨k', es, rfl, h⟩ := mix_mk hh
    cases h with | cons h1 h => cases h with | cons h2 h => cases h with | cons h3 h => cases h with | cons h4 h => cases h with | cons h5 h => cases h with | nil =>
    obtain ⟨q1, rfl, e1'⟩ := i1 _ h3
    obtain ⟨q2, rfl, e2'⟩ := i2 _ h5
    rw [mix_str h1, mix_str h2, mix_str h4]
    exact ⟨.more k' x q1 y q2, rfl, by simp only [Q.tup, e1', e2']⟩
  | walk k kl l kr r q ks s kg g ih =>
    intro d hh
    obtain ⟨k', es, rfl, h⟩ := mix_mk hh
    cases h with | cons h1 h => cases h with | cons h2 h => cases h with | cons h3 h => cases h with | cons h4 h => cases h with | cons h5 h => cases h with | cons h6 h => cases h with | nil =>
    obtain ⟨k2, rfl⟩ := mix_nms h2
    obtain ⟨k3, rfl⟩ := mix_nms h3
    obtain ⟨q', rfl, e⟩ := ih _ h4
    obtain ⟨k5, rfl⟩ := mix_nms h5
    obtain ⟨k6, rfl⟩ := mix_nms h6
    rw [mix_str h1]
    exact ⟨.walk k' k2 l k3 r q' k5 s k6 g, rfl, by simp only [Q.tup, e]⟩
section
variable {m : Mem}
theorem e_mixed {row : List Int} (hr : Dig 60 row) (h0 : row ≠ []) (hl : row.length < 90000) {a : Nat} (ha : a < m.length) : ∀ (b n : Nat) (d : D) (k : Nat), Dat n d → n + 1 ≤ b → ∃ (d' : D) (k' : Nat), rec_law_mixed b 0 [d, .lst (iD row), .hdl a] (mA m a k) = .ok d' (mA m a k') ∧ Mix d d'
  | 0, n, d, k, _, h => by omega
  | b + 1, n, d, k, hd, h => by
    show ∃ (d' : D) (k' : Nat), run 5 3 (F_law_mixed (rec_law_mixed b 0)) [d, .lst (iD row), .hdl a] (mA m a k) = .ok d' (mA m a k') ∧ Mix d d'
    cases hd with
    | str s => exact ⟨_, k, run_ret (s := F_law_mixed (rec_law_mixed b 0)) (d := .str s) (m' := mA m a k) (by unfold F_law_mixed; dsimp! only [reduceCtorEq]) (exit_same rfl), .str s⟩
    | int s => exact ⟨_, k, run_ret (s := F_law_mixed (rec_law_mixed b 0)) (d := .int s) (m' := mA m a k) (by unfold F_law_mixed; dsimp! only [reduceCtorEq]) (exit_same rfl), .int s⟩
    | bl s => exact ⟨_, k, run_ret (s := F_law_mixed (rec_law_mixed b 0)) (d := .bl s) (m' := mA m a k) (by unfold F_law_mixed; dsimp! only [reduceCtorEq, Bool.or_self]) (exit_same rfl), .bl s⟩
    | @mk n' kd ds hds hlen =>
      obtain ⟨m', out, hc, k', rfl, hall⟩ := lc_st (I := fun i mm acc => ∃ k' : Nat, mm = mA m a k' ∧ All2 Mix (ds.take i) acc) (vs := [4]) (fi := iPl (eV 0)) (g := gN 4) (t := cTrue) (f := eCall (rec_law_mixed b 0) (aC (eV 4) (aC (eV 1) (aC (eV 2) aN)))) (env := [some (DY.mk kd ds), some (.lst (iD row)), some (.hdl a), none, none]) (m := mA m a k) (m1 := mA m a k) (ds := ds) (ipl_mk rfl) (by omega) ⟨k, rfl, .nil⟩ (fun i d mm acc hdi ⟨k1, h1, h2⟩ => by
        subst h1
        obtain ⟨hi, rfl⟩ := List.getElem?_eq_some_iff.mp hdi
        obtain ⟨d', k2, h3, h4⟩ := e_mixed hr h0 hl ha b n' ds[i] k1 (hds _ (List.getElem_mem hi)) (by omega)
        refine ⟨_, rfl, true, _, rfl, .inr ⟨rfl, d', mA m a k2, h3, k2, rfl, ?_⟩⟩
        rw [List.take_add_one, hdi]
        exact h2.snoc h4)
      rw [List.take_of_length_le (Nat.le_refl _)] at hall
      obtain ⟨v, lv, kv⟩ := e_tk hr h0 hl ha (many := 2) (by decide) k'
      by_cases c : (v : Int) = 1
      · refine ⟨.lst out, k' + 1, run_ret (s := F_law_mixed (rec_law_mixed b 0)) (d := .lst out) (m' := mA m a (k' + 1)) ?_ (exit_same mA_same), Mix.mk .l hall⟩
        unfold F_law_mixed
        cases kd <;> (simp only [DY.mk] at hc; dsimp! only [DY.mk, reduceCtorEq, hc, kv, eq_true c])
      · refine ⟨.tup out, k' + 1, run_ret (s := F_law_mixed (rec_law_mixed b 0)) (d := .tup out) (m' := mA m a (k' + 1)) ?_ (exit_same mA_same), Mix.mk .t hall⟩
        unfold F_law_mixed
        cases kd <;> (simp only [DY.mk] at hc; dsimp! only [DY.mk, reduceCtorEq, hc, kv, c])
/-- a tree, told by tuples and lists -/
theorem e_mix {ar : Str → Nat} {q : Q} (h : q.Ok ar) {row : List Int} (hr : Dig 60 row) (h0 : row ≠ []) (hl : row.length < 90000) {a : Nat} (ha : a < m.length) {b : Nat} (hb : q.depth + 2 ≤ b) (k : Nat) : ∃ (q' : Q) (k' : Nat), rec_law_mixed b 0 [q.enc, .lst (iD row), .hdl a] (mA m a k) = .ok q'.enc (mA m a k') ∧ q'.tup = q.tup := by
  obtain ⟨d, k', h1, h2⟩ := e_mixed hr h0 hl ha b _ _ k (dat_q q h) (by omega)
  obtain ⟨q', rfl, e⟩ := mix_q q _ h2
  exact ⟨q', k', h1, e⟩
end
end Kx
/-! how many trees stand in a tree -/
namespace Kx
open PySem T DY
theorem e_size : ∀ (b : Nat) (q : Q) (m : Mem), q.depth ≤ b → rec_law_size b 0 [q.enc] m = .ok (.int (q.size : Nat)) m
  | 0, q, m, h => by cases q <;> simp [Q.depth] at h
  | b + 1, q, m, h => by
    have ih := fun (q : Q) (h : q.depth ≤ b) (m : Mem) => e_size b q m h
    show run 2 1 (F_law_size (rec_law_size b 0)) [q.enc] m = _
    refine run_ret ?_ (exit_same rfl)
    unfold F_law_size
    cases q with
    | rel k n kv vs => dsimp! only [Q.enc, Q.size]
    | two k w x y => cases w <;> dsimp! only [Q.enc, Q.size, W2.nm]
    | one k w x => cases w <;> dsimp! only [Q.enc, Q.size, W1.nm]
    | nt k q =>
      simp only [Q.depth] at h
      dsimp! only [Q.enc, Q.size, ih q (by omega), show (1 : Int) + ((q.size : Nat) : Int) = ((q.size + 1 : Nat) : Int) by omega]
    | bi k w x y =>
      simp only [Q.depth] at h
      cases w <;> dsimp! only [Q.enc, Q.size, WB.nm, ih x (by omega), ih y (by omega), show (1 : Int) + ((x.size : Nat) : Int) + ((y.size : Nat) : Int) = ((x.size + y.size + 1 : Nat) : Int) by omega]
    | qu k w x q =>
      simp only [Q.depth] at h
      cases w <;> dsimp! only [Q.enc, Q.size, WQ.nm, ih q (by omega), show (1 : Int) + ((q.size : Nat) : Int) = ((q.size + 1 : Nat) : Int) by omega]
    | more k x a y c =>
      simp only [Q.depth] at h
      dsimp! only [Q.enc, Q.size, ih a (by omega), ih c (by omega), show (1 : Int) + ((a.size : Nat) : Int) + ((c.size : Nat) : Int) = ((a.size + c.size + 1 : Nat) : Int) by omega]
    | walk k kl l kr r q ks s kg g =>
      simp only [Q.depth] at h
      dsimp! only [Q.enc, Q.size, ih q (by omega), show (1 : Int) + ((q.size : Nat) : Int) = ((q.size + 1 : Nat) : Int) by omega]
end Kx
/-! the parts of a drawn tree -/
namespace Kx
open PySem T DY
abbrev Gs (ar : Str → Nat) (K : List (List L2.Key)) (q : Q) : Prop := Gt ar K q.depth q.wsz q
section
variable {ar : Str → Nat} {K : List (List L2.Key)}
theorem Gt.gs {d s : Nat} {q : Q} (h : Gt ar K d s q) : Gs ar K q := ⟨h.ok, h.tup, Nat.le_refl _, Nat.le_refl _, h.key⟩
theorem gs_nt {k : Kd} {q : Q} (h : Gs ar K (.nt k q)) : k = .t ∧ Gs ar K q := by
  obtain ⟨h1, h2, _, _, h5⟩ := h
  injection h2 with e1 e2
  exact ⟨e1.symm, h1, e2, Nat.le_refl _, Nat.le_refl _, fun x hx => h5 x (by rw [keys_nt]; exact hx)⟩
theorem gs_bi {k : Kd} {w : WB} {a b : Q} (h : Gs ar K (.bi k w a b)) : k = .t ∧ Gs ar K a ∧ Gs ar K b := by
  obtain ⟨h1, h2, _, _, h5⟩ := h
  injection h2 with e1 e2 e3 e4
  exact ⟨e1.symm, ⟨h1.1, e3, Nat.le_refl _, Nat.le_refl _, fun x hx => h5 x (by rw [keys_bi]; exact List.mem_append_left _ hx)⟩, ⟨h1.2, e4, Nat.le_refl _, Nat.le_refl _, fun x hx => h5 x (by rw [keys_bi]; exact List.mem_append_right _ hx)⟩⟩
theorem gs_qu {k : Kd} {w : WQ} {x : Str} {q : Q} (h : Gs ar K (.qu k w x q)) : k = .t ∧ isName x = true ∧ Gs ar K q := by
  obtain ⟨h1, h2, _, _, h5⟩ := h
  injection h2 with e1 e2 e3 e4
  exact ⟨e1.symm, h1.1, h1.2, e4, Nat.le_refl _, Nat.le_refl _, fun x hx => h5 x (by rw [keys_qu]; exact hx)⟩
theorem gs_more {k : Kd} {x y : Str} {a b : Q} (h : Gs ar K (.more k x a y b)) : k = .t ∧ isName x = true ∧ isName y = true ∧ Gs ar K a ∧ Gs ar K b := by
  obtain ⟨h1, h2, _, _, h5⟩ := h
  injection h2 with e1 e2 e3 e4 e5
  exact ⟨e1.symm, h1.1, h1.2.2.1, ⟨h1.2.1, e3, Nat.le_refl _, Nat.le_refl _, fun x hx => h5 x (by rw [keys_more]; exact List.mem_append_left _ hx)⟩, ⟨h1.2.2.2, e5, Nat.le_refl _, Nat.le_refl _, fun x hx => h5 x (by rw [keys_more]; exact List.mem_append_right _ hx)⟩⟩
theorem gs_walk {k kl kr ks kg : Kd} {l r s g : List Str} {q : Q} (h : Gs ar K (.walk k kl l kr r q ks s kg g)) : (k = .t ∧ kl = .t ∧ kr = .t ∧ ks = .t ∧ kg = .t) ∧ Gs ar K q ∧ (1 ≤ l.length ∧ l.length ≤ 60 ∧ r.length = l.length ∧ s.length = l.length ∧ g.length = l.length ∧ (∀ v ∈ l ++ r, isName v = true) ∧ (∀ v ∈ s, isName v = true) ∧ (∀ v ∈ g, isName v = true) ∧ (l ++ r).Nodup) := by
  obtain ⟨h1, h2, _, _, h5⟩ := h
  injection h2 with e1 e2 e3 e4 e5 e6 e7 e8 e9 e10
  exact ⟨⟨e1.symm, e2.symm, e4.symm, e7.symm, e9.symm⟩, ⟨h1.1, e6, Nat.le_refl _, Nat.le_refl _, fun x hx => h5 x (by rw [keys_walk]; exact hx)⟩, h1.2⟩
theorem gs_walk_mk {l r s g : List Str} {q : Q} {d t : Nat} (h : Gt ar K d t q) (hw : 1 ≤ l.length ∧ l.length ≤ 60 ∧ r.length = l.length ∧ s.length = l.length ∧ g.length = l.length ∧ (∀ v ∈ l ++ r, isName v = true) ∧ (∀ v ∈ s, isName v = true) ∧ (∀ v ∈ g, isName v = true) ∧ (l ++ r).Nodup) : Gt ar K (d + 1) (t + 1 + l.length) (.walk .t .t l .t r q .t s .t g) := by
  obtain ⟨h1, h2, h3, h4, h5, h6, h7, h8, h9⟩ := hw
  exact h.walk h1 h2 h3 h4 h5 h6 h7 h8 h9
end
end Kx
/-! a tree changed in one part (k08, k11, k13) -/
namespace DY
open PySem PySem.Spec PyProof.Rows L2
theorem cut_drop {ds : List D} {k : Nat} (h : k ≤ ds.length) : cutD ds (some (k : Int)) none = ds.drop k := by
  unfold cutD
  rw [HT.sIx_none, HT.sIx_nat, Nat.min_eq_left h]
  rw [List.take_of_length_le (by rw [List.length_drop]; exact Nat.le_refl _)]
end DY
namespace Kx
open PySem T DY
section
variable {m : Mem} {ar : Str → Nat} {K : List (List L2.Key)}
theorem gs_rel {k kv : Kd} {n : Str} {vs : List Str} (h : Gs ar K (.rel k n kv vs)) : k = .t ∧ kv = .t ∧ isName n = true ∧ (∀ v ∈ vs, isName v = true) ∧ vs.length = ar n ∧ 1 ≤ vs.length ∧ vs.length ≤ 3 ∧ [.inr n, .inl (vs.length : Nat)] ∈ K := by
  obtain ⟨h1, h2, _, _, h5⟩ := h
  injection h2 with e1 e2 e3 e4
  obtain ⟨o1, o2, o3, o4, o5⟩ := h1
  exact ⟨e1.symm, e3.symm, o1, o2, o3, o4, o5, h5 _ (by show _ ∈ [_]; exact List.mem_singleton.mpr rfl)⟩
theorem gs_two {k : Kd} {w : W2} {a b : Str} (h : Gs ar K (.two k w a b)) : k = .t ∧ isName a = true ∧ isName b = true := by
  obtain ⟨h1, h2, _, _, h5⟩ := h
  injection h2 with e1 e2 e3 e4
  exact ⟨e1.symm, h1.1, h1.2⟩
theorem gs_one {k : Kd} {w : W1} {a : Str} (h : Gs ar K (.one k w a)) : k = .t ∧ isName a = true := by
  obtain ⟨h1, h2, _, _, h5⟩ := h
  injection h2 with e1 e2 e3
  exact ⟨e1.symm, h1⟩
theorem e_changed {row : List Int} (hr : Dig 60 row) (hl : row.length = 5) {names : List Str} (hp : Pool names) (hn : names.length = 6) {q : Q} (gq : Gs ar K q) : ∃ q' : Q, f_law_changed [q.enc, .lst (iD row), .lst (names.map .str)] m = .ok q'.enc m ∧ Gt ar K (q.depth + 1) (q.wsz + 2) q' := by
  obtain ⟨d2, i2, a2, b2⟩ := dig_at hr 2 (by decide) (by omega)
  obtain ⟨d3, i3, a3, b3⟩ := dig_at hr 3 (by decide) (by omega)
  obtain ⟨d4, i4, a4, b4⟩ := dig_at hr 4 (by decide) (by omega)
  have pick : ∀ i : Int, L2.atI (names.map D.str) (i % 6) = some (.str (nmAt names (i % 6).toNat)) ∧ nmAt names (i % 6).toNat ∈ names := fun i => by
    have h0 := em_nonneg i (j := 6) (by decide)
    have h1 := em_lt i (j := 6) (by decide)
    have := nmAt_at (xs := names) (i := (i % 6).toNat) (by omega)
    rw [Int.toNat_of_nonneg h0] at this
    exact this
  obtain ⟨j1, m1⟩ := pick d3
  have n1 := hp.name m1
  generalize nmAt names (d3 % 6).toNat = x at *
  have ret : ∀ q' : Q, (F_law_changed (start0 9 [q.enc, .lst (iD row), .lst (names.map .str)]) m = .rt q'.enc m) → Gt ar K (q.depth + 1) (q.wsz + 2) q' → ∃ q' : Q, f_law_changed [q.enc, .lst (iD row), .lst (names.map .str)] m = .ok q'.enc m ∧ Gt ar K (q.depth + 1) (q.wsz + 2) q' := fun q' h g => ⟨q', run_ret (s := F_law_changed) h (exit_same rfl), g⟩
  have hnl : ((names.length : Nat) : Int) = 6 := by omega
  have hk0 := em_nonneg d2 (j := 4) (by decide)
  have hk1 := em_lt d2 (j := 4) (by decide)
  obtain ⟨κ, hκ⟩ : ∃ κ : Nat, d2 % 4 = (κ : Int) := ⟨(d2 % 4).toNat, by omega⟩
  have hκ4 : κ = 0 ∨ κ = 1 ∨ κ = 2 ∨ κ = 3 := by omega
  rcases hκ4 with hk | hk | hk | hk
  · subst hk
    exact ret q (by unfold F_law_changed; dsimp! only [enc_word, i2, i3, List.length_map, hnl, j1, hκ]) (gq.mono (by omega) (by omega))
  · cases q with
    | rel k n kv vs =>
      obtain ⟨rfl, rfl, o1, o2, o3, o4, o5, o6⟩ := gs_rel gq
      have hp0 := em_nonneg d4 (j := (vs.length : Nat)) (by omega)
      have hp1 := em_lt d4 (j := (vs.length : Nat)) (by omega)
      obtain ⟨p, hp⟩ : ∃ p : Nat, d4 % (vs.length : Nat) = (p : Int) := ⟨(d4 % (vs.length : Nat)).toNat, by omega⟩
      have hpl : p < vs.length := by omega
      have hvl : (vs.take p ++ [x] ++ vs.drop (p + 1)).length = vs.length := by
        simp only [List.length_append, List.length_take, List.length_drop, List.length_singleton]
        omega
      have hc1 : cutD (vs.map D.str) none (some (p : Int)) = (vs.take p).map .str := by rw [cut_take, List.map_take]
      have hc2 : cutD (vs.map D.str) (some ((p : Int) + 1)) none = (vs.drop (p + 1)).map .str := by
        rw [show ((p : Int) + 1) = ((p + 1 : Nat) : Int) by omega, cut_drop (by rw [List.length_map]; omega), List.map_drop]
      have lt1 : (vs.take p).length ≤ 3 := by rw [List.length_take]; omega
      have lt2 : (vs.drop (p + 1)).length ≤ 3 := by rw [List.length_drop]; omega
      have hA1 : gAdd m (DY.mk .t ((vs.take p).map .str)) (.tup [.str x]) = some (DY.mk .t ((vs.take p ++ [x]).map .str)) := by
        rw [show D.tup [.str x] = DY.mk .t [.str x] from rfl, add_mk, if_pos (by simp only [List.length_map, List.length_singleton]; omega), List.map_append]
        rfl
      have hA2 : gAdd m (DY.mk .t ((vs.take p ++ [x]).map .str)) (DY.mk .t ((vs.drop (p + 1)).map .str)) = some (DY.mk .t ((vs.take p ++ [x] ++ vs.drop (p + 1)).map .str)) := by
        rw [add_mk, if_pos (by simp only [List.length_map, List.length_append, List.length_singleton]; omega), List.map_append (l₁ := vs.take p ++ [x])]
      refine ret (.rel .t n .t (vs.take p ++ [x] ++ vs.drop (p + 1))) ?_ ((gt_rel o1 (fun v hv => ?_) (hvl.trans o3) (by omega) (by omega) (by rw [hvl]; exact o6)).mono (by simp only [Q.depth]; omega) (by simp only [Q.wsz]; omega))
      · subst hk
        unfold F_law_changed
        dsimp! only [Q.enc, i2, i3, i4, hnl, j1, hκ, List.length_map, hp, show (0 : Int) < ((vs.length : Nat) : Int) by omega, hc1, hc2, hA1, hA2]
        rfl
      · rcases List.mem_append.mp hv with hv | hv
        · rcases List.mem_append.mp hv with hv | hv
          · exact o2 v (List.mem_of_mem_take hv)
          · rw [List.mem_singleton.mp hv]; exact n1
        · exact o2 v (List.mem_of_mem_drop hv)
    | two k w a b =>
      obtain ⟨rfl, o1, o2⟩ := gs_two gq
      obtain ⟨w', hw', iw'⟩ := atI_pickm (xs := [W2.same, W2.before, W2.next]) (enc := fun w => .str w.nm) (d4 % 3) (em_nonneg d4 (by decide)) (em_lt d4 (by decide))
      have iw' : L2.atI [D.str "same", .str "before", .str "next"] (d4 % 3) = some (.str w'.nm) := iw'
      have fin : ∀ q' : Q, Gt ar K 1 1 q' → Gt ar K ((Q.two .t w a b).depth + 1) ((Q.two .t w a b).wsz + 2) q' := fun q' g => g.mono (by simp only [Q.depth]; omega) (by simp only [Q.wsz]; omega)
      subst hk
      exact ret (.two .t w' a b) (by unfold F_law_changed; cases w <;> (dsimp! only [Q.enc, W2.nm, i2, i3, i4, List.length_map, hnl, j1, hκ, iw']; rfl)) (fin _ (gt_two o1 o2))
    | one k w a =>
      obtain ⟨rfl, o1⟩ := gs_one gq
      have fin : ∀ q' : Q, Gt ar K 1 1 q' → Gt ar K ((Q.one .t w a).depth + 1) ((Q.one .t w a).wsz + 2) q' := fun q' g => g.mono (by simp only [Q.depth]; omega) (by simp only [Q.wsz]; omega)
      subst hk
      exact ret (.one .t w x) (by unfold F_law_changed; cases w <;> (dsimp! only [Q.enc, W1.nm, i2, i3, i4, List.length_map, hnl, j1, hκ]; rfl)) (fin _ (gt_one n1))
    | nt k q =>
      obtain ⟨rfl, g1⟩ := gs_nt gq
      subst hk
      exact ret (.nt .t (.nt .t q)) (by unfold F_law_changed; dsimp! only [Q.enc, i2, i3, i4, List.length_map, hnl, j1, hκ]; rfl) (gq.nt.mono (by simp only [Q.depth]; omega) (by simp only [Q.wsz]; omega))
    | bi k w a b =>
      obtain ⟨rfl, g1, g2⟩ := gs_bi gq
      subst hk
      exact ret (.bi .t (match w with | .an => .or | .or => .an) a b) (by unfold F_law_changed; cases w <;> (dsimp! only [Q.enc, WB.nm, i2, i3, i4, List.length_map, hnl, j1, hκ]; rfl)) ((g1.bi g2).mono (by simp only [Q.depth]; omega) (by simp only [Q.wsz]; omega))
    | qu k w y q =>
      obtain ⟨rfl, o1, g1⟩ := gs_qu gq
      subst hk
      exact ret (.qu .t w x q) (by unfold F_law_changed; cases w <;> (dsimp! only [Q.enc, WQ.nm, i2, i3, i4, List.length_map, hnl, j1, hκ]; rfl)) ((g1.qu n1).mono (by simp only [Q.depth]; omega) (by simp only [Q.wsz]; omega))
    | more k y a z b =>
      obtain ⟨rfl, o1, o2, g1, g2⟩ := gs_more gq
      subst hk
      exact ret (.more .t z b y a) (by unfold F_law_changed; dsimp! only [Q.enc, i2, i3, i4, List.length_map, hnl, j1, hκ]; rfl) ((g2.more g1 o2 o1).mono (by simp only [Q.depth]; omega) (by simp only [Q.wsz]; omega))
    | walk k kl l kr r q ks s kg g =>
      obtain ⟨⟨rfl, rfl, rfl, rfl, rfl⟩, g1, w1, w2, w3, w4, w5, w6, w7, w8, w9⟩ := gs_walk gq
      obtain ⟨s0, s', rfl⟩ : ∃ s0 s', s = s0 :: s' := by
        cases s with
        | nil => exact absurd w4 (by simp only [List.length_nil]; omega)
        | cons a b => exact ⟨a, b, rfl⟩
      have hcs : cutD (((s0 :: s').map D.str)) (some 1) none = s'.map .str := cut1
      have hA : gAdd m (.tup [.str x]) (nms .t s') = some (nms .t (x :: s')) := by
        rw [show D.tup [.str x] = DY.mk .t [.str x] from rfl, show nms .t s' = DY.mk .t (s'.map .str) from rfl, add_mk, if_pos (by rw [List.length_cons] at w4; simp only [List.length_map, List.length_singleton]; omega)]
        rfl
      subst hk
      exact ret (.walk .t .t r .t l q .t (s0 :: s') .t g) (by unfold F_law_changed; dsimp! only [Q.enc, i2, i3, i4, List.length_map, hnl, j1, hκ]; rfl) ((g1.walk (by omega) (by omega) (by omega) (by omega) (by omega) (fun v hv => w6 v (List.mem_append.mpr (List.mem_append.mp hv).symm)) w7 w8 (List.perm_append_comm.nodup_iff.mp w9)).mono (by simp only [Q.depth]; omega) (by simp only [Q.wsz]; omega))
  · cases q with
    | rel k n kv vs =>
      obtain ⟨rfl, rfl, o1, o2, o3, o4, o5, o6⟩ := gs_rel gq
      have hp0 := em_nonneg d4 (j := (vs.length : Nat)) (by omega)
      have hp1 := em_lt d4 (j := (vs.length : Nat)) (by omega)
      obtain ⟨p, hp⟩ : ∃ p : Nat, d4 % (vs.length : Nat) = (p : Int) := ⟨(d4 % (vs.length : Nat)).toNat, by omega⟩
      have hpl : p < vs.length := by omega
      have hvl : (vs.take p ++ [x] ++ vs.drop (p + 1)).length = vs.length := by
        simp only [List.length_append, List.length_take, List.length_drop, List.length_singleton]
        omega
      have hc1 : cutD (vs.map D.str) none (some (p : Int)) = (vs.take p).map .str := by rw [cut_take, List.map_take]
      have hc2 : cutD (vs.map D.str) (some ((p : Int) + 1)) none = (vs.drop (p + 1)).map .str := by
        rw [show ((p : Int) + 1) = ((p + 1 : Nat) : Int) by omega, cut_drop (by rw [List.length_map]; omega), List.map_drop]
      have lt1 : (vs.take p).length ≤ 3 := by rw [List.length_take]; omega
      have lt2 : (vs.drop (p + 1)).length ≤ 3 := by rw [List.length_drop]; omega
      have hA1 : gAdd m (DY.mk .t ((vs.take p).map .str)) (.tup [.str x]) = some (DY.mk .t ((vs.take p ++ [x]).map .str)) := by
        rw [show D.tup [.str x] = DY.mk .t [.str x] from rfl, add_mk, if_pos (by simp only [List.length_map, List.length_singleton]; omega), List.map_append]
        rfl
      have hA2 : gAdd m (DY.mk .t ((vs.take p ++ [x]).map .str)) (DY.mk .t ((vs.drop (p + 1)).map .str)) = some (DY.mk .t ((vs.take p ++ [x] ++ vs.drop (p + 1)).map .str)) := by
        rw [add_mk, if_pos (by simp only [List.length_map, List.length_append, List.length_singleton]; omega), List.map_append (l₁ := vs.take p ++ [x])]
      refine ret (.rel .t n .t (vs.take p ++ [x] ++ vs.drop (p + 1))) ?_ ((gt_rel o1 (fun v hv => ?_) (hvl.trans o3) (by omega) (by omega) (by rw [hvl]; exact o6)).mono (by simp only [Q.depth]; omega) (by simp only [Q.wsz]; omega))
      · subst hk
        unfold F_law_changed
        dsimp! only [Q.enc, i2, i3, i4, hnl, j1, hκ, List.length_map, hp, show (0 : Int) < ((vs.length : Nat) : Int) by omega, hc1, hc2, hA1, hA2]
        rfl
      · rcases List.mem_append.mp hv with hv | hv
        · rcases List.mem_append.mp hv with hv | hv
          · exact o2 v (List.mem_of_mem_take hv)
          · rw [List.mem_singleton.mp hv]; exact n1
        · exact o2 v (List.mem_of_mem_drop hv)
    | two k w a b =>
      obtain ⟨rfl, o1, o2⟩ := gs_two gq
      obtain ⟨w', hw', iw'⟩ := atI_pickm (xs := [W2.same, W2.before, W2.next]) (enc := fun w => .str w.nm) (d4 % 3) (em_nonneg d4 (by decide)) (em_lt d4 (by decide))
      have iw' : L2.atI [D.str "same", .str "before", .str "next"] (d4 % 3) = some (.str w'.nm) := iw'
      have fin : ∀ q' : Q, Gt ar K 1 1 q' → Gt ar K ((Q.two .t w a b).depth + 1) ((Q.two .t w a b).wsz + 2) q' := fun q' g => g.mono (by simp only [Q.depth]; omega) (by simp only [Q.wsz]; omega)
      subst hk
      exact ret (.two .t w b a) (by unfold F_law_changed; cases w <;> (dsimp! only [Q.enc, W2.nm, i2, i3, i4, List.length_map, hnl, j1, hκ, iw']; rfl)) (fin _ (gt_two o2 o1))
    | one k w a =>
      obtain ⟨rfl, o1⟩ := gs_one gq
      have fin : ∀ q' : Q, Gt ar K 1 1 q' → Gt ar K ((Q.one .t w a).depth + 1) ((Q.one .t w a).wsz + 2) q' := fun q' g => g.mono (by simp only [Q.depth]; omega) (by simp only [Q.wsz]; omega)
      subst hk
      exact ret (.one .t (match w with | .first => .last | .last => .first) a) (by unfold F_law_changed; cases w <;> (dsimp! only [Q.enc, W1.nm, i2, i3, i4, List.length_map, hnl, j1, hκ]; rfl)) (fin _ (gt_one o1))
    | nt k q =>
      obtain ⟨rfl, g1⟩ := gs_nt gq
      subst hk
      exact ret q (by unfold F_law_changed; dsimp! only [Q.enc, i2, i3, i4, List.length_map, hnl, j1, hκ]) (g1.mono (by simp only [Q.depth]; omega) (by simp only [Q.wsz]; omega))
    | bi k w a b =>
      obtain ⟨rfl, g1, g2⟩ := gs_bi gq
      subst hk
      exact ret (.bi .t w b a) (by unfold F_law_changed; cases w <;> (dsimp! only [Q.enc, WB.nm, i2, i3, i4, List.length_map, hnl, j1, hκ]; rfl)) ((g2.bi g1).mono (by simp only [Q.depth]; omega) (by simp only [Q.wsz]; omega))
    | qu k w y q =>
      obtain ⟨rfl, o1, g1⟩ := gs_qu gq
      subst hk
      exact ret (.qu .t (match w with | .some => .every | .every => .some) y q) (by unfold F_law_changed; cases w <;> (dsimp! only [Q.enc, WQ.nm, i2, i3, i4, List.length_map, hnl, j1, hκ]; rfl)) ((g1.qu o1).mono (by simp only [Q.depth]; omega) (by simp only [Q.wsz]; omega))
    | more k y a z b =>
      obtain ⟨rfl, o1, o2, g1, g2⟩ := gs_more gq
      subst hk
      exact ret (.more .t x a z b) (by unfold F_law_changed; dsimp! only [Q.enc, i2, i3, i4, List.length_map, hnl, j1, hκ]; rfl) ((g1.more g2 n1 o2).mono (by simp only [Q.depth]; omega) (by simp only [Q.wsz]; omega))
    | walk k kl l kr r q ks s kg g =>
      obtain ⟨⟨rfl, rfl, rfl, rfl, rfl⟩, g1, w1, w2, w3, w4, w5, w6, w7, w8, w9⟩ := gs_walk gq
      obtain ⟨s0, s', rfl⟩ : ∃ s0 s', s = s0 :: s' := by
        cases s with
        | nil => exact absurd w4 (by simp only [List.length_nil]; omega)
        | cons a b => exact ⟨a, b, rfl⟩
      have hcs : cutD (((s0 :: s').map D.str)) (some 1) none = s'.map .str := cut1
      have hA : gAdd m (.tup [.str x]) (nms .t s') = some (nms .t (x :: s')) := by
        rw [show D.tup [.str x] = DY.mk .t [.str x] from rfl, show nms .t s' = DY.mk .t (s'.map .str) from rfl, add_mk, if_pos (by rw [List.length_cons] at w4; simp only [List.length_map, List.length_singleton]; omega)]
        rfl
      subst hk
      exact ret (.walk .t .t l .t r q .t g .t (s0 :: s')) (by unfold F_law_changed; dsimp! only [Q.enc, i2, i3, i4, List.length_map, hnl, j1, hκ]; rfl) ((g1.walk w1 w2 w3 w5 w4 w6 w8 w7 w9).mono (by simp only [Q.depth]; omega) (by simp only [Q.wsz]; omega))
  · cases q with
    | rel k n kv vs =>
      obtain ⟨rfl, rfl, o1, o2, o3, o4, o5, o6⟩ := gs_rel gq
      have hp0 := em_nonneg d4 (j := (vs.length : Nat)) (by omega)
      have hp1 := em_lt d4 (j := (vs.length : Nat)) (by omega)
      obtain ⟨p, hp⟩ : ∃ p : Nat, d4 % (vs.length : Nat) = (p : Int) := ⟨(d4 % (vs.length : Nat)).toNat, by omega⟩
      have hpl : p < vs.length := by omega
      have hvl : (vs.take p ++ [x] ++ vs.drop (p + 1)).length = vs.length := by
        simp only [List.length_append, List.length_take, List.length_drop, List.length_singleton]
        omega
      have hc1 : cutD (vs.map D.str) none (some (p : Int)) = (vs.take p).map .str := by rw [cut_take, List.map_take]
      have hc2 : cutD (vs.map D.str) (some ((p : Int) + 1)) none = (vs.drop (p + 1)).map .str := by
        rw [show ((p : Int) + 1) = ((p + 1 : Nat) : Int) by omega, cut_drop (by rw [List.length_map]; omega), List.map_drop]
      have lt1 : (vs.take p).length ≤ 3 := by rw [List.length_take]; omega
      have lt2 : (vs.drop (p + 1)).length ≤ 3 := by rw [List.length_drop]; omega
      have hA1 : gAdd m (DY.mk .t ((vs.take p).map .str)) (.tup [.str x]) = some (DY.mk .t ((vs.take p ++ [x]).map .str)) := by
        rw [show D.tup [.str x] = DY.mk .t [.str x] from rfl, add_mk, if_pos (by simp only [List.length_map, List.length_singleton]; omega), List.map_append]
        rfl
      have hA2 : gAdd m (DY.mk .t ((vs.take p ++ [x]).map .str)) (DY.mk .t ((vs.drop (p + 1)).map .str)) = some (DY.mk .t ((vs.take p ++ [x] ++ vs.drop (p + 1)).map .str)) := by
        rw [add_mk, if_pos (by simp only [List.length_map, List.length_append, List.length_singleton]; omega), List.map_append (l₁ := vs.take p ++ [x])]
      refine ret (.rel .t n .t (vs.take p ++ [x] ++ vs.drop (p + 1))) ?_ ((gt_rel o1 (fun v hv => ?_) (hvl.trans o3) (by omega) (by omega) (by rw [hvl]; exact o6)).mono (by simp only [Q.depth]; omega) (by simp only [Q.wsz]; omega))
      · subst hk
        unfold F_law_changed
        dsimp! only [Q.enc, i2, i3, i4, hnl, j1, hκ, List.length_map, hp, show (0 : Int) < ((vs.length : Nat) : Int) by omega, hc1, hc2, hA1, hA2]
        rfl
      · rcases List.mem_append.mp hv with hv | hv
        · rcases List.mem_append.mp hv with hv | hv
          · exact o2 v (List.mem_of_mem_take hv)
          · rw [List.mem_singleton.mp hv]; exact n1
        · exact o2 v (List.mem_of_mem_drop hv)
    | two k w a b =>
      obtain ⟨rfl, o1, o2⟩ := gs_two gq
      obtain ⟨w', hw', iw'⟩ := atI_pickm (xs := [W2.same, W2.before, W2.next]) (enc := fun w => .str w.nm) (d4 % 3) (em_nonneg d4 (by decide)) (em_lt d4 (by decide))
      have iw' : L2.atI [D.str "same", .str "before", .str "next"] (d4 % 3) = some (.str w'.nm) := iw'
      have fin : ∀ q' : Q, Gt ar K 1 1 q' → Gt ar K ((Q.two .t w a b).depth + 1) ((Q.two .t w a b).wsz + 2) q' := fun q' g => g.mono (by simp only [Q.depth]; omega) (by simp only [Q.wsz]; omega)
      subst hk
      exact ret (.two .t w a x) (by unfold F_law_changed; cases w <;> (dsimp! only [Q.enc, W2.nm, i2, i3, i4, List.length_map, hnl, j1, hκ, iw']; rfl)) (fin _ (gt_two o1 n1))
    | one k w a =>
      obtain ⟨rfl, o1⟩ := gs_one gq
      have fin : ∀ q' : Q, Gt ar K 1 1 q' → Gt ar K ((Q.one .t w a).depth + 1) ((Q.one .t w a).wsz + 2) q' := fun q' g => g.mono (by simp only [Q.depth]; omega) (by simp only [Q.wsz]; omega)
      subst hk
      exact ret (.one .t w x) (by unfold F_law_changed; cases w <;> (dsimp! only [Q.enc, W1.nm, i2, i3, i4, List.length_map, hnl, j1, hκ]; rfl)) (fin _ (gt_one n1))
    | nt k q =>
      obtain ⟨rfl, g1⟩ := gs_nt gq
      subst hk
      exact ret (.nt .t (.nt .t q)) (by unfold F_law_changed; dsimp! only [Q.enc, i2, i3, i4, List.length_map, hnl, j1, hκ]; rfl) (gq.nt.mono (by simp only [Q.depth]; omega) (by simp only [Q.wsz]; omega))
    | bi k w a b =>
      obtain ⟨rfl, g1, g2⟩ := gs_bi gq
      subst hk
      exact ret (.nt .t (.bi .t w a b)) (by unfold F_law_changed; cases w <;> (dsimp! only [Q.enc, WB.nm, i2, i3, i4, List.length_map, hnl, j1, hκ]; rfl)) (gq.nt.mono (by simp only [Q.depth]; omega) (by simp only [Q.wsz]; omega))
    | qu k w y q =>
      obtain ⟨rfl, o1, g1⟩ := gs_qu gq
      subst hk
      exact ret (.qu .t w x q) (by unfold F_law_changed; cases w <;> (dsimp! only [Q.enc, WQ.nm, i2, i3, i4, List.length_map, hnl, j1, hκ]; rfl)) ((g1.qu n1).mono (by simp only [Q.depth]; omega) (by simp only [Q.wsz]; omega))
    | more k y a z b =>
      obtain ⟨rfl, o1, o2, g1, g2⟩ := gs_more gq
      subst hk
      exact ret (.more .t y a x b) (by unfold F_law_changed; dsimp! only [Q.enc, i2, i3, i4, List.length_map, hnl, j1, hκ]; rfl) ((g1.more g2 o1 n1).mono (by simp only [Q.depth]; omega) (by simp only [Q.wsz]; omega))
    | walk k kl l kr r q ks s kg g =>
      obtain ⟨⟨rfl, rfl, rfl, rfl, rfl⟩, g1, w1, w2, w3, w4, w5, w6, w7, w8, w9⟩ := gs_walk gq
      obtain ⟨s0, s', rfl⟩ : ∃ s0 s', s = s0 :: s' := by
        cases s with
        | nil => exact absurd w4 (by simp only [List.length_nil]; omega)
        | cons a b => exact ⟨a, b, rfl⟩
      have hcs : cutD (((s0 :: s').map D.str)) (some 1) none = s'.map .str := cut1
      have hA : gAdd m (.tup [.str x]) (nms .t s') = some (nms .t (x :: s')) := by
        rw [show D.tup [.str x] = DY.mk .t [.str x] from rfl, show nms .t s' = DY.mk .t (s'.map .str) from rfl, add_mk, if_pos (by rw [List.length_cons] at w4; simp only [List.length_map, List.length_singleton]; omega)]
        rfl
      subst hk
      exact ret (.walk .t .t l .t r q .t (x :: s') .t g) (by unfold F_law_changed; dsimp! only [Q.enc, i2, i3, i4, List.length_map, hnl, j1, hκ, hcs, hA]; rfl) ((g1.walk (l := l) (r := r) (s := x :: s') (g := g) w1 w2 w3 w4 w5 w6 (fun v hv => by
            rcases List.mem_cons.mp hv with rfl | hv
            · exact n1
            · exact w7 v (List.mem_cons_of_mem _ hv)) w8 w9).mono (by simp only [Q.depth]; omega) (by simp only [Q.wsz]; omega))
end
end Kx
/-! a tree changed in one drawn part -/
namespace Kx
open PySem T DY
theorem mI_ix {m : Mem} {a : Nat} (h : a < m.length) (i : Int) : gIxA (mI m a i) (.hdl a) (.int 0) = some (.int i) := by
  rw [ix_hdl (mI_get h)]
  exact ai0
theorem e_edited {ar : Str → Nat} {K : List (List L2.Key)} {row : List Int} (hr : Dig 60 row) (hl : row.length = 5) {names : List Str} (hp : Pool names) (hn : names.length = 6) : ∀ (b : Nat) (q : Q) (m : Mem) (a : Nat) (i : Int), Gs ar K q → q.depth ≤ b → a < m.length → ∃ (q' : Q) (i' : Int), rec_law_edited b 0 [q.enc, .hdl a, .lst (iD row), .lst (names.map .str)] (mI m a i) = .ok q'.enc (mI m a i') ∧ i' ≤ i ∧ (q' = q ∨ (0 ≤ i ∧ i' < 0 ∧ Gt ar K (q.depth + 1) (q.wsz + 2) q'))
  | 0, q, m, a, i, _, h, _ => by cases q <;> simp [Q.depth] at h
  | b + 1, q, m, a, i, gq, h, ha => by
    have ih := fun (q : Q) (m : Mem) (a : Nat) (i : Int) => e_edited (ar := ar) (K := K) hr hl hp hn b q m a i
    show ∃ (q' : Q) (i' : Int), run 6 4 (F_law_edited (rec_law_edited b 0)) _ _ = _ ∧ _
    have p1 := mI_put (m := m) (a := a) (i := i) (j := i - 1) ha
    have p2 := mI_ix (m := m) ha
    have s0 : ((sSet (e2 (gI fun i j => i - j) (e2 gIxA (eV 1) (eC (.int 0))) (eC (.int 1))) (eV 1) (eC (.int 0)))) (start0 6 [q.enc, .hdl a, .lst (iD row), .lst (names.map .str)]) (mI m a i) = .nx [some q.enc, some (.hdl a), some (.lst (iD row)), some (.lst (names.map .str)), none, none] (mI m a (i - 1)) := by
      dsimp! only [p2, p1]
    by_cases c : i - 1 = -1
    · obtain ⟨q', hc, g⟩ := e_changed (m := mI m a (i - 1)) hr hl hp hn gq
      refine ⟨q', i - 1, run_ret (d := q'.enc) (m' := mI m a (i - 1)) ?_ (exit_same mI_same), by omega, .inr ⟨by omega, by omega, g⟩⟩
      unfold F_law_edited
      refine seq_nx s0 (seq_rt ?_)
      dsimp! only [p2, gNeg, eq_true c, hc]
    have s1 : ((sIf (tB' (e2 (gEq false) (e2 gIxA (eV 1) (eC (.int 0))) (e1 gNeg (eC (.int 1))))) (sRet (eCall f_law_changed (aC (eV 0) (aC (eV 2) (aC (eV 3) aN))))) sNx)) [some q.enc, some (.hdl a), some (.lst (iD row)), some (.lst (names.map .str)), none, none] (mI m a (i - 1)) = .nx [some q.enc, some (.hdl a), some (.lst (iD row)), some (.lst (names.map .str)), none, none] (mI m a (i - 1)) := by
      dsimp! only [p2, gNeg, c]
    have ret : ∀ (q' : Q) (i' : Int), ((sSeq (sAsg 4 (e2 gIxA (eV 0) (eC (.int 0)))) (sSeq (sIf (tB' (e2 (gEq false) (eV 4) (eC (.str "not")))) (sRet (eTup (aC (eC (.str "not")) (aC (eCall (rec_law_edited b 0) (aC (e2 gIxA (eV 0) (eC (.int 1))) (aC (eV 1) (aC (eV 2) (aC (eV 3) aN))))) aN)))) sNx) (sSeq (sIf (tB' (e2 (gInA false) (eV 4) (eFz (nL (aC (eC (.str "and")) (aC (eC (.str "or")) aN)))))) (sSeq (sAsg 5 (eCall (rec_law_edited b 0) (aC (e2 gIxA (eV 0) (eC (.int 1))) (aC (eV 1) (aC (eV 2) (aC (eV 3) aN)))))) (sRet (eTup (aC (eV 4) (aC (eV 5) (aC (eCall (rec_law_edited b 0) (aC (e2 gIxA (eV 0) (eC (.int 2))) (aC (eV 1) (aC (eV 2) (aC (eV 3) aN))))) aN)))))) sNx) (sSeq (sIf (tB' (e2 (gInA false) (eV 4) (eFz (nL (aC (eC (.str "some")) (aC (eC (.str "every")) aN)))))) (sRet (eTup (aC (eV 4) (aC (e2 gIxA (eV 0) (eC (.int 1))) (aC (eCall (rec_law_edited b 0) (aC (e2 gIxA (eV 0) (eC (.int 2))) (aC (eV 1) (aC (eV 2) (aC (eV 3) aN))))) aN))))) sNx) (sSeq (sIf (tB' (e2 (gEq false) (eV 4) (eC (.str "more")))) (sSeq (sAsg 5 (eCall (rec_law_edited b 0) (aC (e2 gIxA (eV 0) (eC (.int 2))) (aC (eV 1) (aC (eV 2) (aC (eV 3) aN)))))) (sRet (eTup (aC (eC (.str "more")) (aC (e2 gIxA (eV 0) (eC (.int 1))) (aC (eV 5) (aC (e2 gIxA (eV 0) (eC (.int 3))) (aC (eCall (rec_law_edited b 0) (aC (e2 gIxA (eV 0) (eC (.int 4))) (aC (eV 1) (aC (eV 2) (aC (eV 3) aN))))) aN)))))))) sNx) (sSeq (sIf (tB' (e2 (gEq false) (eV 4) (eC (.str "walk")))) (sRet (eTup (aC (eC (.str "walk")) (aC (e2 gIxA (eV 0) (eC (.int 1))) (aC (e2 gIxA (eV 0) (eC (.int 2))) (aC (eCall (rec_law_edited b 0) (aC (e2 gIxA (eV 0) (eC (.int 3))) (aC (eV 1) (aC (eV 2) (aC (eV 3) aN))))) (aC (e2 gIxA (eV 0) (eC (.int 4))) (aC (e2 gIxA (eV 0) (eC (.int 5))) aN)))))))) sNx) (sRet (eV 0))))))))) [some q.enc, some (.hdl a), some (.lst (iD row)), some (.lst (names.map .str)), none, none] (mI m a (i - 1)) = .rt q'.enc (mI m a i') → run 6 4 (F_law_edited (rec_law_edited b 0)) [q.enc, .hdl a, .lst (iD row), .lst (names.map .str)] (mI m a i) = .ok q'.enc (mI m a i') := fun q' i' h => run_ret (seq_nx s0 (seq_nx s1 h)) (exit_same mI_same)
    cases q with
    | rel k n kv vs => exact ⟨_, i - 1, ret (.rel k n kv vs) (i - 1) (by dsimp! only [Q.enc]), by omega, .inl rfl⟩
    | two k w x y => exact ⟨_, i - 1, ret (.two k w x y) (i - 1) (by cases w <;> dsimp! only [Q.enc, W2.nm]), by omega, .inl rfl⟩
    | one k w x => exact ⟨_, i - 1, ret (.one k w x) (i - 1) (by cases w <;> dsimp! only [Q.enc, W1.nm]), by omega, .inl rfl⟩
    | nt k q =>
      obtain ⟨rfl, g1⟩ := gs_nt gq
      simp only [Q.depth] at h
      obtain ⟨q', i', k1, l1, o1⟩ := ih q m a (i - 1) g1 (by omega) ha
      refine ⟨.nt .t q', i', ret _ _ (by dsimp! only [Q.enc, k1]; rfl), by omega, ?_⟩
      rcases o1 with rfl | ⟨o1, o2, o3⟩
      · exact .inl rfl
      · exact .inr ⟨by omega, o2, o3.nt.mono (by simp only [Q.depth]; omega) (by simp only [Q.wsz]; omega)⟩
    | bi k w x y =>
      obtain ⟨rfl, g1, g2⟩ := gs_bi gq
      simp only [Q.depth] at h
      obtain ⟨x', i1, k1, l1, o1⟩ := ih x m a (i - 1) g1 (by omega) ha
      obtain ⟨y', i2, k2, l2, o2⟩ := ih y m a i1 g2 (by omega) ha
      refine ⟨.bi .t w x' y', i2, ret _ _ (by cases w <;> (dsimp! only [Q.enc, WB.nm, k1, k2]; rfl)), by omega, ?_⟩
      rcases o1 with rfl | ⟨o1, o3, o4⟩
      · rcases o2 with rfl | ⟨o5, o6, o7⟩
        · exact .inl rfl
        · exact .inr ⟨by omega, o6, (g1.bi o7).mono (by simp only [Q.depth]; omega) (by simp only [Q.wsz]; omega)⟩
      · rcases o2 with rfl | ⟨o5, o6, o7⟩
        · exact .inr ⟨by omega, by omega, (o4.bi g2).mono (by simp only [Q.depth]; omega) (by simp only [Q.wsz]; omega)⟩
        · omega
    | qu k w x q =>
      obtain ⟨rfl, nx, g1⟩ := gs_qu gq
      simp only [Q.depth] at h
      obtain ⟨q', i', k1, l1, o1⟩ := ih q m a (i - 1) g1 (by omega) ha
      refine ⟨.qu .t w x q', i', ret _ _ (by cases w <;> (dsimp! only [Q.enc, WQ.nm, k1]; rfl)), by omega, ?_⟩
      rcases o1 with rfl | ⟨o1, o2, o3⟩
      · exact .inl rfl
      · exact .inr ⟨by omega, o2, (o3.qu nx).mono (by simp only [Q.depth]; omega) (by simp only [Q.wsz]; omega)⟩
    | more k x u y v =>
      obtain ⟨rfl, nx, ny, g1, g2⟩ := gs_more gq
      simp only [Q.depth] at h
      obtain ⟨u', i1, k1, l1, o1⟩ := ih u m a (i - 1) g1 (by omega) ha
      obtain ⟨v', i2, k2, l2, o2⟩ := ih v m a i1 g2 (by omega) ha
      refine ⟨.more .t x u' y v', i2, ret _ _ (by dsimp! only [Q.enc, k1, k2]; rfl), by omega, ?_⟩
      rcases o1 with rfl | ⟨o1, o3, o4⟩
      · rcases o2 with rfl | ⟨o5, o6, o7⟩
        · exact .inl rfl
        · exact .inr ⟨by omega, o6, (g1.more o7 nx ny).mono (by simp only [Q.depth]; omega) (by simp only [Q.wsz]; omega)⟩
      · rcases o2 with rfl | ⟨o5, o6, o7⟩
        · exact .inr ⟨by omega, by omega, (o4.more g2 nx ny).mono (by simp only [Q.depth]; omega) (by simp only [Q.wsz]; omega)⟩
        · omega
    | walk k kl l kr r q ks s kg g =>
      obtain ⟨⟨rfl, rfl, rfl, rfl, rfl⟩, g1, hw⟩ := gs_walk gq
      simp only [Q.depth] at h
      obtain ⟨q', i', k1, l1, o1⟩ := ih q m a (i - 1) g1 (by omega) ha
      refine ⟨.walk .t .t l .t r q' .t s .t g, i', ret _ _ (by dsimp! only [Q.enc, k1]; rfl), by omega, ?_⟩
      rcases o1 with rfl | ⟨o1, o2, o3⟩
      · exact .inl rfl
      · exact .inr ⟨by omega, o2, (gs_walk_mk o3 hw).mono (by simp only [Q.depth]; omega) (by simp only [Q.wsz]; omega)⟩
section
variable {m : Mem}
theorem e_near {ar : Str → Nat} {K : List (List L2.Key)} {names : List Str} (hp : Pool names) (hn : names.length = 6) {q : Q} (gq : Gs ar K q) (hd : q.depth ≤ 60) {c : Int} : ∃ q' : Q, f_law_near [q.enc, .int c, .lst (names.map .str)] m = .ok q'.enc m ∧ Gt ar K (q.depth + 1) (q.wsz + 2) q' := by
  obtain ⟨row, kr, hl, hr⟩ := e_stream (m := m) (c := c) (n := 5) (by decide)
  have kr : f_law_stream [.int c, .int 5] m = .ok (.lst (iD row)) m := kr
  obtain ⟨d0, i0, a0, b0⟩ := dig_at hr 0 (by decide) (by omega)
  obtain ⟨d1, i1, a1, b1⟩ := dig_at hr 1 (by decide) (by omega)
  have hs := e_size 60 q m hd
  have hq1 : 0 < q.size := by rw [size_eq]; omega
  obtain ⟨i, hi⟩ : ∃ i : Int, (d0 * 60 + d1) % ((q.size : Nat) : Int) = i := ⟨_, rfl⟩
  obtain ⟨q', i', k1, l1, o1⟩ := e_edited (ar := ar) (K := K) hr hl hp hn 60 q (m ++ [.lst [.int i]]) m.length i gq hd (by rw [List.length_append]; exact Nat.lt_succ_self _)
  rw [mI_app, mI_app] at k1
  have hcm : cMod (d0 * 60 + d1) ((q.size : Nat) : Int) = true := decide_eq_true (by omega)
  have hcu : cMul d0 60 = true := cMulR (by omega)
  refine ⟨q', run_ret (s := F_law_near) (d := q'.enc) (m' := m ++ [.lst [.int i']]) ?_ (exit_new (old_enc q')), ?_⟩
  · unfold F_law_near
    simp?! only [kr, i0, i1, hs, hcm, hcu, hi, k1]
  · rcases o1 with rfl | ⟨_, _, o⟩
    · exact gq.mono (by omega) (by omega)
    · exact o
end
end Kx
/-! k13: the law -/
namespace Kx
open PySem T DY
section
variable {m : Mem}
theorem e_write_question {ar : Str → Nat} {q : Q} (ho : q.Ok ar) (ht : q.tup = q) (hz : q.wsz ≤ 1000) (hd : q.depth ≤ 45) : f_write_question [quD q] m = .ok (.str q.txt) m := by
  refine run_ret (s := F_write_question) (d := .str q.txt) (m' := m) ?_ (exit_same rfl)
  have h2 : hasF csN "Question" "tree" = true := by decide +kernel
  have hw := (e_write (ar := ar) 90 q m ho hz).1 (by omega)
  have e : tenc q = q.enc := by unfold tenc; rw [ht]
  unfold F_write_question
  dsimp! only [gFld, h2, look, str_inj, e, hw]
end
theorem law_pure : ∀ ns : List Int, ns.length ≤ 63 → ∃ m, f_law [scr ns] [] = .ok (.bl true) m := by
  intro ns hns
  obtain ⟨c0, k0⟩ := e_cell (m := []) hns (k := 0)
  obtain ⟨c1, k1⟩ := e_cell (m := []) hns (k := 1)
  obtain ⟨c2, k2⟩ := e_cell (m := []) hns (k := 2)
  obtain ⟨c3, k3⟩ := e_cell (m := []) hns (k := 3)
  obtain ⟨c4, k4⟩ := e_cell (m := []) hns (k := 4)
  obtain ⟨c5, k5⟩ := e_cell (m := []) hns (k := 5)
  simp only [nc0, nc1, nc2, nc3, nc4, nc5] at k0 k1 k2 k3 k4 k5
  obtain ⟨names, kn, hnl, hpool⟩ := e_pool (m := []) (c := c0) (k := 6) (by decide)
  obtain ⟨ps, kp, hps⟩ := e_pairs (m := []) (c := c1) hpool (by omega)
  obtain ⟨row, kr, hrl, hr⟩ := e_stream (m := []) (c := c5) (n := 60) (by decide)
  have kr : f_law_stream [.int c5, .int 60] [] = .ok (.lst (iD row)) [] := kr
  have hv : Vars names := ⟨hpool, by omega, by omega⟩
  have h0 : row ≠ [] := fun e => by rw [e] at hrl; exact nomatch hrl
  obtain ⟨q0, kq0, g0⟩ := e_drawn (m := []) (c1 := c2) (c2 := c3) hv hps
  simp only [nc6] at kn
  have d0 := g0.dep
  have z0 := g0.siz
  obtain ⟨q1, kq1, g1⟩ := e_near (m := []) (ar := arP ps) (K := keysP ps) hpool hnl g0.gs (by omega) (c := c4)
  have d1 := g1.dep
  have z1 := g1.siz
  obtain ⟨q', k', km, ht⟩ := e_mix (m := [.lst [.int (0 : Nat)]]) g0.ok hr h0 (by omega) (a := 0) (by decide) (b := 60) (by omega) 0
  have km : rec_law_mixed 60 0 [q0.enc, .lst (iD row), .hdl 0] [.lst [.int 0]] = .ok q'.enc [.lst [.int (k' : Int)]] := km
  obtain ⟨M, hM⟩ : ∃ M : Mem, M = [.lst [.int (k' : Int)]] := ⟨_, rfl⟩
  rw [← hM] at km
  have qd : quD q' = quD q0 := quD_tup ht
  have o' : q'.Ok (arP ps) := (tup_ok q').mp (by rw [ht]; exact (tup_ok q0).mpr g0.ok)
  have d' : q'.depth = q0.depth := by rw [← tup_depth, ht, tup_depth]
  have z' : q'.size = q0.size := by rw [← tup_size, ht, tup_size]
  have y' : q'.keys = q0.keys := by rw [← tup_keys, ht, tup_keys]
  have s0 : ((sAsg 1 (eCall f_law_pool (aC (eCall f_law_cell (aC (eV 0) (aC (eC (.int 0)) aN))) (aC (eC (.int 6)) aN))))) (start0 9 [scr ns]) [] = .nx [some (scr ns), some (.lst (names.map .str)), none, none, none, none, none, none, none] [] := by dsimp! only [k0, kn]
  have s1 : ((sAsg 2 (eCall f_law_pairs (aC (eCall f_law_cell (aC (eV 0) (aC (eC (.int 1)) aN))) (aC (eV 1) aN))))) [some (scr ns), some (.lst (names.map .str)), none, none, none, none, none, none, none] [] = .nx [some (scr ns), some (.lst (names.map .str)), some (.lst (ps.map pairD)), none, none, none, none, none, none] [] := by dsimp! only [k1, kp]
  have s2 : ((sAsg 3 (eCall f_law_drawn (aC (eCall f_law_cell (aC (eV 0) (aC (eC (.int 2)) aN))) (aC (eCall f_law_cell (aC (eV 0) (aC (eC (.int 3)) aN))) (aC (eV 1) (aC (eV 2) aN))))))) [some (scr ns), some (.lst (names.map .str)), some (.lst (ps.map pairD)), none, none, none, none, none, none] [] = .nx [some (scr ns), some (.lst (names.map .str)), some (.lst (ps.map pairD)), some q0.enc, none, none, none, none, none] [] := by dsimp! only [k2, k3, kq0]
  have s3 : ((sAsg 4 (eCall f_law_near (aC (eV 3) (aC (eCall f_law_cell (aC (eV 0) (aC (eC (.int 4)) aN))) (aC (eV 1) aN)))))) [some (scr ns), some (.lst (names.map .str)), some (.lst (ps.map pairD)), some q0.enc, none, none, none, none, none] [] = .nx [some (scr ns), some (.lst (names.map .str)), some (.lst (ps.map pairD)), some q0.enc, some q1.enc, none, none, none, none] [] := by dsimp! only [k4, kq1]
  have s4 : ((sAsg 5 (eCall f_law_stream (aC (eCall f_law_cell (aC (eV 0) (aC (eC (.int 5)) aN))) (aC (eC (.int 60)) aN))))) [some (scr ns), some (.lst (names.map .str)), some (.lst (ps.map pairD)), some q0.enc, some q1.enc, none, none, none, none] [] = .nx [some (scr ns), some (.lst (names.map .str)), some (.lst (ps.map pairD)), some q0.enc, some q1.enc, some (.lst (iD row)), none, none, none] [] := by dsimp! only [k5, kr]
  have s5 : ((sAsg 6 (eMk false "Question" f_Question_init (aC (eCall (rec_law_mixed 60 0) (aC (eV 3) (aC (eV 5) (aC (eNew (nL (aC (eC (.int 0)) aN))) aN)))) aN)))) [some (scr ns), some (.lst (names.map .str)), some (.lst (ps.map pairD)), some q0.enc, some q1.enc, some (.lst (iD row)), none, none, none] [] = .nx [some (scr ns), some (.lst (names.map .str)), some (.lst (ps.map pairD)), some q0.enc, some q1.enc, some (.lst (iD row)), some (quD q0), none, none] M := by
    have mk1 := e_Question (m1 := M) (fa := aC (eCall (rec_law_mixed 60 0) (aC (eV 3) (aC (eV 5) (aC (eNew (nL (aC (eC (.int 0)) aN))) aN)))) aN) (env := [some (scr ns), some (.lst (names.map .str)), some (.lst (ps.map pairD)), some q0.enc, some q1.enc, some (.lst (iD row)), none, none, none]) o' (by omega) (by have := g0.size; omega) (by rw [y']; exact g0.few (keysP_len hps)) (m := []) (by dsimp! only [km])
    rw [qd] at mk1
    unfold sAsg
    rw [mk1]
    rfl
  have s6 : ((sAsg 7 (eMk false "Question" f_Question_init (aC (eV 4) aN)))) [some (scr ns), some (.lst (names.map .str)), some (.lst (ps.map pairD)), some q0.enc, some q1.enc, some (.lst (iD row)), some (quD q0), none, none] M = .nx [some (scr ns), some (.lst (names.map .str)), some (.lst (ps.map pairD)), some q0.enc, some q1.enc, some (.lst (iD row)), some (quD q0), some (quD q1), none] M := by
    have mk2 := e_Question (m1 := M) (fa := aC (eV 4) aN) (env := [some (scr ns), some (.lst (names.map .str)), some (.lst (ps.map pairD)), some q0.enc, some q1.enc, some (.lst (iD row)), some (quD q0), none, none]) g1.ok (by omega) (by have := g1.size; omega) (g1.few (keysP_len hps)) (m := M) rfl
    unfold sAsg
    rw [mk2]
    rfl
  have w0 := e_write_question (m := M) g0.ok g0.tup (by omega) (by omega)
  have w1 := e_write_question (m := M) g1.ok g1.tup (by omega) (by omega)
  have t0 := (e_text (ar := arP ps) 90 q0 M g0.ok (by omega)).1 (by omega)
  have t1 := (e_text (ar := arP ps) 90 q1 M g1.ok (by omega)).1 (by omega)
  have a0 := e_alike 60 _ _ M (dat_strs (n := 0) (k := .l) (vs := [q0.txt, q1.txt, q0.txt]) (by show 3 ≤ 90000; decide)) (by decide)
  have a0 : rec_law_alike 60 0 [.lst [.str q0.txt, .str q1.txt, .str q0.txt], .lst [.str q0.txt, .str q1.txt, .str q0.txt]] M = .ok (.bl true) M := a0
  have a1 := e_alike 60 _ _ M (dat_q q0 g0.ok) (by omega)
  have a2 := e_alike 60 _ _ M (dat_q q1 g1.ok) (by omega)
  have h2 : hasF csN "Question" "tree" = true := by decide +kernel
  have f0 : ∀ env : Sv, env[6]? = some (some (quD q0)) → e1 (gFld csN "tree") (eV 6) env M = .ok q0.enc M := fun env h => by
    unfold e1 eV
    rw [h]
    have e : tenc q0 = q0.enc := by unfold tenc; rw [g0.tup]
    dsimp! only [gFld, h2, look, str_inj, e]
  have f1 : ∀ env : Sv, env[7]? = some (some (quD q1)) → e1 (gFld csN "tree") (eV 7) env M = .ok q1.enc M := fun env h => by
    unfold e1 eV
    rw [h]
    have e : tenc q1 = q1.enc := by unfold tenc; rw [g1.tup]
    dsimp! only [gFld, h2, look, str_inj, e]
  refine ⟨[], run_ret (s := F_law) (d := .bl true) (m' := M) ?_ (by rw [hM]; rfl)⟩
  unfold F_law
  refine seq_nx s0 (seq_nx s1 (seq_nx s2 (seq_nx s3 (seq_nx s4 (seq_nx s5 (seq_nx s6 ?_))))))
  have f0' := f0 [some (scr ns), some (.lst (names.map .str)), some (.lst (ps.map pairD)), some q0.enc, some q1.enc, some (.lst (iD row)), some (quD q0), some (quD q1), some (.lst [.str q0.txt, .str q1.txt, .str q0.txt])] rfl
  have f1' := f1 [some (scr ns), some (.lst (names.map .str)), some (.lst (ps.map pairD)), some q0.enc, some q1.enc, some (.lst (iD row)), some (quD q0), some (quD q1), some (.lst [.str q0.txt, .str q1.txt, .str q0.txt])] rfl
  generalize quD q0 = Q0 at *
  generalize quD q1 = Q1 at *
  generalize e1 (gFld csN "tree") (eV 6) = E0 at *
  generalize e1 (gFld csN "tree") (eV 7) = E1 at *
  dsimp! only [w0, w1, t0, t1, a0, f0', f1', a1, a2]
end Kx
/-! ### the head -/
namespace Kx
open PySem PySem.Spec PyProof.Rows L2 Evl LX T XV RX DY
abbrev hk : PySem.W.Hook := pd.hook 6
def ob (s : PySem.W.SharedT) : AlY := pd.obsG 6 (HandSHeadRun.getT s)
theorem ob_eq (s : PySem.W.SharedT) : ob s = hk.obs s.abs := Pd.obs_eq (HandSHeadRun.getT_eq s)
theorem runF (w : World) : HandSHeadRun.RunEq R (PySem.W.view R.prog [lawAt]) hk ob 14000 loose (w.withFollow "special-get-raises" false) := by
  intro os
  kernel_rfl
theorem runT (w : World) : HandSHeadRun.RunEq R (PySem.W.view R.prog [lawAt]) hk ob 14000 loose (w.withFollow "special-get-raises" true) := by
  intro os
  kernel_rfl
theorem run (w : World) : HandSHeadRun.RunEq R (PySem.W.view R.prog [lawAt]) hk ob 14000 loose w := PySem.W.byRow2 "special-get-raises" runF runT w
end Kx
open PySem PySem.W PySem.Calls PyProof.Rows
theorem PySem.Challenge.cw_onceread_k13_written_form_holds : PySem.Challenge.rw_onceread_k13_written_form.Holds := by
  w_on; o_law
  refine HandSHeadRun.head_any (r := OpenLaw.row PySem.Challenge.rw_onceread_k13_written_form) (q := view (OpenLaw.row PySem.Challenge.rw_onceread_k13_written_form).prog [T.lawAt]) (H := Kx.hk) (ob := Kx.ob) (M := 14000) (loose := T.loose) (d := HandSHeadRun.topDef (OpenLaw.row PySem.Challenge.rw_onceread_k13_written_form).prog T.lawAt) (kwd := []) Kx.ob_eq
    (by kernel_rfl) (fun s => by kernel_rfl) Kx.run (by kernel_rfl) (by kernel_rfl) (by kernel_rfl) (by rfl) (by first | assumption | decide +kernel) (by decide +kernel) ⟨rfl, rfl, rfl, rfl, rfl, by decide +kernel⟩ ?hw ?hc
  case hw => w_witness2
  case hc =>
    refine L2.walk_ofE (l := PySem.Challenge.rw_onceread_k13_written_form) (n := 63) (k := 94) (x := "script") (CX := L2.CX0) rfl (by decide) (by kernel_rfl) ⟨rfl, by decide, by decide⟩ ?F (fun _ _ _ _ z => z)
    intro w mg fa h Y G hmg0
    obtain ⟨K, KX, c⟩ := Y
    have hmg : mg ("law" : PySem.Str) = some (.ref fa) := by
      have e : (HandSHeadRun.topDef (OpenLaw.row PySem.Challenge.rw_onceread_k13_written_form).prog T.lawAt).name = ("law" : PySem.Str) := by kernel_rfl
      rw [← e]
      exact hmg0
    exact DY.law_F (i := T.lawIx) KX G c hmg rfl (by decide +kernel) (fun _ _ _ _ _ _ us hl => match us, hl with | [_], _ => rfl) (fun base f fd dvs kws T F => Kx.fn_law T F) Kx.law_pure
