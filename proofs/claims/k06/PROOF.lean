import PyProof.Rows.All
import Wide.All
import OpenK.AllK
import Wide.FinOn
import KE.KExcIs
import HandS.ForMost
import HandS.Exc
import HandS.ExcInit
import HandS.ExcIs
import HandS.ExcField
import HandS.IsInst
import HandS.WordsExc
import HandS.ExcValue
import KE.KStateDown
import HandS.Defaults
import HandS.Head0
import HandS.Head1
import HandS.Head2
import HandS.HeadEnd
import HandS.HeadHook1
import HandS.HeadHook2
import HandS.Evl
import HandS.TupAny
import HandS.SortInts
import HandS.Wide
import HandS.HeadHook4
import KE.KxText
import PySem.Challenge.RW_onceread_k06_error_classes
set_option Elab.async false
set_option linter.all false
set_option maxRecDepth 100000
set_option maxHeartbeats 0
/-! own exceptions of the program as values: made, told apart, their fields read -/
namespace XV
open PySem PySem.Spec PyProof.Rows L2

def veB : List Value := [.type "ValueError", .type "Exception", .type "BaseException", .type "object"]
/-- an exception of the class at C with the fields fs -/
def ExAt (H : Hp) (a C : Addr) (fs : List (Str × V)) : Prop :=
  (fs = [] ∧ H a = some (exo a C none)) ∨ ∃ dx, H a = some (exo a C (some dx)) ∧ H dx = some (exd dx fs)
theorem ExAt.same {H H' : Hp} {a C : Addr} {fs : List (Str × V)} (s : Same H H') (h : ExAt H a C fs) : ExAt H' a C fs := by
  rcases h with ⟨e, h⟩ | ⟨dx, h1, h2⟩
  · exact .inl ⟨e, s _ _ h⟩
  · exact .inr ⟨dx, s _ _ h1, s _ _ h2⟩

/-- what the written part says of such a class -/
structure ExK (K : PySem.W.Frag) (C : Addr) : Prop where
  o : OexC K C
  e : ExcC K C
  clsv : (PySem.W.clsIn K C).isSome = true
def exCB (K : PySem.W.Frag) (C : Addr) : Bool := match K.lookup C with
  | some ⟨.type t, _, .cls cd, sl⟩ => (match cd.mro, sl.toList with
    | .ref C' :: bm, [_, _, _, _, some (.builtin n), _] => decide (t = "type") && (decide (C' = C) && (n == "ValueError.__new__" && (!cd.hasDel && (cd.hasDict && PySem.HandSPX.refsVE bm))))
    | _, _ => false)
  | _ => false
theorem exCB_ok {K : PySem.W.Frag} {C : Addr} (h : exCB K C = true) :
    ∃ nm q N bs bm sn sub ab col dd k0 k1 k2 k3 k5, K.lookup C = some (excClassObj nm q C N bs bm true sn sub ab col dd k0 k1 k2 k3 k5 "ValueError.__new__") ∧ PySem.HandSPX.refsVE bm = true := by
  unfold exCB at h
  split at h
  · rename_i t dd cd sl ho
    split at h
    · rename_i C' bm k0 k1 k2 k3 n k5 hm hs
      simp only [Bool.and_eq_true, beq_iff_eq, Bool.not_eq_true', decide_eq_true_eq] at h
      obtain ⟨rfl, rfl, rfl, hdel, hdict, hbm⟩ := h
      obtain ⟨nm, bs, mro, ns, qn, hd, sn, sub, ab, col, del⟩ := cd
      dsimp only at hm hdel hdict
      subst hm hdel hdict
      have hsl : sl = #[k0, k1, k2, k3, some (.builtin "ValueError.__new__"), k5] := by
        obtain ⟨l⟩ := sl
        simp only at hs
        rw [hs]
      subst hsl
      exact ⟨nm, qn, ns, bs, bm, sn, sub, ab, col, dd, k0, k1, k2, k3, k5, ho, hbm⟩
    · cases h
  · cases h
def exB (K : PySem.W.Frag) (C : Addr) : Bool :=
  exCB K C && (decide (PySem.W.findIn K (.ref C) "__setattr__" = some (some (.builtin "object.__setattr__"))) && (decide (PySem.W.subIn K (.ref C) (.type "BaseException") = some true) && (decide (PySem.W.typeIn K (.ref C) = some (.type "type")) && (PySem.W.keepIn K (.ref C) &&
  (decide (PySem.W.findIn K (.ref C) "__getattribute__" = some (some (.builtin "BaseException.__getattribute__"))) && (decide (PySem.W.findIn K (.ref C) "__getattr__" = some none) && (PySem.W.hasDictIn K C && (decide (PySem.W.findIn K (.ref C) "__class__" = some (some (.builtin "object.__class__"))) &&
  (decide (PySem.W.specialIn K (.builtin "object.__class__") "__get__" = some (some (.builtin "getset_descriptor.__get__"))) && (decide (PySem.W.takesIn K (.builtin "object.__class__") = some true) && (decide (PySem.W.mroIn K C (.type "object") = some true) && (PySem.W.clsIn K C).isSome)))))))))))
theorem exB_ok {K : PySem.W.Frag} {C : Addr} (h : exB K C = true) : ExK K C := by
  unfold exB at h
  simp only [Bool.and_eq_true, decide_eq_true_eq] at h
  obtain ⟨h1, h2, h3, h4, h5, h6, h7, h8, h9, h10, h11, h12, h13⟩ := h
  exact ⟨⟨exCB_ok h1, h2, h3, h4, h5⟩, ⟨h6, h7, h3, h8, h9, h10, h11, h12⟩, h13⟩
theorem ExK.x {K : PySem.W.Frag} {C : Addr} (T : ExK K C) : XfC K C := ⟨T.e.hg, T.e.hk, T.e.hs, T.e.hd⟩

section
variable {X : Cx} {e : Expr} {es : List Expr} {ta : TA} {te : TE} {p pos : Pos}
/-- X(e, ..), a class with its own __init__, as a value -/
def tMkV (C : Addr) (sp : Sp) (ta : TA) : TE := fun σ H Q => ta σ H fun vs H1 => vs.length ≤ 1000 ∧ ∀ a, H1 a = none → sp (.ref a :: vs) (upd H1 a (exo a C none)) (fun v H2 => v = .non ∧ Q (.ref a) H2) (fun _ _ _ => False)
theorem pe_oex {CX : CXT} {x : Str} {C fI : Addr} {k : Nat} {fd : FuncData} {ps : List Str} {sp : Sp} (T : OexC X.K C) (iC : PySem.W.findIn X.K (.ref C) "__init__" = some (some (.ref fI))) (tI : PySem.W.typeIn X.K (.ref fI) = some (.type "function"))
    (F1 : FnOk X.prog X.w X.K X.mg X.base CX k fI fd ps sp) (hr : Room (k + 1) X.A) (hb : Binds X.K fd ps []) (hx : Passes CX X (fun _ _ _ => False)) (hg : Gl X x) (hm : X.mg x = some (.ref C)) (ha : PA X (e :: es) ta)
    (hdb : (x == ("__debug__" : Str)) = false := by decide) (he : starEach (e :: es) X.env = (false, eval e X.env) :: starEach es X.env := by rfl) (hpl : (backTo pos (starEach es X.env)).any (·.1) = false := by rfl) :
    PE X (.Call (.Name x p) (e :: es) [] pos) (tMkV C sp ta) := by
  refine ⟨fun pins s σ H Q I h => ?_⟩
  obtain ⟨nm, q, N, bs, bm, sn, sub, ab, col, dd, k0, k1, k2, k3, k5, hC, hbm⟩ := T.cls
  refine wpAny_Call_Name_kw (ld_glob I hg hm ?_ hdb)
  refine PySem.W.callWith_K (h₀ := X.base) I.ok.mod.kin T.kC (thn (ha.run pos pins s σ H _ I h) fun us s1 ⟨vs, H1, I1, r1, hz, q1⟩ => ⟨I1.kIn, ?_⟩) he hpl
  show wpAny _ _ (call (.ref C) us) _ _ _
  obtain ⟨hp, g, dr, tk, os⟩ := s1
  have hsz : hp.objs.size ≤ hp.objs.size + 1 := Nat.le_succ _
  have hn : H1 (hp.objs.size + 1) = none := I1.hok.fresh hsz
  have hq := q1 (hp.objs.size + 1) hn
  have kk : ∀ b o, hp.get? b = some o → ((hp.push (PySem.W.kdv_tup us)).push (PySem.HandSPX.excO C hp.objs.size)).get? b = some o := fun b o e => Heap.get?_push_of_some _ (Heap.get?_push_of_some _ e)
  have hget : ((hp.push (PySem.W.kdv_tup us)).push (PySem.HandSPX.excO C hp.objs.size)).get? (hp.objs.size + 1) = some (PySem.HandSPX.excO C hp.objs.size) := by heap_get
  have I2 : Inv X pins σ (upd H1 (hp.objs.size + 1) (exo (hp.objs.size + 1) C none)) ⟨(hp.push (PySem.W.kdv_tup us)).push (PySem.HandSPX.excO C hp.objs.size), g, dr, tk, os⟩ :=
    I1.laid (t' := tk) (a := hp.objs.size + 1) (o := exo (hp.objs.size + 1) C none) (h' := (hp.push (PySem.W.kdv_tup us)).push (PySem.HandSPX.excO C hp.objs.size)) kk hsz (exo_ok hget)
  have r2 : Vals (V.ref (hp.objs.size + 1) :: vs) (Value.ref (hp.objs.size + 1) :: us) := .cons rfl r1
  have hl : (Value.ref (hp.objs.size + 1) :: us ++ []).length = ps.length := by
    have e := r2.length
    rw [F1.len _ _ _ _ hq] at e
    rw [List.append_nil]
    exact e.symm
  have hus : us.length ≤ sizeLine := by
    rw [← Paired.length r1, sizeLine_eq]
    omega
  have hbb := hb ⟨(hp.push (PySem.W.kdv_tup us)).push (PySem.HandSPX.excO C hp.objs.size), g, dr, tk, os⟩ (Value.ref (hp.objs.size + 1) :: us) I2.kIn hl
  rw [List.append_nil] at hbb
  refine wpAny_call (PySem.HandSPX.call_own F.excBase_ValueError (fun Y => PySem.HandSPX.refsVE_contains Y bm hbm) (I1.kIn _ _ hC) (PySem.W.looks_findIn I1.kIn iC) (fun self => PySem.W.bind_fn I1.kIn self tI) hus
    (codeAny_mono (F1.run _ X.stack _ _ ⟨Value.ref (hp.objs.size + 1) :: us, []⟩ (Value.ref (hp.objs.size + 1) :: us) _ _ (fun _ _ _ => False) (hr.make C us []) (I2.env0.make C us []) hbb r2 hq) fun r s' hq' => ?_))
  cases r with
  | error er => exact hx pins σ _ _ er s' I2 hq'
  | ok fl =>
    cases fl with
    | ret u =>
      obtain ⟨v, H2, os2, bare2, un2, hok2, rv, ev, q2⟩ := hq'
      subst ev
      have hend : EP X pins σ Q (.ref (hp.objs.size + 1)) s' := by
        have z := I2.after (Q := fun v H2 => Q v H2) (u := .ref (hp.objs.size + 1)) (s' := s') ⟨.ref (hp.objs.size + 1), H2, os2, bare2, un2, hok2, rfl, q2⟩
        exact z
      exact ⟨rv, hend⟩
    | next => exact False.elim hq'
    | brk => exact False.elim hq'
    | cont => exact False.elim hq'
/-- X(), a class without __init__ of its own -/
theorem pe_ex0 {x : Str} {C : Addr} (T : OexC X.K C) (q : PySem.W.excIn X.K C veB "ValueError.__new__" = true) (hg : Gl X x) (hm : X.mg x = some (.ref C)) (hdb : (x == ("__debug__" : Str)) = false := by decide) :
    PE X (.Call (.Name x p) [] [] pos) (fun _ H Q => ∀ a, H a = none → Q (.ref a) (upd H a (exo a C none))) := by
  refine ⟨fun pins s σ H Q I h => ?_⟩
  refine wpAny_Call_Name_kw (ld_glob I hg hm ?_ hdb)
  refine PySem.W.callWith_K0 I.kIn T.kC ?_
  show wpAny _ _ (call (.ref C) []) _ _ _
  obtain ⟨bm, N, nm, qn, bs, hdct, sn, sub, ab, col, dd, k0, k1, k2, k3, k5, mN, hC, hN, hni, T2⟩ := exc_obj I.kIn q
  refine wpAny_call_exc_subT F.excBase_ValueError T2 hC hN hni (fun h' a hm => ?_) (by show 0 ≤ sizeLine; omega)
  have hn : H a = none := I.hok.gone hm.new
  obtain ⟨t, ht, _, _⟩ := hm.there
  exact ⟨.ref a, upd H a (exo a C none), I.laidN hm.keeps hm.new hn (exo_ok ht), rfl, h a hn⟩
end
section
variable {X : Cx} {pins : List (Addr × Obj)} {σ : L2.St} {H : Hp} {s : Shared}
/-- such an exception as the library's instance -/
theorem ExAt.inst {a C : Addr} {fs : List (Str × V)} (h : ExAt H a C fs) (I : Inv X pins σ H s) : ∃ ox od, PySem.W.InstAt s.heap a ox C od := by
  rcases h with ⟨_, h⟩ | ⟨dx, h1, h2⟩
  · obtain ⟨t1, ho⟩ := exo_at I.hok h
    exact ⟨_, none, ho, rfl, rfl, trivial⟩
  · obtain ⟨t1, ho⟩ := exo_at I.hok h1
    obtain ⟨mA, hns, _⟩ := exd_at I.hok h2
    obtain ⟨od, hod, _⟩ := lookIn_ns hns
    exact ⟨_, some od, ho, rfl, rfl, hod⟩
end
/-- isinstance(e, c), e an exception of the program as a value -/
def rIsX (K : PySem.W.Frag) : List V → Hp → VK → Prop := fun xs H Q => ∃ (a C : Addr) (fs : List (Str × V)) (c : V) (cv : Value) (b : Bool), xs = [.ref a, c] ∧ ExAt H a C fs ∧ ExK K C ∧ ClsV c cv ∧ PySem.W.kitOne K (.ref C) cv = some b ∧ Q (.bl b) H
theorem call_isX {X : Cx} : CallR X (.builtin "isinstance") (rIsX X.K) := by
  intro pins s σ H xs us Q I r h
  obtain ⟨a, C, fs, c, cv, b, rfl, hE, T, k, e, q⟩ := h
  obtain ⟨u1, u2, rfl, r1, r2⟩ := vals2 r
  cases (show u1 = Value.ref a from r1)
  have e2 := k.eq r2
  subst e2
  obtain ⟨ox, od, J⟩ := hE.inst I
  exact PySem.W.kia_one (PySem.W.kitx_exc T.clsv T.e.hg T.e.hk T.e.hs T.e.ha T.e.hn T.e.ht T.e.hm) I.kIn J e (fun z => nomatch z) fun tk => ⟨.bl b, H, I.tok tk, rfl, q⟩
/-- e.f of such -/
def tXfV (K : PySem.W.Frag) (f : Str) (te : TE) : TE := fun σ H Q => te σ H fun x H1 => ∃ (a C dx : Addr) (fs : List (Str × V)) (v : V), x = .ref a ∧ H1 a = some (exo a C (some dx)) ∧ H1 dx = some (exd dx fs) ∧ ExK K C ∧ PySem.W.findIn K (.ref C) f = some none ∧ fs.lookup f = some v ∧ Q v H1
theorem pe_xfV {X : Cx} {e : Expr} {te : TE} {pos : Pos} {n : Str} (he : PE X e te) (hb : attributeBase e n X.env (eval e X.env) = eval e X.env := by rfl) :
    PE X (.Attribute e n pos) (tXfV X.K n te) := by
  refine ⟨fun pins s σ H Q I h => ?_⟩
  refine attr_of hb (thn (he.run pins s σ H _ I h) fun u s1 hh => ?_)
  obtain ⟨x, H1, I1, rx, a, C, dx, fs, v, rfl, ea, ed, T, hno, l, q⟩ := hh
  obtain rfl : u = Value.ref a := rx
  obtain ⟨t1, ho⟩ := exo_at I1.hok ea
  obtain ⟨mA, hns, hr⟩ := exd_at I1.hok ed
  obtain ⟨od, hod, hl⟩ := lookIn_ns hns
  obtain ⟨u, hu, ru⟩ := RelO.some_of (v := v) (o := mA n) (by rw [← l]; exact hr n)
  have J : PySem.W.InstAt s1.heap a _ C (some od) := ⟨ho, rfl, rfl, hod⟩
  exact HandSPX.exc_get I1.kIn J T.x.ga T.x.gg T.x.exC (PySem.W.findObj_own T.x.hdC hno rfl (by rw [hl, hu])) (handed_of ru) ⟨v, H1, I1.tok _, ru, q⟩
end XV
/-! a head by facts: He.hookD and one more Bool of the written part -/
namespace KH
open PySem PySem.Spec PyProof.Rows L2
abbrev Al : Type := He.AlD × Bool
def obs (n : Nat) (fa : List He.Fa) (fn : List He.DefD) (ex : PySem.W.Frag → Bool) (g : Addr → Option Obj) : Al := (He.obsD fa fn (He.frG g (He.asD g n)), ex (He.frG g (He.asD g n)))
def hook (n : Nat) (fa : List He.Fa) (fn : List He.DefD) (ex : PySem.W.Frag → Bool) : PySem.W.Hook where
  α := Al
  obs := fun s => obs n fa fn ex s.heap.get?
  val := fun _ => (He.valD fn, true)
  says := fun _ h => ∃ K : PySem.W.Frag, K.In h ∧ He.SaysD fa fn K ∧ ex K = true
  of := fun _ _ e => ⟨_, He.frG_in, congrArg (fun z : Al => z.1) e, congrArg (fun z : Al => z.2) e⟩
  keeps := fun _ _ _ ⟨K, hK, c, d⟩ k => ⟨K, PySem.W.Frag.In.keeps hK k, c, d⟩
theorem obs_eq {n : Nat} {fa : List He.Fa} {fn : List He.DefD} {ex : PySem.W.Frag → Bool} {g : Addr → Option Obj} {s : Shared} (h : ∀ a, g a = s.heap.get? a) : obs n fa fn ex g = (hook n fa fn ex).obs s := by
  have e : g = s.heap.get? := funext h
  rw [e] <;> rfl
/-- the def at a place of the text, as a datum -/
def dat (at_ : Str × Option Str) (qual : Str) (st : Stmt) (dfl : List He.Dv := []) : He.DefD := ⟨at_, (match at_.2 with | none => at_.1 | some m => m), qual, defArgs st, defBody st, defScope st, dfl, []⟩
end KH
/-! calls by contract, and readings that keep one base heap -/
namespace LX
open PySem PySem.Spec PyProof.Rows L2 Evl
/-! ### a def by its name -/
structure OkF (P : Program) (w : World) (K : PySem.W.Frag) (mg : Str → Option Value) (base : Heap) (k : Nat) (x : Str) (ps : List Str) (sp : Sp) : Prop where
  ex : ∃ (f : Addr) (fd : FuncData), mg x = some (.ref f) ∧ PySem.W.keepIn K (.ref f) = true ∧ FnOk P w K mg base CX0 k f fd ps sp ∧ Binds K fd ps []
theorem pe_f {X : Cx} {x : Str} {e : Expr} {es : List Expr} {p pos : Pos} {k j : Nat} {ps : List Str} {sp : Sp} {t : TA} (O : OkF X.prog X.w X.K X.mg X.base k x ps sp) (hr : Room j X.A) (hj : k ≤ j) (ha : PA X (e :: es) t) (hg : Gl X x := by rfl)
    (hdb : (x == ("__debug__" : Str)) = false := by decide) (he : starEach (e :: es) X.env = (false, eval e X.env) :: starEach es X.env := by rfl) (hpl : (backTo pos (starEach es X.env)).any (·.1) = false := by rfl) :
    PE X (.Call (.Name x p) (e :: es) [] pos) (tCall sp [] E0 t) := by
  obtain ⟨f, fd, gm, kp, F, b⟩ := O.ex
  exact pe_call F (hr.mono hj) hg gm kp b .nil pass0 ha hdb he hpl
/-- from a def of the text -/
theorem fun_of {K : PySem.W.Frag} {x qual : Str} {st : Stmt} {f : Addr} {fd : FuncData} (F : FunD K x qual (defArgs st) (defBody st) (defScope st) [] [] f fd) : Fun K x qual st f fd := by
  obtain ⟨⟨oc, od, dV, kV, doc, pm, an, cdv, ct, osl, rfl, lk, hcd, hD, _⟩, kp⟩ := F
  rcases hD with ⟨_, rfl⟩ | ⟨e, _⟩
  · exact ⟨⟨oc, od, kV, doc, pm, an, cdv, ct, osl, rfl, lk, hcd⟩, kp⟩
  · exact absurd rfl e

/-! ### readings over one base heap -/
/-- whatever stands besides H -/
def Sg (ts : TS) (D : Ends) (σ : L2.St) (H : Hp) : Prop := ∀ H1, Ex H H1 → ts D σ H1
section
variable {K : PySem.W.Frag} {σ : L2.St} {H H' : Hp} {ta tb te tx : TE} {t u : TT} {x y z v : V} {r : R2} {D : Ends} {tu tw tz : TS} {g : TG}
theorem Sg.mono (e : Ex H H') (h : Sg tu D σ H) : Sg tu D σ H' := fun H1 a => h H1 (e.trans a)
theorem g_asg {i : Nat} (h : Ev te σ H v) (k : Sg tz D (σ.set i (some v)) H) : Sg (tSeq (tAsg te (gName i)) tz) D σ H := fun H1 e => q_asg (h.mono e) fun H2 e2 => k H2 (e.trans e2)
theorem g_asgL {i : Nat} {xs : List V} (h : EvL te σ H xs) (k : ∀ p H1, H p = none → Ex H H1 → H1 p = some (.lst xs) → Sg tz D (σ.set i (some (.ref p))) H1) : Sg (tSeq (tAsg te (gName i)) tz) D σ H :=
  fun H1 e => q_asgL (h.mono e) fun p H2 hp e2 h2 => k p H2 (fresh_back e hp) (e.trans e2) h2 H2 (Ex.refl H2)
theorem EvU.mono {xs : List V} (e : Ex H H') (h : EvU te σ H xs) : EvU te σ H' xs := fun H1 a Q q => h H1 (e.trans a) Q q
theorem g_asgU {i : Nat} {xs : List V} (h : EvU te σ H xs) (k : ∀ p H1, H p = none → Ex H H1 → H1 p = some (.tup xs) → Sg tz D (σ.set i (some (.ref p))) H1) : Sg (tSeq (tAsg te (gName i)) tz) D σ H :=
  fun H1 e => q_asgU (EvU.mono e h) fun p H2 hp e2 h2 => k p H2 (fresh_back e hp) (e.trans e2) h2 H2 (Ex.refl H2)
theorem g_ret (h : Ev te σ H v) (k : ∀ H1, Ex H H1 → D.rt v H1) : Sg (tRet te) D σ H := fun H1 e => s_ret (h.mono e) fun H2 e2 => k H2 (e.trans e2)
theorem g_retL {xs : List V} (h : EvL te σ H xs) (k : ∀ p H1, H p = none → Ex H H1 → H1 p = some (.lst xs) → D.rt (.ref p) H1) : Sg (tRet te) D σ H := fun H1 e => s_retL (h.mono e) fun p H2 hp e2 h2 => k p H2 (fresh_back e hp) (e.trans e2) h2
theorem g_retU {xs : List V} (h : EvU te σ H xs) (k : ∀ p H1, H p = none → Ex H H1 → H1 p = some (.tup xs) → D.rt (.ref p) H1) : Sg (tRet te) D σ H := fun H1 e => s_retU (EvU.mono e h) fun p H2 hp e2 h2 => k p H2 (fresh_back e hp) (e.trans e2) h2
theorem g_if {b : Bool} (h : EvT t σ H b) (h1 : b = true → Sg tu { D with nx := tz D } σ H) (h2 : b = false → Sg tw { D with nx := tz D } σ H) : Sg (tSeq (tIfS t tu tw) tz) D σ H := fun H1 e =>
  q_if (h.mono e) (fun hb H2 e2 => h1 hb H2 (e.trans e2)) fun hb H2 e2 => h2 hb H2 (e.trans e2)
/-- an if without else -/
theorem g_when {b : Bool} (h : EvT t σ H b) (h1 : b = true → Sg tu { D with nx := tz D } σ H) (h2 : b = false → Sg tz D σ H) : Sg (tSeq (tIfS t tu tNext) tz) D σ H := fun H1 e =>
  q_when (h.mono e) (fun hb H2 e2 => h1 hb H2 (e.trans e2)) fun hb H2 e2 => h2 hb H2 (e.trans e2)
/-- the last statement of a block -/
theorem g1_asg {i : Nat} (h : Ev te σ H v) (k : ∀ H1, Ex H H1 → D.nx (σ.set i (some v)) H1) : Sg (tAsg te (gName i)) D σ H := fun H1 e => s_asg (h.mono e) fun H2 e2 => k H2 (e.trans e2)
theorem g1_if {b : Bool} (h : EvT t σ H b) (h1 : b = true → Sg tu D σ H) (h2 : b = false → Sg tw D σ H) : Sg (tIfS t tu tw) D σ H := fun H1 e => s_if (h.mono e) (fun hb H2 e2 => h1 hb H2 (e.trans e2)) fun hb H2 e2 => h2 hb H2 (e.trans e2)
theorem g1_when {b : Bool} (h : EvT t σ H b) (h1 : b = true → Sg tu D σ H) (h2 : b = false → ∀ H1, Ex H H1 → D.nx σ H1) : Sg (tIfS t tu tNext) D σ H := fun H1 e => s_when (h.mono e) (fun hb H2 e2 => h1 hb H2 (e.trans e2)) fun hb H2 e2 => h2 hb H2 (e.trans e2)
theorem g_nil (k : ∀ H1, Ex H H1 → D.nx σ H1) : Sg tNext D σ H := k
/-- xs.append(e) where H knows nothing of xs: H0 the base, H the heap now -/
theorem g_drop (h : Ev te σ H v) (k : Sg tz D σ H) : Sg (tSeq (tDrop te) tz) D σ H := fun H1 e => q_drop (h.mono e) fun H2 e2 => k H2 (e.trans e2)

/-! ### evaluation -/
theorem ev_int {i : Int} (h : Ev te σ H (.int i)) : Ev (tCB (fun xs H Q => (∃ i, xs = [.int i] ∧ Q (.int i) H) ∨ ∃ k, xs = [.bl k] ∧ Q (.int (if k then 1 else 0)) H) (tCons te tNil)) σ H (.int i) :=
  ev_cb (ea_cons h ea_nil) fun H1 _ Q q => .inl ⟨i, rfl, q H1 (Ex.refl H1)⟩
theorem ev_isi {c : V} {tt uu : Value} {b : Bool} (h : Ev te σ H x) (hc : ClsV c uu) (ht : ∀ H1, Ex H H1 → TyX K H1 x tt) (hk : PySem.W.kitOne K tt uu = some b) : Ev (tCB (rIsi K) (tCons te (tCons (tC c) tNil))) σ H (.bl b) :=
  ev_cb (ea_cons h (ea_cons ev_c ea_nil)) fun H1 e Q q => ⟨x, c, tt, uu, b, rfl, hc, ht H1 e, hk, q H1 (Ex.refl H1)⟩
theorem ev_isi_int {i : Int} {n : String} {b : Bool} (h : Ev te σ H (.int i)) (hk : kitB "int" n = some b) : Ev (tCB (rIsi K) (tCons te (tCons (tC (.ty n)) tNil))) σ H (.bl b) :=
  ev_isi h (.ty n) (fun _ _ => .base (.int i)) (kit_ty hk)
theorem ev_isi_str {i : Str} {n : String} {b : Bool} (h : Ev te σ H (.str i)) (hk : kitB "str" n = some b) : Ev (tCB (rIsi K) (tCons te (tCons (tC (.ty n)) tNil))) σ H (.bl b) :=
  ev_isi h (.ty n) (fun _ _ => .base (.str i)) (kit_ty hk)
theorem ev_isi_tup {a : Addr} {xs : List V} {n : String} {b : Bool} (h : Ev te σ H (.ref a)) (ha : H a = some (.tup xs)) (hk : kitB "tuple" n = some b) : Ev (tCB (rIsi K) (tCons te (tCons (tC (.ty n)) tNil))) σ H (.bl b) :=
  ev_isi h (.ty n) (fun H1 e => .base (.tup (e _ _ ha))) (kit_ty hk)
theorem ev_isi_lst {a : Addr} {xs : List V} {n : String} {b : Bool} (h : Ev te σ H (.ref a)) (ha : H a = some (.lst xs)) (hk : kitB "list" n = some b) : Ev (tCB (rIsi K) (tCons te (tCons (tC (.ty n)) tNil))) σ H (.bl b) :=
  ev_isi h (.ty n) (fun H1 e => .base (.lst (e _ _ ha))) (kit_ty hk)
end
section
variable {H : Hp} {i j : Int}
theorem rv_mulR (h : -(2 ^ 64) < j ∧ j < 2 ^ 64) : RV (rI CMul fun i j => .int (i * j)) (.int i) (.int j) H (.int (i * j)) := rv_I (Or.inr h)
theorem rv_mulL (h : -(2 ^ 64) < i ∧ i < 2 ^ 64) : RV (rI CMul fun i j => .int (i * j)) (.int i) (.int j) H (.int (i * j)) := rv_I (Or.inl h)
theorem rv_mod (h : 0 < j) : RV (rI (fun _ j => 0 < j) fun i j => .int (i % j)) (.int i) (.int j) H (.int (i % j)) := rv_I h
theorem rv_div (h : 0 < j ∧ j < 1073741824) : RV (rI CDiv fun i j => .int (i / j)) (.int i) (.int j) H (.int (i / j)) := rv_I h
theorem rv_pow (h : 0 ≤ j ∧ j ≤ 1000000 ∧ i.natAbs < 2 ^ 64) : RV (rI CPow fun i j => .int (i ^ j.toNat)) (.int i) (.int j) H (.int (i ^ j.toNat)) := rv_I h
end
/-! ### the text's facts -/
structure Tx (gloN freeN : List Str) (fnD : List He.DefD) (ex : PySem.W.Frag → Bool) (K : PySem.W.Frag) (mg : Str → Option Value) : Prop where
  g : ∀ x ∈ gloN, mg x = some (.ref (He.ga K x))
  n : ∀ x ∈ freeN, mg x = none
  d : ∀ d ∈ fnD, ∃ fd, FunD K d.name d.qual d.params d.body d.scope (d.dvs K) (d.kws K) (He.fAd K d.at_) fd
  x : ex K = true
theorem Tx.fn {gloN freeN : List Str} {fnD : List He.DefD} {ex : PySem.W.Frag → Bool} {K : PySem.W.Frag} {mg : Str → Option Value} (T : Tx gloN freeN fnD ex K mg) (i : Nat) {x : Str} {st : Stmt} (h : fnD[i]? = some (KH.dat (x, none) x st)) : ∃ fd, Fun K x x st (He.ga K x) fd := by
  obtain ⟨fd, F⟩ := T.d _ (List.mem_of_getElem? h)
  exact ⟨fd, fun_of F⟩
theorem Tx.okF {gloN freeN : List Str} {fnD : List He.DefD} {ex : PySem.W.Frag → Bool} {K : PySem.W.Frag} {mg : Str → Option Value} {P : Program} {w : World} {base : Heap} {k : Nat} {ps : List Str} {sp : Sp} (T : Tx gloN freeN fnD ex K mg) (i : Nat) {x : Str} {st : Stmt}
    (h : fnD[i]? = some (KH.dat (x, none) x st)) (hx : x ∈ gloN) (hF : ∀ f fd, Fun K x x st f fd → FnOk P w K mg base CX0 k f fd ps sp)
    (hb : ∀ (kV doc pm : Value) (an : Option Addr) (cdv ct : Value) (us : List Value), us.length = ps.length → bindArgs (PySem.W.fnOf x x (defArgs st) (defBody st) (defScope st) .none kV doc pm an cdv ct) ⟨us, []⟩ = pure (ps.zip us)) : OkF P w K mg base k x ps sp := by
  obtain ⟨fd, F⟩ := T.fn i h
  exact ⟨_, fd, T.g x hx, F.kp, hF _ fd F, F.binds hb⟩
theorem Tx.of {n : Nat} {gloN freeN : List Str} {fnD : List He.DefD} {ex : PySem.W.Frag → Bool} {K : PySem.W.Frag} {h : Heap} {mg : Str → Option Value} (X : K.In h) (G : h.Ns mainGlobals mg) (c : He.SaysD (gloN.map He.Fa.glo ++ freeN.map He.Fa.free) fnD K) (cx : ex K = true) : Tx gloN freeN fnD ex K mg where
  g := fun x hx => He.glo_ok X G (c.facts (List.mem_append_left _ (List.mem_map_of_mem hx)))
  n := fun x hx => He.free_ok X G (c.facts (List.mem_append_right _ (List.mem_map_of_mem hx)))
  d := fun d hd => c.defs hd
  x := cx
/-! ### rules whose reading names the written part by a letter -/
section
variable {X : Cx} {K : PySem.W.Frag}
theorem k_ixl (h : X.K = K := by rfl) : IxR X (rIxL K) := by subst h; exact ix_list
theorem k_ixt (h : X.K = K := by rfl) : IxR X (rIxT K) := by subst h; exact ix_tup
theorem k_len (h : X.K = K := by rfl) : CallR X (.builtin "len") (rLenS K) := by subst h; exact call_len_seq
theorem k_isi (h : X.K = K := by rfl) : CallR X (.builtin "isinstance") (rIsi K) := by subst h; exact call_isi
theorem k_isX (h : X.K = K := by rfl) : CallR X (.builtin "isinstance") (XV.rIsX K) := by subst h; exact XV.call_isX
def rTupOf (K : PySem.W.Frag) : List V → Hp → VK → Prop := fun xs H Q => ∃ p ys, xs = [.ref p] ∧ ((SqL K H p ys ∧ ∀ l, H l = none → Q (.ref l) (upd H l (.tup ys))) ∨ (SqT K H p ys ∧ Q (.ref p) H))
theorem k_tupOf (h : X.K = K := by rfl) : CallR X (.type "tuple") (rTupOf K) := by subst h; exact call_tuple_of
theorem k_listOf (h : X.K = K := by rfl) : CallR X (.type "list") (rListS K) := by subst h; exact call_list_of
theorem k_in (h : X.K = K := by rfl) : OpR X (compareOp .In) (rIn K false) := by subst h; exact op_in_seq
theorem k_notIn (h : X.K = K := by rfl) : OpR X (compareOp .NotIn) (rIn K true) := by subst h; exact op_notIn_seq
theorem k_eqD (hu : X.A.units + 64 < cLine) (h : X.K = K := by rfl) : OpR X (compareOp .Eq) (rEqD K) := by subst h; exact op_eqD hu
theorem k_neD (hu : X.A.units + 64 < cLine) (h : X.K = K := by rfl) : OpR X (compareOp .NotEq) (rNeD K) := by subst h; exact op_neD hu
theorem k_catA (h : X.K = K := by rfl) : OpR X (binaryOp .Add) (rCatA K) := by subst h; exact op_catA
theorem k_sll (h : X.K = K := by rfl) : SlR X (rSlL K) := by subst h; exact sl_list
end
end LX
/-! own exceptions as values, over the readings -/
namespace LX
open PySem PySem.Spec PyProof.Rows L2 Evl XV
/-- a class with its own __init__ -/
structure OkC (P : Program) (w : World) (K : PySem.W.Frag) (mg : Str → Option Value) (base : Heap) (k : Nat) (x : Str) (ps : List Str) (sp : Sp) : Prop where
  g : mg x = some (.ref (He.ga K x))
  o : OexC K (He.ga K x)
  ex : ∃ (fI : Addr) (fd : FuncData), PySem.W.findIn K (.ref (He.ga K x)) "__init__" = some (some (.ref fI)) ∧ PySem.W.typeIn K (.ref fI) = some (.type "function") ∧ FnOk P w K mg base CX0 k fI fd ps sp ∧ Binds K fd ps []
theorem pe_c {X : Cx} {x : Str} {e : Expr} {es : List Expr} {p pos : Pos} {k j : Nat} {ps : List Str} {sp : Sp} {t : TA} (O : OkC X.prog X.w X.K X.mg X.base k x ps sp) (hr : Room j X.A) (hj : k + 1 ≤ j) (ha : PA X (e :: es) t) (hg : Gl X x := by rfl)
    (hdb : (x == ("__debug__" : Str)) = false := by decide) (he : starEach (e :: es) X.env = (false, eval e X.env) :: starEach es X.env := by rfl) (hpl : (backTo pos (starEach es X.env)).any (·.1) = false := by rfl) :
    PE X (.Call (.Name x p) (e :: es) [] pos) (tMkV (He.ga X.K x) sp t) := by
  obtain ⟨fI, fd, iC, tI, F, b⟩ := O.ex
  exact pe_oex O.o iC tI F (hr.mono hj) b pass0 hg O.g ha hdb he hpl
/-- a class without one -/
structure OkC0 (K : PySem.W.Frag) (mg : Str → Option Value) (x : Str) : Prop where
  g : mg x = some (.ref (He.ga K x))
  o : OexC K (He.ga K x)
  q : PySem.W.excIn K (He.ga K x) veB "ValueError.__new__" = true
def tMk0 (C : Addr) : TE := fun _ H Q => ∀ a, H a = none → Q (.ref a) (upd H a (exo a C none))
theorem pe_c0 {X : Cx} {x : Str} {p pos : Pos} (O : OkC0 X.K X.mg x) (hg : Gl X x := by rfl) (hdb : (x == ("__debug__" : Str)) = false := by decide) :
    PE X (.Call (.Name x p) [] [] pos) (tMk0 (He.ga X.K x)) := pe_ex0 O.o O.q hg O.g hdb
section
variable {K : PySem.W.Frag} {σ : L2.St} {H H' : Hp} {te : TE} {ta : TA} {D : Ends} {C a : Addr} {fs : List (Str × V)}
/-- a new exception -/
def EvX (te : TE) (σ : L2.St) (H : Hp) (C : Addr) (fs : List (Str × V)) : Prop := ∀ H1, Ex H H1 → ∀ Q : VK, (∀ p H2, H1 p = none → Ex H1 H2 → ExAt H2 p C fs → Q (.ref p) H2) → te σ H1 Q
theorem EvX.mono (e : Ex H H') (h : EvX te σ H C fs) : EvX te σ H' C fs := fun H1 a Q q => h H1 (e.trans a) Q q
theorem ev_mk0 : EvX (tMk0 C) σ H C [] := fun H1 _ Q q a ha => q a _ ha (Ex.new ha) (.inl ⟨rfl, upd_same⟩)
/-- what __init__ does of one field f -/
def spInit (K : PySem.W.Frag) (C : Addr) (f : Str) (ok : V → Hp → Prop) : Sp := fun vs H Q _ => ∃ (a : Addr) (y : V), vs = [.ref a, y] ∧ ok y H ∧ H a = some (exo a C none) ∧
  ∀ dx, H dx = none → dx ≠ a → Q .non (upd (upd H dx (exd dx [(f, y)])) a (exo a C (some dx)))
theorem ev_mkV {f : Str} {y : V} {ok : V → Hp → Prop} (h : EvA ta σ H [y]) (hy : ∀ H1, Ex H H1 → ok y H1) : EvX (tMkV C (spInit K C f ok) ta) σ H C [(f, y)] := fun H1 e1 Q q =>
  h H1 e1 _ fun H2 e2 => ⟨by show 1 ≤ 1000; decide, fun a ha => ⟨a, y, rfl, hy _ ((e1.trans e2).trans (Ex.new ha)), upd_same, fun dx hdx hne => ⟨rfl, by
    have hdx2 : H2 dx = none := by rw [upd_ne hne] at hdx; exact hdx
    refine q a _ (fresh_back e2 ha) (e2.trans ?_) (.inr ⟨dx, upd_same, ?_⟩)
    · intro b o hb
      have hba : b ≠ a := ne_of_none hb ha
      have hbd : b ≠ dx := ne_of_none hb hdx2
      rw [upd_ne hba, upd_ne hbd, upd_ne hba]
      exact hb
    · rw [upd_ne hne, upd_same]⟩⟩⟩
theorem g_retX (h : EvX te σ H C fs) (k : ∀ p H1, H p = none → Ex H H1 → ExAt H1 p C fs → D.rt (.ref p) H1) : Sg (tRet te) D σ H := fun H1 e => h H1 e _ fun p H2 hp e2 hx => k p H2 (fresh_back e hp) (e.trans e2) hx
theorem ev_isX {c : V} {cv : Value} {b : Bool} (h : Ev te σ H (.ref a)) (hE : ExAt H a C fs) (T : ExK K C) (hc : ClsV c cv) (hk : PySem.W.kitOne K (.ref C) cv = some b) : Ev (tCB (rIsX K) (tCons te (tCons (tC c) tNil))) σ H (.bl b) :=
  ev_cb (ea_cons h (ea_cons ev_c ea_nil)) fun H1 e Q q => ⟨a, C, fs, c, cv, b, rfl, ExAt.same e hE, T, hc, hk, q H1 (Ex.refl H1)⟩
theorem ev_fld {f : Str} {v : V} {dx : Addr} (h : Ev te σ H (.ref a)) (h1 : H a = some (exo a C (some dx))) (h2 : H dx = some (exd dx fs)) (T : ExK K C) (hno : PySem.W.findIn K (.ref C) f = some none) (hl : fs.lookup f = some v) : Ev (tXfV K f te) σ H v := fun H1 e Q q =>
  h H1 e _ fun H2 e2 => ⟨a, C, dx, fs, v, rfl, (e.trans e2) _ _ h1, (e.trans e2) _ _ h2, T, hno, hl, q H2 e2⟩
end
theorem Tx.okC {gloN freeN : List Str} {fnD : List He.DefD} {ex : PySem.W.Frag → Bool} {K : PySem.W.Frag} {mg : Str → Option Value} {P : Program} {w : World} {base : Heap} {k : Nat} {ps : List Str} {sp : Sp} (T : Tx gloN freeN fnD ex K mg) (i : Nat) {x q : Str} {st : Stmt}
    (h : fnD[i]? = some (KH.dat (x, some "__init__") q st)) (o : mg x = some (.ref (He.ga K x)) ∧ OexC K (He.ga K x)) (hi : PySem.W.findIn K (.ref (He.ga K x)) "__init__" = some (some (.ref (He.ma K (He.ga K x) "__init__"))) ∧ PySem.W.typeIn K (.ref (He.ma K (He.ga K x) "__init__")) = some (.type "function"))
    (hF : ∀ f fd, Fun K "__init__" q st f fd → FnOk P w K mg base CX0 k f fd ps sp)
    (hb : ∀ (kV doc pm : Value) (an : Option Addr) (cdv ct : Value) (us : List Value), us.length = ps.length → bindArgs (PySem.W.fnOf "__init__" q (defArgs st) (defBody st) (defScope st) .none kV doc pm an cdv ct) ⟨us, []⟩ = pure (ps.zip us)) : OkC P w K mg base k x ps sp := by
  obtain ⟨fd, F⟩ := T.d _ (List.mem_of_getElem? h)
  have F2 : Fun K "__init__" q st (He.ma K (He.ga K x) "__init__") fd := fun_of F
  exact ⟨o.1, o.2, _, fd, hi.1, hi.2, hF _ fd F2, F2.binds hb⟩
section
variable {K : PySem.W.Frag} {σ : L2.St} {H H' : Hp} {ta tb te : TE} {x y z v : V}
theorem el_cat {l : Addr} {xs ys : List V} (ha : Ev ta σ H (.ref l)) (hl : H l = some (.lst xs)) (hb : EvL tb σ H ys) (hz : xs.length + ys.length ≤ 100000) : EvL (tOp rCat ta tb) σ H (xs ++ ys) := fun H1 e Q q =>
  ha H1 e _ fun H2 e2 => hb H2 (e.trans e2) _ fun b H3 hb0 e3 hb3 => ⟨l, b, xs, ys, rfl, rfl, ((e.trans e2).trans e3) _ _ hl, hb3, sz_of hz, fun p hp => q p _ (fresh_back (e2.trans e3) hp) ((e2.trans e3).trans (Ex.new hp)) upd_same⟩
theorem el_catN {xs ys : List V} (ha : EvL ta σ H xs) (hb : EvL tb σ H ys) (hz : xs.length + ys.length ≤ 100000) : EvL (tOp rCat ta tb) σ H (xs ++ ys) := fun H1 e Q q =>
  ha H1 e _ fun l H2 hl0 e2 hl => hb H2 (e.trans e2) _ fun b H3 hb0 e3 hb3 => ⟨l, b, xs, ys, rfl, rfl, e3 _ _ hl, hb3, sz_of hz, fun p hp => q p _ (fresh_back (e2.trans e3) hp) ((e2.trans e3).trans (Ex.new hp)) upd_same⟩
theorem dp_ints {K : PySem.W.Frag} {H : Hp} : ∀ ns : List Int, DpAll K H (ns.map V.int) (ns.map PyData.int)
  | [] => .nil
  | n :: r => .cons (.int n) (dp_ints r)
theorem ints_lay (ns : List Int) : PyData.canLayAll0 (ns.map PyData.int) = true := by
  induction ns with
  | nil => rfl
  | cons n r ih =>
    show (PyData.canLay0 (.int n) && PyData.canLayAll0 (r.map PyData.int)) = true
    rw [ih]
    rfl
theorem ints_depth (ns : List Int) : PyData.depthAll (ns.map PyData.int) = 0 := by
  induction ns with
  | nil => rfl
  | cons n r ih =>
    show max (PyData.depth (.int n)) (PyData.depthAll (r.map PyData.int)) = 0
    rw [ih]
    rfl
theorem shaped_ints (ns : List Int) : SeqAt.shaped (.list (ns.map PyData.int)) = true := by
  show (PyData.canLayAll0 (ns.map PyData.int) && decide (PyData.depthAll (ns.map PyData.int) + 1 ≤ 64)) = true
  rw [ints_lay, ints_depth]
  rfl
theorem shaped_intsT (ns : List Int) : SeqAt.shaped (.tuple (ns.map PyData.int)) = true := shaped_ints ns
theorem eqv_ints : ∀ ns ms : List Int, PyData.eqvAll (ns.map PyData.int) (ms.map PyData.int) = decide (ns = ms)
  | [], [] => rfl
  | n :: r, [] => rfl
  | [], m :: t => rfl
  | n :: r, m :: t => by
    have e : PyData.eqvAll ((n :: r).map PyData.int) ((m :: t).map PyData.int) = ((n == m) && PyData.eqvAll (r.map PyData.int) (t.map PyData.int)) := rfl
    rw [e, eqv_ints r t]
    by_cases h : n = m
    · by_cases h2 : r = t
      · simp [h, h2]
      · simp [h, h2]
    · simp [h]
end
end LX
/-! more of evaluation: values told by a property, new tuples, calls whose arguments are new objects -/
namespace LX
open PySem PySem.Spec PyProof.Rows L2 Evl XV
section
variable {K : PySem.W.Frag} {σ : L2.St} {H H' : Hp} {ta tb te : TE} {t : TT} {tr : TA} {x y z v : V} {D : Ends} {tz : TS}
/-- a value with a property -/
def EvP (te : TE) (σ : L2.St) (H : Hp) (P : V → Prop) : Prop := ∀ H1, Ex H H1 → ∀ Q : VK, (∀ z H2, Ex H1 H2 → P z → Q z H2) → te σ H1 Q
theorem EvP.mono {P : V → Prop} (e : Ex H H') (h : EvP te σ H P) : EvP te σ H' P := fun H1 a Q q => h H1 (e.trans a) Q q
theorem Ev.p {P : V → Prop} (h : Ev te σ H v) (hp : P v) : EvP te σ H P := fun H1 e Q q => h H1 e Q fun H2 e2 => q v H2 e2 hp
def spP (D : List V → Hp → (V → Prop) → Prop) : Sp := fun vs H Q _ => ∃ Pz, D vs H Pz ∧ ∀ z H', Ex H H' → Pz z → Q z H'
theorem g_asgP {i : Nat} {P : V → Prop} (h : EvP te σ H P) (k : ∀ z, P z → Sg tz D (σ.set i (some z)) H) : Sg (tSeq (tAsg te (gName i)) tz) D σ H := fun H1 e => h H1 e _ fun z H2 e2 hz => k z hz H2 (e.trans e2)
theorem g_asgX {i : Nat} {C : Addr} {fs : List (Str × V)} (h : EvX te σ H C fs) (k : ∀ p H1, H p = none → Ex H H1 → ExAt H1 p C fs → Sg tz D (σ.set i (some (.ref p))) H1) : Sg (tSeq (tAsg te (gName i)) tz) D σ H :=
  fun H1 e => h H1 e _ fun p H2 hp e2 hx => k p H2 (fresh_back e hp) (e.trans e2) hx H2 (Ex.refl H2)
theorem g_retP {P : V → Prop} (h : EvP te σ H P) (k : ∀ z H1, Ex H H1 → P z → D.rt z H1) : Sg (tRet te) D σ H := fun H1 e => h H1 e _ fun z H2 e2 hz => k z H2 (e.trans e2) hz
/-- arguments some of which are new objects -/
def EvAP (ta : TA) (σ : L2.St) (H : Hp) (P : List V → Hp → Prop) : Prop := ∀ H1, Ex H H1 → ∀ Q : List V → Hp → Prop, (∀ vs H2, Ex H1 H2 → P vs H2 → Q vs H2) → ta σ H1 Q
theorem eap_nil : EvAP tNil σ H fun vs _ => vs = [] := fun H1 _ Q q => q [] H1 (Ex.refl H1) rfl
theorem eap_cons {P : List V → Hp → Prop} (h : Ev te σ H v) (hr : EvAP tr σ H P) : EvAP (tCons te tr) σ H fun vs H2 => ∃ r, vs = v :: r ∧ P r H2 := fun H1 e Q q =>
  h H1 e _ fun H2 e2 => hr H2 (e.trans e2) _ fun r H3 e3 hP => q _ H3 (e2.trans e3) ⟨r, rfl, hP⟩
theorem eap_consU {P : List V → Hp → Prop} {xs : List V} (h : EvU te σ H xs) (hr : EvAP tr σ H P) : EvAP (tCons te tr) σ H fun vs H2 => ∃ p r, vs = .ref p :: r ∧ H2 p = some (.tup xs) ∧ P r H2 := fun H1 e Q q =>
  h H1 e _ fun p H2 _ e2 hp => hr H2 (e.trans e2) _ fun r H3 e3 hP => q _ H3 (e2.trans e3) ⟨p, r, rfl, e3 _ _ hp, hP⟩
theorem eap_consL {P : List V → Hp → Prop} {xs : List V} (h : EvL te σ H xs) (hr : EvAP tr σ H P) : EvAP (tCons te tr) σ H fun vs H2 => ∃ p r, vs = .ref p :: r ∧ H2 p = some (.lst xs) ∧ P r H2 := fun H1 e Q q =>
  h H1 e _ fun p H2 _ e2 hp => hr H2 (e.trans e2) _ fun r H3 e3 hP => q _ H3 (e2.trans e3) ⟨p, r, rfl, e3 _ _ hp, hP⟩
theorem el_callP {sp : Sp} {E : XK} {ta : TA} {P : List V → Hp → Prop} {xs : List V} (h : EvAP ta σ H P) (hs : ∀ vs H1, Ex H H1 → P vs H1 → SpL sp vs H1 xs) : EvL (tCall sp [] E ta) σ H xs := fun H1 e Q q =>
  h H1 e _ fun vs H2 e2 hP => by
    show sp (vs ++ []) H2 Q E
    rw [List.append_nil]
    exact hs vs H2 (e.trans e2) hP H2 (Ex.refl H2) Q (fun p H3 hp e3 h3 => q p H3 (fresh_back e2 hp) (e2.trans e3) h3) E
theorem ev_callP {sp : Sp} {E : XK} {ta : TA} {P : List V → Hp → Prop} (h : EvAP ta σ H P) (hs : ∀ vs H1, Ex H H1 → P vs H1 → SpV sp vs H1 z) : Ev (tCall sp [] E ta) σ H z := fun H1 e Q q =>
  h H1 e _ fun vs H2 e2 hP => by
    show sp (vs ++ []) H2 Q E
    rw [List.append_nil]
    exact hs vs H2 (e.trans e2) hP H2 (Ex.refl H2) Q (fun H3 e3 => q H3 (e2.trans e3)) E
theorem ep_callP {Dz : List V → Hp → (V → Prop) → Prop} {E : XK} {ta : TA} {P : List V → Hp → Prop} {Pz : V → Prop} (h : EvAP ta σ H P) (hs : ∀ vs H1, Ex H H1 → P vs H1 → Dz vs H1 Pz) : EvP (tCall (spP Dz) [] E ta) σ H Pz := fun H1 e Q q =>
  h H1 e _ fun vs H2 e2 hP => by
    show spP Dz (vs ++ []) H2 Q E
    rw [List.append_nil]
    exact ⟨Pz, hs vs H2 (e.trans e2) hP, fun z H3 e3 hz => q z H3 (e2.trans e3) hz⟩
/-! texts -/
theorem ev_lenS {s : Str} (h : Ev te σ H (.str s)) (hz : s.length ≤ 100000) : Ev (tCB (fun xs H Q => ∃ z, xs = [.str z] ∧ z.length ≤ sizeLine ∧ Q (.int z.length) H) (tCons te tNil)) σ H (.int (s.length : Int)) :=
  ev_cb (ea_cons h ea_nil) fun H1 _ Q q => ⟨s, rfl, sz_of hz, q H1 (Ex.refl H1)⟩
theorem rv_addS {i j : Str} (h : i.length + j.length ≤ 100000) : RV (fun x y H Q => ∃ i j, x = .str i ∧ y = .str j ∧ i.length + j.length ≤ sizeLine ∧ Q (.str (i ++ j)) H) (.str i) (.str j) H (.str (i ++ j)) := fun H1 _ Q q => ⟨i, j, rfl, rfl, sz_of h, q H1 (Ex.refl H1)⟩
theorem ev_join {K : PySem.W.Frag} {a : Str} {ys : List Str} (h : Ev ta σ H (.str a)) (hl : EvL te σ H (ys.map V.str)) (hz : (ys.map (·.length)).sum + ys.length * a.length ≤ 16777216) :
    Ev (tM1 (fun x xs H Q => ∃ a p, ∃ ys : List Str, x = .str a ∧ xs = [.ref p] ∧ (SqL K H p (ys.map V.str) ∨ SqT K H p (ys.map V.str)) ∧ (ys.map (·.length)).sum + ys.length * a.length ≤ 16777216 ∧ Q (.str (Txt.join a ys)) H) ta te) σ H (.str (Txt.join a ys)) := fun H1 e Q q =>
  h H1 e _ fun H2 e2 => ⟨⟨a, rfl⟩, hl H2 (e.trans e2) _ fun p H3 _ e3 hp => ⟨a, p, ys, rfl, rfl, .inl (sq_of hp), hz, q H3 (e2.trans e3)⟩⟩
/-! comprehensions -/
theorem et_yes : EvT tYes σ H true := fun H1 _ _ q => q H1 (Ex.refl H1)
theorem given_all (n : Nat) (v : Nat → V) : given n (fun _ => true) v = (List.range n).map v := by
  unfold given
  rw [List.filter_eq_self.mpr fun _ _ => rfl]
/-! tuples -/
theorem eu_tupL {xs : List V} (h : EvL te σ H xs) : EvU (tCB (rTupOf K) (tCons te tNil)) σ H xs := fun H1 e Q q =>
  h H1 e _ fun p H2 hp0 e2 hp => ⟨p, xs, rfl, .inl ⟨sq_of hp, fun l hl => q l _ (fresh_back e2 hl) (e2.trans (Ex.new hl)) upd_same⟩⟩
theorem eu_catR {a : Addr} {xs ys : List V} (h1 : Ev ta σ H (.ref a)) (h2 : EvU tb σ H ys) (ha : SqT K H a xs) (hy : ys ≠ []) (hz : xs.length + ys.length ≤ 100000) : EvU (tOp (rCatA K) ta tb) σ H (xs ++ ys) := fun H1 e Q q =>
  h1 H1 e _ fun H2 e2 => h2 H2 (e.trans e2) _ fun b H3 hb0 e3 hb => ⟨a, b, xs, ys, rfl, rfl, ex_t ((e.trans e2).trans e3) ha, st_of hb, sz_of hz,
    fun hx => by
      subst hx
      exact q b H3 (fresh_back e2 hb0) (e2.trans e3) hb, fun _ h => absurd h hy, fun _ _ p hp => q p _ (fresh_back (e2.trans e3) hp) ((e2.trans e3).trans (Ex.new hp)) upd_same⟩
theorem eu_catL {b : Addr} {xs ys : List V} (h1 : EvU ta σ H xs) (h2 : Ev tb σ H (.ref b)) (hb : SqT K H b ys) (hx : xs ≠ []) (hz : xs.length + ys.length ≤ 100000) : EvU (tOp (rCatA K) ta tb) σ H (xs ++ ys) := fun H1 e Q q =>
  h1 H1 e _ fun a H2 ha0 e2 ha => h2 H2 (e.trans e2) _ fun H3 e3 => ⟨a, b, xs, ys, rfl, rfl, st_of (e3 _ _ ha), ex_t ((e.trans e2).trans e3) hb, sz_of hz,
    fun h => absurd h hx, fun _ hy => by
      subst hy
      have hq := q a H3 ha0 (e2.trans e3) (by rw [List.append_nil]; exact e3 _ _ ha)
      exact hq, fun _ _ p hp => q p _ (fresh_back (e2.trans e3) hp) ((e2.trans e3).trans (Ex.new hp)) upd_same⟩
end
end LX
namespace T
open PySem PySem.Spec PyProof.Rows L2 Evl LX
def top (i : Nat) : Stmt := PySem.Challenge.pw_onceread_k06_error_classes.main.body.getD i (.Pass ⟨0, 0, 0, 0⟩)
abbrev s_NoSuchRelation_init : Stmt := inClass (top 3) 0
abbrev s_BadRow_init : Stmt := inClass (top 4) 0
abbrev s_BadText_init : Stmt := inClass (top 7) 0
abbrev s_Unvalued_init : Stmt := inClass (top 9) 0
abbrev s_TooMany_init : Stmt := inClass (top 14) 0
abbrev s_BadSide_init : Stmt := inClass (top 15) 0
abbrev s_TooLong_init : Stmt := inClass (top 18) 0
abbrev s_TakenName_init : Stmt := inClass (top 19) 0
abbrev s_UnknownWatch_init : Stmt := inClass (top 20) 0
abbrev s_NoSuchWord_init : Stmt := inClass (top 23) 0
abbrev s_BadNote_init : Stmt := inClass (top 24) 0
abbrev s_BadLetter_init : Stmt := inClass (top 25) 0
abbrev s_law_whole : Stmt := top 27
abbrev s_law_cell : Stmt := top 28
abbrev s_law_digits : Stmt := top 29
abbrev s_law_plain : Stmt := top 30
abbrev s_law_filled : Stmt := top 31
abbrev s_law_classes : Stmt := top 32
abbrev s_law_holds_field : Stmt := top 33
abbrev s_law_text : Stmt := top 34
abbrev s_law_error : Stmt := top 35
abbrev s_law_is_error : Stmt := top 36
abbrev s_law : Stmt := top 37
def fnD : List He.DefD := ([KH.dat ("NoSuchRelation", some "__init__") "NoSuchRelation.__init__" s_NoSuchRelation_init, KH.dat ("BadRow", some "__init__") "BadRow.__init__" s_BadRow_init, KH.dat ("BadText", some "__init__") "BadText.__init__" s_BadText_init, KH.dat ("Unvalued", some "__init__") "Unvalued.__init__" s_Unvalued_init, KH.dat ("TooMany", some "__init__") "TooMany.__init__" s_TooMany_init, KH.dat ("BadSide", some "__init__") "BadSide.__init__" s_BadSide_init, KH.dat ("TooLong", some "__init__") "TooLong.__init__" s_TooLong_init, KH.dat ("TakenName", some "__init__") "TakenName.__init__" s_TakenName_init, KH.dat ("UnknownWatch", some "__init__") "UnknownWatch.__init__" s_UnknownWatch_init, KH.dat ("NoSuchWord", some "__init__") "NoSuchWord.__init__" s_NoSuchWord_init, KH.dat ("BadNote", some "__init__") "BadNote.__init__" s_BadNote_init, KH.dat ("BadLetter", some "__init__") "BadLetter.__init__" s_BadLetter_init, KH.dat ("_law_whole", none) "_law_whole" s_law_whole, KH.dat ("_law_cell", none) "_law_cell" s_law_cell, KH.dat ("_law_digits", none) "_law_digits" s_law_digits, KH.dat ("_law_plain", none) "_law_plain" s_law_plain] : List He.DefD) ++ ([KH.dat ("_law_filled", none) "_law_filled" s_law_filled, KH.dat ("_law_classes", none) "_law_classes" s_law_classes, KH.dat ("_law_holds_field", none) "_law_holds_field" s_law_holds_field, KH.dat ("_law_text", none) "_law_text" s_law_text, KH.dat ("_law_error", none) "_law_error" s_law_error, KH.dat ("_law_is_error", none) "_law_is_error" s_law_is_error, KH.dat ("law", none) "law" s_law] : List He.DefD)
def gloN : List Str := (["OnceError", "BadWorld", "NoSuchRelation", "BadRow", "BadOrder", "BadQuestion", "BadText", "BadValues", "Unvalued", "NotAWalk", "BadJudge", "BadGiven", "BadStanding", "TooMany", "BadSide", "NotRight"] : List Str) ++ (["TooLarge", "TooLong", "TakenName", "UnknownWatch", "NothingToUndo", "BadDeed", "NoSuchWord", "BadNote", "BadLetter", "_law_whole", "_law_cell", "_law_digits", "_law_plain", "_law_filled", "_law_classes", "_law_holds_field"] : List Str) ++ (["_law_text", "_law_error", "_law_is_error", "law"] : List Str)
def freeN : List Str := (["ValueError", "bool", "int", "isinstance", "len", "list", "range", "str", "tuple"] : List Str)
def fa : List He.Fa := gloN.map He.Fa.glo ++ freeN.map He.Fa.free
abbrev R : PySem.W.OpenRow := PySem.W.OpenLaw.row PySem.Challenge.rw_onceread_k06_error_classes
abbrev lawAt : Nat := 37
abbrev lawIx : Nat := 22
def loose : List Str := (["OnceError", "BadWorld", "NoSuchRelation", "BadRow", "BadOrder", "BadQuestion", "BadText", "BadValues", "Unvalued", "NotAWalk", "BadJudge", "BadGiven", "BadStanding", "TooMany", "BadSide", "NotRight"] : List Str) ++ (["TooLarge", "TooLong", "TakenName", "UnknownWatch", "NothingToUndo", "BadDeed", "NoSuchWord", "BadNote", "BadLetter", "_law_whole", "_law_cell", "_law_digits", "_law_plain", "_law_filled", "_law_classes", "_law_holds_field"] : List Str) ++ (["_law_text", "_law_error", "_law_is_error"] : List Str)
end T
namespace Kx
open PySem PySem.Spec PyProof.Rows L2 Evl LX T
variable {P : Program} {w : World} {K : PySem.W.Frag} {mg : Str → Option Value} {base : Heap} {ex : PySem.W.Frag → Bool}
/-- a def that hands back one value, whatever stands besides -/
def spV (D : List V → Hp → V → Prop) : Sp := fun vs H Q _ => ∃ z, D vs H z ∧ ∀ H', Ex H H' → Q z H'
theorem spV_at {D : List V → Hp → V → Prop} {vs : List V} {H : Hp} {z : V} (h : ∀ H', Ex H H' → D vs H' z) : SpV (spV D) vs H z := fun H1 e Q q _ => ⟨z, h H1 e, q⟩
theorem atI_int {ns : List Int} {k : Int} (h0 : 0 ≤ k) (h : k < ns.length) : atI (ns.map V.int) k = some (V.int (ns.getD k.toNat 0)) := by
  obtain ⟨j, rfl⟩ : ∃ j : Nat, k = (j : Int) := ⟨k.toNat, by omega⟩
  refine atI_nat ?_
  have hj : j < ns.length := by omega
  rw [List.getElem?_map, List.getElem?_eq_getElem hj, Int.toNat_natCast, List.getD_eq_getElem?_getD, List.getElem?_eq_getElem hj]
  rfl
/-! ### whole -/
def dWhole : List V → Hp → V → Prop := fun vs _ z => ∃ i : Int, vs = [.int i] ∧ z = .bl true
abbrev law_whole_N : List Str := ["value"]
abbrev law_whole_P : List Str := ["value"]
theorem sc_law_whole : FnScope ["value"] ["value"] (defScope s_law_whole) := ⟨rfl, rfl, rfl, by decide +kernel, rfl, by decide +kernel, by decide +kernel⟩
theorem ok_whole (T : Tx gloN freeN fnD ex K mg) : OkF P w K mg base 1 "_law_whole" ["value"] (spV dWhole) := by
  have n_isinstance := T.n "isinstance" (by decide +kernel)
  have n_bool := T.n "bool" (by decide +kernel)
  have n_int := T.n "int" (by decide +kernel)
  refine T.okF 12 rfl (by decide +kernel) (fun f fd F => ?_) (fun _ _ _ _ _ _ us hl => match us, hl with | [_], _ => rfl)
  refine F.ok sc_law_whole (fun vs H Q E h => ?_) (fun cdv A outer s H vs Q E hr h => ?_)
  · obtain ⟨_, ⟨i, rfl, _⟩, _⟩ := h
    rfl
  · obtain ⟨_, ⟨i, rfl, rfl⟩, q⟩ := h
    refine ⟨_, (pss_one (ps_ret (pe_and (pe_callB (LX.k_isi (K := K)) (by rfl) n_isinstance (by decide +kernel) (pa_cons (pv 0) (pa_cons (pe_bltn (v := .ty "int") (u := .type "int") (by rfl) n_int (by decide +kernel) rfl) pa_nil))) (pe_one (pe_not (pe_callB (LX.k_isi (K := K)) (by rfl) n_isinstance (by decide +kernel) (pa_cons (pv 0) (pa_cons (pe_bltn (v := .ty "bool") (u := .type "bool") (by rfl) n_bool (by decide +kernel) rfl) pa_nil)))))))), ?_⟩
    exact g_ret (ev_is (ev_andV (ev_isi_int (b := true) (ev_var rfl) (by decide +kernel)) fun _ => (ev_notV (ev_isi_int (b := false) (ev_var rfl) (by decide +kernel)))) rfl) q H (Ex.refl H)
/-! ### cell -/
theorem take_more {α : Type} : ∀ {l : List α} {i : Nat} {x : α}, l[i]? = some x → l.take (i + 1) = l.take i ++ [x]
  | [], i, x, h => by simp at h
  | a :: l, 0, x, h => by
    have e : a = x := Option.some.inj h
    subst e
    rfl
  | a :: l, i + 1, x, h => by
    have ih := take_more (l := l) (i := i) (x := x) h
    show a :: l.take (i + 1) = a :: l.take i ++ [x]
    rw [ih]
    rfl
def cellOf (ns : List Int) (k : Int) : Int := if k < ns.length then ns.getD k.toNat 0 else ((ns.foldl (fun s c => (s * 31 + c % 1000003) % 1000003) 17 + 7) * (k + 3) * 69621) % 2147483647
def dCell (K : PySem.W.Frag) : List V → Hp → V → Prop := fun vs H z => ∃ (a : Addr) (ns : List Int) (k : Int), vs = [.ref a, .int k] ∧ SqL K H a (ns.map V.int) ∧ 0 ≤ k ∧ k < 100000 ∧ ns.length < 100000 ∧ z = .int (cellOf ns k)
abbrev law_cell_N : List Str := ["script", "k", "seed", "cell"]
abbrev law_cell_P : List Str := ["script", "k"]
theorem sc_law_cell : FnScope ["script", "k", "seed", "cell"] ["script", "k"] (defScope s_law_cell) := ⟨rfl, rfl, rfl, by decide +kernel, rfl, by decide +kernel, by decide +kernel⟩
theorem seed_bound : ∀ (ns : List Int) (s : Int), 0 ≤ s ∧ s < 1000003 → 0 ≤ ns.foldl (fun s c => (s * 31 + c % 1000003) % 1000003) s ∧ ns.foldl (fun s c => (s * 31 + c % 1000003) % 1000003) s < 1000003
  | [], _, h => h
  | c :: r, s, h => seed_bound r _ ⟨Int.emod_nonneg _ (by decide), Int.emod_lt_of_pos _ (by decide)⟩
theorem ok_cell (T : Tx gloN freeN fnD ex K mg) : OkF P w K mg base 1 "_law_cell" ["script", "k"] (spV (dCell K)) := by
  have n_len := T.n "len" (by decide +kernel)
  have n_int := T.n "int" (by decide +kernel)
  refine T.okF 13 rfl (by decide +kernel) (fun f fd F => ?_) (fun _ _ _ _ _ _ us hl => match us, hl with | [_, _], _ => rfl)
  refine F.ok sc_law_cell (fun vs H Q E h => ?_) (fun cdv A outer s H vs Q E hr h => ?_)
  · obtain ⟨_, ⟨a, ns, k, rfl, _⟩, _⟩ := h
    rfl
  · obtain ⟨_, ⟨a, ns, k, rfl, hS, h0, hk, hl, rfl⟩, q⟩ := h
    refine ⟨_, (pss_cons (ps_if (pt_cmpR op_lt (pv 1) (pe_callB (LX.k_len (K := K)) (by rfl) n_len (by decide +kernel) (pa_cons (pv 0) pa_nil)) (nomark _)) (pss_one (ps_ret (pe_ix (LX.k_ixl (K := K)) (pv 0) (pv 1) (fun _ _ => rfl)))) pss_nil)
        (pss_cons (ps_set (i := 2) sc_law_cell.nd rfl (.inl rfl) pe_int)
        (pss_cons (ps_for PassesOwn.never rfl (pi_list (pv 0)) (pg_name (i := 3) sc_law_cell.nd rfl (.inl rfl)) (pss_one (ps_set (i := 2) sc_law_cell.nd rfl (.inl rfl) (pe_op op_mod (pe_callTy call_int1 (by rfl) n_int (by decide +kernel) (pa_cons (pe_op op_add (pe_op op_mul (pv 2) pe_int) (pe_op op_mod (pe_callTy call_int1 (by rfl) n_int (by decide +kernel) (pa_cons (pv 3) pa_nil)) pe_int)) pa_nil)) pe_int))))
        (pss_one (ps_ret (pe_op op_mod (pe_callTy call_int1 (by rfl) n_int (by decide +kernel) (pa_cons (pe_op op_mul (pe_op op_mul (pe_op op_add (pv 2) pe_int) (pe_op op_add (pv 1) pe_int)) pe_int) pa_nil)) pe_int)))))), ?_⟩
    have hn : (ns.map V.int).length = ns.length := List.length_map ..
    refine g_when (et_test (ev_op (ev_var rfl) (ev_len (ev_var rfl) hS) rv_I0)) (fun hb => ?_) (fun hb => ?_) H (Ex.refl H)
    · have hb := of_decide_eq_true hb
      rw [hn] at hb
      have hat : atI (ns.map V.int) k = some (V.int (ns.getD k.toNat 0)) := atI_int h0 (by omega)
      refine g_ret (ev_op (ev_var rfl) (ev_var rfl) (rv_ixL hS hat)) fun H1 e => ?_
      have := q H1 e
      unfold cellOf at this
      rw [if_pos hb] at this
      exact this
    · have hb : ¬ (k < ((ns.map V.int).length : Int)) := of_decide_eq_false hb
      rw [hn] at hb
      refine g_asg ev_c ?_
      refine fun H1 e1 => q_forLn (ev_var rfl) (ex_l e1 hS) (fun i σ' H' => ∃ y, σ' = [some (.ref a), some (.int k), some (.int ((ns.take i).foldl (fun s c => (s * 31 + c % 1000003) % 1000003) 17)), y] ∧ Ex H H') (fun H2 e2 => ⟨none, rfl, e1.trans e2⟩) (fun i σ' H' _ h => ?_) (fun i x σ' H' hx h => ?_) fun σ' H' h => ?_
      · obtain ⟨y, rfl, e⟩ := h
        exact ex_l e hS
      · obtain ⟨y, rfl, e⟩ := h
        rw [List.getElem?_map] at hx
        obtain ⟨c, hc, rfl⟩ : ∃ c, ns[i]? = some c ∧ x = V.int c := by
          cases q : ns[i]? with
          | none =>
            rw [q] at hx
            cases hx
          | some c =>
            rw [q] at hx
            exact ⟨c, rfl, (Option.some.inj hx).symm⟩
        refine g1_asg (H := H') (ev_op (ev_int (ev_op (ev_op (ev_var rfl) ev_c (rv_I ?_)) (ev_op (ev_int (ev_var rfl)) ev_c (rv_I ?_)) rv_I0)) ev_c (rv_I ?_)) ?_ H' (Ex.refl H')
        · exact .inr ⟨by decide, by decide⟩
        · show (0 : Int) < 1000003
          decide
        · show (0 : Int) < 1000003
          decide
        · intro H1 e1
          refine ⟨some (V.int c), ?_, e.trans e1⟩
          rw [take_more hc, List.foldl_append]
          rfl
      · obtain ⟨y, rfl, e⟩ := h
        rw [hn, List.take_length]
        have hs := seed_bound ns 17 ⟨by decide, by decide⟩
        refine g_ret (H := H') (ev_op (ev_int (ev_op (ev_op (ev_op (ev_var rfl) ev_c rv_I0) (ev_op (ev_var rfl) ev_c rv_I0) (rv_I ?_)) ev_c (rv_I ?_))) ev_c (rv_I ?_)) (fun H1 e1 => ?_) H' (Ex.refl H')
        · exact .inl ⟨by omega, by omega⟩
        · exact .inr ⟨by decide, by decide⟩
        · show (0 : Int) < 2147483647
          decide
        · have := q H1 (e.trans e1)
          unfold cellOf at this
          rw [if_neg hb] at this
          exact this
/-! ### digits -/
section
variable {τ : Type} (g : τ → Int → Int) (h : τ → Int → τ)
def runD : τ → List Int → List Int
  | _, [] => []
  | st, s :: r => g st s :: runD (h st s) r
theorem runD_len : ∀ (st : τ) (l : List Int), (runD g h st l).length = l.length
  | _, [] => rfl
  | st, s :: r => congrArg Nat.succ (runD_len (h st s) r)
theorem runD_more : ∀ (l : List Int) (st : τ) (i : Nat) (s : Int), l[i]? = some s → (runD g h st l).take (i + 1) = (runD g h st l).take i ++ [g ((l.take i).foldl h st) s]
  | [], _, _, _, e => by simp at e
  | s0 :: r, st, 0, s, e => by
    have e : s0 = s := Option.some.inj e
    subst e
    rfl
  | s0 :: r, st, i + 1, s, e => by
    show g st s0 :: (runD g h (h st s0) r).take (i + 1) = g st s0 :: (runD g h (h st s0) r).take i ++ [_]
    rw [runD_more r (h st s0) i s e]
    rfl
theorem runD_bd : ∀ (l : List Int) (st : τ), (∀ st s, s ∈ l → 0 ≤ g st s ∧ g st s < s) → ∀ (i : Nat) (d : Int), (runD g h st l)[i]? = some d → ∃ s, l[i]? = some s ∧ 0 ≤ d ∧ d < s
  | [], _, _, _, _, e => by simp [runD] at e
  | s :: r, st, hb, 0, d, e => by
    have e : g st s = d := Option.some.inj e
    subst e
    exact ⟨s, rfl, hb st s (List.mem_cons_self ..)⟩
  | s :: r, st, hb, i + 1, d, e => runD_bd r (h st s) (fun st s hs => hb st s (List.mem_cons_of_mem _ hs)) i d e
end
def seedB (p : Int × Int) : Int := (p.1 * 48271 + 974711 * p.2 + 12345) % 2147483647
def gB (p : Int × Int) (s : Int) : Int := ((seedB p * (seedB p / 65537 + 3)) % 2147483629) / 19 % s
def hB (p : Int × Int) (_ : Int) : Int × Int := (seedB p, p.2 + 1)
def gA (r s : Int) : Int := r % s
def hA (r s : Int) : Int := r / s
def digitsOf (c : Int) (sizes : List Int) : List Int := if c ≥ 10 ^ 18 then runD gA hA (c - 10 ^ 18) sizes else runD gB hB (c % 2147483629, 0) sizes
theorem digits_len (c : Int) (l : List Int) : (digitsOf c l).length = l.length := by
  unfold digitsOf
  split
  · exact runD_len ..
  · exact runD_len ..
theorem digits_bd {c : Int} {l : List Int} (hl : ∀ s ∈ l, 0 < s) {i : Nat} {d : Int} (e : (digitsOf c l)[i]? = some d) : ∃ s, l[i]? = some s ∧ 0 ≤ d ∧ d < s := by
  unfold digitsOf at e
  split at e
  · exact runD_bd _ _ l _ (fun st s hs => ⟨Int.emod_nonneg _ (by have := hl s hs; omega), Int.emod_lt_of_pos _ (hl s hs)⟩) i d e
  · exact runD_bd _ _ l _ (fun st s hs => ⟨Int.emod_nonneg _ (by have := hl s hs; omega), Int.emod_lt_of_pos _ (hl s hs)⟩) i d e
theorem foldB (l : List Int) : ∀ p : Int × Int, (l.foldl hB p).2 = p.2 + l.length := by
  induction l with
  | nil => intro p; simp
  | cons s r ih =>
    intro p
    rw [List.foldl_cons, ih]
    show p.2 + 1 + _ = _
    rw [List.length_cons]
    omega
theorem seedB_bd (p : Int × Int) : 0 ≤ seedB p ∧ seedB p < 2147483647 := ⟨Int.emod_nonneg _ (by decide), Int.emod_lt_of_pos _ (by decide)⟩
theorem foldB_bd (l : List Int) : ∀ p : Int × Int, 0 ≤ p.1 ∧ p.1 < 2147483647 → 0 ≤ (l.foldl hB p).1 ∧ (l.foldl hB p).1 < 2147483647 := by
  induction l with
  | nil => intro p h; exact h
  | cons s r ih =>
    intro p _
    exact ih _ (seedB_bd p)
def spL (D : List V → Hp → List V → Prop) : Sp := fun vs H Q _ => ∃ xs, D vs H xs ∧ RetL xs H Q
theorem spL_at {D : List V → Hp → List V → Prop} {vs : List V} {H : Hp} {xs : List V} (h : ∀ H', Ex H H' → D vs H' xs) : SpL (spL D) vs H xs := fun H1 e Q q _ => ⟨xs, h H1 e, q⟩
def dDigits (K : PySem.W.Frag) : List V → Hp → List V → Prop := fun vs H xs => ∃ (c : Int) (a : Addr) (sizes : List Int), vs = [.int c, .ref a] ∧ SqL K H a (sizes.map V.int) ∧ (∀ s ∈ sizes, 0 < s ∧ s < 1073741824) ∧ sizes.length ≤ 1000 ∧ xs = (digitsOf c sizes).map V.int
theorem map_int_get {ns : List Int} {i : Nat} {x : V} (hx : (ns.map V.int)[i]? = some x) : ∃ c, ns[i]? = some c ∧ x = V.int c := by
  rw [List.getElem?_map] at hx
  cases q : ns[i]? with
  | none =>
    rw [q] at hx
    cases hx
  | some c =>
    rw [q] at hx
    exact ⟨c, rfl, (Option.some.inj hx).symm⟩
abbrev law_digits_N : List Str := ["cell", "sizes", "found", "rest", "size", "seed", "k", "twice"]
abbrev law_digits_P : List Str := ["cell", "sizes"]
theorem sc_law_digits : FnScope ["cell", "sizes", "found", "rest", "size", "seed", "k", "twice"] ["cell", "sizes"] (defScope s_law_digits) := ⟨rfl, rfl, rfl, by decide +kernel, rfl, by decide +kernel, by decide +kernel⟩
theorem ok_digits (T : Tx gloN freeN fnD ex K mg) : OkF P w K mg base 1 "_law_digits" ["cell", "sizes"] (spL (dDigits K)) := by
  have n_int := T.n "int" (by decide +kernel)
  have n_range := T.n "range" (by decide +kernel)
  have n_len := T.n "len" (by decide +kernel)
  refine T.okF 14 rfl (by decide +kernel) (fun f fd F => ?_) (fun _ _ _ _ _ _ us hl => match us, hl with | [_, _], _ => rfl)
  refine F.ok sc_law_digits (fun vs H Q E h => ?_) (fun cdv A outer s H vs Q E hr h => ?_)
  · obtain ⟨_, ⟨c, a, sizes, rfl, _⟩, _⟩ := h
    rfl
  · obtain ⟨_, ⟨c, a, sizes, rfl, hS, hz, hl, rfl⟩, q⟩ := h
    refine ⟨_, (pss_cons (ps_set (i := 2) sc_law_digits.nd rfl (.inl rfl) (pe_lst pa_nil))
        (pss_cons (ps_set (i := 3) sc_law_digits.nd rfl (.inl rfl) (pe_callTy call_int1 (by rfl) n_int (by decide +kernel) (pa_cons (pv 0) pa_nil)))
        (pss_cons (ps_if (pt_cmpR op_ge (pv 3) (pe_op op_pow pe_int pe_int) (nomark _)) (pss_cons (ps_set (i := 3) sc_law_digits.nd rfl (.inl rfl) (pe_op op_sub (pv 3) (pe_op op_pow pe_int pe_int)))
        (pss_cons (ps_for PassesOwn.never rfl (pi_list (pv 1)) (pg_name (i := 4) sc_law_digits.nd rfl (.inl rfl)) (pss_cons (ps_expr (pe_bm PySem.F.plainAttrs_list PySem.F.slot_list_append PySem.F.type_list_append mt_append (pv 2) (pa_cons (pe_op op_mod (pe_callTy call_int1 (by rfl) n_int (by decide +kernel) (pa_cons (pv 3) pa_nil)) (pv 4)) pa_nil)))
        (pss_one (ps_set (i := 3) sc_law_digits.nd rfl (.inl rfl) (pe_op op_fdiv (pe_callTy call_int1 (by rfl) n_int (by decide +kernel) (pa_cons (pv 3) pa_nil)) (pv 4))))))
        (pss_one (ps_ret (pv 2))))) pss_nil)
        (pss_cons (ps_set (i := 5) sc_law_digits.nd rfl (.inl rfl) (pe_op op_mod (pe_callTy call_int1 (by rfl) n_int (by decide +kernel) (pa_cons (pv 3) pa_nil)) pe_int))
        (pss_cons (ps_for PassesOwn.never rfl (pi_range1 (by rfl) n_range (pa_cons (pe_callB (LX.k_len (K := K)) (by rfl) n_len (by decide +kernel) (pa_cons (pv 1) pa_nil)) pa_nil)) (pg_name (i := 6) sc_law_digits.nd rfl (.inl rfl)) (pss_cons (ps_set (i := 5) sc_law_digits.nd rfl (.inl rfl) (pe_op op_mod (pe_callTy call_int1 (by rfl) n_int (by decide +kernel) (pa_cons (pe_op op_add (pe_op op_add (pe_op op_mul (pv 5) pe_int) (pe_op op_mul pe_int (pv 6))) pe_int) pa_nil)) pe_int))
        (pss_cons (ps_set (i := 7) sc_law_digits.nd rfl (.inl rfl) (pe_op op_mod (pe_callTy call_int1 (by rfl) n_int (by decide +kernel) (pa_cons (pe_op op_mul (pv 5) (pe_op op_add (pe_op op_fdiv (pv 5) pe_int) pe_int)) pa_nil)) pe_int))
        (pss_one (ps_expr (pe_bm PySem.F.plainAttrs_list PySem.F.slot_list_append PySem.F.type_list_append mt_append (pv 2) (pa_cons (pe_op op_mod (pe_op op_fdiv (pv 7) pe_int) (pe_ix (LX.k_ixl (K := K)) (pv 1) (pv 6) (fun _ _ => rfl))) pa_nil)))))))
        (pss_one (ps_ret (pv 2)))))))), ?_⟩
    have hn : (sizes.map V.int).length = sizes.length := List.length_map ..
    refine g_asgL (el_lst ea_nil (by decide)) (fun l H1 hl0 e1 hl1 => ?_) H (Ex.refl H)
    refine g_asg (ev_int (ev_var rfl)) ?_
    refine g_when (et_test (ev_op (ev_var rfl) (ev_op ev_c ev_c (rv_I ⟨by decide, by decide, by decide⟩)) rv_I0)) (fun hb => ?_) (fun hb => ?_)
    · have hb : (10 : Int) ^ 18 ≤ c := of_decide_eq_true hb
      have hd : digitsOf c sizes = runD gA hA (c - 10 ^ 18) sizes := if_pos hb
      rw [hd] at q
      refine g_asg (ev_op (ev_var rfl) (ev_op ev_c ev_c (rv_I ⟨by decide, by decide, by decide⟩)) rv_I0) ?_
      refine fun H2 e2 => q_forLn (ev_var rfl) (ex_l (e1.trans e2) hS) (fun i σ' H' => ∃ y, σ' = [some (.int c), some (.ref a), some (.ref l), some (.int ((sizes.take i).foldl hA (c - 10 ^ 18))), y, none, none, none] ∧ Ex H H' ∧ H' l = some (.lst (((runD gA hA (c - 10 ^ 18) sizes).take i).map V.int)))
        (fun H3 e3 => ⟨none, rfl, (e1.trans e2).trans e3, e3 _ _ (e2 _ _ hl1)⟩) (fun i σ' H' _ h => ?_) (fun i x σ' H' hx h => ?_) fun σ' H' h => ?_
      · obtain ⟨y, rfl, e, _⟩ := h
        exact ex_l e hS
      · obtain ⟨y, rfl, e, hf⟩ := h
        obtain ⟨z, hc, rfl⟩ := map_int_get hx
        have hm := hz z (List.mem_of_getElem? hc)
        have hlen : (((runD gA hA (c - 10 ^ 18) sizes).take i).map V.int).length < 100000 := by
          rw [List.length_map, List.length_take, runD_len]
          omega
        refine q_app hf (ev_var rfl) (ev_op (ev_int (ev_var rfl)) (ev_var rfl) (rv_mod hm.1)) hlen fun H3 e3 => ?_
        refine s_asg (ev_op (ev_int (ev_var rfl)) (ev_var rfl) (rv_I ⟨hm.1, hm.2⟩)) fun H4 e4 => ?_
        refine ⟨some (.int z), ?_, ((Ex.mut (e.trans e3) hl0).trans e4), ?_⟩
        · rw [take_more hc, List.foldl_append]
          rfl
        · refine e4 _ _ ?_
          rw [upd_same, runD_more _ _ _ _ _ _ hc, List.map_append]
          rfl
      · obtain ⟨y, rfl, e, hf⟩ := h
        rw [hn] at hf
        rw [List.take_of_length_le (by rw [runD_len]; exact Nat.le_refl _)] at hf
        exact s_ret (ev_var rfl) fun H3 e3 => q l H3 hl0 (e.trans e3) (e3 _ _ hf)
    · have hb : ¬ (10 : Int) ^ 18 ≤ c := of_decide_eq_false hb
      have hd : digitsOf c sizes = runD gB hB (c % 2147483629, 0) sizes := if_neg hb
      rw [hd] at q
      refine g_asg (ev_op (ev_int (ev_var rfl)) ev_c (rv_mod (by decide))) ?_
      have hs0 : 0 ≤ c % 2147483629 ∧ c % 2147483629 < 2147483647 := by omega
      refine fun H2 e2 => q_forR1 (n := (sizes.length : Int)) (ea_cons (ev_is (ev_len (ev_var rfl) (ex_l (e1.trans e2) hS)) (by rw [hn])) ea_nil) (by omega)
        (fun i σ' H' => ∃ y z, σ' = [some (.int c), some (.ref a), some (.ref l), some (.int c), none, some (.int ((sizes.take i).foldl hB (c % 2147483629, 0)).1), y, z] ∧ Ex H H' ∧ H' l = some (.lst (((runD gB hB (c % 2147483629, 0) sizes).take i).map V.int)))
        (fun H3 e3 => ⟨none, none, rfl, (e1.trans e2).trans e3, e3 _ _ (e2 _ _ hl1)⟩) (fun i σ' H' hi h => ?_) fun σ' H' h => ?_
      · obtain ⟨y, z, rfl, e, hf⟩ := h
        have hi : i < sizes.length := by omega
        have hc : sizes[i]? = some sizes[i] := List.getElem?_eq_getElem hi
        have hm := hz sizes[i] (List.getElem_mem hi)
        have hlen : (((runD gB hB (c % 2147483629, 0) sizes).take i).map V.int).length < 100000 := by
          rw [List.length_map, List.length_take, runD_len]
          omega
        have hp := foldB_bd (sizes.take i) (c % 2147483629, 0) hs0
        have hk := foldB (sizes.take i) (c % 2147483629, 0)
        rw [List.length_take, Nat.min_eq_left (by omega)] at hk
        have hk : ((sizes.take i).foldl hB (c % 2147483629, 0)).2 = (i : Int) := by
          rw [hk]
          show (0 : Int) + _ = _
          omega
        generalize hpe : (sizes.take i).foldl hB (c % 2147483629, 0) = p at hp hk
        have hsb := seedB_bd p
        have hseed : (p.1 * 48271 + 974711 * (i : Int) + 12345) % 2147483647 = seedB p := by
          unfold seedB
          rw [hk]
        have hget : atI (sizes.map V.int) (i : Int) = some (V.int sizes[i]) := atI_nat (by rw [List.getElem?_map, hc]; rfl)
        refine g_asg (H := H') (ev_is (v := V.int ((p.1 * 48271 + 974711 * (i : Int) + 12345) % 2147483647)) (ev_op (ev_int (ev_op (ev_op (ev_op (ev_var rfl) ev_c (rv_mulR (by decide))) (ev_op ev_c (ev_var rfl) (rv_mulL (by decide))) rv_I0) ev_c rv_I0)) ev_c (rv_mod (by decide))) (congrArg V.int hseed)) ?_ H' (Ex.refl H')
        refine g_asg (ev_op (ev_int (ev_op (ev_var rfl) (ev_op (ev_op (ev_var rfl) ev_c (rv_div (by decide))) ev_c rv_I0) (rv_mulL (by omega)))) ev_c (rv_mod (by decide))) ?_
        refine fun H3 e3 => s_app (e3 _ _ hf) (ev_var rfl) (ev_op (ev_op (ev_var rfl) ev_c (rv_div (by decide))) (ev_op (ev_var rfl) (ev_var rfl) (rv_ixL (ex_l (e.trans e3) hS) hget)) (rv_mod hm.1)) hlen fun H4 e4 => ?_
        refine ⟨some (V.int (i : Int)), some (V.int ((seedB p * (seedB p / 65537 + 3)) % 2147483629)), ?_, Ex.mut ((e.trans e3).trans e4) hl0, ?_⟩
        · rw [take_more hc, List.foldl_append, hpe]
          rfl
        · rw [upd_same, runD_more _ _ _ _ _ _ hc, List.map_append, hpe]
          rfl
      · obtain ⟨y, z, rfl, e, hf⟩ := h
        rw [Int.toNat_natCast, List.take_of_length_le (by rw [runD_len]; exact Nat.le_refl _)] at hf
        exact s_ret (ev_var rfl) fun H3 e3 => q l H3 hl0 (e.trans e3) (e3 _ _ hf)
end Kx
namespace Kx
open PySem PySem.Spec PyProof.Rows L2 Evl LX T XV
variable {P : Program} {w : World} {K : PySem.W.Frag} {mg : Str → Option Value} {base : Heap}
def plainN : List Str := ["BadWorld", "BadOrder", "BadQuestion", "BadValues", "NotAWalk", "BadJudge", "BadGiven", "BadStanding", "NotRight", "TooLarge", "NothingToUndo", "BadDeed"]
def filledN : List (Str × Str) := [("NoSuchRelation", "name"), ("BadRow", "row"), ("BadText", "place"), ("Unvalued", "variable"), ("TooMany", "limit"), ("BadSide", "side"), ("TooLong", "length"), ("TakenName", "name"), ("UnknownWatch", "name"), ("NoSuchWord", "word"), ("BadNote", "line"), ("BadLetter", "letter")]
def kindN : List Str := plainN ++ filledN.map (·.1)
def kn (k : Nat) : Str := kindN.getD k ""
def initB (K : PySem.W.Frag) (C : Addr) : Bool := decide (PySem.W.findIn K (.ref C) "__init__" = some (some (.ref (He.ma K C "__init__")))) && decide (PySem.W.typeIn K (.ref (He.ma K C "__init__")) = some (.type "function"))
def kits (K : PySem.W.Frag) (i : Nat) : List Addr → Bool := fun cs => match cs[i]? with
  | some c => (cs.zipIdx.all fun p => decide (PySem.W.kitOne K (.ref c) (.ref p.1) = some (decide (i = p.2)))) && (decide (PySem.W.kitOne K (.ref c) (.ref (He.ga K "OnceError")) = some true) && decide (PySem.W.kitOne K (.ref c) (.type "ValueError") = some true))
  | none => false
def ex (K : PySem.W.Frag) : Bool :=
  (kindN.all fun x => XV.exB K (He.ga K x)) && ((plainN.all fun x => PySem.W.excIn K (He.ga K x) XV.veB "ValueError.__new__") && ((filledN.all fun q => initB K (He.ga K q.1) && decide (PySem.W.findIn K (.ref (He.ga K q.1)) q.2 = some none)) &&
  (List.range 24).all fun i => kits K i (kindN.map (He.ga K))))
abbrev TX (K : PySem.W.Frag) (mg : Str → Option Value) : Prop := Tx gloN freeN fnD ex K mg
theorem ex1 (T : TX K mg) {x : Str} (h : x ∈ kindN) : ExK K (He.ga K x) := XV.exB_ok (List.all_eq_true.mp (He.ba T.x).1 x h)
theorem ex2 (T : TX K mg) {x : Str} (h : x ∈ plainN) : PySem.W.excIn K (He.ga K x) XV.veB "ValueError.__new__" = true := List.all_eq_true.mp (He.ba (He.ba T.x).2).1 x h
theorem ex3 (T : TX K mg) {x f : Str} (h : (x, f) ∈ filledN) : (PySem.W.findIn K (.ref (He.ga K x)) "__init__" = some (some (.ref (He.ma K (He.ga K x) "__init__"))) ∧ PySem.W.typeIn K (.ref (He.ma K (He.ga K x) "__init__")) = some (.type "function")) ∧ PySem.W.findIn K (.ref (He.ga K x)) f = some none := by
  have z := List.all_eq_true.mp (He.ba (He.ba (He.ba T.x).2).2).1 (x, f) h
  obtain ⟨z1, z2⟩ := He.ba z
  obtain ⟨z3, z4⟩ := He.ba z1
  exact ⟨⟨of_decide_eq_true z3, of_decide_eq_true z4⟩, of_decide_eq_true z2⟩
theorem kn_get {k : Nat} (h : k < 24) : kindN[k]? = some (kn k) := by
  unfold kn
  have hl : kindN.length = 24 := rfl
  rw [List.getD_eq_getElem?_getD, List.getElem?_eq_getElem (by rw [hl]; exact h)]
  rfl
theorem kn_mem {k : Nat} (h : k < 24) : kn k ∈ kindN := List.mem_of_getElem? (kn_get h)
theorem ex4 (T : TX K mg) {i : Nat} (hi : i < 24) : (∀ j, j < 24 → PySem.W.kitOne K (.ref (He.ga K (kn i))) (.ref (He.ga K (kn j))) = some (decide (i = j))) ∧ PySem.W.kitOne K (.ref (He.ga K (kn i))) (.ref (He.ga K "OnceError")) = some true ∧ PySem.W.kitOne K (.ref (He.ga K (kn i))) (.type "ValueError") = some true := by
  have z := List.all_eq_true.mp (He.ba (He.ba (He.ba T.x).2).2).2 i (List.mem_range.mpr hi)
  unfold kits at z
  have hg : (kindN.map (He.ga K))[i]? = some (He.ga K (kn i)) := by
    rw [List.getElem?_map, kn_get hi]
    rfl
  rw [hg] at z
  obtain ⟨z1, z2⟩ := He.ba z
  obtain ⟨z3, z4⟩ := He.ba z2
  refine ⟨fun j hj => ?_, of_decide_eq_true z3, of_decide_eq_true z4⟩
  have hg2 : (kindN.map (He.ga K))[j]? = some (He.ga K (kn j)) := by
    rw [List.getElem?_map, kn_get hj]
    rfl
  have m : (He.ga K (kn j), j) ∈ (kindN.map (He.ga K)).zipIdx := List.mem_zipIdx_iff_getElem?.mpr hg2
  exact of_decide_eq_true (List.all_eq_true.mp z1 _ m)
/-! ### the classes -/
theorem c0 (T : TX K mg) {x : Str} (h : x ∈ plainN) (hg : x ∈ gloN) : OkC0 K mg x := ⟨T.g x hg, (ex1 T (List.mem_append_left _ h)).o, ex2 T h⟩
def okA : V → Hp → Prop := fun _ _ => True
def okT : V → Hp → Prop := fun y H => ∃ t xs, y = .ref t ∧ H t = some (.tup xs)

abbrev NoSuchRelation_init_N : List Str := ["self", "name"]
abbrev NoSuchRelation_init_P : List Str := ["self", "name"]
theorem sc_NoSuchRelation_init : FnScope ["self", "name"] ["self", "name"] (defScope s_NoSuchRelation_init) := ⟨rfl, rfl, rfl, by decide +kernel, rfl, by decide +kernel, by decide +kernel⟩
theorem ok_NoSuchRelation (T : TX K mg) : OkC P w K mg base 1 "NoSuchRelation" ["self", "name"] (spInit K (He.ga K "NoSuchRelation") "name" okA) := by
  have o : mg "NoSuchRelation" = some (.ref (He.ga K "NoSuchRelation")) ∧ OexC K (He.ga K "NoSuchRelation") := ⟨T.g _ (by decide +kernel), (ex1 T (by decide +kernel)).o⟩
  obtain ⟨hi, hno⟩ := ex3 T (x := "NoSuchRelation") (f := "name") (by decide +kernel)
  refine T.okC 0 rfl o hi (fun f fd F => ?_) (fun _ _ _ _ _ _ us hl => match us, hl with | [_, _], _ => rfl)
  refine F.ok sc_NoSuchRelation_init (fun vs H Q E h => ?_) (fun cdv A outer s H vs Q E hr h => ?_)
  · obtain ⟨a, y, rfl, _⟩ := h
    rfl
  · obtain ⟨a, y, rfl, hy, ha, q⟩ := h
    refine ⟨_, (pss_one (ps_ost (pv 0) (pv 1))), ?_⟩
    exact ⟨y, rfl, .ref a, rfl, a, _, rfl, o.2, hno, .inl ⟨ha, q⟩⟩
abbrev BadRow_init_N : List Str := ["self", "row"]
abbrev BadRow_init_P : List Str := ["self", "row"]
theorem sc_BadRow_init : FnScope ["self", "row"] ["self", "row"] (defScope s_BadRow_init) := ⟨rfl, rfl, rfl, by decide +kernel, rfl, by decide +kernel, by decide +kernel⟩
theorem ok_BadRow (T : TX K mg) : OkC P w K mg base 1 "BadRow" ["self", "row"] (spInit K (He.ga K "BadRow") "row" okT) := by
  have o : mg "BadRow" = some (.ref (He.ga K "BadRow")) ∧ OexC K (He.ga K "BadRow") := ⟨T.g _ (by decide +kernel), (ex1 T (by decide +kernel)).o⟩
  obtain ⟨hi, hno⟩ := ex3 T (x := "BadRow") (f := "row") (by decide +kernel)
  have n_isinstance := T.n "isinstance" (by decide +kernel)
  have n_list := T.n "list" (by decide +kernel)
  have n_tuple := T.n "tuple" (by decide +kernel)
  refine T.okC 1 rfl o hi (fun f fd F => ?_) (fun _ _ _ _ _ _ us hl => match us, hl with | [_, _], _ => rfl)
  refine F.ok sc_BadRow_init (fun vs H Q E h => ?_) (fun cdv A outer s H vs Q E hr h => ?_)
  · obtain ⟨a, y, rfl, _⟩ := h
    rfl
  · obtain ⟨a, y, rfl, hy, ha, q⟩ := h
    refine ⟨_, (pss_one (ps_ost (pv 0) (pe_ifExp (pt_val (pe_callB (LX.k_isi (K := K)) (by rfl) n_isinstance (by decide +kernel) (pa_cons (pv 1) (pa_cons (pe_bltn (v := .ty "list") (u := .type "list") (by rfl) n_list (by decide +kernel) rfl) pa_nil)))) (pe_callTy (LX.k_tupOf (K := K)) (by rfl) n_tuple (by decide +kernel) (pa_cons (pv 1) pa_nil)) (pv 1)))), ?_⟩
    obtain ⟨t, xs, rfl, ht⟩ := hy
    exact ⟨.ref t, rfl, .ref t, .ty "list", .type "tuple", .type "list", false, rfl, .ty "list", .base (.tup ht), kit_ty (by decide +kernel), false, rfl, iteF ⟨.ref t, rfl, .ref a, rfl, a, _, rfl, o.2, hno, .inl ⟨ha, q⟩⟩⟩
abbrev BadText_init_N : List Str := ["self", "place"]
abbrev BadText_init_P : List Str := ["self", "place"]
theorem sc_BadText_init : FnScope ["self", "place"] ["self", "place"] (defScope s_BadText_init) := ⟨rfl, rfl, rfl, by decide +kernel, rfl, by decide +kernel, by decide +kernel⟩
theorem ok_BadText (T : TX K mg) : OkC P w K mg base 1 "BadText" ["self", "place"] (spInit K (He.ga K "BadText") "place" okA) := by
  have o : mg "BadText" = some (.ref (He.ga K "BadText")) ∧ OexC K (He.ga K "BadText") := ⟨T.g _ (by decide +kernel), (ex1 T (by decide +kernel)).o⟩
  obtain ⟨hi, hno⟩ := ex3 T (x := "BadText") (f := "place") (by decide +kernel)
  refine T.okC 2 rfl o hi (fun f fd F => ?_) (fun _ _ _ _ _ _ us hl => match us, hl with | [_, _], _ => rfl)
  refine F.ok sc_BadText_init (fun vs H Q E h => ?_) (fun cdv A outer s H vs Q E hr h => ?_)
  · obtain ⟨a, y, rfl, _⟩ := h
    rfl
  · obtain ⟨a, y, rfl, hy, ha, q⟩ := h
    refine ⟨_, (pss_one (ps_ost (pv 0) (pv 1))), ?_⟩
    exact ⟨y, rfl, .ref a, rfl, a, _, rfl, o.2, hno, .inl ⟨ha, q⟩⟩
abbrev Unvalued_init_N : List Str := ["self", "variable"]
abbrev Unvalued_init_P : List Str := ["self", "variable"]
theorem sc_Unvalued_init : FnScope ["self", "variable"] ["self", "variable"] (defScope s_Unvalued_init) := ⟨rfl, rfl, rfl, by decide +kernel, rfl, by decide +kernel, by decide +kernel⟩
theorem ok_Unvalued (T : TX K mg) : OkC P w K mg base 1 "Unvalued" ["self", "variable"] (spInit K (He.ga K "Unvalued") "variable" okA) := by
  have o : mg "Unvalued" = some (.ref (He.ga K "Unvalued")) ∧ OexC K (He.ga K "Unvalued") := ⟨T.g _ (by decide +kernel), (ex1 T (by decide +kernel)).o⟩
  obtain ⟨hi, hno⟩ := ex3 T (x := "Unvalued") (f := "variable") (by decide +kernel)
  refine T.okC 3 rfl o hi (fun f fd F => ?_) (fun _ _ _ _ _ _ us hl => match us, hl with | [_, _], _ => rfl)
  refine F.ok sc_Unvalued_init (fun vs H Q E h => ?_) (fun cdv A outer s H vs Q E hr h => ?_)
  · obtain ⟨a, y, rfl, _⟩ := h
    rfl
  · obtain ⟨a, y, rfl, hy, ha, q⟩ := h
    refine ⟨_, (pss_one (ps_ost (pv 0) (pv 1))), ?_⟩
    exact ⟨y, rfl, .ref a, rfl, a, _, rfl, o.2, hno, .inl ⟨ha, q⟩⟩
abbrev TooMany_init_N : List Str := ["self", "limit"]
abbrev TooMany_init_P : List Str := ["self", "limit"]
theorem sc_TooMany_init : FnScope ["self", "limit"] ["self", "limit"] (defScope s_TooMany_init) := ⟨rfl, rfl, rfl, by decide +kernel, rfl, by decide +kernel, by decide +kernel⟩
theorem ok_TooMany (T : TX K mg) : OkC P w K mg base 1 "TooMany" ["self", "limit"] (spInit K (He.ga K "TooMany") "limit" okA) := by
  have o : mg "TooMany" = some (.ref (He.ga K "TooMany")) ∧ OexC K (He.ga K "TooMany") := ⟨T.g _ (by decide +kernel), (ex1 T (by decide +kernel)).o⟩
  obtain ⟨hi, hno⟩ := ex3 T (x := "TooMany") (f := "limit") (by decide +kernel)
  refine T.okC 4 rfl o hi (fun f fd F => ?_) (fun _ _ _ _ _ _ us hl => match us, hl with | [_, _], _ => rfl)
  refine F.ok sc_TooMany_init (fun vs H Q E h => ?_) (fun cdv A outer s H vs Q E hr h => ?_)
  · obtain ⟨a, y, rfl, _⟩ := h
    rfl
  · obtain ⟨a, y, rfl, hy, ha, q⟩ := h
    refine ⟨_, (pss_one (ps_ost (pv 0) (pv 1))), ?_⟩
    exact ⟨y, rfl, .ref a, rfl, a, _, rfl, o.2, hno, .inl ⟨ha, q⟩⟩
abbrev BadSide_init_N : List Str := ["self", "side"]
abbrev BadSide_init_P : List Str := ["self", "side"]
theorem sc_BadSide_init : FnScope ["self", "side"] ["self", "side"] (defScope s_BadSide_init) := ⟨rfl, rfl, rfl, by decide +kernel, rfl, by decide +kernel, by decide +kernel⟩
theorem ok_BadSide (T : TX K mg) : OkC P w K mg base 1 "BadSide" ["self", "side"] (spInit K (He.ga K "BadSide") "side" okA) := by
  have o : mg "BadSide" = some (.ref (He.ga K "BadSide")) ∧ OexC K (He.ga K "BadSide") := ⟨T.g _ (by decide +kernel), (ex1 T (by decide +kernel)).o⟩
  obtain ⟨hi, hno⟩ := ex3 T (x := "BadSide") (f := "side") (by decide +kernel)
  refine T.okC 5 rfl o hi (fun f fd F => ?_) (fun _ _ _ _ _ _ us hl => match us, hl with | [_, _], _ => rfl)
  refine F.ok sc_BadSide_init (fun vs H Q E h => ?_) (fun cdv A outer s H vs Q E hr h => ?_)
  · obtain ⟨a, y, rfl, _⟩ := h
    rfl
  · obtain ⟨a, y, rfl, hy, ha, q⟩ := h
    refine ⟨_, (pss_one (ps_ost (pv 0) (pv 1))), ?_⟩
    exact ⟨y, rfl, .ref a, rfl, a, _, rfl, o.2, hno, .inl ⟨ha, q⟩⟩
abbrev TooLong_init_N : List Str := ["self", "length"]
abbrev TooLong_init_P : List Str := ["self", "length"]
theorem sc_TooLong_init : FnScope ["self", "length"] ["self", "length"] (defScope s_TooLong_init) := ⟨rfl, rfl, rfl, by decide +kernel, rfl, by decide +kernel, by decide +kernel⟩
theorem ok_TooLong (T : TX K mg) : OkC P w K mg base 1 "TooLong" ["self", "length"] (spInit K (He.ga K "TooLong") "length" okA) := by
  have o : mg "TooLong" = some (.ref (He.ga K "TooLong")) ∧ OexC K (He.ga K "TooLong") := ⟨T.g _ (by decide +kernel), (ex1 T (by decide +kernel)).o⟩
  obtain ⟨hi, hno⟩ := ex3 T (x := "TooLong") (f := "length") (by decide +kernel)
  refine T.okC 6 rfl o hi (fun f fd F => ?_) (fun _ _ _ _ _ _ us hl => match us, hl with | [_, _], _ => rfl)
  refine F.ok sc_TooLong_init (fun vs H Q E h => ?_) (fun cdv A outer s H vs Q E hr h => ?_)
  · obtain ⟨a, y, rfl, _⟩ := h
    rfl
  · obtain ⟨a, y, rfl, hy, ha, q⟩ := h
    refine ⟨_, (pss_one (ps_ost (pv 0) (pv 1))), ?_⟩
    exact ⟨y, rfl, .ref a, rfl, a, _, rfl, o.2, hno, .inl ⟨ha, q⟩⟩
abbrev TakenName_init_N : List Str := ["self", "name"]
abbrev TakenName_init_P : List Str := ["self", "name"]
theorem sc_TakenName_init : FnScope ["self", "name"] ["self", "name"] (defScope s_TakenName_init) := ⟨rfl, rfl, rfl, by decide +kernel, rfl, by decide +kernel, by decide +kernel⟩
theorem ok_TakenName (T : TX K mg) : OkC P w K mg base 1 "TakenName" ["self", "name"] (spInit K (He.ga K "TakenName") "name" okA) := by
  have o : mg "TakenName" = some (.ref (He.ga K "TakenName")) ∧ OexC K (He.ga K "TakenName") := ⟨T.g _ (by decide +kernel), (ex1 T (by decide +kernel)).o⟩
  obtain ⟨hi, hno⟩ := ex3 T (x := "TakenName") (f := "name") (by decide +kernel)
  refine T.okC 7 rfl o hi (fun f fd F => ?_) (fun _ _ _ _ _ _ us hl => match us, hl with | [_, _], _ => rfl)
  refine F.ok sc_TakenName_init (fun vs H Q E h => ?_) (fun cdv A outer s H vs Q E hr h => ?_)
  · obtain ⟨a, y, rfl, _⟩ := h
    rfl
  · obtain ⟨a, y, rfl, hy, ha, q⟩ := h
    refine ⟨_, (pss_one (ps_ost (pv 0) (pv 1))), ?_⟩
    exact ⟨y, rfl, .ref a, rfl, a, _, rfl, o.2, hno, .inl ⟨ha, q⟩⟩
abbrev UnknownWatch_init_N : List Str := ["self", "name"]
abbrev UnknownWatch_init_P : List Str := ["self", "name"]
theorem sc_UnknownWatch_init : FnScope ["self", "name"] ["self", "name"] (defScope s_UnknownWatch_init) := ⟨rfl, rfl, rfl, by decide +kernel, rfl, by decide +kernel, by decide +kernel⟩
theorem ok_UnknownWatch (T : TX K mg) : OkC P w K mg base 1 "UnknownWatch" ["self", "name"] (spInit K (He.ga K "UnknownWatch") "name" okA) := by
  have o : mg "UnknownWatch" = some (.ref (He.ga K "UnknownWatch")) ∧ OexC K (He.ga K "UnknownWatch") := ⟨T.g _ (by decide +kernel), (ex1 T (by decide +kernel)).o⟩
  obtain ⟨hi, hno⟩ := ex3 T (x := "UnknownWatch") (f := "name") (by decide +kernel)
  refine T.okC 8 rfl o hi (fun f fd F => ?_) (fun _ _ _ _ _ _ us hl => match us, hl with | [_, _], _ => rfl)
  refine F.ok sc_UnknownWatch_init (fun vs H Q E h => ?_) (fun cdv A outer s H vs Q E hr h => ?_)
  · obtain ⟨a, y, rfl, _⟩ := h
    rfl
  · obtain ⟨a, y, rfl, hy, ha, q⟩ := h
    refine ⟨_, (pss_one (ps_ost (pv 0) (pv 1))), ?_⟩
    exact ⟨y, rfl, .ref a, rfl, a, _, rfl, o.2, hno, .inl ⟨ha, q⟩⟩
abbrev NoSuchWord_init_N : List Str := ["self", "word"]
abbrev NoSuchWord_init_P : List Str := ["self", "word"]
theorem sc_NoSuchWord_init : FnScope ["self", "word"] ["self", "word"] (defScope s_NoSuchWord_init) := ⟨rfl, rfl, rfl, by decide +kernel, rfl, by decide +kernel, by decide +kernel⟩
theorem ok_NoSuchWord (T : TX K mg) : OkC P w K mg base 1 "NoSuchWord" ["self", "word"] (spInit K (He.ga K "NoSuchWord") "word" okA) := by
  have o : mg "NoSuchWord" = some (.ref (He.ga K "NoSuchWord")) ∧ OexC K (He.ga K "NoSuchWord") := ⟨T.g _ (by decide +kernel), (ex1 T (by decide +kernel)).o⟩
  obtain ⟨hi, hno⟩ := ex3 T (x := "NoSuchWord") (f := "word") (by decide +kernel)
  refine T.okC 9 rfl o hi (fun f fd F => ?_) (fun _ _ _ _ _ _ us hl => match us, hl with | [_, _], _ => rfl)
  refine F.ok sc_NoSuchWord_init (fun vs H Q E h => ?_) (fun cdv A outer s H vs Q E hr h => ?_)
  · obtain ⟨a, y, rfl, _⟩ := h
    rfl
  · obtain ⟨a, y, rfl, hy, ha, q⟩ := h
    refine ⟨_, (pss_one (ps_ost (pv 0) (pv 1))), ?_⟩
    exact ⟨y, rfl, .ref a, rfl, a, _, rfl, o.2, hno, .inl ⟨ha, q⟩⟩
abbrev BadNote_init_N : List Str := ["self", "line"]
abbrev BadNote_init_P : List Str := ["self", "line"]
theorem sc_BadNote_init : FnScope ["self", "line"] ["self", "line"] (defScope s_BadNote_init) := ⟨rfl, rfl, rfl, by decide +kernel, rfl, by decide +kernel, by decide +kernel⟩
theorem ok_BadNote (T : TX K mg) : OkC P w K mg base 1 "BadNote" ["self", "line"] (spInit K (He.ga K "BadNote") "line" okA) := by
  have o : mg "BadNote" = some (.ref (He.ga K "BadNote")) ∧ OexC K (He.ga K "BadNote") := ⟨T.g _ (by decide +kernel), (ex1 T (by decide +kernel)).o⟩
  obtain ⟨hi, hno⟩ := ex3 T (x := "BadNote") (f := "line") (by decide +kernel)
  refine T.okC 10 rfl o hi (fun f fd F => ?_) (fun _ _ _ _ _ _ us hl => match us, hl with | [_, _], _ => rfl)
  refine F.ok sc_BadNote_init (fun vs H Q E h => ?_) (fun cdv A outer s H vs Q E hr h => ?_)
  · obtain ⟨a, y, rfl, _⟩ := h
    rfl
  · obtain ⟨a, y, rfl, hy, ha, q⟩ := h
    refine ⟨_, (pss_one (ps_ost (pv 0) (pv 1))), ?_⟩
    exact ⟨y, rfl, .ref a, rfl, a, _, rfl, o.2, hno, .inl ⟨ha, q⟩⟩
abbrev BadLetter_init_N : List Str := ["self", "letter"]
abbrev BadLetter_init_P : List Str := ["self", "letter"]
theorem sc_BadLetter_init : FnScope ["self", "letter"] ["self", "letter"] (defScope s_BadLetter_init) := ⟨rfl, rfl, rfl, by decide +kernel, rfl, by decide +kernel, by decide +kernel⟩
theorem ok_BadLetter (T : TX K mg) : OkC P w K mg base 1 "BadLetter" ["self", "letter"] (spInit K (He.ga K "BadLetter") "letter" okA) := by
  have o : mg "BadLetter" = some (.ref (He.ga K "BadLetter")) ∧ OexC K (He.ga K "BadLetter") := ⟨T.g _ (by decide +kernel), (ex1 T (by decide +kernel)).o⟩
  obtain ⟨hi, hno⟩ := ex3 T (x := "BadLetter") (f := "letter") (by decide +kernel)
  refine T.okC 11 rfl o hi (fun f fd F => ?_) (fun _ _ _ _ _ _ us hl => match us, hl with | [_, _], _ => rfl)
  refine F.ok sc_BadLetter_init (fun vs H Q E h => ?_) (fun cdv A outer s H vs Q E hr h => ?_)
  · obtain ⟨a, y, rfl, _⟩ := h
    rfl
  · obtain ⟨a, y, rfl, hy, ha, q⟩ := h
    refine ⟨_, (pss_one (ps_ost (pv 0) (pv 1))), ?_⟩
    exact ⟨y, rfl, .ref a, rfl, a, _, rfl, o.2, hno, .inl ⟨ha, q⟩⟩
/-! ### making -/
/-- the fields of an error of this kind -/
def fieldsOf (k : Nat) (x n r : V) : List (Str × V) := match k with
  | 12 => [("name", x)]
  | 13 => [("row", r)]
  | 14 => [("place", n)]
  | 15 => [("variable", x)]
  | 16 => [("limit", n)]
  | 17 => [("side", x)]
  | 18 => [("length", n)]
  | 19 => [("name", x)]
  | 20 => [("name", x)]
  | 21 => [("word", x)]
  | 22 => [("line", n)]
  | 23 => [("letter", n)]
  | _ => []
def Er (K : PySem.W.Frag) (H : Hp) (p : Addr) (k : Nat) (x n r : V) : Prop := ExAt H p (He.ga K (kn k)) (fieldsOf k x n r)
/-- a def that hands back a new error -/
def spE (K : PySem.W.Frag) (D : List V → Hp → Nat → V → V → V → Prop) : Sp := fun vs H Q _ => ∃ k x n r, D vs H k x n r ∧ ∀ p H', H p = none → Ex H H' → Er K H' p k x n r → Q (.ref p) H'
theorem ev_mkE {σ : L2.St} {H : Hp} {D : List V → Hp → Nat → V → V → V → Prop} {ta : TA} {vs : List V} {E : XK} {k : Nat} {x n r : V} (h : EvA ta σ H vs) (hD : ∀ H1, Ex H H1 → D vs H1 k x n r) : EvX (tCall (spE K D) [] E ta) σ H (He.ga K (kn k)) (fieldsOf k x n r) := fun H1 e1 Q q =>
  h H1 e1 _ fun H2 e2 => ⟨k, x, n, r, by rw [List.append_nil]; exact hD H2 (e1.trans e2), fun p H3 hp e3 hx => q p H3 (fresh_back e2 hp) (e2.trans e3) hx⟩
def dPlain : List V → Hp → Nat → V → V → V → Prop := fun vs _ k _ _ _ => vs = [.int (k : Int)] ∧ k < 12
abbrev law_plain_N : List Str := ["kind"]
abbrev law_plain_P : List Str := ["kind"]
theorem sc_law_plain : FnScope ["kind"] ["kind"] (defScope s_law_plain) := ⟨rfl, rfl, rfl, by decide +kernel, rfl, by decide +kernel, by decide +kernel⟩
theorem fields_plain {k : Nat} (h : k < 12) (x n r : V) : fieldsOf k x n r = [] := by
  unfold fieldsOf
  split <;> first | rfl | omega

theorem ok_plain (T : TX K mg) : OkF P w K mg base 1 "_law_plain" ["kind"] (spE K dPlain) := by
  refine T.okF 15 rfl (by decide +kernel) (fun f fd F => ?_) (fun _ _ _ _ _ _ us hl => match us, hl with | [_], _ => rfl)
  have C_BadWorld : OkC0 K mg "BadWorld" := c0 T (by decide +kernel) (by decide +kernel)
  have C_BadOrder : OkC0 K mg "BadOrder" := c0 T (by decide +kernel) (by decide +kernel)
  have C_BadQuestion : OkC0 K mg "BadQuestion" := c0 T (by decide +kernel) (by decide +kernel)
  have C_BadValues : OkC0 K mg "BadValues" := c0 T (by decide +kernel) (by decide +kernel)
  have C_NotAWalk : OkC0 K mg "NotAWalk" := c0 T (by decide +kernel) (by decide +kernel)
  have C_BadJudge : OkC0 K mg "BadJudge" := c0 T (by decide +kernel) (by decide +kernel)
  have C_BadGiven : OkC0 K mg "BadGiven" := c0 T (by decide +kernel) (by decide +kernel)
  have C_BadStanding : OkC0 K mg "BadStanding" := c0 T (by decide +kernel) (by decide +kernel)
  have C_NotRight : OkC0 K mg "NotRight" := c0 T (by decide +kernel) (by decide +kernel)
  have C_TooLarge : OkC0 K mg "TooLarge" := c0 T (by decide +kernel) (by decide +kernel)
  have C_NothingToUndo : OkC0 K mg "NothingToUndo" := c0 T (by decide +kernel) (by decide +kernel)
  have C_BadDeed : OkC0 K mg "BadDeed" := c0 T (by decide +kernel) (by decide +kernel)
  refine F.ok sc_law_plain (fun vs H Q E h => ?_) (fun cdv A outer s H vs Q E hr h => ?_)
  · obtain ⟨k, x, n, r, ⟨rfl, _⟩, _⟩ := h
    rfl
  · obtain ⟨k, x, n, r, ⟨rfl, hk⟩, q⟩ := h
    refine ⟨_, (pss_cons (ps_if (pt_cmpR op_eq (pv 0) pe_int (nomark _)) (pss_one (ps_ret (LX.pe_c0 C_BadWorld))) pss_nil)
        (pss_cons (ps_if (pt_cmpR op_eq (pv 0) pe_int (nomark _)) (pss_one (ps_ret (LX.pe_c0 C_BadOrder))) pss_nil)
        (pss_cons (ps_if (pt_cmpR op_eq (pv 0) pe_int (nomark _)) (pss_one (ps_ret (LX.pe_c0 C_BadQuestion))) pss_nil)
        (pss_cons (ps_if (pt_cmpR op_eq (pv 0) pe_int (nomark _)) (pss_one (ps_ret (LX.pe_c0 C_BadValues))) pss_nil)
        (pss_cons (ps_if (pt_cmpR op_eq (pv 0) pe_int (nomark _)) (pss_one (ps_ret (LX.pe_c0 C_NotAWalk))) pss_nil)
        (pss_cons (ps_if (pt_cmpR op_eq (pv 0) pe_int (nomark _)) (pss_one (ps_ret (LX.pe_c0 C_BadJudge))) pss_nil)
        (pss_cons (ps_if (pt_cmpR op_eq (pv 0) pe_int (nomark _)) (pss_one (ps_ret (LX.pe_c0 C_BadGiven))) pss_nil)
        (pss_cons (ps_if (pt_cmpR op_eq (pv 0) pe_int (nomark _)) (pss_one (ps_ret (LX.pe_c0 C_BadStanding))) pss_nil)
        (pss_cons (ps_if (pt_cmpR op_eq (pv 0) pe_int (nomark _)) (pss_one (ps_ret (LX.pe_c0 C_NotRight))) pss_nil)
        (pss_cons (ps_if (pt_cmpR op_eq (pv 0) pe_int (nomark _)) (pss_one (ps_ret (LX.pe_c0 C_TooLarge))) pss_nil)
        (pss_cons (ps_if (pt_cmpR op_eq (pv 0) pe_int (nomark _)) (pss_one (ps_ret (LX.pe_c0 C_NothingToUndo))) pss_nil)
        (pss_one (ps_ret (LX.pe_c0 C_BadDeed)))))))))))))), ?_⟩
    have q0 : ∀ p H', H p = none → Ex H H' → ExAt H' p (He.ga K (kn k)) [] → Q (.ref p) H' := fun p H' hp e hx => q p H' hp e (by unfold Er; rw [fields_plain hk]; exact hx)
    refine g_when (et_test (ev_op (ev_var rfl) ev_c (rv_eq rfl))) (fun hb => ?_) (fun hb0 => ?_) H (Ex.refl H)
    · have hb : (k : Int) = 0 := V.int.inj (of_decide_eq_true hb)
      obtain rfl : k = 0 := by omega
      exact g_retX ev_mk0 q0
    have hn0 : ¬ (k : Int) = 0 := fun e => of_decide_eq_false hb0 (congrArg V.int e)
    refine g_when (et_test (ev_op (ev_var rfl) ev_c (rv_eq rfl))) (fun hb => ?_) (fun hb1 => ?_)
    · have hb : (k : Int) = 1 := V.int.inj (of_decide_eq_true hb)
      obtain rfl : k = 1 := by omega
      exact g_retX ev_mk0 q0
    have hn1 : ¬ (k : Int) = 1 := fun e => of_decide_eq_false hb1 (congrArg V.int e)
    refine g_when (et_test (ev_op (ev_var rfl) ev_c (rv_eq rfl))) (fun hb => ?_) (fun hb2 => ?_)
    · have hb : (k : Int) = 2 := V.int.inj (of_decide_eq_true hb)
      obtain rfl : k = 2 := by omega
      exact g_retX ev_mk0 q0
    have hn2 : ¬ (k : Int) = 2 := fun e => of_decide_eq_false hb2 (congrArg V.int e)
    refine g_when (et_test (ev_op (ev_var rfl) ev_c (rv_eq rfl))) (fun hb => ?_) (fun hb3 => ?_)
    · have hb : (k : Int) = 3 := V.int.inj (of_decide_eq_true hb)
      obtain rfl : k = 3 := by omega
      exact g_retX ev_mk0 q0
    have hn3 : ¬ (k : Int) = 3 := fun e => of_decide_eq_false hb3 (congrArg V.int e)
    refine g_when (et_test (ev_op (ev_var rfl) ev_c (rv_eq rfl))) (fun hb => ?_) (fun hb4 => ?_)
    · have hb : (k : Int) = 4 := V.int.inj (of_decide_eq_true hb)
      obtain rfl : k = 4 := by omega
      exact g_retX ev_mk0 q0
    have hn4 : ¬ (k : Int) = 4 := fun e => of_decide_eq_false hb4 (congrArg V.int e)
    refine g_when (et_test (ev_op (ev_var rfl) ev_c (rv_eq rfl))) (fun hb => ?_) (fun hb5 => ?_)
    · have hb : (k : Int) = 5 := V.int.inj (of_decide_eq_true hb)
      obtain rfl : k = 5 := by omega
      exact g_retX ev_mk0 q0
    have hn5 : ¬ (k : Int) = 5 := fun e => of_decide_eq_false hb5 (congrArg V.int e)
    refine g_when (et_test (ev_op (ev_var rfl) ev_c (rv_eq rfl))) (fun hb => ?_) (fun hb6 => ?_)
    · have hb : (k : Int) = 6 := V.int.inj (of_decide_eq_true hb)
      obtain rfl : k = 6 := by omega
      exact g_retX ev_mk0 q0
    have hn6 : ¬ (k : Int) = 6 := fun e => of_decide_eq_false hb6 (congrArg V.int e)
    refine g_when (et_test (ev_op (ev_var rfl) ev_c (rv_eq rfl))) (fun hb => ?_) (fun hb7 => ?_)
    · have hb : (k : Int) = 7 := V.int.inj (of_decide_eq_true hb)
      obtain rfl : k = 7 := by omega
      exact g_retX ev_mk0 q0
    have hn7 : ¬ (k : Int) = 7 := fun e => of_decide_eq_false hb7 (congrArg V.int e)
    refine g_when (et_test (ev_op (ev_var rfl) ev_c (rv_eq rfl))) (fun hb => ?_) (fun hb8 => ?_)
    · have hb : (k : Int) = 8 := V.int.inj (of_decide_eq_true hb)
      obtain rfl : k = 8 := by omega
      exact g_retX ev_mk0 q0
    have hn8 : ¬ (k : Int) = 8 := fun e => of_decide_eq_false hb8 (congrArg V.int e)
    refine g_when (et_test (ev_op (ev_var rfl) ev_c (rv_eq rfl))) (fun hb => ?_) (fun hb9 => ?_)
    · have hb : (k : Int) = 9 := V.int.inj (of_decide_eq_true hb)
      obtain rfl : k = 9 := by omega
      exact g_retX ev_mk0 q0
    have hn9 : ¬ (k : Int) = 9 := fun e => of_decide_eq_false hb9 (congrArg V.int e)
    refine g_when (et_test (ev_op (ev_var rfl) ev_c (rv_eq rfl))) (fun hb => ?_) (fun hb10 => ?_)
    · have hb : (k : Int) = 10 := V.int.inj (of_decide_eq_true hb)
      obtain rfl : k = 10 := by omega
      exact g_retX ev_mk0 q0
    have hn10 : ¬ (k : Int) = 10 := fun e => of_decide_eq_false hb10 (congrArg V.int e)
    obtain rfl : k = 11 := by omega
    exact g_retX ev_mk0 q0
def dFilled : List V → Hp → Nat → V → V → V → Prop := fun vs H k x n r => vs = [.int (k : Int), x, n, r] ∧ 12 ≤ k ∧ k < 24 ∧ okT r H
abbrev law_filled_N : List Str := ["kind", "text", "number", "row"]
abbrev law_filled_P : List Str := ["kind", "text", "number", "row"]
theorem sc_law_filled : FnScope ["kind", "text", "number", "row"] ["kind", "text", "number", "row"] (defScope s_law_filled) := ⟨rfl, rfl, rfl, by decide +kernel, rfl, by decide +kernel, by decide +kernel⟩
theorem ok_filled (T : TX K mg) : OkF P w K mg base 3 "_law_filled" ["kind", "text", "number", "row"] (spE K dFilled) := by
  refine T.okF 16 rfl (by decide +kernel) (fun f fd F => ?_) (fun _ _ _ _ _ _ us hl => match us, hl with | [_, _, _, _], _ => rfl)
  have C_NoSuchRelation := ok_NoSuchRelation (P := P) (w := w) (base := base) T
  have C_BadRow := ok_BadRow (P := P) (w := w) (base := base) T
  have C_BadText := ok_BadText (P := P) (w := w) (base := base) T
  have C_Unvalued := ok_Unvalued (P := P) (w := w) (base := base) T
  have C_TooMany := ok_TooMany (P := P) (w := w) (base := base) T
  have C_BadSide := ok_BadSide (P := P) (w := w) (base := base) T
  have C_TooLong := ok_TooLong (P := P) (w := w) (base := base) T
  have C_TakenName := ok_TakenName (P := P) (w := w) (base := base) T
  have C_UnknownWatch := ok_UnknownWatch (P := P) (w := w) (base := base) T
  have C_NoSuchWord := ok_NoSuchWord (P := P) (w := w) (base := base) T
  have C_BadNote := ok_BadNote (P := P) (w := w) (base := base) T
  have C_BadLetter := ok_BadLetter (P := P) (w := w) (base := base) T
  refine F.ok sc_law_filled (fun vs H Q E h => ?_) (fun cdv A outer s H vs Q E hr h => ?_)
  · obtain ⟨k, x, n, r, ⟨rfl, _⟩, _⟩ := h
    rfl
  · obtain ⟨k, x, n, r, ⟨rfl, hk, hk2, ht⟩, q⟩ := h
    refine ⟨_, (pss_cons (ps_if (pt_cmpR op_eq (pv 0) pe_int (nomark _)) (pss_one (ps_ret (LX.pe_c C_NoSuchRelation hr (by decide) (pa_cons (pv 1) pa_nil)))) pss_nil)
        (pss_cons (ps_if (pt_cmpR op_eq (pv 0) pe_int (nomark _)) (pss_one (ps_ret (LX.pe_c C_BadRow hr (by decide) (pa_cons (pv 3) pa_nil)))) pss_nil)
        (pss_cons (ps_if (pt_cmpR op_eq (pv 0) pe_int (nomark _)) (pss_one (ps_ret (LX.pe_c C_BadText hr (by decide) (pa_cons (pv 2) pa_nil)))) pss_nil)
        (pss_cons (ps_if (pt_cmpR op_eq (pv 0) pe_int (nomark _)) (pss_one (ps_ret (LX.pe_c C_Unvalued hr (by decide) (pa_cons (pv 1) pa_nil)))) pss_nil)
        (pss_cons (ps_if (pt_cmpR op_eq (pv 0) pe_int (nomark _)) (pss_one (ps_ret (LX.pe_c C_TooMany hr (by decide) (pa_cons (pv 2) pa_nil)))) pss_nil)
        (pss_cons (ps_if (pt_cmpR op_eq (pv 0) pe_int (nomark _)) (pss_one (ps_ret (LX.pe_c C_BadSide hr (by decide) (pa_cons (pv 1) pa_nil)))) pss_nil)
        (pss_cons (ps_if (pt_cmpR op_eq (pv 0) pe_int (nomark _)) (pss_one (ps_ret (LX.pe_c C_TooLong hr (by decide) (pa_cons (pv 2) pa_nil)))) pss_nil)
        (pss_cons (ps_if (pt_cmpR op_eq (pv 0) pe_int (nomark _)) (pss_one (ps_ret (LX.pe_c C_TakenName hr (by decide) (pa_cons (pv 1) pa_nil)))) pss_nil)
        (pss_cons (ps_if (pt_cmpR op_eq (pv 0) pe_int (nomark _)) (pss_one (ps_ret (LX.pe_c C_UnknownWatch hr (by decide) (pa_cons (pv 1) pa_nil)))) pss_nil)
        (pss_cons (ps_if (pt_cmpR op_eq (pv 0) pe_int (nomark _)) (pss_one (ps_ret (LX.pe_c C_NoSuchWord hr (by decide) (pa_cons (pv 1) pa_nil)))) pss_nil)
        (pss_cons (ps_if (pt_cmpR op_eq (pv 0) pe_int (nomark _)) (pss_one (ps_ret (LX.pe_c C_BadNote hr (by decide) (pa_cons (pv 2) pa_nil)))) pss_nil)
        (pss_one (ps_ret (LX.pe_c C_BadLetter hr (by decide) (pa_cons (pv 2) pa_nil))))))))))))))), ?_⟩
    have hT : ∀ H1, Ex H H1 → okT r H1 := fun H1 e => by
      obtain ⟨t, xs, z1, z2⟩ := ht
      exact ⟨t, xs, z1, e _ _ z2⟩
    refine g_when (et_test (ev_op (ev_var rfl) ev_c (rv_eq rfl))) (fun hb => ?_) (fun hb0 => ?_) H (Ex.refl H)
    · have hb : (k : Int) = 12 := V.int.inj (of_decide_eq_true hb)
      obtain rfl : k = 12 := by omega
      exact g_retX (ev_mkV (ea_cons (ev_var rfl) ea_nil) fun _ _ => True.intro) q
    have hn0 : ¬ (k : Int) = 12 := fun e => of_decide_eq_false hb0 (congrArg V.int e)
    refine g_when (et_test (ev_op (ev_var rfl) ev_c (rv_eq rfl))) (fun hb => ?_) (fun hb1 => ?_)
    · have hb : (k : Int) = 13 := V.int.inj (of_decide_eq_true hb)
      obtain rfl : k = 13 := by omega
      exact g_retX (ev_mkV (ea_cons (ev_var rfl) ea_nil) hT) q
    have hn1 : ¬ (k : Int) = 13 := fun e => of_decide_eq_false hb1 (congrArg V.int e)
    refine g_when (et_test (ev_op (ev_var rfl) ev_c (rv_eq rfl))) (fun hb => ?_) (fun hb2 => ?_)
    · have hb : (k : Int) = 14 := V.int.inj (of_decide_eq_true hb)
      obtain rfl : k = 14 := by omega
      exact g_retX (ev_mkV (ea_cons (ev_var rfl) ea_nil) fun _ _ => True.intro) q
    have hn2 : ¬ (k : Int) = 14 := fun e => of_decide_eq_false hb2 (congrArg V.int e)
    refine g_when (et_test (ev_op (ev_var rfl) ev_c (rv_eq rfl))) (fun hb => ?_) (fun hb3 => ?_)
    · have hb : (k : Int) = 15 := V.int.inj (of_decide_eq_true hb)
      obtain rfl : k = 15 := by omega
      exact g_retX (ev_mkV (ea_cons (ev_var rfl) ea_nil) fun _ _ => True.intro) q
    have hn3 : ¬ (k : Int) = 15 := fun e => of_decide_eq_false hb3 (congrArg V.int e)
    refine g_when (et_test (ev_op (ev_var rfl) ev_c (rv_eq rfl))) (fun hb => ?_) (fun hb4 => ?_)
    · have hb : (k : Int) = 16 := V.int.inj (of_decide_eq_true hb)
      obtain rfl : k = 16 := by omega
      exact g_retX (ev_mkV (ea_cons (ev_var rfl) ea_nil) fun _ _ => True.intro) q
    have hn4 : ¬ (k : Int) = 16 := fun e => of_decide_eq_false hb4 (congrArg V.int e)
    refine g_when (et_test (ev_op (ev_var rfl) ev_c (rv_eq rfl))) (fun hb => ?_) (fun hb5 => ?_)
    · have hb : (k : Int) = 17 := V.int.inj (of_decide_eq_true hb)
      obtain rfl : k = 17 := by omega
      exact g_retX (ev_mkV (ea_cons (ev_var rfl) ea_nil) fun _ _ => True.intro) q
    have hn5 : ¬ (k : Int) = 17 := fun e => of_decide_eq_false hb5 (congrArg V.int e)
    refine g_when (et_test (ev_op (ev_var rfl) ev_c (rv_eq rfl))) (fun hb => ?_) (fun hb6 => ?_)
    · have hb : (k : Int) = 18 := V.int.inj (of_decide_eq_true hb)
      obtain rfl : k = 18 := by omega
      exact g_retX (ev_mkV (ea_cons (ev_var rfl) ea_nil) fun _ _ => True.intro) q
    have hn6 : ¬ (k : Int) = 18 := fun e => of_decide_eq_false hb6 (congrArg V.int e)
    refine g_when (et_test (ev_op (ev_var rfl) ev_c (rv_eq rfl))) (fun hb => ?_) (fun hb7 => ?_)
    · have hb : (k : Int) = 19 := V.int.inj (of_decide_eq_true hb)
      obtain rfl : k = 19 := by omega
      exact g_retX (ev_mkV (ea_cons (ev_var rfl) ea_nil) fun _ _ => True.intro) q
    have hn7 : ¬ (k : Int) = 19 := fun e => of_decide_eq_false hb7 (congrArg V.int e)
    refine g_when (et_test (ev_op (ev_var rfl) ev_c (rv_eq rfl))) (fun hb => ?_) (fun hb8 => ?_)
    · have hb : (k : Int) = 20 := V.int.inj (of_decide_eq_true hb)
      obtain rfl : k = 20 := by omega
      exact g_retX (ev_mkV (ea_cons (ev_var rfl) ea_nil) fun _ _ => True.intro) q
    have hn8 : ¬ (k : Int) = 20 := fun e => of_decide_eq_false hb8 (congrArg V.int e)
    refine g_when (et_test (ev_op (ev_var rfl) ev_c (rv_eq rfl))) (fun hb => ?_) (fun hb9 => ?_)
    · have hb : (k : Int) = 21 := V.int.inj (of_decide_eq_true hb)
      obtain rfl : k = 21 := by omega
      exact g_retX (ev_mkV (ea_cons (ev_var rfl) ea_nil) fun _ _ => True.intro) q
    have hn9 : ¬ (k : Int) = 21 := fun e => of_decide_eq_false hb9 (congrArg V.int e)
    refine g_when (et_test (ev_op (ev_var rfl) ev_c (rv_eq rfl))) (fun hb => ?_) (fun hb10 => ?_)
    · have hb : (k : Int) = 22 := V.int.inj (of_decide_eq_true hb)
      obtain rfl : k = 22 := by omega
      exact g_retX (ev_mkV (ea_cons (ev_var rfl) ea_nil) fun _ _ => True.intro) q
    have hn10 : ¬ (k : Int) = 22 := fun e => of_decide_eq_false hb10 (congrArg V.int e)
    obtain rfl : k = 23 := by omega
    exact g_retX (ev_mkV (ea_cons (ev_var rfl) ea_nil) fun _ _ => True.intro) q
def dError : List V → Hp → Nat → V → V → V → Prop := fun vs H k x n r => vs = [.int (k : Int), x, n, r] ∧ k < 24 ∧ okT r H
abbrev law_error_N : List Str := ["kind", "text", "number", "row"]
abbrev law_error_P : List Str := ["kind", "text", "number", "row"]
theorem sc_law_error : FnScope ["kind", "text", "number", "row"] ["kind", "text", "number", "row"] (defScope s_law_error) := ⟨rfl, rfl, rfl, by decide +kernel, rfl, by decide +kernel, by decide +kernel⟩
theorem ok_error (T : TX K mg) : OkF P w K mg base 4 "_law_error" ["kind", "text", "number", "row"] (spE K dError) := by
  refine T.okF 20 rfl (by decide +kernel) (fun f fd F => ?_) (fun _ _ _ _ _ _ us hl => match us, hl with | [_, _, _, _], _ => rfl)
  have O__law_plain := ok_plain (P := P) (w := w) (base := base) T
  have O__law_filled := ok_filled (P := P) (w := w) (base := base) T
  refine F.ok sc_law_error (fun vs H Q E h => ?_) (fun cdv A outer s H vs Q E hr h => ?_)
  · obtain ⟨k, x, n, r, ⟨rfl, _⟩, _⟩ := h
    rfl
  · obtain ⟨k, x, n, r, ⟨rfl, hk, ht⟩, q⟩ := h
    refine ⟨_, (pss_cons (ps_if (pt_cmpR op_lt (pv 0) pe_int (nomark _)) (pss_one (ps_ret (LX.pe_f O__law_plain hr (by decide) (pa_cons (pv 0) pa_nil)))) pss_nil)
        (pss_one (ps_ret (LX.pe_f O__law_filled hr (by decide) (pa_cons (pv 0) (pa_cons (pv 1) (pa_cons (pv 2) (pa_cons (pv 3) pa_nil)))))))), ?_⟩
    refine g_when (et_test (ev_op (ev_var rfl) ev_c rv_I0)) (fun hb => ?_) (fun hb => ?_) H (Ex.refl H)
    · have hb : (k : Int) < 12 := of_decide_eq_true hb
      refine g_retX (ev_mkE (k := k) (x := x) (n := n) (r := r) (ea_cons (ev_var rfl) ea_nil) fun H1 _ => ⟨rfl, by omega⟩) q
    · have hb : ¬ (k : Int) < 12 := of_decide_eq_false hb
      refine g_retX (ev_mkE (k := k) (x := x) (n := n) (r := r) (ea_cons (ev_var rfl) (ea_cons (ev_var rfl) (ea_cons (ev_var rfl) (ea_cons (ev_var rfl) ea_nil)))) fun H1 e => ⟨rfl, by omega, hk, ?_⟩) q
      obtain ⟨t, xs, z1, z2⟩ := ht
      exact ⟨t, xs, z1, e _ _ z2⟩
end Kx
namespace Kx
open PySem PySem.Spec PyProof.Rows L2 Evl LX T XV
variable {P : Program} {w : World} {K : PySem.W.Frag} {mg : Str → Option Value} {base : Heap}
/-! ### classes -/
def dClasses (K : PySem.W.Frag) : List V → Hp → List V → Prop := fun vs H xs => ∃ (p : Addr) (k : Nat) (fs : List (Str × V)), vs = [.ref p] ∧ k < 24 ∧ ExAt H p (He.ga K (kn k)) fs ∧ xs = [.int (k : Int)]
theorem given24 : ∀ k, k < 24 → given 24 (fun j => decide (k = j)) (fun j => .int (j : Int)) = [V.int (k : Int)] := by decide
abbrev law_classes_N : List Str := ["e", "first", "k"]
abbrev law_classes_P : List Str := ["e"]
theorem sc_law_classes : FnScope ["e", "first", "k"] ["e"] (defScope s_law_classes) := ⟨rfl, rfl, rfl, by decide +kernel, rfl, by decide +kernel, by decide +kernel⟩
theorem ok_classes (T : TX K mg) : OkF P w K mg base 1 "_law_classes" ["e"] (spL (dClasses K)) := by
  have n_isinstance := T.n "isinstance" (by decide +kernel)
  have n_range := T.n "range" (by decide +kernel)
  have g_BadValues := T.g "BadValues" (by decide +kernel)
  have g_BadQuestion := T.g "BadQuestion" (by decide +kernel)
  have g_BadOrder := T.g "BadOrder" (by decide +kernel)
  have g_BadWorld := T.g "BadWorld" (by decide +kernel)
  have g_BadGiven := T.g "BadGiven" (by decide +kernel)
  have g_BadJudge := T.g "BadJudge" (by decide +kernel)
  have g_NotAWalk := T.g "NotAWalk" (by decide +kernel)
  have g_TooLarge := T.g "TooLarge" (by decide +kernel)
  have g_NotRight := T.g "NotRight" (by decide +kernel)
  have g_BadStanding := T.g "BadStanding" (by decide +kernel)
  have g_NoSuchRelation := T.g "NoSuchRelation" (by decide +kernel)
  have g_BadDeed := T.g "BadDeed" (by decide +kernel)
  have g_NothingToUndo := T.g "NothingToUndo" (by decide +kernel)
  have g_TooMany := T.g "TooMany" (by decide +kernel)
  have g_Unvalued := T.g "Unvalued" (by decide +kernel)
  have g_BadText := T.g "BadText" (by decide +kernel)
  have g_BadRow := T.g "BadRow" (by decide +kernel)
  have g_TakenName := T.g "TakenName" (by decide +kernel)
  have g_TooLong := T.g "TooLong" (by decide +kernel)
  have g_BadSide := T.g "BadSide" (by decide +kernel)
  have g_BadNote := T.g "BadNote" (by decide +kernel)
  have g_NoSuchWord := T.g "NoSuchWord" (by decide +kernel)
  have g_UnknownWatch := T.g "UnknownWatch" (by decide +kernel)
  have g_BadLetter := T.g "BadLetter" (by decide +kernel)
  refine T.okF 17 rfl (by decide +kernel) (fun f fd F => ?_) (fun _ _ _ _ _ _ us hl => match us, hl with | [_], _ => rfl)
  refine F.ok sc_law_classes (fun vs H Q E h => ?_) (fun cdv A outer s H vs Q E hr h => ?_)
  · obtain ⟨xs, ⟨p, k, fs, rfl, _⟩, _⟩ := h
    rfl
  · obtain ⟨xs, ⟨p, k, fs, rfl, hk, hx0, rfl⟩, q⟩ := h
    refine ⟨_, (pss_cons (ps_set (i := 1) sc_law_classes.nd rfl (.inr rfl) (pe_lst (pa_cons (pe_callB (LX.k_isX (K := K)) (by rfl) n_isinstance (by decide +kernel) (pa_cons (pv 0) (pa_cons (pe_glob (v := .ref (He.ga K "BadWorld")) (by rfl) g_BadWorld rfl) pa_nil))) (pa_cons (pe_callB (LX.k_isX (K := K)) (by rfl) n_isinstance (by decide +kernel) (pa_cons (pv 0) (pa_cons (pe_glob (v := .ref (He.ga K "BadOrder")) (by rfl) g_BadOrder rfl) pa_nil))) (pa_cons (pe_callB (LX.k_isX (K := K)) (by rfl) n_isinstance (by decide +kernel) (pa_cons (pv 0) (pa_cons (pe_glob (v := .ref (He.ga K "BadQuestion")) (by rfl) g_BadQuestion rfl) pa_nil))) (pa_cons (pe_callB (LX.k_isX (K := K)) (by rfl) n_isinstance (by decide +kernel) (pa_cons (pv 0) (pa_cons (pe_glob (v := .ref (He.ga K "BadValues")) (by rfl) g_BadValues rfl) pa_nil))) pa_nil))))))
        (pss_cons (ps_set (i := 1) sc_law_classes.nd rfl (.inr rfl) (pe_op op_cat (pv 1) (pe_lst (pa_cons (pe_callB (LX.k_isX (K := K)) (by rfl) n_isinstance (by decide +kernel) (pa_cons (pv 0) (pa_cons (pe_glob (v := .ref (He.ga K "NotAWalk")) (by rfl) g_NotAWalk rfl) pa_nil))) (pa_cons (pe_callB (LX.k_isX (K := K)) (by rfl) n_isinstance (by decide +kernel) (pa_cons (pv 0) (pa_cons (pe_glob (v := .ref (He.ga K "BadJudge")) (by rfl) g_BadJudge rfl) pa_nil))) (pa_cons (pe_callB (LX.k_isX (K := K)) (by rfl) n_isinstance (by decide +kernel) (pa_cons (pv 0) (pa_cons (pe_glob (v := .ref (He.ga K "BadGiven")) (by rfl) g_BadGiven rfl) pa_nil))) pa_nil))))))
        (pss_cons (ps_set (i := 1) sc_law_classes.nd rfl (.inr rfl) (pe_op op_cat (pv 1) (pe_lst (pa_cons (pe_callB (LX.k_isX (K := K)) (by rfl) n_isinstance (by decide +kernel) (pa_cons (pv 0) (pa_cons (pe_glob (v := .ref (He.ga K "BadStanding")) (by rfl) g_BadStanding rfl) pa_nil))) (pa_cons (pe_callB (LX.k_isX (K := K)) (by rfl) n_isinstance (by decide +kernel) (pa_cons (pv 0) (pa_cons (pe_glob (v := .ref (He.ga K "NotRight")) (by rfl) g_NotRight rfl) pa_nil))) (pa_cons (pe_callB (LX.k_isX (K := K)) (by rfl) n_isinstance (by decide +kernel) (pa_cons (pv 0) (pa_cons (pe_glob (v := .ref (He.ga K "TooLarge")) (by rfl) g_TooLarge rfl) pa_nil))) pa_nil))))))
        (pss_cons (ps_set (i := 1) sc_law_classes.nd rfl (.inr rfl) (pe_op op_cat (pv 1) (pe_lst (pa_cons (pe_callB (LX.k_isX (K := K)) (by rfl) n_isinstance (by decide +kernel) (pa_cons (pv 0) (pa_cons (pe_glob (v := .ref (He.ga K "NothingToUndo")) (by rfl) g_NothingToUndo rfl) pa_nil))) (pa_cons (pe_callB (LX.k_isX (K := K)) (by rfl) n_isinstance (by decide +kernel) (pa_cons (pv 0) (pa_cons (pe_glob (v := .ref (He.ga K "BadDeed")) (by rfl) g_BadDeed rfl) pa_nil))) (pa_cons (pe_callB (LX.k_isX (K := K)) (by rfl) n_isinstance (by decide +kernel) (pa_cons (pv 0) (pa_cons (pe_glob (v := .ref (He.ga K "NoSuchRelation")) (by rfl) g_NoSuchRelation rfl) pa_nil))) pa_nil))))))
        (pss_cons (ps_set (i := 1) sc_law_classes.nd rfl (.inr rfl) (pe_op op_cat (pv 1) (pe_lst (pa_cons (pe_callB (LX.k_isX (K := K)) (by rfl) n_isinstance (by decide +kernel) (pa_cons (pv 0) (pa_cons (pe_glob (v := .ref (He.ga K "BadRow")) (by rfl) g_BadRow rfl) pa_nil))) (pa_cons (pe_callB (LX.k_isX (K := K)) (by rfl) n_isinstance (by decide +kernel) (pa_cons (pv 0) (pa_cons (pe_glob (v := .ref (He.ga K "BadText")) (by rfl) g_BadText rfl) pa_nil))) (pa_cons (pe_callB (LX.k_isX (K := K)) (by rfl) n_isinstance (by decide +kernel) (pa_cons (pv 0) (pa_cons (pe_glob (v := .ref (He.ga K "Unvalued")) (by rfl) g_Unvalued rfl) pa_nil))) (pa_cons (pe_callB (LX.k_isX (K := K)) (by rfl) n_isinstance (by decide +kernel) (pa_cons (pv 0) (pa_cons (pe_glob (v := .ref (He.ga K "TooMany")) (by rfl) g_TooMany rfl) pa_nil))) pa_nil)))))))
        (pss_cons (ps_set (i := 1) sc_law_classes.nd rfl (.inr rfl) (pe_op op_cat (pv 1) (pe_lst (pa_cons (pe_callB (LX.k_isX (K := K)) (by rfl) n_isinstance (by decide +kernel) (pa_cons (pv 0) (pa_cons (pe_glob (v := .ref (He.ga K "BadSide")) (by rfl) g_BadSide rfl) pa_nil))) (pa_cons (pe_callB (LX.k_isX (K := K)) (by rfl) n_isinstance (by decide +kernel) (pa_cons (pv 0) (pa_cons (pe_glob (v := .ref (He.ga K "TooLong")) (by rfl) g_TooLong rfl) pa_nil))) (pa_cons (pe_callB (LX.k_isX (K := K)) (by rfl) n_isinstance (by decide +kernel) (pa_cons (pv 0) (pa_cons (pe_glob (v := .ref (He.ga K "TakenName")) (by rfl) g_TakenName rfl) pa_nil))) pa_nil))))))
        (pss_cons (ps_set (i := 1) sc_law_classes.nd rfl (.inr rfl) (pe_op op_cat (pv 1) (pe_lst (pa_cons (pe_callB (LX.k_isX (K := K)) (by rfl) n_isinstance (by decide +kernel) (pa_cons (pv 0) (pa_cons (pe_glob (v := .ref (He.ga K "UnknownWatch")) (by rfl) g_UnknownWatch rfl) pa_nil))) (pa_cons (pe_callB (LX.k_isX (K := K)) (by rfl) n_isinstance (by decide +kernel) (pa_cons (pv 0) (pa_cons (pe_glob (v := .ref (He.ga K "NoSuchWord")) (by rfl) g_NoSuchWord rfl) pa_nil))) (pa_cons (pe_callB (LX.k_isX (K := K)) (by rfl) n_isinstance (by decide +kernel) (pa_cons (pv 0) (pa_cons (pe_glob (v := .ref (He.ga K "BadNote")) (by rfl) g_BadNote rfl) pa_nil))) pa_nil))))))
        (pss_cons (ps_set (i := 1) sc_law_classes.nd rfl (.inr rfl) (pe_op op_cat (pv 1) (pe_lst (pa_cons (pe_callB (LX.k_isX (K := K)) (by rfl) n_isinstance (by decide +kernel) (pa_cons (pv 0) (pa_cons (pe_glob (v := .ref (He.ga K "BadLetter")) (by rfl) g_BadLetter rfl) pa_nil))) pa_nil))))
        (pss_one (ps_ret (pe_lc (own := [("k", 2)]) (g := gName 2) rfl sc_law_classes.nd (pi_range1 (by rfl) n_range (pa_cons pe_int pa_nil)) (blkOk_by (N := law_classes_N) (sc := defScope s_law_classes) (by decide +kernel)) (fun _ _ _ _ _ => pg_name (i := 2) sc_law_classes.nd rfl (Or.inl rfl)) (fun _ _ _ _ _ => pts_one (pt_val (pe_ix (LX.k_ixl (K := K)) (pv 1) (pv 2) (fun _ _ => rfl)))) (fun _ _ _ _ _ => (pv 2))))))))))))), ?_⟩
    have TK := ex1 T (kn_mem hk)
    obtain ⟨hj, _, _⟩ := ex4 T hk
    have t0 : PySem.W.kitOne K (.ref (He.ga K (kn k))) (.ref (He.ga K "BadWorld")) = some (decide (k = 0)) := hj 0 (by decide)
    have t1 : PySem.W.kitOne K (.ref (He.ga K (kn k))) (.ref (He.ga K "BadOrder")) = some (decide (k = 1)) := hj 1 (by decide)
    have t2 : PySem.W.kitOne K (.ref (He.ga K (kn k))) (.ref (He.ga K "BadQuestion")) = some (decide (k = 2)) := hj 2 (by decide)
    have t3 : PySem.W.kitOne K (.ref (He.ga K (kn k))) (.ref (He.ga K "BadValues")) = some (decide (k = 3)) := hj 3 (by decide)
    have t4 : PySem.W.kitOne K (.ref (He.ga K (kn k))) (.ref (He.ga K "NotAWalk")) = some (decide (k = 4)) := hj 4 (by decide)
    have t5 : PySem.W.kitOne K (.ref (He.ga K (kn k))) (.ref (He.ga K "BadJudge")) = some (decide (k = 5)) := hj 5 (by decide)
    have t6 : PySem.W.kitOne K (.ref (He.ga K (kn k))) (.ref (He.ga K "BadGiven")) = some (decide (k = 6)) := hj 6 (by decide)
    have t7 : PySem.W.kitOne K (.ref (He.ga K (kn k))) (.ref (He.ga K "BadStanding")) = some (decide (k = 7)) := hj 7 (by decide)
    have t8 : PySem.W.kitOne K (.ref (He.ga K (kn k))) (.ref (He.ga K "NotRight")) = some (decide (k = 8)) := hj 8 (by decide)
    have t9 : PySem.W.kitOne K (.ref (He.ga K (kn k))) (.ref (He.ga K "TooLarge")) = some (decide (k = 9)) := hj 9 (by decide)
    have t10 : PySem.W.kitOne K (.ref (He.ga K (kn k))) (.ref (He.ga K "NothingToUndo")) = some (decide (k = 10)) := hj 10 (by decide)
    have t11 : PySem.W.kitOne K (.ref (He.ga K (kn k))) (.ref (He.ga K "BadDeed")) = some (decide (k = 11)) := hj 11 (by decide)
    have t12 : PySem.W.kitOne K (.ref (He.ga K (kn k))) (.ref (He.ga K "NoSuchRelation")) = some (decide (k = 12)) := hj 12 (by decide)
    have t13 : PySem.W.kitOne K (.ref (He.ga K (kn k))) (.ref (He.ga K "BadRow")) = some (decide (k = 13)) := hj 13 (by decide)
    have t14 : PySem.W.kitOne K (.ref (He.ga K (kn k))) (.ref (He.ga K "BadText")) = some (decide (k = 14)) := hj 14 (by decide)
    have t15 : PySem.W.kitOne K (.ref (He.ga K (kn k))) (.ref (He.ga K "Unvalued")) = some (decide (k = 15)) := hj 15 (by decide)
    have t16 : PySem.W.kitOne K (.ref (He.ga K (kn k))) (.ref (He.ga K "TooMany")) = some (decide (k = 16)) := hj 16 (by decide)
    have t17 : PySem.W.kitOne K (.ref (He.ga K (kn k))) (.ref (He.ga K "BadSide")) = some (decide (k = 17)) := hj 17 (by decide)
    have t18 : PySem.W.kitOne K (.ref (He.ga K (kn k))) (.ref (He.ga K "TooLong")) = some (decide (k = 18)) := hj 18 (by decide)
    have t19 : PySem.W.kitOne K (.ref (He.ga K (kn k))) (.ref (He.ga K "TakenName")) = some (decide (k = 19)) := hj 19 (by decide)
    have t20 : PySem.W.kitOne K (.ref (He.ga K (kn k))) (.ref (He.ga K "UnknownWatch")) = some (decide (k = 20)) := hj 20 (by decide)
    have t21 : PySem.W.kitOne K (.ref (He.ga K (kn k))) (.ref (He.ga K "NoSuchWord")) = some (decide (k = 21)) := hj 21 (by decide)
    have t22 : PySem.W.kitOne K (.ref (He.ga K (kn k))) (.ref (He.ga K "BadNote")) = some (decide (k = 22)) := hj 22 (by decide)
    have t23 : PySem.W.kitOne K (.ref (He.ga K (kn k))) (.ref (He.ga K "BadLetter")) = some (decide (k = 23)) := hj 23 (by decide)
    refine g_asgL (el_lst (ea_cons (ev_isX (ev_var rfl) hx0 TK (.own _) t0) (ea_cons (ev_isX (ev_var rfl) hx0 TK (.own _) t1) (ea_cons (ev_isX (ev_var rfl) hx0 TK (.own _) t2) (ea_cons (ev_isX (ev_var rfl) hx0 TK (.own _) t3) ea_nil)))) (show 4 ≤ 100000 by decide)) (fun l0 H0 hl0 e0 hh0 => ?_) H (Ex.refl H)
    have hx1 : ExAt H0 p (He.ga K (kn k)) fs := hx0.same e0
    have E0 : Ex H H0 := e0
    refine g_asgL (el_cat (ev_var rfl) hh0 (el_lst (ea_cons (ev_isX (ev_var rfl) hx1 TK (.own _) t4) (ea_cons (ev_isX (ev_var rfl) hx1 TK (.own _) t5) (ea_cons (ev_isX (ev_var rfl) hx1 TK (.own _) t6) ea_nil))) (show 3 ≤ 100000 by decide)) (show 4 + 3 ≤ 100000 by decide)) (fun l1 H1 hl1 e1 hh1 => ?_)
    have hx2 : ExAt H1 p (He.ga K (kn k)) fs := hx1.same e1
    have E1 : Ex H H1 := E0.trans e1
    refine g_asgL (el_cat (ev_var rfl) hh1 (el_lst (ea_cons (ev_isX (ev_var rfl) hx2 TK (.own _) t7) (ea_cons (ev_isX (ev_var rfl) hx2 TK (.own _) t8) (ea_cons (ev_isX (ev_var rfl) hx2 TK (.own _) t9) ea_nil))) (show 3 ≤ 100000 by decide)) (show 7 + 3 ≤ 100000 by decide)) (fun l2 H2 hl2 e2 hh2 => ?_)
    have hx3 : ExAt H2 p (He.ga K (kn k)) fs := hx2.same e2
    have E2 : Ex H H2 := E1.trans e2
    refine g_asgL (el_cat (ev_var rfl) hh2 (el_lst (ea_cons (ev_isX (ev_var rfl) hx3 TK (.own _) t10) (ea_cons (ev_isX (ev_var rfl) hx3 TK (.own _) t11) (ea_cons (ev_isX (ev_var rfl) hx3 TK (.own _) t12) ea_nil))) (show 3 ≤ 100000 by decide)) (show 10 + 3 ≤ 100000 by decide)) (fun l3 H3 hl3 e3 hh3 => ?_)
    have hx4 : ExAt H3 p (He.ga K (kn k)) fs := hx3.same e3
    have E3 : Ex H H3 := E2.trans e3
    refine g_asgL (el_cat (ev_var rfl) hh3 (el_lst (ea_cons (ev_isX (ev_var rfl) hx4 TK (.own _) t13) (ea_cons (ev_isX (ev_var rfl) hx4 TK (.own _) t14) (ea_cons (ev_isX (ev_var rfl) hx4 TK (.own _) t15) (ea_cons (ev_isX (ev_var rfl) hx4 TK (.own _) t16) ea_nil)))) (show 4 ≤ 100000 by decide)) (show 13 + 4 ≤ 100000 by decide)) (fun l4 H4 hl4 e4 hh4 => ?_)
    have hx5 : ExAt H4 p (He.ga K (kn k)) fs := hx4.same e4
    have E4 : Ex H H4 := E3.trans e4
    refine g_asgL (el_cat (ev_var rfl) hh4 (el_lst (ea_cons (ev_isX (ev_var rfl) hx5 TK (.own _) t17) (ea_cons (ev_isX (ev_var rfl) hx5 TK (.own _) t18) (ea_cons (ev_isX (ev_var rfl) hx5 TK (.own _) t19) ea_nil))) (show 3 ≤ 100000 by decide)) (show 17 + 3 ≤ 100000 by decide)) (fun l5 H5 hl5 e5 hh5 => ?_)
    have hx6 : ExAt H5 p (He.ga K (kn k)) fs := hx5.same e5
    have E5 : Ex H H5 := E4.trans e5
    refine g_asgL (el_cat (ev_var rfl) hh5 (el_lst (ea_cons (ev_isX (ev_var rfl) hx6 TK (.own _) t20) (ea_cons (ev_isX (ev_var rfl) hx6 TK (.own _) t21) (ea_cons (ev_isX (ev_var rfl) hx6 TK (.own _) t22) ea_nil))) (show 3 ≤ 100000 by decide)) (show 20 + 3 ≤ 100000 by decide)) (fun l6 H6 hl6 e6 hh6 => ?_)
    have hx7 : ExAt H6 p (He.ga K (kn k)) fs := hx6.same e6
    have E6 : Ex H H6 := E5.trans e6
    refine g_asgL (el_cat (ev_var rfl) hh6 (el_lst (ea_cons (ev_isX (ev_var rfl) hx7 TK (.own _) t23) ea_nil) (show 1 ≤ 100000 by decide)) (show 23 + 1 ≤ 100000 by decide)) (fun l7 H7 hl7 e7 hh7 => ?_)
    have hx8 : ExAt H7 p (He.ga K (kn k)) fs := hx7.same e7
    have E7 : Ex H H7 := E6.trans e7
    have hh : H7 l7 = some (.lst ((List.range 24).map fun j => V.bl (decide (k = j)))) := hh7
    refine g_retL (el_lcR1 (fun j => decide (k = j)) (fun j => .int (j : Int)) (ea_cons ev_c ea_nil) (by decide) (fun _ => rfl) (fun i H8 e8 hi => et_B (ev_op (ev_var rfl) (ev_var rfl) (rv_ixL (sq_of (e8 _ _ hh)) (atI_nat ?_)))) (fun i H8 e8 hi hf => ev_var rfl)) (fun p1 H8 hp1 e8 h8 => ?_)
    · have hi : i < 24 := by omega
      rw [List.getElem?_map, List.getElem?_range hi]
      rfl
    · refine q p1 H8 (fresh_back E7 hp1) (E7.trans e8) ?_
      rw [h8]
      exact congrArg (fun z => some (HO.lst z)) (given24 k hk)

/-! ### fields -/
/-- an error, what it was made of, and a row that tells the same as the error's row -/
def dField (K : PySem.W.Frag) : List V → Hp → V → Prop := fun vs H z => ∃ (p r1 r2 : Addr) (k : Nat) (x : Str) (n : Int) (ns : List Int), vs = [.ref p, .int (k : Int), .str x, .int n, .ref r2] ∧ k < 24 ∧ Er K H p k (.str x) (.int n) (.ref r1) ∧ H r1 = some (.tup (ns.map V.int)) ∧ H r2 = some (.tup (ns.map V.int)) ∧ z = .bl true
theorem er_dx {H : Hp} {p : Addr} {k : Nat} {x n r : V} (h : Er K H p k x n r) (h1 : 12 ≤ k) (h2 : k < 24) : ∃ dx, H p = some (exo p (He.ga K (kn k)) (some dx)) ∧ H dx = some (exd dx (fieldsOf k x n r)) := by
  rcases h with ⟨e, _⟩ | h
  · exfalso
    have hc : k = 12 ∨ k = 13 ∨ k = 14 ∨ k = 15 ∨ k = 16 ∨ k = 17 ∨ k = 18 ∨ k = 19 ∨ k = 20 ∨ k = 21 ∨ k = 22 ∨ k = 23 := by omega
    rcases hc with rfl | rfl | rfl | rfl | rfl | rfl | rfl | rfl | rfl | rfl | rfl | rfl <;> cases e
  · exact h
abbrev law_holds_field_N : List Str := ["e", "kind", "text", "number", "row", "told"]
abbrev law_holds_field_P : List Str := ["e", "kind", "text", "number", "row"]
theorem sc_law_holds_field : FnScope ["e", "kind", "text", "number", "row", "told"] ["e", "kind", "text", "number", "row"] (defScope s_law_holds_field) := ⟨rfl, rfl, rfl, by decide +kernel, rfl, by decide +kernel, by decide +kernel⟩
theorem ok_field (T : TX K mg) : OkF P w K mg base 2 "_law_holds_field" ["e", "kind", "text", "number", "row"] (spV fun vs H z => dField K vs H z ∧ ∃ k : Nat, vs[1]? = some (.int (k : Int)) ∧ 12 ≤ k) := by
  have n_isinstance := T.n "isinstance" (by decide +kernel)
  have n_tuple := T.n "tuple" (by decide +kernel)
  have n_str := T.n "str" (by decide +kernel)
  refine T.okF 18 rfl (by decide +kernel) (fun f fd F => ?_) (fun _ _ _ _ _ _ us hl => match us, hl with | [_, _, _, _, _], _ => rfl)
  have O__law_whole := ok_whole (P := P) (w := w) (base := base) T
  refine F.ok sc_law_holds_field (fun vs H Q E h => ?_) (fun cdv A outer s H vs Q E hr h => ?_)
  · obtain ⟨z, ⟨⟨p, r1, r2, k, x, n, ns, rfl, _⟩, _⟩, _⟩ := h
    rfl
  · obtain ⟨z, ⟨⟨p, r1, r2, k, x, n, ns, rfl, hk, hE, hr1, hr2, rfl⟩, k2, hk2, hk12⟩, q⟩ := h
    have ek : (k2 : Int) = k := by
      have z : V.int (k : Int) = V.int (k2 : Int) := Option.some.inj hk2
      exact (V.int.inj z).symm
    obtain rfl : k2 = k := by omega
    obtain ⟨dx, h1, h2⟩ := er_dx hE hk12 hk
    have TK := ex1 T (kn_mem hk)
    refine ⟨_, (pss_cons (ps_if (pt_cmpR op_eq (pv 1) pe_int (nomark _)) (pss_one (ps_ret (pe_and (pe_callB (LX.k_isi (K := K)) (by rfl) n_isinstance (by decide +kernel) (pa_cons (XV.pe_xfV (pv 0)) (pa_cons (pe_bltn (v := .ty "tuple") (u := .type "tuple") (by rfl) n_tuple (by decide +kernel) rfl) pa_nil))) (pe_one (pe_cmpR (LX.k_eqD (K := K) hr.units) (XV.pe_xfV (pv 0)) (pv 4) (nomark _)))))) pss_nil)
        (pss_cons (ps_if (pt_cmpR op_eq (pv 1) pe_int (nomark _)) (pss_one (ps_ret (pe_and (LX.pe_f O__law_whole hr (by decide) (pa_cons (XV.pe_xfV (pv 0)) pa_nil)) (pe_one (pe_cmpR op_eq (XV.pe_xfV (pv 0)) (pv 3) (nomark _)))))) pss_nil)
        (pss_cons (ps_if (pt_cmpR op_eq (pv 1) pe_int (nomark _)) (pss_one (ps_ret (pe_and (LX.pe_f O__law_whole hr (by decide) (pa_cons (XV.pe_xfV (pv 0)) pa_nil)) (pe_one (pe_cmpR op_eq (XV.pe_xfV (pv 0)) (pv 3) (nomark _)))))) pss_nil)
        (pss_cons (ps_if (pt_cmpR op_eq (pv 1) pe_int (nomark _)) (pss_one (ps_ret (pe_and (LX.pe_f O__law_whole hr (by decide) (pa_cons (XV.pe_xfV (pv 0)) pa_nil)) (pe_one (pe_cmpR op_eq (XV.pe_xfV (pv 0)) (pv 3) (nomark _)))))) pss_nil)
        (pss_cons (ps_if (pt_cmpR op_eq (pv 1) pe_int (nomark _)) (pss_one (ps_ret (pe_and (LX.pe_f O__law_whole hr (by decide) (pa_cons (XV.pe_xfV (pv 0)) pa_nil)) (pe_one (pe_cmpR op_eq (XV.pe_xfV (pv 0)) (pv 3) (nomark _)))))) pss_nil)
        (pss_cons (ps_if (pt_cmpR op_eq (pv 1) pe_int (nomark _)) (pss_one (ps_ret (pe_and (LX.pe_f O__law_whole hr (by decide) (pa_cons (XV.pe_xfV (pv 0)) pa_nil)) (pe_one (pe_cmpR op_eq (XV.pe_xfV (pv 0)) (pv 3) (nomark _)))))) pss_nil)
        (pss_cons (ps_set (i := 5) sc_law_holds_field.nd rfl (.inl rfl) pe_str)
        (pss_cons (ps_if (pw_or (pt_cmpR op_eq (pv 1) pe_int (nomark _)) (pw_or (pt_cmpR op_eq (pv 1) pe_int (nomark _)) (pw_or1 (pt_cmpR op_eq (pv 1) pe_int (nomark _))))).pt (pss_one (ps_set (i := 5) sc_law_holds_field.nd rfl (.inl rfl) (XV.pe_xfV (pv 0)))) pss_nil)
        (pss_cons (ps_if (pt_cmpR op_eq (pv 1) pe_int (nomark _)) (pss_one (ps_set (i := 5) sc_law_holds_field.nd rfl (.inl rfl) (XV.pe_xfV (pv 0)))) pss_nil)
        (pss_cons (ps_if (pt_cmpR op_eq (pv 1) pe_int (nomark _)) (pss_one (ps_set (i := 5) sc_law_holds_field.nd rfl (.inl rfl) (XV.pe_xfV (pv 0)))) pss_nil)
        (pss_cons (ps_if (pt_cmpR op_eq (pv 1) pe_int (nomark _)) (pss_one (ps_set (i := 5) sc_law_holds_field.nd rfl (.inl rfl) (XV.pe_xfV (pv 0)))) pss_nil)
        (pss_one (ps_ret (pe_and (pe_callB (LX.k_isi (K := K)) (by rfl) n_isinstance (by decide +kernel) (pa_cons (pv 5) (pa_cons (pe_bltn (v := .ty "str") (u := .type "str") (by rfl) n_str (by decide +kernel) rfl) pa_nil))) (pe_one (pe_cmpR op_eq (pv 5) (pv 2) (nomark _))))))))))))))))), ?_⟩
    have qT : ∀ H1, Ex H H1 → Q (.bl true) H1 := q
    have whole : ∀ {te : TE} {σ : L2.St} {i : Int}, Ev te σ H (.int i) → Ev (tCall (spV dWhole) [] E0 (tCons te tNil)) σ H (.bl true) := fun h => ev_call (ea_cons h ea_nil) (spV_at fun H' _ => ⟨_, rfl, rfl⟩)
    have same : ∀ {z : V} {te tb : TE} {σ : L2.St}, scal z z = true → Ev te σ H z → Ev tb σ H z → Ev (tOp rEq te tb) σ H (.bl true) := fun hs a b => ev_is (ev_op a b (rv_eq hs)) (by rw [decide_eq_true rfl])
    have both : ∀ {ta tb : TE} {σ : L2.St}, Ev ta σ H (.bl true) → Ev tb σ H (.bl true) → Ev (tAndV ta tb) σ H (.bl true) := fun a b => ev_is (ev_andV a fun _ => b) rfl
    refine g_when (et_test (ev_op (ev_var rfl) ev_c (rv_eq rfl))) (fun hb => ?_) (fun hb13 => ?_) H (Ex.refl H)
    · have hb : (k2 : Int) = 13 := V.int.inj (of_decide_eq_true hb)
      obtain rfl : k2 = 13 := by omega
      have hf : ∀ {σ : L2.St}, σ[0]? = some (some (.ref p)) → Ev (tXfV K "row" (tVar 0)) σ H (.ref r1) := fun hσ => ev_fld (ev_var hσ) h1 h2 TK (ex3 T (x := "BadRow") (f := "row") (by decide +kernel)).2 rfl
      refine g_ret (both (ev_isi_tup (hf rfl) hr1 (by decide +kernel)) ?_) qT
      refine ev_is (ev_op (hf rfl) (ev_var rfl) (z := .bl (PyData.eqvAll (ns.map PyData.int) (ns.map PyData.int))) fun H1 e Q q => ⟨.tuple (ns.map PyData.int), .tuple (ns.map PyData.int), .tup (st_of (e _ _ hr1)) (dp_ints ns), .tup (st_of (e _ _ hr2)) (dp_ints ns), shaped_intsT ns, shaped_intsT ns, q H1 (Ex.refl H1)⟩) ?_
      rw [eqv_ints, decide_eq_true rfl]
    have hn13 : ¬ (k2 : Int) = 13 := fun e => of_decide_eq_false hb13 (congrArg V.int e)
    refine g_when (et_test (ev_op (ev_var rfl) ev_c (rv_eq rfl))) (fun hb => ?_) (fun hb14 => ?_)
    · have hb : (k2 : Int) = 14 := V.int.inj (of_decide_eq_true hb)
      obtain rfl : k2 = 14 := by omega
      have hf : ∀ {σ : L2.St}, σ[0]? = some (some (.ref p)) → Ev (tXfV K "place" (tVar 0)) σ H (.int n) := fun hσ => ev_fld (ev_var hσ) h1 h2 TK (ex3 T (x := "BadText") (f := "place") (by decide +kernel)).2 rfl
      exact g_ret (both (whole (hf rfl)) (same rfl (hf rfl) (ev_var rfl))) qT
    have hn14 : ¬ (k2 : Int) = 14 := fun e => of_decide_eq_false hb14 (congrArg V.int e)
    refine g_when (et_test (ev_op (ev_var rfl) ev_c (rv_eq rfl))) (fun hb => ?_) (fun hb16 => ?_)
    · have hb : (k2 : Int) = 16 := V.int.inj (of_decide_eq_true hb)
      obtain rfl : k2 = 16 := by omega
      have hf : ∀ {σ : L2.St}, σ[0]? = some (some (.ref p)) → Ev (tXfV K "limit" (tVar 0)) σ H (.int n) := fun hσ => ev_fld (ev_var hσ) h1 h2 TK (ex3 T (x := "TooMany") (f := "limit") (by decide +kernel)).2 rfl
      exact g_ret (both (whole (hf rfl)) (same rfl (hf rfl) (ev_var rfl))) qT
    have hn16 : ¬ (k2 : Int) = 16 := fun e => of_decide_eq_false hb16 (congrArg V.int e)
    refine g_when (et_test (ev_op (ev_var rfl) ev_c (rv_eq rfl))) (fun hb => ?_) (fun hb18 => ?_)
    · have hb : (k2 : Int) = 18 := V.int.inj (of_decide_eq_true hb)
      obtain rfl : k2 = 18 := by omega
      have hf : ∀ {σ : L2.St}, σ[0]? = some (some (.ref p)) → Ev (tXfV K "length" (tVar 0)) σ H (.int n) := fun hσ => ev_fld (ev_var hσ) h1 h2 TK (ex3 T (x := "TooLong") (f := "length") (by decide +kernel)).2 rfl
      exact g_ret (both (whole (hf rfl)) (same rfl (hf rfl) (ev_var rfl))) qT
    have hn18 : ¬ (k2 : Int) = 18 := fun e => of_decide_eq_false hb18 (congrArg V.int e)
    refine g_when (et_test (ev_op (ev_var rfl) ev_c (rv_eq rfl))) (fun hb => ?_) (fun hb22 => ?_)
    · have hb : (k2 : Int) = 22 := V.int.inj (of_decide_eq_true hb)
      obtain rfl : k2 = 22 := by omega
      have hf : ∀ {σ : L2.St}, σ[0]? = some (some (.ref p)) → Ev (tXfV K "line" (tVar 0)) σ H (.int n) := fun hσ => ev_fld (ev_var hσ) h1 h2 TK (ex3 T (x := "BadNote") (f := "line") (by decide +kernel)).2 rfl
      exact g_ret (both (whole (hf rfl)) (same rfl (hf rfl) (ev_var rfl))) qT
    have hn22 : ¬ (k2 : Int) = 22 := fun e => of_decide_eq_false hb22 (congrArg V.int e)
    refine g_when (et_test (ev_op (ev_var rfl) ev_c (rv_eq rfl))) (fun hb => ?_) (fun hb23 => ?_)
    · have hb : (k2 : Int) = 23 := V.int.inj (of_decide_eq_true hb)
      obtain rfl : k2 = 23 := by omega
      have hf : ∀ {σ : L2.St}, σ[0]? = some (some (.ref p)) → Ev (tXfV K "letter" (tVar 0)) σ H (.int n) := fun hσ => ev_fld (ev_var hσ) h1 h2 TK (ex3 T (x := "BadLetter") (f := "letter") (by decide +kernel)).2 rfl
      exact g_ret (both (whole (hf rfl)) (same rfl (hf rfl) (ev_var rfl))) qT
    have hn23 : ¬ (k2 : Int) = 23 := fun e => of_decide_eq_false hb23 (congrArg V.int e)
    have hT : ∀ {te : TE} {σ : L2.St}, Ev te σ H (.str x) → Ev (tCB (rIsi K) (tCons te (tCons (tC (.ty "str")) tNil))) σ H (.bl true) := fun h => ev_isi_str h (by decide +kernel)
    refine g_asg ev_c ?_
    have hcase : k2 = 12 ∨ k2 = 15 ∨ k2 = 17 ∨ k2 = 19 ∨ k2 = 20 ∨ k2 = 21 := by omega
    rcases hcase with rfl | rfl | rfl | rfl | rfl | rfl
    · have hf : ∀ {σ : L2.St}, σ[0]? = some (some (.ref p)) → Ev (tXfV K "name" (tVar 0)) σ H (.str x) := fun hσ => ev_fld (ev_var hσ) h1 h2 TK (ex3 T (x := "NoSuchRelation") (f := "name") (by decide +kernel)).2 rfl
      refine g_when (et_is (b := true) (et_or (et_test (ev_op (ev_var rfl) ev_c (rv_eq rfl))) fun _ => et_or (et_test (ev_op (ev_var rfl) ev_c (rv_eq rfl))) fun _ => et_test (ev_op (ev_var rfl) ev_c (rv_eq rfl))) (by decide)) (fun _ => ?_) (fun z => by cases z)
      refine g1_asg (hf rfl) ?_
      refine g_when (et_is (b := false) (et_test (ev_op (ev_var rfl) ev_c (rv_eq rfl))) (by decide)) (fun z => by cases z) (fun _ => ?_)
      refine g_when (et_is (b := false) (et_test (ev_op (ev_var rfl) ev_c (rv_eq rfl))) (by decide)) (fun z => by cases z) (fun _ => ?_)
      refine g_when (et_is (b := false) (et_test (ev_op (ev_var rfl) ev_c (rv_eq rfl))) (by decide)) (fun z => by cases z) (fun _ => ?_)
      exact g_ret (both (hT (ev_var rfl)) (same rfl (ev_var rfl) (ev_var rfl))) qT
    · have hf : ∀ {σ : L2.St}, σ[0]? = some (some (.ref p)) → Ev (tXfV K "variable" (tVar 0)) σ H (.str x) := fun hσ => ev_fld (ev_var hσ) h1 h2 TK (ex3 T (x := "Unvalued") (f := "variable") (by decide +kernel)).2 rfl
      refine g_when (et_is (b := false) (et_or (et_test (ev_op (ev_var rfl) ev_c (rv_eq rfl))) fun _ => et_or (et_test (ev_op (ev_var rfl) ev_c (rv_eq rfl))) fun _ => et_test (ev_op (ev_var rfl) ev_c (rv_eq rfl))) (by decide)) (fun z => by cases z) (fun _ => ?_)
      refine g_when (et_is (b := true) (et_test (ev_op (ev_var rfl) ev_c (rv_eq rfl))) (by decide)) (fun _ => ?_) (fun z => by cases z)
      refine g1_asg (hf rfl) ?_
      refine g_when (et_is (b := false) (et_test (ev_op (ev_var rfl) ev_c (rv_eq rfl))) (by decide)) (fun z => by cases z) (fun _ => ?_)
      refine g_when (et_is (b := false) (et_test (ev_op (ev_var rfl) ev_c (rv_eq rfl))) (by decide)) (fun z => by cases z) (fun _ => ?_)
      exact g_ret (both (hT (ev_var rfl)) (same rfl (ev_var rfl) (ev_var rfl))) qT
    · have hf : ∀ {σ : L2.St}, σ[0]? = some (some (.ref p)) → Ev (tXfV K "side" (tVar 0)) σ H (.str x) := fun hσ => ev_fld (ev_var hσ) h1 h2 TK (ex3 T (x := "BadSide") (f := "side") (by decide +kernel)).2 rfl
      refine g_when (et_is (b := false) (et_or (et_test (ev_op (ev_var rfl) ev_c (rv_eq rfl))) fun _ => et_or (et_test (ev_op (ev_var rfl) ev_c (rv_eq rfl))) fun _ => et_test (ev_op (ev_var rfl) ev_c (rv_eq rfl))) (by decide)) (fun z => by cases z) (fun _ => ?_)
      refine g_when (et_is (b := false) (et_test (ev_op (ev_var rfl) ev_c (rv_eq rfl))) (by decide)) (fun z => by cases z) (fun _ => ?_)
      refine g_when (et_is (b := true) (et_test (ev_op (ev_var rfl) ev_c (rv_eq rfl))) (by decide)) (fun _ => ?_) (fun z => by cases z)
      refine g1_asg (hf rfl) ?_
      refine g_when (et_is (b := false) (et_test (ev_op (ev_var rfl) ev_c (rv_eq rfl))) (by decide)) (fun z => by cases z) (fun _ => ?_)
      exact g_ret (both (hT (ev_var rfl)) (same rfl (ev_var rfl) (ev_var rfl))) qT
    · have hf : ∀ {σ : L2.St}, σ[0]? = some (some (.ref p)) → Ev (tXfV K "name" (tVar 0)) σ H (.str x) := fun hσ => ev_fld (ev_var hσ) h1 h2 TK (ex3 T (x := "TakenName") (f := "name") (by decide +kernel)).2 rfl
      refine g_when (et_is (b := true) (et_or (et_test (ev_op (ev_var rfl) ev_c (rv_eq rfl))) fun _ => et_or (et_test (ev_op (ev_var rfl) ev_c (rv_eq rfl))) fun _ => et_test (ev_op (ev_var rfl) ev_c (rv_eq rfl))) (by decide)) (fun _ => ?_) (fun z => by cases z)
      refine g1_asg (hf rfl) ?_
      refine g_when (et_is (b := false) (et_test (ev_op (ev_var rfl) ev_c (rv_eq rfl))) (by decide)) (fun z => by cases z) (fun _ => ?_)
      refine g_when (et_is (b := false) (et_test (ev_op (ev_var rfl) ev_c (rv_eq rfl))) (by decide)) (fun z => by cases z) (fun _ => ?_)
      refine g_when (et_is (b := false) (et_test (ev_op (ev_var rfl) ev_c (rv_eq rfl))) (by decide)) (fun z => by cases z) (fun _ => ?_)
      exact g_ret (both (hT (ev_var rfl)) (same rfl (ev_var rfl) (ev_var rfl))) qT
    · have hf : ∀ {σ : L2.St}, σ[0]? = some (some (.ref p)) → Ev (tXfV K "name" (tVar 0)) σ H (.str x) := fun hσ => ev_fld (ev_var hσ) h1 h2 TK (ex3 T (x := "UnknownWatch") (f := "name") (by decide +kernel)).2 rfl
      refine g_when (et_is (b := true) (et_or (et_test (ev_op (ev_var rfl) ev_c (rv_eq rfl))) fun _ => et_or (et_test (ev_op (ev_var rfl) ev_c (rv_eq rfl))) fun _ => et_test (ev_op (ev_var rfl) ev_c (rv_eq rfl))) (by decide)) (fun _ => ?_) (fun z => by cases z)
      refine g1_asg (hf rfl) ?_
      refine g_when (et_is (b := false) (et_test (ev_op (ev_var rfl) ev_c (rv_eq rfl))) (by decide)) (fun z => by cases z) (fun _ => ?_)
      refine g_when (et_is (b := false) (et_test (ev_op (ev_var rfl) ev_c (rv_eq rfl))) (by decide)) (fun z => by cases z) (fun _ => ?_)
      refine g_when (et_is (b := false) (et_test (ev_op (ev_var rfl) ev_c (rv_eq rfl))) (by decide)) (fun z => by cases z) (fun _ => ?_)
      exact g_ret (both (hT (ev_var rfl)) (same rfl (ev_var rfl) (ev_var rfl))) qT
    · have hf : ∀ {σ : L2.St}, σ[0]? = some (some (.ref p)) → Ev (tXfV K "word" (tVar 0)) σ H (.str x) := fun hσ => ev_fld (ev_var hσ) h1 h2 TK (ex3 T (x := "NoSuchWord") (f := "word") (by decide +kernel)).2 rfl
      refine g_when (et_is (b := false) (et_or (et_test (ev_op (ev_var rfl) ev_c (rv_eq rfl))) fun _ => et_or (et_test (ev_op (ev_var rfl) ev_c (rv_eq rfl))) fun _ => et_test (ev_op (ev_var rfl) ev_c (rv_eq rfl))) (by decide)) (fun z => by cases z) (fun _ => ?_)
      refine g_when (et_is (b := false) (et_test (ev_op (ev_var rfl) ev_c (rv_eq rfl))) (by decide)) (fun z => by cases z) (fun _ => ?_)
      refine g_when (et_is (b := false) (et_test (ev_op (ev_var rfl) ev_c (rv_eq rfl))) (by decide)) (fun z => by cases z) (fun _ => ?_)
      refine g_when (et_is (b := true) (et_test (ev_op (ev_var rfl) ev_c (rv_eq rfl))) (by decide)) (fun _ => ?_) (fun z => by cases z)
      refine g1_asg (hf rfl) ?_
      exact g_ret (both (hT (ev_var rfl)) (same rfl (ev_var rfl) (ev_var rfl))) qT
end Kx
namespace Kx
open PySem PySem.Spec PyProof.Rows L2 Evl LX T XV
variable {P : Program} {w : World} {K : PySem.W.Frag} {mg : Str → Option Value} {base : Heap}
/-! ### text -/
def signsS : Str := " abcdefghijklmnopqrstuvwxyz0123456789ABCXYZ_-.,:;!?()<>=+*/"
theorem signs_len : signsS.length = 59 := by decide +kernel
theorem signs_len2 : signsS.cps.toList.length = 59 := by decide +kernel
def dText : List V → Hp → (V → Prop) → Prop := fun vs _ Pz => (∃ c : Int, vs = [.int c]) ∧ Pz = fun z => ∃ s : Str, z = .str s ∧ s.length ≤ 16
def SZ : List Int := 16 :: List.replicate 15 59
theorem SZ_ok : ∀ s ∈ SZ, 0 < s ∧ s < 1073741824 := by decide
theorem bd_at {c : Int} {l : List Int} (hl : ∀ s ∈ l, 0 < s) {i : Nat} {s : Int} (e : l[i]? = some s) : 0 ≤ (digitsOf c l).getD i 0 ∧ (digitsOf c l).getD i 0 < s := by
  have h1 : i < (digitsOf c l).length := by
    rw [digits_len]
    exact (List.getElem?_eq_some_iff.mp e).1
  have h2 : (digitsOf c l)[i]? = some ((digitsOf c l).getD i 0) := by
    rw [List.getD_eq_getElem?_getD, List.getElem?_eq_getElem h1]
    rfl
  obtain ⟨s', e', a, b⟩ := digits_bd hl h2
  rw [e] at e'
  cases e'
  exact ⟨a, b⟩
abbrev law_text_N : List Str := ["cell", "signs", "digits", "k"]
abbrev law_text_P : List Str := ["cell"]
theorem sc_law_text : FnScope ["cell", "signs", "digits", "k"] ["cell"] (defScope s_law_text) := ⟨rfl, rfl, rfl, by decide +kernel, rfl, by decide +kernel, by decide +kernel⟩
theorem ok_text (T : TX K mg) : OkF P w K mg base 2 "_law_text" ["cell"] (spP dText) := by
  have n_range := T.n "range" (by decide +kernel)
  have n_len := T.n "len" (by decide +kernel)
  refine T.okF 19 rfl (by decide +kernel) (fun f fd F => ?_) (fun _ _ _ _ _ _ us hl => match us, hl with | [_], _ => rfl)
  have O__law_digits := ok_digits (P := P) (w := w) (base := base) T
  refine F.ok sc_law_text (fun vs H Q E h => ?_) (fun cdv A outer s H vs Q E hr h => ?_)
  · obtain ⟨_, ⟨⟨c, rfl⟩, _⟩, _⟩ := h
    rfl
  · obtain ⟨_, ⟨⟨c, rfl⟩, rfl⟩, q⟩ := h
    refine ⟨_, (pss_cons (ps_set (i := 1) sc_law_text.nd rfl (.inr rfl) pe_str)
        (pss_cons (ps_set (i := 2) sc_law_text.nd rfl (.inr rfl) (LX.pe_f O__law_digits hr (by decide) (pa_cons (pv 0) (pa_cons (pe_op op_cat (pe_lst (pa_cons pe_int pa_nil)) (pe_lc (own := [("k", 3)]) (g := gName 3) (tt := tYes) rfl sc_law_text.nd (pi_range1 (by rfl) n_range (pa_cons pe_int pa_nil)) (blkOk_by (N := law_text_N) (sc := defScope s_law_text) (by decide +kernel)) (fun _ _ _ _ _ => pg_name (i := 3) sc_law_text.nd rfl (Or.inl rfl)) (fun _ _ _ _ _ => pts_nil) (fun _ _ _ _ _ => (pe_callB call_len_str (by rfl) n_len (by decide +kernel) (pa_cons (pv 1) pa_nil))))) pa_nil))))
        (pss_one (ps_ret (pe_op op_add_str pe_str (pe_join pe_str (pe_lc (own := [("k", 3)]) (g := gName 3) (tt := tYes) rfl sc_law_text.nd (pi_range1 (by rfl) n_range (pa_cons (pe_ix (LX.k_ixl (K := K)) (pv 2) pe_int (fun _ _ => rfl)) pa_nil)) (blkOk_by (N := law_text_N) (sc := defScope s_law_text) (by decide +kernel)) (fun _ _ _ _ _ => pg_name (i := 3) sc_law_text.nd rfl (Or.inl rfl)) (fun _ _ _ _ _ => pts_nil) (fun _ _ _ _ _ => (pe_ix ix_str (pv 1) (pe_ix (LX.k_ixl (K := K)) (pv 2) (pe_op op_add pe_int (pv 3)) (fun _ _ => rfl)) (fun _ _ => rfl)))))))))), ?_⟩
    refine g_asg (v := .str signsS) ev_c ?_ H (Ex.refl H)
    refine g_asgL (xs := (digitsOf c SZ).map V.int) (el_callP (eap_cons (ev_var rfl) (eap_consL (el_catN (el_lst (ea_cons ev_c ea_nil) (show 1 ≤ 100000 by decide)) (el_lcR1 (fun _ => true) (fun _ => .int 59) (ea_cons ev_c ea_nil) (by decide) (fun _ => rfl) (fun _ _ _ _ => et_yes) (fun i H1 e hi _ => ev_is (ev_lenS (s := signsS) (ev_var rfl) (by rw [signs_len]; decide)) (by rw [signs_len]; rfl))) (show 1 + 15 ≤ 100000 by decide)) eap_nil)) (fun vs H1 e h => spL_at fun H2 e2 => ?_)) ?_
    · obtain ⟨r, rfl, p, r2, rfl, hp, rfl⟩ := h
      refine ⟨c, p, SZ, rfl, sq_of ?_, SZ_ok, by decide, rfl⟩
      rw [e2 _ _ hp]
      rfl
    · intro l H1 hl0 e1 hl
      have hpos : ∀ s ∈ SZ, 0 < s := fun s hs => (SZ_ok s hs).1
      have hd0 := bd_at (c := c) hpos (i := 0) (s := 16) rfl
      have hlen : (digitsOf c SZ).length = 16 := digits_len c SZ
      generalize hds : digitsOf c SZ = ds at hl hd0 hlen
      have h0 : atI (ds.map V.int) 0 = some (V.int (ds.getD 0 0)) := atI_int (k := 0) (by decide) (by omega)
      have hn : ((List.range (ds.getD 0 0).toNat).map fun (i : Nat) => (⟨#[signsS.cps.toList.getD (ds.getD (1 + (i : Int)).toNat 0).toNat 0]⟩ : Str)).length ≤ 15 := by
        rw [List.length_map, List.length_range]
        omega
      have hone : ∀ a ∈ ((List.range (ds.getD 0 0).toNat).map fun (i : Nat) => (⟨#[signsS.cps.toList.getD (ds.getD (1 + (i : Int)).toNat 0).toNat 0]⟩ : Str)), a.length = 1 := by
        intro a ha
        obtain ⟨i, _, rfl⟩ := List.mem_map.mp ha
        rfl
      have hsum : ∀ l : List Str, (∀ a ∈ l, a.length = 1) → (l.map (·.length)).sum = l.length := by
        intro l
        induction l with
        | nil => intro _; rfl
        | cons a r ih =>
          intro h
          rw [List.map_cons, List.sum_cons, ih fun b hb => h b (List.mem_cons_of_mem _ hb), h a (List.mem_cons_self ..), List.length_cons]
          omega
      have hz0 : (Str.ofString "").length = 0 := by decide
      refine g_retP (Ev.p (v := .str (Str.ofString "x" ++ Txt.join (Str.ofString "") ((List.range (ds.getD 0 0).toNat).map fun (i : Nat) => (⟨#[signsS.cps.toList.getD (ds.getD (1 + (i : Int)).toNat 0).toNat 0]⟩ : Str)))) (ev_op ev_c (ev_join ev_c ?_ ?_) (rv_addS ?_)) ⟨_, rfl, ?_⟩) (fun z H2 e2 hz => q z H2 (e1.trans e2) hz)
      · have := el_lcR1 (σ := [some (.int c), some (.str signsS), some (.ref l), none]) (H := H1) (t := tYes) (te := tOp rIxS (tVar 1) (tOp (rIxL K) (tVar 2) (tOp (rI0 fun i j => .int (i + j)) (tC (.int 1)) (tVar 3)))) (ta := tCons (tOp (rIxL K) (tVar 2) (tC (.int 0))) tNil) (j := 3) (vs := [3]) (n := ds.getD 0 0)
          (fun _ => true) (fun i => .str ⟨#[signsS.cps.toList.getD (ds.getD (1 + (i : Int)).toNat 0).toNat 0]⟩) (ea_cons (ev_op (ev_var rfl) ev_c (rv_ixL (sq_of hl) h0)) ea_nil) (by omega) (fun _ => rfl) (fun _ _ _ _ => et_yes) (fun i H2 e2 hi _ => ?_)
        · rw [given_all] at this
          rw [List.map_map]
          exact this
        · have hb := bd_at (c := c) hpos (i := 1 + i) (s := 59) (by
            have e : 1 + i = i + 1 := Nat.add_comm 1 i
            rw [e]
            show (List.replicate 15 (59 : Int))[i]? = some 59
            rw [List.getElem?_replicate, if_pos (by omega)])
          rw [hds] at hb
          have e3 : (1 + (i : Int)).toNat = 1 + i := by omega
          refine ev_op (ev_var rfl) (ev_op (ev_var rfl) (ev_op ev_c (ev_var rfl) rv_I0) (rv_ixL (sq_of (e2 _ _ hl)) (atI_int (k := 1 + (i : Int)) (by omega) (by omega)))) (rv_ixS (by rw [signs_len]; decide) ?_)
          rw [e3]
          obtain ⟨m, hm⟩ : ∃ m : Nat, ds.getD (1 + i) 0 = (m : Int) := ⟨(ds.getD (1 + i) 0).toNat, by omega⟩
          rw [hm] at hb ⊢
          rw [Int.toNat_natCast]
          refine atI_nat ?_
          rw [List.getD_eq_getElem?_getD, List.getElem?_eq_getElem (by rw [signs_len2]; omega)]
          rfl
      · rw [hsum _ hone, hz0]
        omega
      · rw [PySem.W.KT.join_ones _ hone]
        have : (Str.ofString "x").length = 1 := by decide
        omega
      · rw [PySem.Str.length_append, PySem.W.KT.join_ones _ hone]
        have : (Str.ofString "x").length = 1 := by decide
        omega
/-! ### is_error -/
def dIs (K : PySem.W.Frag) : List V → Hp → V → Prop := fun vs H z => ∃ (p r1 r2 : Addr) (k : Nat) (x : Str) (n : Int) (ns : List Int), vs = [.ref p, .int (k : Int), .str x, .int n, .ref r2] ∧ k < 24 ∧ Er K H p k (.str x) (.int n) (.ref r1) ∧ H r1 = some (.tup (ns.map V.int)) ∧ H r2 = some (.tup (ns.map V.int)) ∧ z = .bl true
abbrev law_is_error_N : List Str := ["e", "kind", "text", "number", "row"]
abbrev law_is_error_P : List Str := ["e", "kind", "text", "number", "row"]
theorem sc_law_is_error : FnScope ["e", "kind", "text", "number", "row"] ["e", "kind", "text", "number", "row"] (defScope s_law_is_error) := ⟨rfl, rfl, rfl, by decide +kernel, rfl, by decide +kernel, by decide +kernel⟩
theorem ok_is (T : TX K mg) : OkF P w K mg base 3 "_law_is_error" ["e", "kind", "text", "number", "row"] (spV (dIs K)) := by
  have n_isinstance := T.n "isinstance" (by decide +kernel)
  have n_ValueError := T.n "ValueError" (by decide +kernel)
  have g_OnceError := T.g "OnceError" (by decide +kernel)
  refine T.okF 21 rfl (by decide +kernel) (fun f fd F => ?_) (fun _ _ _ _ _ _ us hl => match us, hl with | [_, _, _, _, _], _ => rfl)
  have O__law_classes := ok_classes (P := P) (w := w) (base := base) T
  have O__law_holds_field := ok_field (P := P) (w := w) (base := base) T
  refine F.ok sc_law_is_error (fun vs H Q E h => ?_) (fun cdv A outer s H vs Q E hr h => ?_)
  · obtain ⟨z, ⟨p, r1, r2, k, x, n, ns, rfl, _⟩, _⟩ := h
    rfl
  · obtain ⟨z, ⟨p, r1, r2, k, x, n, ns, rfl, hk, hE, hr1, hr2, rfl⟩, q⟩ := h
    refine ⟨_, (pss_cons (ps_if (pw_or (pt_cmpR (LX.k_neD (K := K) hr.units) (LX.pe_f O__law_classes hr (by decide) (pa_cons (pv 0) pa_nil)) (pe_lst (pa_cons (pv 1) pa_nil)) (nomark _)) (pw_or (pt_not (pt_val (pe_callB (LX.k_isX (K := K)) (by rfl) n_isinstance (by decide +kernel) (pa_cons (pv 0) (pa_cons (pe_glob (v := .ref (He.ga K "OnceError")) (by rfl) g_OnceError rfl) pa_nil))))) (pw_or1 (pt_not (pt_val (pe_callB (LX.k_isX (K := K)) (by rfl) n_isinstance (by decide +kernel) (pa_cons (pv 0) (pa_cons (pe_bltn (v := .ty "ValueError") (u := .type "ValueError") (by rfl) n_ValueError (by decide +kernel) rfl) pa_nil)))))))).pt (pss_one (ps_ret pe_bl)) pss_nil)
        (pss_one (ps_ret (pe_or (pe_cmpR op_lt (pv 1) pe_int (nomark _)) (pe_one (LX.pe_f O__law_holds_field hr (by decide) (pa_cons (pv 0) (pa_cons (pv 1) (pa_cons (pv 2) (pa_cons (pv 3) (pa_cons (pv 4) pa_nil))))))))))), ?_⟩
    have TK := ex1 T (kn_mem hk)
    obtain ⟨_, t1, t2⟩ := ex4 T hk
    have hcls : EvL (tCall (spL (dClasses K)) [] E0 (tCons (tVar 0) tNil)) [some (.ref p), some (.int (k : Int)), some (.str x), some (.int n), some (.ref r2)] H [.int (k : Int)] :=
      el_callP (eap_cons (ev_var rfl) eap_nil) fun vs H1 e h => spL_at fun H2 e2 => by
        obtain ⟨r, rfl, rfl⟩ := h
        exact ⟨p, k, _, rfl, hk, ExAt.same (e.trans e2) hE, rfl⟩
    refine g_when (b := false) (et_is (et_or (et_test (ev_opLL hcls (el_lst (ea_cons (ev_var rfl) ea_nil) (show 1 ≤ 100000 by decide)) (z := .bl false) fun a b H1 ha hb e => rv_val fun H2 e2 Q q => ?_)) fun _ => et_or (et_not (et_B (ev_isX (ev_var rfl) hE TK (.own _) t1))) fun _ => et_not (et_B (ev_isX (ev_var rfl) hE TK (.ty _) t2))) rfl) (fun z => by cases z) (fun _ => ?_) H (Ex.refl H)
    · refine ⟨.list ([(k : Int)].map PyData.int), .list ([(k : Int)].map PyData.int), .lst (sq_of (e2 _ _ ha)) (dp_ints [(k : Int)]), .lst (sq_of (e2 _ _ hb)) (dp_ints [(k : Int)]), shaped_ints _, shaped_ints _, ?_⟩
      have e3 : PyData.eqv (.list ([(k : Int)].map PyData.int)) (.list ([(k : Int)].map PyData.int)) = true := by
        show PyData.eqvAll _ _ = true
        rw [eqv_ints, decide_eq_true rfl]
      rw [e3]
      exact q
    · by_cases h12 : k < 12
      · refine g_ret (v := .bl true) (ev_is (ev_orV (ev_op (ev_var rfl) ev_c rv_I0) (b := true) fun hf => ?_) ?_) q
        · exact absurd h12 (by have := of_decide_eq_false hf; omega)
        · rw [decide_eq_true (show (k : Int) < 12 by omega)]
          rfl
      · refine g_ret (v := .bl true) (ev_is (ev_orV (ev_op (ev_var rfl) ev_c rv_I0) (b := true) fun _ => ?_) ?_) q
        · refine ev_callP (eap_cons (ev_var rfl) (eap_cons (ev_var rfl) (eap_cons (ev_var rfl) (eap_cons (ev_var rfl) (eap_cons (ev_var rfl) eap_nil))))) fun vs H1 e h => spV_at fun H2 e2 => ?_
          obtain ⟨_, rfl, _, rfl, _, rfl, _, rfl, _, rfl, rfl⟩ := h
          exact ⟨⟨p, r1, r2, k, x, n, ns, rfl, hk, ExAt.same (e.trans e2) hE, (e.trans e2) _ _ hr1, (e.trans e2) _ _ hr2, rfl⟩, k, rfl, by omega⟩
        · rw [Bool.or_true]
end Kx
namespace Kx
open PySem PySem.Spec PyProof.Rows L2 Evl LX T XV
variable {P : Program} {w : World} {K : PySem.W.Frag} {mg : Str → Option Value} {base : Heap}
/-! ### the law -/
section
variable {σ : L2.St} {H : Hp} {te : TE} {ta : TA} {D : Ends} {tz : TS}
def EvE (K : PySem.W.Frag) (te : TE) (σ : L2.St) (H : Hp) (k : Nat) (x n : V) (ns : List Int) : Prop := ∀ H1, Ex H H1 → ∀ Q : VK, (∀ p r H2, H1 p = none → Ex H1 H2 → Er K H2 p k x n (.ref r) → H2 r = some (.tup (ns.map V.int)) → Q (.ref p) H2) → te σ H1 Q
theorem ev_mkEP {E : XK} {A : List V → Hp → Prop} {k : Nat} {x n : V} {ns : List Int} (h : EvAP ta σ H A) (hk : k < 24) (hP : ∀ vs H1, Ex H H1 → A vs H1 → ∃ r, vs = [.int (k : Int), x, n, .ref r] ∧ H1 r = some (.tup (ns.map V.int))) : EvE K (tCall (spE K dError) [] E ta) σ H k x n ns := fun H1 e1 Q q =>
  h H1 e1 _ fun vs H2 e2 hA => by
    obtain ⟨r, rfl, hr⟩ := hP vs H2 (e1.trans e2) hA
    show spE K dError ([.int (k : Int), x, n, .ref r] ++ []) H2 Q E
    rw [List.append_nil]
    exact ⟨k, x, n, .ref r, ⟨rfl, hk, r, _, rfl, hr⟩, fun p H3 hp e3 hx => q p r H3 (fresh_back e2 hp) (e2.trans e3) hx (e3 _ _ hr)⟩
theorem g_asgE {i k : Nat} {x n : V} {ns : List Int} (h : EvE K te σ H k x n ns) (kk : ∀ p r H1, H p = none → Ex H H1 → Er K H1 p k x n (.ref r) → H1 r = some (.tup (ns.map V.int)) → Sg tz D (σ.set i (some (.ref p))) H1) : Sg (tSeq (tAsg te (gName i)) tz) D σ H :=
  fun H1 e => h H1 e _ fun p r H2 hp e2 hx hr => kk p r H2 (fresh_back e hp) (e.trans e2) hx hr H2 (Ex.refl H2)
end
def dLaw (K : PySem.W.Frag) : List V → Hp → V → Prop := fun vs H z => ∃ (a : Addr) (ns : List Int), vs = [.ref a] ∧ SqL K H a (ns.map V.int) ∧ ns.length ≤ 63 ∧ z = .bl true
def SZ7 : List Int := [5, 400, 400, 400, 400, 23, 10 ^ (9 : Int).toNat]
theorem SZ7_ok : ∀ s ∈ SZ7, 0 < s ∧ s < 1073741824 := by decide
abbrev law_N : List Str := ["script", "kind", "digits", "text", "number", "row", "other", "first", "second", "third", "k"]
abbrev law_P : List Str := ["script"]
theorem sc_law : FnScope ["script", "kind", "digits", "text", "number", "row", "other", "first", "second", "third", "k"] ["script"] (defScope s_law) := ⟨rfl, rfl, rfl, by decide +kernel, rfl, by decide +kernel, by decide +kernel⟩
theorem fn_law (T : TX K mg) {f : Addr} {fd : FuncData} (F : Fun K "law" "law" s_law f fd) : FnOk P w K mg base CX0 5 f fd ["script"] (spV (dLaw K)) := by
  have n_range := T.n "range" (by decide +kernel)
  have n_int := T.n "int" (by decide +kernel)
  have n_tuple := T.n "tuple" (by decide +kernel)
  have O__law_digits := ok_digits (P := P) (w := w) (base := base) T
  have O__law_cell := ok_cell (P := P) (w := w) (base := base) T
  have O__law_text := ok_text (P := P) (w := w) (base := base) T
  have O__law_error := ok_error (P := P) (w := w) (base := base) T
  have O__law_is_error := ok_is (P := P) (w := w) (base := base) T
  refine F.ok sc_law (fun vs H Q E h => ?_) (fun cdv A outer s H vs Q E hr h => ?_)
  · obtain ⟨z, ⟨a, ns, rfl, _⟩, _⟩ := h
    rfl
  · obtain ⟨z, ⟨a, ns, rfl, hS, hl, rfl⟩, q⟩ := h
    refine ⟨_, (pss_cons (ps_for PassesOwn.never rfl (pi_range1 (by rfl) n_range (pa_cons pe_int pa_nil)) (pg_name (i := 1) sc_law.nd rfl (.inl rfl)) (pss_cons (ps_set (i := 2) sc_law.nd rfl (.inr rfl) (LX.pe_f O__law_digits hr (by decide) (pa_cons (LX.pe_f O__law_cell hr (by decide) (pa_cons (pv 0) (pa_cons (pv 1) pa_nil))) (pa_cons (pe_lst (pa_cons pe_int (pa_cons pe_int (pa_cons pe_int (pa_cons pe_int (pa_cons pe_int (pa_cons pe_int (pa_cons (pe_op op_pow pe_int pe_int) pa_nil)))))))) pa_nil))))
        (pss_cons (ps_set (i := 3) sc_law.nd rfl (.inl rfl) (LX.pe_f O__law_text hr (by decide) (pa_cons (LX.pe_f O__law_cell hr (by decide) (pa_cons (pv 0) (pa_cons (pe_op op_add pe_int (pv 1)) pa_nil))) pa_nil)))
        (pss_cons (ps_set (i := 4) sc_law.nd rfl (.inl rfl) (pe_op op_sub (pe_op op_mod (pe_callTy call_int1 (by rfl) n_int (by decide +kernel) (pa_cons (LX.pe_f O__law_cell hr (by decide) (pa_cons (pv 0) (pa_cons (pv 1) pa_nil))) pa_nil)) (pe_op op_pow pe_int pe_int)) (pe_ix (LX.k_ixl (K := K)) (pv 2) pe_int (fun _ _ => rfl))))
        (pss_cons (ps_set (i := 5) sc_law.nd rfl (.inl rfl) (pe_callTy (LX.k_tupOf (K := K)) (by rfl) n_tuple (by decide +kernel) (pa_cons (pe_lc (own := [("k", 10)]) (g := gName 10) (tt := tYes) rfl sc_law.nd (pi_range1 (by rfl) n_range (pa_cons (pe_ix (LX.k_ixl (K := K)) (pv 2) pe_int (fun _ _ => rfl)) pa_nil)) (blkOk_by (N := law_N) (sc := defScope s_law) (by decide +kernel)) (fun _ _ _ _ _ => pg_name (i := 10) sc_law.nd rfl (Or.inl rfl)) (fun _ _ _ _ _ => pts_nil) (fun _ _ _ _ _ => (pe_ix (LX.k_ixl (K := K)) (pv 2) (pe_op op_add pe_int (pv 10)) (fun _ _ => rfl)))) pa_nil)))
        (pss_cons (ps_set (i := 6) sc_law.nd rfl (.inl rfl) (pe_op op_mod (pe_callTy call_int1 (by rfl) n_int (by decide +kernel) (pa_cons (pe_op op_add (pe_op op_add (pv 1) pe_int) (pe_ix (LX.k_ixl (K := K)) (pv 2) pe_int (fun _ _ => rfl))) pa_nil)) pe_int))
        (pss_cons (ps_set (i := 7) sc_law.nd rfl (.inl rfl) (LX.pe_f O__law_error hr (by decide) (pa_cons (pv 1) (pa_cons (pv 3) (pa_cons (pv 4) (pa_cons (pv 5) pa_nil))))))
        (pss_cons (ps_set (i := 8) sc_law.nd rfl (.inl rfl) (LX.pe_f O__law_error hr (by decide) (pa_cons (pv 1) (pa_cons (pe_op op_add_str (pv 3) pe_str) (pa_cons (pe_op op_add (pv 4) pe_int) (pa_cons (pe_op (LX.k_catA (K := K)) (pv 5) (pe_tup (pa_cons pe_int pa_nil))) pa_nil))))))
        (pss_cons (ps_set (i := 9) sc_law.nd rfl (.inl rfl) (LX.pe_f O__law_error hr (by decide) (pa_cons (pv 6) (pa_cons (pe_op op_add_str pe_str (pv 3)) (pa_cons (pe_op op_sub (pv 4) pe_int) (pa_cons (pe_op (LX.k_catA (K := K)) (pe_tup (pa_cons pe_int pa_nil)) (pv 5)) pa_nil))))))
        (pss_cons (ps_if (pt_not (pt_val (LX.pe_f O__law_is_error hr (by decide) (pa_cons (pv 7) (pa_cons (pv 1) (pa_cons (pv 3) (pa_cons (pv 4) (pa_cons (pv 5) pa_nil)))))))) (pss_one (ps_ret pe_bl)) pss_nil)
        (pss_cons (ps_if (pt_not (pt_val (LX.pe_f O__law_is_error hr (by decide) (pa_cons (pv 8) (pa_cons (pv 1) (pa_cons (pe_op op_add_str (pv 3) pe_str) (pa_cons (pe_op op_add (pv 4) pe_int) (pa_cons (pe_op (LX.k_catA (K := K)) (pv 5) (pe_tup (pa_cons pe_int pa_nil))) pa_nil)))))))) (pss_one (ps_ret pe_bl)) pss_nil)
        (pss_one (ps_if (pt_not (pt_val (LX.pe_f O__law_is_error hr (by decide) (pa_cons (pv 9) (pa_cons (pv 6) (pa_cons (pe_op op_add_str pe_str (pv 3)) (pa_cons (pe_op op_sub (pv 4) pe_int) (pa_cons (pe_op (LX.k_catA (K := K)) (pe_tup (pa_cons pe_int pa_nil)) (pv 5)) pa_nil)))))))) (pss_one (ps_ret pe_bl)) pss_nil)))))))))))))
        (pss_one (ps_ret pe_bl))), ?_⟩
    have cell : ∀ {H1 : Hp} {σ : L2.St} {te : TE} {k : Int}, Ex H H1 → σ[0]? = some (some (.ref a)) → 0 ≤ k → k < 1000 → Ev te σ H1 (.int k) → Ev (tCall (spV (dCell K)) [] E0 (tCons (tVar 0) (tCons te tNil))) σ H1 (.int (cellOf ns k)) := fun e1 hσ h0 h1 hk =>
      ev_callP (eap_cons (ev_var hσ) (eap_cons hk eap_nil)) fun vs H2 e h => spV_at fun H3 e3 => by
        obtain ⟨_, rfl, _, rfl, rfl⟩ := h
        exact ⟨a, ns, _, rfl, ex_l ((e1.trans e).trans e3) hS, h0, by omega, by omega, rfl⟩
    refine q_forR1 (n := 24) (ea_cons ev_c ea_nil) (by decide) (fun i σ' H' => Ex H H' ∧ ∃ y1 y2 y3 y4 y5 y6 y7 y8 y9 y10, σ' = [some (.ref a), y1, y2, y3, y4, y5, y6, y7, y8, y9, y10]) (fun H1 e1 => ⟨e1, none, none, none, none, none, none, none, none, none, none, rfl⟩) (fun i σ' H' hi h => ?_) fun σ' H' h => ?_
    · obtain ⟨e0, y1, y2, y3, y4, y5, y6, y7, y8, y9, y10, rfl⟩ := h
      have hi : i < 24 := by omega
      -- digits
      refine g_asgL (H := H') (xs := (digitsOf (cellOf ns (i : Int)) SZ7).map V.int) (el_callP (eap_cons (cell e0 rfl (by omega) (by omega) (ev_var rfl)) (eap_consL (xs := SZ7.map V.int) (el_lst (ea_cons ev_c (ea_cons ev_c (ea_cons ev_c (ea_cons ev_c (ea_cons ev_c (ea_cons ev_c (ea_cons (ev_op ev_c ev_c (rv_pow (by decide))) ea_nil))))))) (by decide)) eap_nil)) (fun vs H1 e h => spL_at fun H2 e2 => ?_)) ?_ H' (Ex.refl H')
      · obtain ⟨r, rfl, p, r2, rfl, hp, rfl⟩ := h
        exact ⟨_, p, SZ7, rfl, sq_of (e2 _ _ hp), SZ7_ok, by decide, rfl⟩
      intro l H1 hl0 e1 hl1
      have hpos : ∀ s ∈ SZ7, 0 < s := fun s hs => (SZ7_ok s hs).1
      have hd0 := bd_at (c := cellOf ns (i : Int)) hpos (i := 0) (s := 5) rfl
      have hlen : (digitsOf (cellOf ns (i : Int)) SZ7).length = 7 := digits_len _ SZ7
      generalize digitsOf (cellOf ns (i : Int)) SZ7 = ds at hl1 hd0 hlen
      have at_ : ∀ {H2 : Hp} {k : Int}, Ex H1 H2 → 0 ≤ k → k < 7 → RV (rIxL K) (.ref l) (.int k) H2 (.int (ds.getD k.toNat 0)) := fun e2 h0 h1 => rv_ixL (sq_of (e2 _ _ hl1)) (atI_int h0 (by omega))
      -- text
      refine g_asgP (P := fun z => ∃ s : Str, z = .str s ∧ s.length ≤ 16) (ep_callP (eap_cons (cell (e0.trans e1) rfl (k := 24 + (i : Int)) (by omega) (by omega) (ev_op ev_c (ev_var rfl) rv_I0)) eap_nil) fun vs H2 e h => ?_) ?_
      · obtain ⟨_, rfl, rfl⟩ := h
        exact ⟨⟨_, rfl⟩, rfl⟩
      intro z hz
      obtain ⟨x, rfl, hx⟩ := hz
      -- number
      refine g_asg (v := .int (cellOf ns (i : Int) % 10 ^ (30 : Int).toNat - ds.getD 6 0)) (ev_op (ev_op (ev_int (cell (e0.trans e1) rfl (by omega) (by omega) (ev_var rfl))) (ev_op ev_c ev_c (rv_pow (by decide))) (rv_mod (by decide))) (ev_op (ev_var rfl) ev_c (at_ (Ex.refl _) (by decide) (by decide))) rv_I0) ?_
      generalize cellOf ns (i : Int) % 10 ^ (30 : Int).toNat - ds.getD 6 0 = nu
      -- row
      refine g_asgU (eu_tupL (el_lcR1 (n := ds.getD 0 0) (fun _ => true) (fun j => .int (ds.getD (1 + (j : Int)).toNat 0)) (ea_cons (ev_op (ev_var rfl) ev_c (at_ (Ex.refl _) (by decide) (by decide))) ea_nil) (by omega) (fun _ => rfl) (fun _ _ _ _ => et_yes) (fun j H2 e2 hj _ => ev_op (ev_var rfl) (ev_op ev_c (ev_var rfl) rv_I0) (at_ e2 (by omega) (by omega))))) (fun rp H2 hrp0 e2 hrp => ?_)
      rw [given_all] at hrp
      obtain ⟨rs, hrs, hrl⟩ : ∃ rs : List Int, (List.range (ds.getD 0 0).toNat).map (fun j : Nat => V.int (ds.getD (1 + (j : Int)).toNat 0)) = rs.map V.int ∧ rs.length ≤ 5 := ⟨(List.range (ds.getD 0 0).toNat).map (fun j : Nat => ds.getD (1 + (j : Int)).toNat 0), by rw [List.map_map]; rfl, by rw [List.length_map, List.length_range]; omega⟩
      rw [hrs] at hrp
      have hrlV : (rs.map V.int).length = rs.length := List.length_map ..
      -- other
      obtain ⟨m, hm, hm24⟩ : ∃ m : Nat, ((i : Int) + 1 + ds.getD 5 0) % 24 = (m : Int) ∧ m < 24 := ⟨(((i : Int) + 1 + ds.getD 5 0) % 24).toNat, by omega, by omega⟩
      refine g_asg (v := .int (m : Int)) (ev_is (ev_op (ev_int (ev_op (ev_op (ev_var rfl) ev_c rv_I0) (ev_op (ev_var rfl) ev_c (at_ e2 (k := 5) (by decide) (by decide))) rv_I0)) ev_c (rv_mod (by decide))) (congrArg V.int hm)) ?_
      -- first, second, third
      refine g_asgE (k := i) (x := .str x) (n := .int nu) (ns := rs) (ev_mkEP (eap_cons (ev_var rfl) (eap_cons (ev_var rfl) (eap_cons (ev_var rfl) (eap_cons (ev_var rfl) eap_nil)))) hi fun vs H3 e h => ?_) ?_
      · obtain ⟨_, rfl, _, rfl, _, rfl, _, rfl, rfl⟩ := h
        exact ⟨rp, rfl, e _ _ hrp⟩
      intro p1 r1 H3 hp1 e3 hE1 hr1
      have hrp3 := e3 _ _ hrp
      have hx1 : x.length + (Str.ofString "'").length ≤ 100000 := by
        have : (Str.ofString "'").length = 1 := by decide
        omega
      have hx2 : (Str.ofString "x").length + x.length ≤ 100000 := by
        have : (Str.ofString "x").length = 1 := by decide
        omega
      refine g_asgE (k := i) (x := .str (x ++ Str.ofString "'")) (n := .int (nu + 1)) (ns := rs ++ [7]) (ev_mkEP (eap_cons (ev_var rfl) (eap_cons (ev_op (ev_var rfl) ev_c (rv_addS hx1)) (eap_cons (ev_op (ev_var rfl) ev_c rv_I0) (eap_consU (eu_catR (ys := [.int 7]) (ev_var rfl) (eu_tup (ea_cons ev_c ea_nil) (show 1 ≤ 100000 by decide)) (st_of hrp3) (fun z => nomatch z) (by rw [hrlV]; show rs.length + 1 ≤ 100000; omega)) eap_nil)))) hi fun vs H4 e h => ?_) ?_
      · obtain ⟨_, rfl, _, rfl, _, rfl, r, _, rfl, hr, rfl⟩ := h
        exact ⟨r, rfl, by rw [hr, List.map_append]; rfl⟩
      intro p2 r2 H4 hp2 e4 hE2 hr2
      have hrp4 := e4 _ _ hrp3
      have hE14 := ExAt.same e4 hE1
      have hr14 := e4 _ _ hr1
      refine g_asgE (k := m) (x := .str (Str.ofString "x" ++ x)) (n := .int (nu - 1)) (ns := 5 :: rs) (ev_mkEP (eap_cons (ev_var rfl) (eap_cons (ev_op ev_c (ev_var rfl) (rv_addS hx2)) (eap_cons (ev_op (ev_var rfl) ev_c rv_I0) (eap_consU (eu_catL (xs := [.int 5]) (eu_tup (ea_cons ev_c ea_nil) (show 1 ≤ 100000 by decide)) (ev_var rfl) (st_of hrp4) (fun z => nomatch z) (by rw [hrlV]; show 1 + rs.length ≤ 100000; omega)) eap_nil)))) hm24 fun vs H5 e h => ?_) ?_
      · obtain ⟨_, rfl, _, rfl, _, rfl, r, _, rfl, hr, rfl⟩ := h
        exact ⟨r, rfl, hr⟩
      intro p3 r3 H5 hp3 e5 hE3 hr3
      have hrp5 := e5 _ _ hrp4
      have hE15 := ExAt.same e5 hE14
      have hr15 := e5 _ _ hr14
      have hE25 := ExAt.same e5 hE2
      have hr25 := e5 _ _ hr2
      -- the three looks
      refine g_when (b := false) (et_is (et_not (et_B (ev_callP (z := .bl true) (eap_cons (ev_var rfl) (eap_cons (ev_var rfl) (eap_cons (ev_var rfl) (eap_cons (ev_var rfl) (eap_cons (ev_var rfl) eap_nil))))) fun vs H6 e h => spV_at fun H7 e7 => ?_))) rfl) (fun z => by cases z) (fun _ => ?_)
      · obtain ⟨_, rfl, _, rfl, _, rfl, _, rfl, _, rfl, rfl⟩ := h
        exact ⟨p1, r1, rp, i, x, nu, rs, rfl, hi, ExAt.same (e.trans e7) hE15, (e.trans e7) _ _ hr15, (e.trans e7) _ _ hrp5, rfl⟩
      refine g_when (b := false) (et_is (et_not (et_B (ev_callP (z := .bl true) (eap_cons (ev_var rfl) (eap_cons (ev_var rfl) (eap_cons (ev_op (ev_var rfl) ev_c (rv_addS hx1)) (eap_cons (ev_op (ev_var rfl) ev_c rv_I0) (eap_consU (eu_catR (ys := [.int 7]) (ev_var rfl) (eu_tup (ea_cons ev_c ea_nil) (show 1 ≤ 100000 by decide)) (st_of hrp5) (fun z => nomatch z) (by rw [hrlV]; show rs.length + 1 ≤ 100000; omega)) eap_nil))))) fun vs H6 e h => spV_at fun H7 e7 => ?_))) rfl) (fun z => by cases z) (fun _ => ?_)
      · obtain ⟨_, rfl, _, rfl, _, rfl, _, rfl, r, _, rfl, hr, rfl⟩ := h
        exact ⟨p2, r2, r, i, _, _, rs ++ [7], rfl, hi, ExAt.same (e.trans e7) hE25, (e.trans e7) _ _ hr25, by rw [e7 _ _ hr, List.map_append]; rfl, rfl⟩
      refine g1_when (b := false) (et_is (et_not (et_B (ev_callP (z := .bl true) (eap_cons (ev_var rfl) (eap_cons (ev_var rfl) (eap_cons (ev_op ev_c (ev_var rfl) (rv_addS hx2)) (eap_cons (ev_op (ev_var rfl) ev_c rv_I0) (eap_consU (eu_catL (xs := [.int 5]) (eu_tup (ea_cons ev_c ea_nil) (show 1 ≤ 100000 by decide)) (ev_var rfl) (st_of hrp5) (fun z => nomatch z) (by rw [hrlV]; show 1 + rs.length ≤ 100000; omega)) eap_nil))))) fun vs H6 e h => spV_at fun H7 e7 => ?_))) rfl) (fun z => by cases z) (fun _ H6 e6 => ?_)
      · obtain ⟨_, rfl, _, rfl, _, rfl, _, rfl, r, _, rfl, hr, rfl⟩ := h
        exact ⟨p3, r3, r, m, _, _, 5 :: rs, rfl, hm24, ExAt.same (e.trans e7) hE3, (e.trans e7) _ _ hr3, e7 _ _ hr, rfl⟩
      · exact ⟨(((((e0.trans e1).trans e2).trans e3).trans e4).trans e5).trans e6, _, _, _, _, _, _, _, _, _, _, rfl⟩
    · obtain ⟨e0, y1, y2, y3, y4, y5, y6, y7, y8, y9, y10, rfl⟩ := h
      exact s_ret ev_c fun H2 e2 => q H2 (e0.trans e2)
end Kx
/-! ### the head -/
namespace Kx
open PySem PySem.Spec PyProof.Rows L2 Evl LX T XV
abbrev hk : PySem.W.Hook := KH.hook 5 fa fnD ex
def ob (s : PySem.W.SharedT) : KH.Al := KH.obs 5 fa fnD ex (HandSHeadRun.getT s)
theorem ob_eq (s : PySem.W.SharedT) : ob s = hk.obs s.abs := KH.obs_eq (HandSHeadRun.getT_eq s)
theorem run (w : World) : HandSHeadRun.RunEq R (PySem.W.view R.prog [lawAt]) hk ob 9000 loose w := by
  intro os
  kernel_rfl
theorem facts {P : Program} {w : World} {K : PySem.W.Frag} {h : Heap} {mg : Str → Option Value} {f : Addr} (X : K.In h) (G : h.Ns mainGlobals mg) (hfa : mg ("law" : Str) = some (.ref f)) (c : He.SaysD fa fnD K) (cx : ex K = true) :
    ∃ fd : FuncData, (∀ (s : Shared) (v : Value), BindsTo s fd ⟨[v], []⟩ [("script", v)]) ∧ ∀ base : Heap, K.In base → base.Ns mainGlobals mg → FnOk P w K mg base CX0 5 f fd ["script"] (spV (dLaw K)) := by
  have T : TX K mg := Tx.of (n := 0) X G c cx
  obtain ⟨fd, F⟩ := T.d (KH.dat ("law", none) "law" s_law) (List.mem_of_getElem? (i := lawIx) rfl)
  have e := hfa.symm.trans (T.g "law" (by decide +kernel))
  cases e
  have b := FunD.bindsA (ps := ["script"]) F fun _ _ _ _ _ _ us hl => match us, hl with | [_], _ => rfl
  exact ⟨fd, fun s v => b s [v] rfl, fun base _ _ => fn_law T (fun_of F)⟩
end Kx
open PySem PySem.W PySem.Calls PyProof.Rows
theorem PySem.Challenge.cw_onceread_k06_error_classes_holds : PySem.Challenge.rw_onceread_k06_error_classes.Holds := by
  w_on; o_law
  refine HandSHeadRun.head_any (r := OpenLaw.row PySem.Challenge.rw_onceread_k06_error_classes) (q := view (OpenLaw.row PySem.Challenge.rw_onceread_k06_error_classes).prog [T.lawAt]) (H := Kx.hk) (ob := Kx.ob) (M := 9000) (loose := T.loose) (d := HandSHeadRun.topDef (OpenLaw.row PySem.Challenge.rw_onceread_k06_error_classes).prog T.lawAt) (kwd := []) Kx.ob_eq
    (by kernel_rfl) (fun s => by kernel_rfl) Kx.run (by kernel_rfl) (by kernel_rfl) (by kernel_rfl) (by rfl) (by first | assumption | decide +kernel) (by decide +kernel) ⟨rfl, rfl, rfl, rfl, rfl, by decide +kernel⟩ ?hw ?hc
  case hw => w_witness2
  case hc =>
    refine L2.walk_ofE (l := PySem.Challenge.rw_onceread_k06_error_classes) (n := 63) (k := 5) (x := "script") (CX := L2.CX0) rfl (by decide) (by kernel_rfl) ⟨rfl, by decide, by decide⟩ ?F (fun _ _ _ _ z => z)
    intro w mg fa h Y G hmg0
    obtain ⟨K, KX, c, cx⟩ := Y
    have hmg : mg ("law" : PySem.Str) = some (.ref fa) := by
      have e : (HandSHeadRun.topDef (OpenLaw.row PySem.Challenge.rw_onceread_k06_error_classes).prog T.lawAt).name = ("law" : PySem.Str) := by kernel_rfl
      rw [← e]
      exact hmg0
    obtain ⟨fd, hb, hF⟩ := Kx.facts (P := (PySem.Challenge.rw_onceread_k06_error_classes).prog) (w := w) KX G hmg c cx
    exact ⟨K, fd, _, KX, hb, fun H a ns hl _ hS => ⟨.bl true, ⟨a, ns, rfl, hS, hl, rfl⟩, fun _ _ => rfl⟩, hF⟩
