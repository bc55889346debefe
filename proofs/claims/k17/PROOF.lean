import PyProof.Rows.All
import Wide.All
import OpenK.AllK
import Wide.FinOn
import HandS.ForMost
import HandS.Exc
import HandS.ExcOwn
import HandS.TryOnly
import HandS.WordsExc
import HandS.IsInst
import HandS.TupAny
import HandS.Wide
import HandS.TryMany
import KE.DataCmp
import KE.SortData
import HandS.Deep
import HandS.TupSets
import HandS.Zip
import HandS.HotCalls
import HandS.ExcIs
import KE.GoesEnumKw
import HandS.TupMul
import HandS.Defaults
import PySem.Challenge.RW_looksfar_k17_view_in
set_option Elab.async false
set_option linter.all false
set_option maxRecDepth 100000
set_option maxHeartbeats 400000
/-! ### defs that are called where no repr runs around (guards known to be none) -/
namespace LG
open PySem PySem.Spec PyProof.Rows L2
/-- a def's promise, kept wherever no repr is under way -/
structure FnG (P : Program) (w : World) (K : PySem.W.Frag) (mg : Str → Option Value) (base : Heap) (k : Nat) (f : Addr) (fd : FuncData) (ps : List Str) (sp : Sp) : Prop where
  many : ∀ vs H Q E, sp vs H Q E → vs.length = ps.length
  goes : ∀ (A : Around) (outer : List Env) (s : Shared) (H : Hp) (us : List Value) (vs : List V) (Q : VK) (E : XK), A.guards = some [] → Room k A → Env0 P w K mg base A outer s H →
    BindsTo s fd ⟨us, []⟩ (ps.zip us) → Vals vs us → sp vs H Q E → codeAny (model P w) A (.call (.ref f) ⟨us, []⟩) (CR CX0 outer P w H s Q E) s
section
variable {P : Program} {w : World} {K : PySem.W.Frag} {mg : Str → Option Value} {base : Heap}
theorem FnG.of {k : Nat} {f : Addr} {fd : FuncData} {ps : List Str} {sp : Sp} (F : FnOk P w K mg base CX0 k f fd ps sp) : FnG P w K mg base k f fd ps sp :=
  ⟨F.len, fun A outer s H us vs Q E _ hr e0 hb r h => F.run A outer s H ⟨us, []⟩ us vs Q E hr e0 hb r h⟩
theorem FnG.more {j k : Nat} {f : Addr} {fd : FuncData} {ps : List Str} {sp : Sp} (F : FnG P w K mg base j f fd ps sp) (h : j ≤ k) : FnG P w K mg base k f fd ps sp :=
  ⟨F.many, fun A outer s H us vs Q E hg hr => F.goes A outer s H us vs Q E hg (hr.mono h)⟩
theorem FnG.by {x qual : Str} {st : Stmt} {f : Addr} {fd : FuncData} {N ps : List Str} {k : Nat} {sp : Sp} (F : Fun K x qual st f fd) (S : FnScope N ps (defScope st)) (many : ∀ vs H Q E, sp vs H Q E → vs.length = ps.length)
    (body : ∀ (cdv : Value) (A : Around) (outer : List Env) (s : Shared) (H : Hp) (vs : List V) (Q : VK) (E : XK), (A.deeper (envOfC qual (defScope st) s.heap.objs.size f cdv)).guards = some [] →
      Room k (A.deeper (envOfC qual (defScope st) s.heap.objs.size f cdv)) → sp vs H Q E →
      ∃ t, PSs (cxOf CX0 P w K mg base N qual (defScope st) f cdv A outer s H E).nox (defBody st) t ∧ t { nx := fun _ H' => Q .non H', rt := Q } (start N vs) H) : FnG P w K mg base (k + 1) f fd ps sp := by
  obtain ⟨_, _, _, _, _, _, cdv, _, _, rfl, lk, code⟩ := F.ex
  refine ⟨many, fun A outer s H us vs Q E guard room e0 bind rel hsp => ?_⟩
  have inK : K.In s.heap := e0.mod.kin.keeps fun b o e => (e0.bs b o e).1
  have noLim : s.heap.NoLimit := e0.mod.nolimit.keeps fun b o e => (e0.bs b o e).1
  obtain ⟨t, run, start⟩ := body cdv A outer s H vs Q E guard (room.deeper _) hsp
  refine codeAny_call_function room.depth (inK _ _ lk) rfl S.co S.gen rfl (PySem.W.codeRec_of inK code) (bind _ _ _ _ ?_)
  refine wpAny_newFunctionEnv_cells S.kind (fun y hy => ?_) fun env he s1 made => ?_
  · rcases S.par y.1 (List.of_mem_zip (show (y.1, y.2) ∈ ps.zip us from hy)).1 with q | q
    · exact Or.inl q
    · exact Or.inr ⟨q, PySem.W.cellsFrom_some _ _ _ (Or.inl q)⟩
  subst he
  refine ⟨noLim.keeps made.toInCall.keep, codeAny_func ?_⟩
  have inv := inv_start (CX := CX0) (E := E) S room.hd e0 (many _ _ _ _ hsp) rel made
  refine wpAny_mono (run.nox.run [] s1 (L2.start N vs) H _ inv start) (fun flow s' got => ?_) fun _ _ bad => bad
  cases flow with
  | ret u =>
    obtain ⟨v, _, H', J, rv, q⟩ := got
    exact ⟨v, H', J.os, J.bare, J.base, J.hok, rv, q⟩
  | next =>
    obtain ⟨_, H', J, q⟩ := got
    exact ⟨V.non, H', J.os, J.bare, J.base, J.hok, rfl, q⟩
  | brk =>
    obtain ⟨_, _, _, no⟩ := got
    exact no.elim
  | cont =>
    obtain ⟨_, _, _, no⟩ := got
    exact no.elim
end
section
variable {X : Cx} {k : Nat} {f : Addr} {fd : FuncData} {ps : List Str} {sp : Sp} {x : Str} {p pos : Pos} {e : Expr} {es : List Expr} {t : TA}
/-- f(e, ..) of such a def -/
theorem pe_callG (F : FnG X.prog X.w X.K X.mg X.base k f fd ps sp) (guard : X.A.guards = some []) (room : Room k X.A) (hg : Gl X x) (hm : X.mg x = some (.ref f)) (hk : PySem.W.keepIn X.K (.ref f) = true) (hb : Binds X.K fd ps [])
    (ha : PA X (e :: es) t) (hdb : (x == ("__debug__" : Str)) = false := by decide) (he : starEach (e :: es) X.env = (false, eval e X.env) :: starEach es X.env := by rfl) (hpl : (backTo pos (starEach es X.env)).any (·.1) = false := by rfl) :
    PE X (.Call (.Name x p) (e :: es) [] pos) (tCall sp [] E0 t) := by
  constructor
  intro pins s σ H Q inv want
  refine wpAny_Call_Name_kw (ld_glob inv hg hm ?_ hdb)
  refine PySem.W.callWith_K (h₀ := X.base) inv.ok.mod.kin hk (thn (ha.run pos pins s σ H _ inv want) fun us s1 got => ?_) he hpl
  obtain ⟨vs, H1, inv1, rel, q⟩ := got
  rw [List.append_nil] at q
  have many : us.length = ps.length := by rw [← rel.length]; exact F.many _ _ _ _ q
  have bind := hb s1 us inv1.kIn (by rw [List.append_nil]; exact many)
  rw [List.append_nil] at bind
  refine ⟨inv1.kIn, wpAny_call (codeAny_mono (F.goes X.A X.stack s1 H1 us vs Q E0 guard room inv1.env0 bind rel q) fun r s' end_ => ?_)⟩
  cases r with
  | error _ => exact False.elim end_
  | ok flow =>
    cases flow with
    | ret _ => exact inv1.after end_
    | next => exact False.elim end_
    | brk => exact False.elim end_
    | cont => exact False.elim end_
end
/-! ### repr of data -/
section
variable {X : Cx}
/-- repr(v), v data of any depth: its text -/
def rRep (K : PySem.W.Frag) : List V → Hp → VK → Prop := fun xs H Q => ∃ (v : V) (d : PyData), xs = [v] ∧ Dp K H v d ∧ d.showable = true ∧ d.depth ≤ 60 ∧ d.shown.length ≤ sizeLine ∧ Q (.str d.shown) H
theorem Dp.noDict {K : PySem.W.Frag} {H : Hp} : ∀ (d : PyData) (v : V), Dp K H v d → d.hasDict = false
  | .none, _, _ => by simp only [PyData.hasDict]
  | .bool _, _, _ => by simp only [PyData.hasDict]
  | .int _, _, _ => by simp only [PyData.hasDict]
  | .str _, _, _ => by simp only [PyData.hasDict]
  | .dict _, _, h => by cases h
  | .list ds, _, h => by
    cases h with
    | lst _ ha =>
      simp only [PyData.hasDict]
      exact go ds _ ha
  | .tuple ds, _, h => by
    cases h with
    | tup _ ha =>
      simp only [PyData.hasDict]
      exact go ds _ ha
where go {K : PySem.W.Frag} {H : Hp} : ∀ (ds : List PyData) (vs : List V), DpAll K H vs ds → PyData.hasDictAll ds = false
  | [], _, _ => by simp only [PyData.hasDictAll]
  | d :: ds, _, h => by
    cases h with
    | cons h1 h2 => simp only [PyData.hasDictAll, Dp.noDict d _ h1, go ds _ h2, Bool.or_self]
theorem call_rep (guard : X.A.guards = some []) (room : X.A.units + 64 < cLine) : CallR X (.builtin "repr") (rRep X.K) := by
  intro pins s σ H xs us Q inv rel want
  obtain ⟨v, d, rfl, hd, hs, hn, hz, q⟩ := want
  cases rel with
  | cons r0 rr =>
  rename_i u us'
  cases rr
  obtain ⟨as, reads⟩ := Dp.reads inv d v u hd r0
  have dict := PyData.noDict_hsm (as := as) (Dp.noDict d v hd)
  cases hd with
  | non =>
    cases r0
    exact PySem.P.repr_of_none ⟨.str _, H, inv.tok _, ⟨_, rfl⟩, by simpa only [PyData.shown] using q⟩
  | bl b =>
    cases r0
    refine PySem.P.repr_of_bool ⟨.str _, H, inv.tok _, ⟨_, rfl⟩, by simpa only [PyData.shown] using q⟩
  | int i =>
    obtain ⟨t, rfl⟩ := r0
    exact PySem.P.repr_of_int (by simpa [PyData.showable] using hs) ⟨.str _, H, inv.tok _, ⟨_, rfl⟩, by simpa only [PyData.shown] using q⟩
  | str x =>
    obtain ⟨t, rfl⟩ := r0
    exact PySem.P.repr_of_str ⟨.str _, H, inv.tok _, ⟨_, rfl⟩, by simpa only [PyData.shown] using q⟩ (by simpa only [PyData.shown] using hz)
  | lst h1 h2 =>
    cases r0
    exact repr_of_reads' reads hs dict guard (by omega) (fun _ _ z => z) (fun h' u' tk keep => ⟨.str _, H, inv.kept keep, ⟨_, rfl⟩, q⟩) hz
  | tup h1 h2 =>
    cases r0
    exact repr_of_reads' reads hs dict guard (by omega) (fun _ _ z => z) (fun h' u' tk keep => ⟨.str _, H, inv.kept keep, ⟨_, rfl⟩, q⟩) hz
end
end LG
/-! ### the end: the law's promise, at the heap behind the top -/
namespace LG
open PySem PySem.W PySem.Spec PyProof.Rows L2
section
variable {P : Program} {w : World} {K : PySem.W.Frag} {mg mb : Str → Option Value} {k : Nat} {fa a : Addr} {fd : FuncData} {x : Str} {sp : Sp} {s : Shared} {vs : List Value} {ns : List Int}
/-- the call from an abstract heap that tracks at most the script -/
theorem end_from (inK : K.In s.heap) (mains : s.heap.Ns mainGlobals mg) (blts : s.heap.Ns builtinsNs mb) (boot : ∀ y : Str, y ≠ "__name__" → mb y = bootBuiltins y) (noLim : s.heap.NoLimit) (gens : s.gens = #[])
    (obj : s.heap.get? a = some { cls := .type "list", data := .seq vs.toArray }) (room : Room k callerA) (goesF : ∀ base : Heap, K.In base → base.Ns mainGlobals mg → FnG P w K mg base k fa fd [x] sp)
    (bind : ∀ (s : Shared) (u : Value), BindsTo s fd ⟨[u], []⟩ [(x, u)]) (H : Hp) (only : Only H) (held : HOk P w H s.heap) (alone : ∀ b, H b ≠ none → b = a) (away : H a ≠ none → K.lookup a = none)
    (want : sp [.ref a] H (fun v _ => v = .bl true) E0) :
    codeAny (model P w) callerA (.call (.ref fa) ⟨[.ref a], []⟩) (fun r s' => r = .ok (.ret (.bool true)) ∧ OldK s.heap s'.heap ∧ s'.os = s.os ∧ AllBare s'.gens) s := by
  have free : ∀ {b : Addr} {o : Obj}, s.heap.get? b = some o → (b = a → o ≠ { cls := .type "list", data := .seq vs.toArray }) → H b = none := fun {b o} e far => by
    cases q : H b with
    | none => rfl
    | some u =>
      have here : b = a := alone b (by rw [q]; exact nofun)
      refine absurd ?_ (far here)
      rw [here, obj] at e
      exact (Option.some.inj e).symm
  have space : ∀ {b : Addr} {m : Str → Option Value}, s.heap.Ns b m → (hidT s.heap H).Ns b m := fun {b m} ⟨o, es, ep, e, d, more⟩ =>
    ⟨o, es, ep, hidT_get e (free e fun _ same => by rw [same] at d; exact nomatch d), d, more⟩
  have baseK : K.In (hidT s.heap H) := fun b o e => hidT_get (inK b o e) (by
    cases q : H b with
    | none => rfl
    | some u =>
      have here : b = a := alone b (by rw [q]; exact nofun)
      have no := away (by rw [← here, q]; exact nofun)
      rw [here, no] at e
      exact nomatch e)
  have lim : (hidT s.heap H).NoLimit := by
    obtain ⟨mc, h1, h2⟩ := noLim
    exact ⟨mc, space h1, h2⟩
  have modu : Mod K mg (hidT s.heap H) := ⟨baseK, space mains, ⟨mb, space blts, boot⟩, lim⟩
  have e0 : Env0 P w K mg (hidT s.heap H) callerA [] s H := ⟨rfl, modu, fun _ _ e => of_hidT e, Nat.le_of_eq (hidT_size _ _), trivial, (fun _ hb => absurd (show _ ∈ ([] : List Addr) from hb) List.not_mem_nil), held, .of_eq gens⟩
  refine codeAny_mono ((goesF _ baseK (space mains)).goes callerA [] s H [.ref a] [.ref a] _ E0 rfl room e0 (bind s (.ref a)) (.cons rfl .nil) want) fun r s' got => ?_
  cases r with
  | error _ => exact False.elim got
  | ok flow =>
  cases flow with
  | next => exact False.elim got
  | brk => exact False.elim got
  | cont => exact False.elim got
  | ret u =>
    obtain ⟨v, H', sameOs, bare, un, held', rel, yes⟩ := got
    have yes' : v = .bl true := yes
    subst yes'
    obtain rfl : u = Value.bool true := rel
    refine ⟨rfl, OldK.of_keep fun b o e => ?_, sameOs, bare⟩
    rcases only b with free | ⟨ob, xs, fz⟩
    · exact un.keep b o e free (fun z => nomatch z) (fun z => nomatch z)
    · obtain ⟨e1, _⟩ := held b _ fz
      obtain ⟨e2, _⟩ := held' b _ (un.frzs b ob _ fz)
      rw [e2, ← e1, e]
/-- .. from the script as it lies -/
theorem end_call (inK : K.In s.heap) (mains : s.heap.Ns mainGlobals mg) (blts : s.heap.Ns builtinsNs mb) (boot : ∀ y : Str, y ≠ "__name__" → mb y = bootBuiltins y) (noLim : s.heap.NoLimit) (gens : s.gens = #[])
    (obj : s.heap.get? a = some { cls := .type "list", data := .seq vs.toArray }) (numbs : PyProof.Rows.IntsAre vs ns) (small : ns.length ≤ sizeLine) (room : Room k callerA)
    (goesF : ∀ base : Heap, K.In base → base.Ns mainGlobals mg → FnG P w K mg base k fa fd [x] sp) (bind : ∀ (s : Shared) (u : Value), BindsTo s fd ⟨[u], []⟩ [(x, u)])
    (want : ∀ H : Hp, Only H → SqL K H a (ns.map V.int) → sp [.ref a] H (fun v _ => v = .bl true) E0) :
    codeAny (model P w) callerA (.call (.ref fa) ⟨[.ref a], []⟩) (fun r s' => r = .ok (.ret (.bool true)) ∧ OldK s.heap s'.heap ∧ s'.os = s.os ∧ AllBare s'.gens) s := by
  have rel := vals_ints numbs
  cases hk : K.lookup a with
  | some o =>
    have e := inK a o hk
    rw [obj] at e
    obtain rfl := Option.some.inj e
    have only : Only fun _ => none := fun _ => Or.inl rfl
    have held : HOk P w (fun _ => none) s.heap := fun _ _ z => nomatch z
    refine end_from inK mains blts boot noLim gens obj room goesF bind (fun _ => none) only held (fun _ z => absurd rfl z) (fun z => absurd rfl z) (want _ only ?_)
    exact Or.inr ⟨_, vs.toArray, _, hk, rfl, rfl, rfl, by rw [List.size_toArray, numbs.length]; exact small, by simpa using rel⟩
  | none =>
    let one : Hp := upd (fun _ => none) a (.frz { cls := .type "list", data := .seq vs.toArray } (.lst (ns.map V.int)))
    have at_a : one a = some (.frz { cls := .type "list", data := .seq vs.toArray } (.lst (ns.map V.int))) := upd_same
    have off_a : ∀ b, b ≠ a → one b = none := fun b hb => upd_ne hb
    have only : Only one := fun b => by
      by_cases hb : b = a
      · subst hb
        exact Or.inr ⟨_, _, at_a⟩
      · exact Or.inl (off_a b hb)
    have held : HOk P w one s.heap := fun b u z => by
      by_cases hb : b = a
      · subst hb
        rw [at_a] at z
        obtain rfl := Option.some.inj z
        exact ⟨obj, by rw [List.length_map]; exact small, vs, _, rel, obj⟩
      · rw [off_a b hb] at z
        exact nomatch z
    exact end_from inK mains blts boot noLim gens obj room goesF bind one only held (fun b z => Classical.byContradiction fun hb => z (off_a b hb)) (fun _ => hk) (want _ only (.inl (.inr ⟨_, at_a⟩)))
end
/-- what is left of the statement behind the head -/
theorem walk_G {l : PySem.W.OpenLaw} {n k : Nat} {q : Program} {loose : List Str} {XP : (Str → Option Value) → Heap → Prop} {YP : World → Heap → Prop} {d : DefRec} {K : Params → PySem.W.Frag} {sp : PySem.W.Frag → Sp} {x : Str}
    (hn : l.most = some n) (small : n ≤ sizeLine) (plain : d.params.defaults = []) (room : Room k callerA) (hY : ∀ (w : World) (h : Heap), YP w h → (K w.params).In h)
    (F : ∀ (w : World) (mg : Str → Option Value) (fa : Addr) (h : Heap), (K w.params).In h → h.Ns mainGlobals mg → mg d.name = some (.ref fa) →
      ∃ fd : FuncData, (∀ (s : Shared) (u : Value), BindsTo s fd ⟨[u], []⟩ [(x, u)]) ∧ ∀ base : Heap, (K w.params).In base → base.Ns mainGlobals mg → FnG l.prog w (K w.params) mg base k fa fd [x] (sp (K w.params)))
    (want : ∀ (K : PySem.W.Frag) (H : Hp) (a : Addr) (ns : List Int), ns.length ≤ n → Only H → SqL K H a (ns.map V.int) → sp K [.ref a] H (fun v _ => v = .bl true) E0) :
    PySem.W.WalkO q loose XP YP l.row.toRowW d [] (fun f vs => PySem.call f vs) := by
  refine Att.attach_call hn plain fun w s0 s1 mg mb fa o pm cd doc a vs ns ground told ho hd hcd hmg obj numbs many gens => ?_
  have inK := hY w _ told
  obtain ⟨fd, bind, goesF⟩ := F w mg fa _ inK ground.T.g hmg
  exact end_call inK ground.T.g ground.T.b ground.T.builtins ground.T.nolimit gens obj numbs (Nat.le_trans many small) room goesF bind fun H only held => want (K w.params) H a ns many only held
end LG
/-! ### sizes of data, data of tuples, heaps -/
namespace LG
open PySem PySem.Spec PyProof.Rows L2
/-- data whose text is short: at most m parts, h deep -/
def Sized (m h : Nat) (d : PyData) : Prop := d.leavesShort 40 = true ∧ d.showable = true ∧ d.depth ≤ h ∧ d.bulk ≤ m
theorem Sized.more {m m' h h' : Nat} {d : PyData} (s : Sized m h d) (hm : m ≤ m') (hh : h ≤ h') : Sized m' h' d := ⟨s.1, s.2.1, Nat.le_trans s.2.2.1 hh, Nat.le_trans s.2.2.2 hm⟩
theorem sized_all {m h : Nat} : ∀ {ds : List PyData}, (∀ d ∈ ds, Sized m h d) → PyData.leavesShortAll 40 ds = true ∧ PyData.showableAll ds = true ∧ PyData.depthAll ds ≤ h ∧ PyData.bulkAll ds ≤ ds.length * (m + 1)
  | [], _ => ⟨by simp only [PyData.leavesShortAll], by simp only [PyData.showableAll], by simp only [PyData.depthAll]; omega, by simp only [PyData.bulkAll]; omega⟩
  | d :: ds, hd => by
    obtain ⟨a1, a2, a3, a4⟩ := hd d List.mem_cons_self
    obtain ⟨b1, b2, b3, b4⟩ := sized_all fun e he => hd e (List.mem_cons_of_mem _ he)
    refine ⟨by simp only [PyData.leavesShortAll, a1, b1, Bool.and_self], by simp only [PyData.showableAll, a2, b2, Bool.and_self], by simp only [PyData.depthAll]; omega, ?_⟩
    simp only [PyData.bulkAll, List.length_cons, Nat.add_mul, Nat.one_mul] at b4 ⊢
    omega
theorem sized_tup {m h : Nat} {ds : List PyData} (hd : ∀ d ∈ ds, Sized m h d) : Sized (ds.length * (m + 1)) (h + 1) (.tuple ds) := by
  obtain ⟨a1, a2, a3, a4⟩ := sized_all hd
  exact ⟨by simpa only [PyData.leavesShort] using a1, by simpa only [PyData.showable] using a2, by simp only [PyData.depth]; omega, by simpa only [PyData.bulk] using a4⟩
theorem sized_lst {m h : Nat} {ds : List PyData} (hd : ∀ d ∈ ds, Sized m h d) : Sized (ds.length * (m + 1)) (h + 1) (.list ds) := by
  obtain ⟨a1, a2, a3, a4⟩ := sized_all hd
  exact ⟨by simpa only [PyData.leavesShort] using a1, by simpa only [PyData.showable] using a2, by simp only [PyData.depth]; omega, by simpa only [PyData.bulk] using a4⟩
theorem sized_non : Sized 0 0 .none := ⟨by simp only [PyData.leavesShort], by simp only [PyData.showable], by simp only [PyData.depth]; omega, by simp only [PyData.bulk]; omega⟩
theorem sized_bl (b : Bool) : Sized 0 0 (.bool b) := ⟨by simp only [PyData.leavesShort], by simp only [PyData.showable], by simp only [PyData.depth]; omega, by simp only [PyData.bulk]; omega⟩
/-- an int of few digits -/
theorem sized_int {i : Int} (h : i.natAbs < 10 ^ 39) : Sized 0 0 (.int i) := by
  have short : (PyData.shown (.int i)).length ≤ 40 := by
    simp only [PyData.shown]
    show (Str.ofString (toString i)).length ≤ 40
    rw [PySem.ofString_length]
    exact int_text_length_le10 (by decide) h
  refine ⟨by simpa only [PyData.leavesShort, decide_eq_true_eq] using short, ?_, by simp only [PyData.depth]; omega, by simp only [PyData.bulk]; omega⟩
  simp only [PyData.showable, decide_eq_true_eq]
  by_cases z : i.natAbs = 0
  · rw [z]; decide
  · exact Nat.lt_of_lt_of_le ((Nat.log2_lt z).mpr (Nat.lt_of_lt_of_le h (by decide : 10 ^ 39 ≤ 2 ^ 130))) (by decide)
/-- what repr asks -/
theorem Sized.rep {m h : Nat} {d : PyData} (s : Sized m h d) (hm : m ≤ 390000) (hh : h ≤ 60) : d.showable = true ∧ d.depth ≤ 60 ∧ d.shown.length ≤ sizeLine := by
  refine ⟨s.2.1, Nat.le_trans s.2.2.1 hh, ?_⟩
  have z := PyData.shown_le_bulk 40 (by decide) d s.1
  have z2 := s.2.2.2
  rw [sizeLine_eq]
  omega
/-- tuples stay -/
def TupsStay (H H' : Hp) : Prop := ∀ b o, (∃ xs, o = .tup xs) ∨ (∃ ob xs, o = .frz ob (.tup xs)) → H b = some o → H' b = some o
theorem TupsStay.trans {H H1 H2 : Hp} (a : TupsStay H H1) (b : TupsStay H1 H2) : TupsStay H H2 := fun c o h e => b c o h (a c o h e)
theorem TupsStay.refl (H : Hp) : TupsStay H H := fun _ _ _ e => e
theorem _root_.L2.Same.tups {H H' : Hp} (s : Same H H') : TupsStay H H' := fun b o _ e => s b o e
theorem TupsStay.seq {K : PySem.W.Frag} {H H' : Hp} {a : Addr} {xs : List V} (t : TupsStay H H') (h : SqT K H a xs) : SqT K H' a xs := by
  rcases h with (h | ⟨o, h⟩) | h
  · exact .inl (.inl (t _ _ (.inl ⟨_, rfl⟩) h))
  · exact .inl (.inr ⟨o, t _ _ (.inr ⟨_, _, rfl⟩) h⟩)
  · exact .inr h
theorem _root_.L2.Same.seqT {K : PySem.W.Frag} {H H' : Hp} {a : Addr} {xs : List V} (s : Same H H') (h : SqT K H a xs) : SqT K H' a xs := (Same.tups s).seq h
theorem tups_lst {H : Hp} {p : Addr} {xs ys : List V} (h : H p = some (.lst xs)) : TupsStay H (upd H p (.lst ys)) := fun b o hk e => by
  rw [upd_ne (ne_of e h ?_)]
  · exact e
  · rcases hk with ⟨_, rfl⟩ | ⟨_, _, rfl⟩ <;> exact nofun
theorem same_new {H : Hp} {p : Addr} (h : H p = none) (o : HO) : Same H (upd H p o) := fun b u e => by
  rw [upd_ne (ne_of_none e h)]
  exact e
/-- a list that was made since changes -/
theorem same_own {H H' : Hp} {p : Addr} (s : Same H H') (h : H p = none) (o : HO) : Same H (upd H' p o) := fun b u e => by
  rw [upd_ne (ne_of_none e h)]
  exact s b u e
mutual
/-- data without lists -/
inductive Dt (K : PySem.W.Frag) (H : Hp) : V → PyData → Prop
  | non : Dt K H .non .none
  | bl (b : Bool) : Dt K H (.bl b) (.bool b)
  | int (i : Int) : Dt K H (.int i) (.int i)
  | str (x : Str) : Dt K H (.str x) (.str x)
  | tup {a : Addr} {xs : List V} {ds : List PyData} : SqT K H a xs → DtAll K H xs ds → Dt K H (.ref a) (.tuple ds)
inductive DtAll (K : PySem.W.Frag) (H : Hp) : List V → List PyData → Prop
  | nil : DtAll K H [] []
  | cons {v : V} {vs : List V} {d : PyData} {ds : List PyData} : Dt K H v d → DtAll K H vs ds → DtAll K H (v :: vs) (d :: ds)
end
section
variable {K : PySem.W.Frag} {H H' : Hp}
mutual
theorem Dt.dp : ∀ {v : V} {d : PyData}, Dt K H v d → Dp K H v d
  | _, _, .non => .non
  | _, _, .bl b => .bl b
  | _, _, .int i => .int i
  | _, _, .str x => .str x
  | _, _, .tup h a => .tup h a.dp
theorem DtAll.dp : ∀ {vs : List V} {ds : List PyData}, DtAll K H vs ds → DpAll K H vs ds
  | _, _, .nil => .nil
  | _, _, .cons h a => .cons h.dp a.dp
end
mutual
theorem Dt.stay (t : TupsStay H H') : ∀ {v : V} {d : PyData}, Dt K H v d → Dt K H' v d
  | _, _, .non => .non
  | _, _, .bl b => .bl b
  | _, _, .int i => .int i
  | _, _, .str x => .str x
  | _, _, .tup h a => .tup (t.seq h) (a.stay t)
theorem DtAll.stay (t : TupsStay H H') : ∀ {vs : List V} {ds : List PyData}, DtAll K H vs ds → DtAll K H' vs ds
  | _, _, .nil => .nil
  | _, _, .cons h a => .cons (h.stay t) (a.stay t)
end
theorem DtAll.len : ∀ {vs : List V} {ds : List PyData}, DtAll K H vs ds → vs.length = ds.length
  | _, _, .nil => rfl
  | _, _, .cons _ a => by rw [List.length_cons, List.length_cons, a.len]
theorem DtAll.at : ∀ {vs : List V} {ds : List PyData} {i : Nat} {d : PyData}, DtAll K H vs ds → ds[i]? = some d → ∃ v, vs[i]? = some v ∧ Dt K H v d
  | _, _, _, _, .nil, e => by simp at e
  | _, _, 0, _, .cons h _, e => by simp at e; subst e; exact ⟨_, rfl, h⟩
  | _, _, i + 1, d, .cons _ a, e => by simpa using a.at (i := i) (by simpa using e)
theorem DtAll.of : ∀ {vs : List V} {ds : List PyData} {i : Nat} {v : V}, DtAll K H vs ds → vs[i]? = some v → ∃ d, ds[i]? = some d ∧ Dt K H v d
  | _, _, _, _, .nil, e => by simp at e
  | _, _, 0, _, .cons h _, e => by simp at e; subst e; exact ⟨_, rfl, h⟩
  | _, _, i + 1, d, .cons _ a, e => by simpa using a.of (i := i) (by simpa using e)
theorem DtAll.app : ∀ {vs ws : List V} {ds es : List PyData}, DtAll K H vs ds → DtAll K H ws es → DtAll K H (vs ++ ws) (ds ++ es)
  | _, _, _, _, .nil, b => b
  | _, _, _, _, .cons h a, b => .cons h (a.app b)
theorem DtAll.take : ∀ {vs : List V} {ds : List PyData} (n : Nat), DtAll K H vs ds → DtAll K H (vs.take n) (ds.take n)
  | _, _, 0, _ => .nil
  | _, _, _ + 1, .nil => .nil
  | _, _, n + 1, .cons h a => .cons h (a.take n)
theorem DtAll.drop : ∀ {vs : List V} {ds : List PyData} (n : Nat), DtAll K H vs ds → DtAll K H (vs.drop n) (ds.drop n)
  | _, _, 0, a => a
  | _, _, _ + 1, .nil => .nil
  | _, _, n + 1, .cons _ a => a.drop n
theorem DtAll.ints : ∀ (ns : List Int), DtAll K H (ns.map V.int) (ns.map PyData.int)
  | [] => .nil
  | n :: ns => .cons (.int n) (DtAll.ints ns)
theorem item_of {ns : List Int} {i : Nat} {y : V} (hi : (ns.map V.int)[i]? = some y) : ∃ z, ns[i]? = some z ∧ y = V.int z := by
  rw [List.getElem?_map] at hi
  cases e : ns[i]? with
  | none => rw [e] at hi; cases hi
  | some z => rw [e] at hi; exact ⟨z, rfl, (Option.some.inj hi).symm⟩
theorem take_more {α : Type} : ∀ {l : List α} {i : Nat} {x : α}, l[i]? = some x → l.take (i + 1) = l.take i ++ [x]
  | [], i, x, h => by simp at h
  | a :: l, 0, x, h => by simp at h; simp [h]
  | a :: l, i + 1, x, h => by
    have ih := take_more (l := l) (i := i) (x := x) (by simpa using h)
    simp [ih]
end
end LG
/-! ### a def of the text with its promise, by its name -/
namespace LG
open PySem PySem.Spec PyProof.Rows L2
/-- the def of this name, the place hidden -/
structure Has (P : Program) (w : World) (K : PySem.W.Frag) (mg : Str → Option Value) (base : Heap) (CX : CXT) (k : Nat) (x : Str) (ps : List Str) (sp : Sp) : Prop where
  ex : ∃ (f : Addr) (fd : FuncData), FnOk P w K mg base CX k f fd ps sp ∧ mg x = some (.ref f) ∧ PySem.W.keepIn K (.ref f) = true ∧ Binds K fd ps []
structure HasG (P : Program) (w : World) (K : PySem.W.Frag) (mg : Str → Option Value) (base : Heap) (k : Nat) (x : Str) (ps : List Str) (sp : Sp) : Prop where
  ex : ∃ (f : Addr) (fd : FuncData), FnG P w K mg base k f fd ps sp ∧ mg x = some (.ref f) ∧ PySem.W.keepIn K (.ref f) = true ∧ Binds K fd ps []
/-- the def as the top has left it -/
structure Def (K : PySem.W.Frag) (mg : Str → Option Value) (x : Str) (st : Stmt) (ps : List Str) : Prop where
  ex : ∃ (f : Addr) (fd : FuncData), Fun K x x st f fd ∧ mg x = some (.ref f) ∧ Binds K fd ps []
section
variable {P : Program} {w : World} {K : PySem.W.Frag} {mg : Str → Option Value} {base : Heap} {CX : CXT} {k : Nat} {x : Str} {ps : List Str} {sp : Sp} {st : Stmt}
theorem Def.has (d : Def K mg x st ps) (h : ∀ (f : Addr) (fd : FuncData), Fun K x x st f fd → FnOk P w K mg base CX k f fd ps sp) : Has P w K mg base CX k x ps sp := by
  obtain ⟨f, fd, F, m, b⟩ := d.ex
  exact ⟨f, fd, h f fd F, m, F.kp, b⟩
theorem Def.hasG (d : Def K mg x st ps) (h : ∀ (f : Addr) (fd : FuncData), Fun K x x st f fd → FnG P w K mg base k f fd ps sp) : HasG P w K mg base k x ps sp := by
  obtain ⟨f, fd, F, m, b⟩ := d.ex
  exact ⟨f, fd, h f fd F, m, F.kp, b⟩
theorem Has.more {j : Nat} (h : Has P w K mg base CX k x ps sp) (hj : k ≤ j) : Has P w K mg base CX j x ps sp := by
  obtain ⟨f, fd, F, r⟩ := h.ex
  exact ⟨f, fd, F.mono hj, r⟩
theorem Has.imp {sp' : Sp} (h : Has P w K mg base CX k x ps sp) (i : ∀ vs H Q E, sp' vs H Q E → sp vs H Q E) : Has P w K mg base CX k x ps sp' := by
  obtain ⟨f, fd, F, r⟩ := h.ex
  exact ⟨f, fd, F.imp i, r⟩
end
section
variable {X : Cx} {k j : Nat} {ps : List Str} {sp : Sp} {x : Str} {p pos : Pos} {e : Expr} {es : List Expr} {t : TA}
/-- its call: nothing is raised -/
theorem pc (h : Has X.prog X.w X.K X.mg X.base CX0 k x ps sp) (hr : Room j X.A) (ha : PA X (e :: es) t) (hg : Gl X x := by rfl) (hj : k ≤ j := by first | decide | omega) (hdb : (x == ("__debug__" : Str)) = false := by decide)
    (he : starEach (e :: es) X.env = (false, eval e X.env) :: starEach es X.env := by rfl) (hpl : (backTo pos (starEach es X.env)).any (·.1) = false := by rfl) : PE X (.Call (.Name x p) (e :: es) [] pos) (tCall sp [] E0 t) := by
  obtain ⟨f, fd, F, m, kp, b⟩ := h.ex
  exact pe_call F (hr.mono hj) hg m kp b .nil pass0 ha hdb he hpl
theorem pcX (h : Has X.prog X.w X.K X.mg X.base (L2.CX X.prog X.w) k x ps sp) (hr : Room j X.A) (ha : PA X (e :: es) t) (hg : Gl X x := by rfl) (hj : k ≤ j := by first | decide | omega) (hdb : (x == ("__debug__" : Str)) = false := by decide)
    (he : starEach (e :: es) X.env = (false, eval e X.env) :: starEach es X.env := by rfl) (hpl : (backTo pos (starEach es X.env)).any (·.1) = false := by rfl) : PE X (.Call (.Name x p) (e :: es) [] pos) (tCall sp [] E0 t) := by
  obtain ⟨f, fd, F, m, kp, b⟩ := h.ex
  exact pe_call F (hr.mono hj) hg m kp b .nil passL ha hdb he hpl
theorem pcG (h : HasG X.prog X.w X.K X.mg X.base k x ps sp) (guard : X.A.guards = some []) (hr : Room j X.A) (ha : PA X (e :: es) t) (hg : Gl X x := by rfl) (hj : k ≤ j := by first | decide | omega) (hdb : (x == ("__debug__" : Str)) = false := by decide)
    (he : starEach (e :: es) X.env = (false, eval e X.env) :: starEach es X.env := by rfl) (hpl : (backTo pos (starEach es X.env)).any (·.1) = false := by rfl) : PE X (.Call (.Name x p) (e :: es) [] pos) (tCall sp [] E0 t) := by
  obtain ⟨f, fd, F, m, kp, b⟩ := h.ex
  exact pe_callG F guard (hr.mono hj) hg m kp b ha hdb he hpl
/-- its call: what it raises leaves this def too -/
theorem pcE {E : XK} (h : Has X.prog X.w X.K X.mg X.base (L2.CX X.prog X.w) k x ps sp) (hr : Room j X.A) (tk : Takes X (fun cls d _ H => E cls d H)) (ha : PA X (e :: es) t) (hg : Gl X x := by rfl) (hj : k ≤ j := by first | decide | omega) (hdb : (x == ("__debug__" : Str)) = false := by decide)
    (he : starEach (e :: es) X.env = (false, eval e X.env) :: starEach es X.env := by rfl) (hpl : (backTo pos (starEach es X.env)).any (·.1) = false := by rfl) : PE X (.Call (.Name x p) (e :: es) [] pos) (tCall sp [] E t) := by
  obtain ⟨f, fd, F, m, kp, b⟩ := h.ex
  exact pe_call F (hr.mono hj) hg m kp b .nil (passes_call tk fun _ _ _ _ z => z) ha hdb he hpl
/-- its call within a try's body: what it raises is wished for -/
theorem pcS {W : WX} (h : Has X.prog X.w X.K X.mg X.base (L2.CX X.prog X.w) k x ps sp) (hr : Room j X.A) (tk : Takes X W) (ha : PA X (e :: es) t) (hg : Gl X x := by rfl) (hj : k ≤ j := by first | decide | omega) (hdb : (x == ("__debug__" : Str)) = false := by decide)
    (he : starEach (e :: es) X.env = (false, eval e X.env) :: starEach es X.env := by rfl) (hpl : (backTo pos (starEach es X.env)).any (·.1) = false := by rfl) : PE X (.Call (.Name x p) (e :: es) [] pos) (tCallS sp (WE W) t) := by
  obtain ⟨f, fd, F, m, kp, b⟩ := h.ex
  exact pe_callS F (hr.mono hj) hg m kp b (fun σ => passAt tk σ) ha hdb he hpl
end
/-! ### places in lists of ints -/
theorem ix_of {n : Nat} {i : Int} (h0 : 0 ≤ i) (h1 : i < n) : ixN n i = some i.toNat := by
  unfold ixN
  rw [if_pos h0, if_pos h1]
theorem at_int {ns : List Int} {i : Int} (h0 : 0 ≤ i) (h1 : i < ns.length) : ∃ z, ns[i.toNat]? = some z ∧ z ∈ ns ∧ atI (ns.map V.int) i = some (.int z) := by
  have lt : i.toNat < ns.length := by omega
  refine ⟨ns[i.toNat], by simp, List.getElem_mem _, ?_⟩
  refine at_of (j := i.toNat) (by omega) ?_
  rw [List.getElem?_map]
  simp
theorem dec_t {p : Prop} [Decidable p] (h : decide p = true) : p := of_decide_eq_true h
theorem dec_f {p : Prop} [Decidable p] (h : ¬ decide p = true) : ¬ p := fun z => h (decide_eq_true z)
end LG
namespace LG
open PySem PySem.Spec PyProof.Rows L2
section
variable {X : Cx}
/-- == and != of ints -/
theorem op_eqi : OpR X (compareOp .Eq) (rI0 fun i j => .bl (decide (i = j))) := by
  intro pins s σ H x y v u Q inv rx ry want
  obtain ⟨i, j, rfl, rfl, q⟩ := want
  refine op_eq pins s σ H _ _ v u Q inv rx ry ⟨rfl, ?_⟩
  rw [show decide (V.int i = V.int j) = decide (i = j) from decide_eq_decide.mpr ⟨fun z => V.int.inj z, fun z => congrArg V.int z⟩]
  exact q
theorem op_nei : OpR X (compareOp .NotEq) (rI0 fun i j => .bl (!decide (i = j))) := by
  intro pins s σ H x y v u Q inv rx ry want
  obtain ⟨i, j, rfl, rfl, q⟩ := want
  refine op_ne pins s σ H _ _ v u Q inv rx ry ⟨rfl, ?_⟩
  rw [show decide (V.int i = V.int j) = decide (i = j) from decide_eq_decide.mpr ⟨fun z => V.int.inj z, fun z => congrArg V.int z⟩]
  exact q
/-- == and != of texts -/
theorem op_eqs : OpR X (compareOp .Eq) (fun x y H Q => ∃ a b, x = .str a ∧ y = .str b ∧ Q (.bl (decide (a = b))) H) := by
  intro pins s σ H x y v u Q inv rx ry want
  obtain ⟨i, j, rfl, rfl, q⟩ := want
  refine op_eq pins s σ H _ _ v u Q inv rx ry ⟨rfl, ?_⟩
  rw [show decide (V.str i = V.str j) = decide (i = j) from decide_eq_decide.mpr ⟨fun z => V.str.inj z, fun z => congrArg V.str z⟩]
  exact q
theorem op_nes : OpR X (compareOp .NotEq) (fun x y H Q => ∃ a b, x = .str a ∧ y = .str b ∧ Q (.bl (!decide (a = b))) H) := by
  intro pins s σ H x y v u Q inv rx ry want
  obtain ⟨i, j, rfl, rfl, q⟩ := want
  refine op_ne pins s σ H _ _ v u Q inv rx ry ⟨rfl, ?_⟩
  rw [show decide (V.str i = V.str j) = decide (i = j) from decide_eq_decide.mpr ⟨fun z => V.str.inj z, fun z => congrArg V.str z⟩]
  exact q
end
/-! ### parts of tuples -/
theorem cut_last (xs : List V) (v : V) : cutV (xs ++ [v]) none (some (-1)) = xs := by
  unfold cutV HT.sIx
  simp only [List.length_append, List.length_singleton]
  rw [if_pos (by decide)]
  rw [List.drop_zero, show ((-1 + ((xs.length + 1 : Nat) : Int)).toNat - 0) = xs.length from by omega]
  simp
theorem cut_last_whole (xs : List V) (v : V) : ¬ (HT.sIx (xs ++ [v]).length 0 none = 0 ∧ HT.sIx (xs ++ [v]).length (xs ++ [v]).length (some (-1)) = (xs ++ [v]).length) := by
  unfold HT.sIx
  simp only [List.length_append, List.length_singleton]
  rw [if_pos (by decide)]
  omega
theorem cut_to (xs : List V) (n : Nat) : cutV xs none (some (n : Int)) = xs.take n := by
  unfold cutV
  rw [HT.sIx_none, HT.sIx_nat, List.drop_zero, Nat.sub_zero]
  rcases Nat.le_total n xs.length with h | h
  · rw [Nat.min_eq_left h]
  · rw [Nat.min_eq_right h, List.take_of_length_le (Nat.le_refl _), List.take_of_length_le h]
theorem cut_from (xs : List V) (n : Nat) : cutV xs (some (n : Int)) none = xs.drop n := by
  unfold cutV
  rw [HT.sIx_none, HT.sIx_nat]
  rcases Nat.le_total n xs.length with h | h
  · rw [Nat.min_eq_left h, List.take_of_length_le (by rw [List.length_drop]; exact Nat.le_refl _)]
  · rw [Nat.min_eq_right h, List.drop_of_length_le (Nat.le_refl _), List.drop_of_length_le h, List.take_nil]
/-- a slice of a tuple: the tuple itself, or a new one, of these items -/
def rCut (K : PySem.W.Frag) : V → Option Int → Option Int → Hp → VK → Prop := fun x lo hi H Q => ∃ a xs, x = .ref a ∧ SqT K H a xs ∧
  ∀ p H', Same H H' → SqT K H' p (cutV xs lo hi) → Q (.ref p) H'
theorem sl_cut {X : Cx} : SlR X (rCut X.K) := by
  intro pins s σ H x v vl vu lo hi sl Q inv rx hs pl pu want
  obtain ⟨a, xs, rfl, hx, q⟩ := want
  refine sl_tupA pins s σ H _ v vl vu lo hi sl Q inv rx hs pl pu ⟨a, xs, rfl, hx, fun whole => q a H (Same.refl H) ?_, fun _ p hp => q p _ (same_new hp _) (SqT.of upd_same)⟩
  have e : cutV xs lo hi = xs := by
    unfold cutV
    rw [whole.1, whole.2, List.drop_zero, Nat.sub_zero, List.take_of_length_le (Nat.le_refl _)]
  rw [e]
  exact hx
/-- t + u: one of the two, or a new tuple, of these items -/
def rPlus (K : PySem.W.Frag) : R2 := fun x y H Q => ∃ a b xs ys, x = .ref a ∧ y = .ref b ∧ SqT K H a xs ∧ SqT K H b ys ∧ xs.length + ys.length ≤ sizeLine ∧
  ∀ p H', Same H H' → SqT K H' p (xs ++ ys) → Q (.ref p) H'
theorem op_plus {X : Cx} : OpR X (binaryOp .Add) (rPlus X.K) := by
  intro pins s σ H x y v u Q inv rx ry want
  obtain ⟨a, b, xs, ys, rfl, rfl, ha, hb, hz, q⟩ := want
  refine op_catA pins s σ H _ _ v u Q inv rx ry ⟨a, b, xs, ys, rfl, rfl, ha, hb, hz, fun e => q b H (Same.refl H) ?_, fun _ e => q a H (Same.refl H) ?_, fun _ _ p hp => q p _ (same_new hp _) (SqT.of upd_same)⟩
  · rw [e]
    exact hb
  · rw [e, List.append_nil]
    exact ha
theorem small16 {n : Nat} (h : n ≤ 100000) : n ≤ sizeLine := Nat.le_trans h (by decide)
end LG
/-! ### error classes of the text -/
namespace LG
open PySem PySem.Spec PyProof.Rows L2
/-- the class of this name over ValueError -/
structure Err (K : PySem.W.Frag) (mg : Str → Option Value) (x : Str) (C : Addr) : Prop where
  xi : PySem.W.excIn K C [.type "ValueError", .type "Exception", .type "BaseException", .type "object"] "ValueError.__new__" = true
  g : mg x = some (.ref C)
  k : PySem.W.keepIn K (.ref C) = true
  b : PySem.W.subIn K (.ref C) (.type "BaseException") = some true
  t : PySem.W.typeIn K (.ref C) = some (.type "type")
/-- what a clause for the class at D makes of an error of the class at C -/
theorem exm_of2 {K : PySem.W.Frag} {C D : Addr} {r : Bool} (h1 : PySem.W.subIn K (.ref D) (.type "BaseException") = some true) (h2 : PySem.W.isClsIn K D = true) (h3 : PySem.W.typeIn K (.ref D) = some (.type "type")) (h4 : PySem.W.subIn K (.ref C) (.ref D) = some r) :
    PySem.W.exmOne K (.ref C) (.ref D) = some r := by
  show (if (PySem.W.subIn K (.ref D) (.type "BaseException") == some true) = true then (if (PySem.W.isClsIn K D && PySem.W.typeIn K (.ref D) == some (.type "type")) = true then PySem.W.subIn K (.ref C) (.ref D) else none) else none) = some r
  rw [h1, h2, h3, h4]
  rfl
end LG
/-! ### the hand from which the law takes its draws -/
namespace LG
open PySem PySem.Spec PyProof.Rows L2
/-- hand at h: the draws at d, how many were taken -/
def Hand (H : Hp) (h d : Addr) (ds : List Int) (n : Nat) : Prop := H h = some (.lst [.ref d, .int n]) ∧ H d = some (.lst (ds.map V.int))
section
variable {H H' : Hp} {h d : Addr} {ds : List Int} {n : Nat}
theorem Hand.ne (x : Hand H h d ds n) : d ≠ h := by
  rintro rfl
  have e := x.1.symm.trans x.2
  cases ds with
  | nil => cases e
  | cons z ds => cases e
theorem Hand.next (x : Hand H h d ds n) : Hand (upd H h (.lst [.ref d, .int ((n + 1 : Nat) : Int)])) h d ds (n + 1) := ⟨upd_same, by rw [upd_ne x.ne]; exact x.2⟩
theorem Hand.same (x : Hand H h d ds n) (s : Same H H') : Hand H' h d ds n := ⟨s _ _ x.1, s _ _ x.2⟩
theorem Hand.tups (x : Hand H h d ds n) : TupsStay H (upd H h (.lst [.ref d, .int ((n + 1 : Nat) : Int)])) := tups_lst x.1
/-- another list stays -/
theorem Hand.keep {a : Addr} {ns : List Int} (x : Hand H h d ds n) (e : H a = some (.lst (ns.map V.int))) : (upd H h (.lst [.ref d, .int ((n + 1 : Nat) : Int)])) a = some (.lst (ns.map V.int)) := by
  rw [upd_ne]
  · exact e
  rintro rfl
  have q := x.1.symm.trans e
  cases ns with
  | nil => cases q
  | cons z ns => cases q
end
end LG
/-! ### data of any kind, outside the places that may change -/
namespace LG
open PySem PySem.Spec PyProof.Rows L2
/-- what lies outside M stays, and all tuples -/
structure Go (M : Addr → Prop) (H H' : Hp) : Prop where
  out : ∀ b o, ¬ M b → H b = some o → H' b = some o
  tups : TupsStay H H'
section
variable {M : Addr → Prop} {H H1 H' : Hp} {K : PySem.W.Frag}
theorem Go.refl (H : Hp) : Go M H H := ⟨fun _ _ _ e => e, TupsStay.refl H⟩
theorem Go.trans (a : Go M H H1) (b : Go M H1 H') : Go M H H' := ⟨fun c o m e => b.out c o m (a.out c o m e), a.tups.trans b.tups⟩
theorem _root_.L2.Same.go (s : Same H H') : Go M H H' := ⟨fun b o _ e => s b o e, s.tups⟩
theorem Go.put {a : Addr} {xs ys : List V} (m : M a) (h : H a = some (.lst xs)) : Go M H (upd H a (.lst ys)) := ⟨fun b u n e => by
  rw [upd_ne (fun z => n (by rw [z]; exact m))]
  exact e, tups_lst h⟩
theorem Go.new {p : Addr} (h : H p = none) (o : HO) : Go M H (L2.upd H p o) := L2.Same.go (same_new h o)
theorem Go.seqL {a : Addr} {xs : List V} (s : Go M H H') (m : ¬ M a) (h : SqL K H a xs) : SqL K H' a xs := by
  rcases h with (h | ⟨o, h⟩) | h
  · exact .inl (.inl (s.out _ _ m h))
  · exact .inl (.inr ⟨o, s.out _ _ m h⟩)
  · exact .inr h
theorem Go.seqT {a : Addr} {xs : List V} (s : Go M H H') (h : SqT K H a xs) : SqT K H' a xs := s.tups.seq h
end
mutual
inductive Dv (M : Addr → Prop) (K : PySem.W.Frag) (H : Hp) : V → PyData → Prop
  | non : Dv M K H .non .none
  | bl (b : Bool) : Dv M K H (.bl b) (.bool b)
  | int (i : Int) : Dv M K H (.int i) (.int i)
  | str (x : Str) : Dv M K H (.str x) (.str x)
  | lst {a : Addr} {xs : List V} {ds : List PyData} : ¬ M a → SqL K H a xs → DvAll M K H xs ds → Dv M K H (.ref a) (.list ds)
  | tup {a : Addr} {xs : List V} {ds : List PyData} : SqT K H a xs → DvAll M K H xs ds → Dv M K H (.ref a) (.tuple ds)
inductive DvAll (M : Addr → Prop) (K : PySem.W.Frag) (H : Hp) : List V → List PyData → Prop
  | nil : DvAll M K H [] []
  | cons {v : V} {vs : List V} {d : PyData} {ds : List PyData} : Dv M K H v d → DvAll M K H vs ds → DvAll M K H (v :: vs) (d :: ds)
end
section
variable {M M' : Addr → Prop} {K : PySem.W.Frag} {H H' : Hp}
mutual
theorem Dv.dp : ∀ {v : V} {d : PyData}, Dv M K H v d → Dp K H v d
  | _, _, .non => .non
  | _, _, .bl b => .bl b
  | _, _, .int i => .int i
  | _, _, .str x => .str x
  | _, _, .lst _ h a => .lst h a.dp
  | _, _, .tup h a => .tup h a.dp
theorem DvAll.dp : ∀ {vs : List V} {ds : List PyData}, DvAll M K H vs ds → DpAll K H vs ds
  | _, _, .nil => .nil
  | _, _, .cons h a => .cons h.dp a.dp
end
mutual
theorem Dv.stay (t : Go M H H') : ∀ {v : V} {d : PyData}, Dv M K H v d → Dv M K H' v d
  | _, _, .non => .non
  | _, _, .bl b => .bl b
  | _, _, .int i => .int i
  | _, _, .str x => .str x
  | _, _, .lst m h a => .lst m (t.seqL m h) (a.stay t)
  | _, _, .tup h a => .tup (t.seqT h) (a.stay t)
theorem DvAll.stay (t : Go M H H') : ∀ {vs : List V} {ds : List PyData}, DvAll M K H vs ds → DvAll M K H' vs ds
  | _, _, .nil => .nil
  | _, _, .cons h a => .cons (h.stay t) (a.stay t)
end
theorem DvAll.len : ∀ {vs : List V} {ds : List PyData}, DvAll M K H vs ds → vs.length = ds.length
  | _, _, .nil => rfl
  | _, _, .cons _ a => by rw [List.length_cons, List.length_cons, a.len]
theorem DvAll.at : ∀ {vs : List V} {ds : List PyData} {i : Nat} {d : PyData}, DvAll M K H vs ds → ds[i]? = some d → ∃ v, vs[i]? = some v ∧ Dv M K H v d
  | _, _, _, _, .nil, e => by simp at e
  | _, _, 0, _, .cons h _, e => by simp at e; subst e; exact ⟨_, rfl, h⟩
  | _, _, i + 1, d, .cons _ a, e => by simpa using a.at (i := i) (by simpa using e)
theorem DvAll.of : ∀ {vs : List V} {ds : List PyData} {i : Nat} {v : V}, DvAll M K H vs ds → vs[i]? = some v → ∃ d, ds[i]? = some d ∧ Dv M K H v d
  | _, _, _, _, .nil, e => by simp at e
  | _, _, 0, _, .cons h _, e => by simp at e; subst e; exact ⟨_, rfl, h⟩
  | _, _, i + 1, d, .cons _ a, e => by simpa using a.of (i := i) (by simpa using e)
theorem DvAll.app : ∀ {vs ws : List V} {ds es : List PyData}, DvAll M K H vs ds → DvAll M K H ws es → DvAll M K H (vs ++ ws) (ds ++ es)
  | _, _, _, _, .nil, b => b
  | _, _, _, _, .cons h a, b => .cons h (a.app b)
theorem DvAll.take : ∀ {vs : List V} {ds : List PyData} (n : Nat), DvAll M K H vs ds → DvAll M K H (vs.take n) (ds.take n)
  | _, _, 0, _ => .nil
  | _, _, _ + 1, .nil => .nil
  | _, _, n + 1, .cons h a => .cons h (a.take n)
theorem DvAll.drop : ∀ {vs : List V} {ds : List PyData} (n : Nat), DvAll M K H vs ds → DvAll M K H (vs.drop n) (ds.drop n)
  | _, _, 0, a => a
  | _, _, _ + 1, .nil => .nil
  | _, _, n + 1, .cons _ a => a.drop n
theorem DvAll.ints : ∀ (ns : List Int), DvAll M K H (ns.map V.int) (ns.map PyData.int)
  | [] => .nil
  | n :: ns => .cons (.int n) (DvAll.ints ns)
/-- the built-in type of data -/
def tyD : PyData → String
  | .none => "NoneType"
  | .bool _ => "bool"
  | .int _ => "int"
  | .str _ => "str"
  | .list _ => "list"
  | .tuple _ => "tuple"
  | .dict _ => "dict"
theorem tyx_lst {a : Addr} {xs : List V} (h : SqL K H a xs) : TyX K H (.ref a) (.type "list") := by
  rcases h with (h | ⟨o, h⟩) | ⟨o, its, n, hk, hc, _⟩
  · exact .base (.lst h)
  · exact .base (.frz h)
  · exact .kList hk hc
theorem tyx_tup {a : Addr} {xs : List V} (h : SqT K H a xs) : TyX K H (.ref a) (.type "tuple") := by
  rcases h with (h | ⟨o, h⟩) | ⟨o, its, n, hk, hc, _⟩
  · exact .base (.tup h)
  · exact .fTuple h
  · exact .kTuple hk hc
theorem Dv.ty {v : V} {d : PyData} (h : Dv M K H v d) : TyX K H v (.type (tyD d)) := by
  cases h with
  | non => exact .base .non
  | bl b => exact .base (.bl b)
  | int i => exact .base (.int i)
  | str x => exact .base (.str x)
  | lst _ h _ => exact tyx_lst h
  | tup h _ => exact tyx_tup h
/-- a dict with few keys, at the top of a value: what repr tells of it -/
def keyD : Key → PyData
  | .inl i => .int i
  | .inr x => .str x
/-- data, or a dict of such without lists -/
inductive Dq (M : Addr → Prop) (K : PySem.W.Frag) (H : Hp) : V → PyData → Prop
  | data {v : V} {d : PyData} : Dv M K H v d → Dq M K H v d
  | dct {a : Addr} {kvs : List (Key × V)} {ds : List PyData} : ¬ M a → H a = some (.dK kvs) → DtAll K H (kvs.map (·.2)) ds → Dq M K H (.ref a) (.dict ((kvs.map fun p => keyD p.1).zip ds))
end
section
variable {M : Addr → Prop} {K : PySem.W.Frag} {H H' : Hp}
mutual
theorem Dt.dv : ∀ {v : V} {d : PyData}, Dt K H v d → Dv M K H v d
  | _, _, .non => .non
  | _, _, .bl b => .bl b
  | _, _, .int i => .int i
  | _, _, .str x => .str x
  | _, _, .tup h a => .tup h a.dv
theorem DtAll.dv : ∀ {vs : List V} {ds : List PyData}, DtAll K H vs ds → DvAll M K H vs ds
  | _, _, .nil => .nil
  | _, _, .cons h a => .cons h.dv a.dv
end
theorem Dq.stay {v : V} {d : PyData} (t : Go M H H') (h : Dq M K H v d) : Dq M K H' v d := by
  cases h with
  | data h => exact .data (h.stay t)
  | dct m h a => exact .dct m (t.out _ _ m h) (a.stay t.tups)
theorem Dq.ty {v : V} {d : PyData} (h : Dq M K H v d) : TyX K H v (.type (tyD d)) := by
  cases h with
  | data h => exact h.ty
  | dct _ h _ => exact .base (.dK h)
end
section
variable {X : Cx} {pins : List (Addr × Obj)} {σ : L2.St} {H : Hp} {s : Shared} {M : Addr → Prop}
mutual
/-- data without lists is read without a list's place -/
theorem Dt.bare (I : Inv X pins σ H s) : ∀ (d : PyData) (v : V) (u : Value), Dt X.K H v d → RelV v u → Reads s.heap u d []
  | .none, _, _, h, r => by
    cases h
    cases r
    exact Reads.none
  | .bool b, _, _, h, r => by
    cases h
    cases r
    exact Reads.bool b
  | .int i, _, _, h, r => by
    cases h
    obtain ⟨t, rfl⟩ := r
    exact Reads.int i t
  | .str x, _, _, h, r => by
    cases h
    obtain ⟨t, rfl⟩ := r
    exact Reads.str x t
  | .tuple ds, _, _, h, r => by
    cases h with
    | tup hs ha =>
      cases r
      obtain ⟨its, rv, ⟨o, ho, hc, n, hd⟩, _⟩ := I.tuple hs
      exact Reads.tuple ho hc hd (DtAll.bare I ds _ its ha rv)
  | .list _, _, _, h, _ => by cases h
  | .dict _, _, _, h, _ => by cases h
theorem DtAll.bare (I : Inv X pins σ H s) : ∀ (ds : List PyData) (vs : List V) (us : List Value), DtAll X.K H vs ds → Vals vs us → ReadsAll s.heap us ds []
  | [], _, _, h, r => by
    cases h
    cases r
    exact ReadsAll.nil
  | d :: ds, _, _, h, r => by
    cases h with
    | cons h1 h2 =>
      cases r with
      | cons r1 r2 => exact ReadsAll.cons (Dt.bare I d _ _ h1 r1) (DtAll.bare I ds _ _ h2 r2)
end
/-- a dict's keys and values -/
theorem pairs_read {P : Program} {w : World} {kvs : List (Key × V)} {vs : List (Key × Value)} {es : List DictEntry} (kv : KV kvs vs) (ps : Pairs (mixKind P w) es vs) :
    Vals (kvs.map fun p => kV p.1) (es.map (·.key)) ∧ Vals (kvs.map (·.2)) (es.map (·.val)) := by
  induction ps generalizing kvs with
  | nil =>
    cases kv
    exact ⟨.nil, .nil⟩
  | cons hk hv _ ih =>
    cases kv with
    | cons r rr =>
      obtain ⟨i1, i2⟩ := ih rr
      obtain ⟨e1, e2⟩ := r
      refine ⟨.cons ?_ i1, .cons ?_ i2⟩
      · rw [← e1] at hk
        have hk' : keyIs _ _ = true := hk
        rcases keyIs_shape hk' with ⟨i, t, e, q⟩ | ⟨x, t, e, q⟩
        · show RelV (kV _) (DictEntry.key _)
          rw [e, q]
          exact ⟨t, rfl⟩
        · show RelV (kV _) (DictEntry.key _)
          rw [e, q]
          exact ⟨t, rfl⟩
      · show RelV (Prod.snd _) (DictEntry.val _)
        rw [hv]
        exact e2
theorem keys_dt {K : PySem.W.Frag} : ∀ kvs : List (Key × V), DtAll K H (kvs.map fun p => kV p.1) (kvs.map fun p => keyD p.1)
  | [] => .nil
  | (.inl i, v) :: r => .cons (.int i) (keys_dt r)
  | (.inr x, v) :: r => .cons (.str x) (keys_dt r)
/-- repr of such data -/
def rRepV (K : PySem.W.Frag) : List V → Hp → VK → Prop := fun xs H Q => ∃ (M : Addr → Prop) (v : V) (d : PyData), xs = [v] ∧ Dq M K H v d ∧ d.showable = true ∧ d.depth ≤ 60 ∧ d.shown.length ≤ sizeLine ∧ Q (.str d.shown) H
theorem call_repV (guard : X.A.guards = some []) (room : X.A.units + 64 < cLine) : CallR X (.builtin "repr") (rRepV X.K) := by
  intro pins s σ H xs us Q inv rel want
  obtain ⟨M, v, d, e, hd, h1, h2, h3, q⟩ := want
  cases hd with
  | data hd => exact call_rep guard room pins s σ H xs us Q inv rel ⟨v, d, e, hd.dp, h1, h2, h3, q⟩
  | @dct a kvs ds _ ha hv =>
    subst e
    cases rel with
    | cons r0 rr =>
      cases rr
      cases r0
      obtain ⟨_, sys, vs, kv, o, es, ep, ho, ex, hdat, _, ps, _⟩ := (show ObjOk X.prog X.w H s.heap a (.dK kvs) from inv.hok a _ ha)
      obtain ⟨r1, r2⟩ := pairs_read kv ps
      have k1 := DtAll.bare inv _ _ _ (keys_dt kvs) r1
      have k2 := DtAll.bare inv _ _ _ hv r2
      have len : (kvs.map fun p => keyD p.1).length = ds.length := by rw [List.length_map, ← hv.len, List.length_map]
      have z1 : ((kvs.map fun p => keyD p.1).zip ds).map (·.1) = kvs.map fun p => keyD p.1 := List.map_fst_zip (by rw [len]; exact Nat.le_refl _)
      have z2 : ((kvs.map fun p => keyD p.1).zip ds).map (·.2) = ds := List.map_snd_zip (by rw [len]; exact Nat.le_refl _)
      have reads : Reads s.heap (.ref a) (.dict ((kvs.map fun p => keyD p.1).zip ds)) (a :: [] ++ []) := Reads.dict ho ex.1 hdat (by rw [z1]; exact k1) (by rw [z2]; exact k2)
      refine repr_of_reads' reads h1 (fun _ mem => ?_) guard (by omega) (fun _ _ z => z) (fun h' u' tk keep => ⟨.str _, H, inv.kept keep, ⟨_, rfl⟩, q⟩) h3
      have e : sysModules = a := by simpa using mem
      rw [e] at sys
      simp at sys
end
end LG
namespace LG
open PySem PySem.Spec PyProof.Rows L2
section
variable {M : Addr → Prop} {K : PySem.W.Frag} {H H' : Hp}
/-- what was made since is changed -/
theorem Go.own {p : Addr} (g : Go M H H') (h : H p = none) (o : HO) : Go M H (L2.upd H' p o) := ⟨fun b u m e => by
  rw [upd_ne (ne_of_none e h)]
  exact g.out b u m e, fun b u k e => by
  rw [upd_ne (ne_of_none e h)]
  exact g.tups b u k e⟩
theorem Hand.off {h d p : Addr} {ds : List Int} {n : Nat} (x : Hand H h d ds n) (hp : p ≠ h) (dp : p ≠ d) (o : HO) : Hand (L2.upd H p o) h d ds n := ⟨by rw [upd_ne hp.symm]; exact x.1, by rw [upd_ne dp.symm]; exact x.2⟩
theorem Hand.go {h d : Addr} {ds : List Int} {n : Nat} (x : Hand H h d ds n) : Go (· = h) H (L2.upd H h (.lst [.ref d, .int ((n + 1 : Nat) : Int)])) := Go.put rfl x.1
theorem Hand.new {h d p : Addr} {ds : List Int} {n : Nat} (x : Hand H h d ds n) (hp : H p = none) (o : HO) : Hand (L2.upd H p o) h d ds n := x.same (same_new hp o)
theorem at_any {α : Type} {xs : List α} {i : Int} (h0 : -(xs.length : Int) ≤ i) (h1 : i < (xs.length : Int)) : ∃ (j : Nat) (y : α), xs[j]? = some y ∧ atI xs i = some y := by
  by_cases h : 0 ≤ i
  · have lt : i.toNat < xs.length := by omega
    refine ⟨i.toNat, xs[i.toNat], by simp [lt], ?_⟩
    unfold atI ixN
    rw [if_pos h, if_pos h1]
    simp [lt]
  · have lt : (i + (xs.length : Int)).toNat < xs.length := by omega
    refine ⟨(i + (xs.length : Int)).toNat, xs[(i + (xs.length : Int)).toNat], by simp [lt], ?_⟩
    unfold atI ixN
    rw [if_neg h, if_pos h0]
    simp [lt]
/-- some item of a row of data -/
theorem DvAll.pick {xs : List V} {ds : List PyData} {i : Int} (a : DvAll M K H xs ds) (h0 : -(ds.length : Int) ≤ i) (h1 : i < (ds.length : Int)) : ∃ y e, atI xs i = some y ∧ e ∈ ds ∧ Dv M K H y e := by
  rw [← a.len] at h0 h1
  obtain ⟨j, y, hj, hy⟩ := at_any h0 h1
  obtain ⟨e, he, d⟩ := a.of hj
  exact ⟨y, e, hy, List.mem_of_getElem? he, d⟩
theorem DtAll.pick {xs : List V} {ds : List PyData} {i : Int} (a : DtAll K H xs ds) (h0 : -(ds.length : Int) ≤ i) (h1 : i < (ds.length : Int)) : ∃ y e, atI xs i = some y ∧ e ∈ ds ∧ Dt K H y e := by
  rw [← a.len] at h0 h1
  obtain ⟨j, y, hj, hy⟩ := at_any h0 h1
  obtain ⟨e, he, d⟩ := a.of hj
  exact ⟨y, e, hy, List.mem_of_getElem? he, d⟩
inductive DqAll (M : Addr → Prop) (K : PySem.W.Frag) (H : Hp) : List V → List PyData → Prop
  | nil : DqAll M K H [] []
  | cons {v : V} {vs : List V} {d : PyData} {ds : List PyData} : Dq M K H v d → DqAll M K H vs ds → DqAll M K H (v :: vs) (d :: ds)
theorem DqAll.len : ∀ {vs : List V} {ds : List PyData}, DqAll M K H vs ds → vs.length = ds.length
  | _, _, .nil => rfl
  | _, _, .cons _ a => by rw [List.length_cons, List.length_cons, a.len]
theorem DqAll.of : ∀ {vs : List V} {ds : List PyData} {i : Nat} {v : V}, DqAll M K H vs ds → vs[i]? = some v → ∃ d, ds[i]? = some d ∧ Dq M K H v d
  | _, _, _, _, .nil, e => by simp at e
  | _, _, 0, _, .cons h _, e => by simp at e; subst e; exact ⟨_, rfl, h⟩
  | _, _, i + 1, d, .cons _ a, e => by simpa using a.of (i := i) (by simpa using e)
theorem DqAll.pick {xs : List V} {ds : List PyData} {i : Int} (a : DqAll M K H xs ds) (h0 : -(ds.length : Int) ≤ i) (h1 : i < (ds.length : Int)) : ∃ y e, atI xs i = some y ∧ e ∈ ds ∧ Dq M K H y e := by
  rw [← a.len] at h0 h1
  obtain ⟨j, y, hj, hy⟩ := at_any h0 h1
  obtain ⟨e, he, d⟩ := a.of hj
  exact ⟨y, e, hy, List.mem_of_getElem? he, d⟩
theorem DqAll.stay (t : Go M H H') : ∀ {vs : List V} {ds : List PyData}, DqAll M K H vs ds → DqAll M K H' vs ds
  | _, _, .nil => .nil
  | _, _, .cons h a => .cons (h.stay t) (a.stay t)
/-- two parts -/
theorem sized_two {m1 m2 h1 h2 : Nat} {a b : PyData} (sa : Sized m1 h1 a) (sb : Sized m2 h2 b) : Sized (m1 + m2 + 2) (max h1 h2 + 1) (.tuple [a, b]) := by
  obtain ⟨a1, a2, a3, a4⟩ := sa
  obtain ⟨b1, b2, b3, b4⟩ := sb
  refine ⟨?_, ?_, ?_, ?_⟩
  · simp only [PyData.leavesShort, PyData.leavesShortAll, a1, b1, Bool.and_self]
  · simp only [PyData.showable, PyData.showableAll, a2, b2, Bool.and_self]
  · simp only [PyData.depth, PyData.depthAll]
    omega
  · simp only [PyData.bulk, PyData.bulkAll]
    omega
theorem sized_str (x : Str) (h : (x.cps.toList.all fun c => decide (c < 16 ^ 8)) = true) (n : Nat) (hn : x.cps.size ≤ n) : Sized n 0 (.str x) := ⟨by simp only [PyData.leavesShort]; exact h, by simp only [PyData.showable], by simp only [PyData.depth]; omega, by simp only [PyData.bulk]; exact hn⟩
end
end LG
/-! ### tuples of ints: order, sorting; membership -/
namespace LG
open PySem PySem.Spec PyProof.Rows L2
/-- a row of ints as data -/
def tupI (r : List Int) : PyData := .tuple (r.map PyData.int)
section
variable {X : Cx}
theorem dp_row {K : PySem.W.Frag} {H : Hp} {a : Addr} {ns : List Int} (h : SqT K H a (ns.map V.int)) : Dp K H (.ref a) (tupI ns) := .tup h (DtAll.ints ns).dp
theorem row_depth (ns : List Int) : (tupI ns).depth = 1 := by
  unfold tupI
  simp only [PyData.depth, PySem.W.depth_ints]
theorem row_lt (ns ms : List Int) : PySem.W.dataLt (tupI ns) (tupI ms) = decide (ns < ms) := by
  rw [← PySem.W.dataLt_ints]
  exact PySem.W.dataLt_tuple _ _
theorem row_alike (ns ms : List Int) : PySem.W.alike (tupI ns) (tupI ms) = true := by
  unfold tupI
  rw [PySem.W.alike]
  exact PySem.W.alike_ints ns ms
/-- x >= y, rows of ints -/
def rGeR (K : PySem.W.Frag) : R2 := fun x y H Q => ∃ (a b : Addr) (ns ms : List Int), x = .ref a ∧ y = .ref b ∧ SqT K H a (ns.map V.int) ∧ SqT K H b (ms.map V.int) ∧ Q (.bl (!decide (ns < ms))) H
theorem op_geR (hu : X.A.units + 64 < cLine) : OpR X (compareOp .GtE) (rGeR X.K) := by
  intro pins s σ H x y v u Q I rx ry h
  obtain ⟨a, b, ns, ms, rfl, rfl, ha, hb, q⟩ := h
  obtain ⟨as, r1⟩ := Dp.reads I _ _ v (dp_row ha) rx
  obtain ⟨bs, r2⟩ := Dp.reads I _ _ u (dp_row hb) ry
  exact PySem.W.ge_data r1 r2 (row_alike ns ms) (by unfold tupI; exact nofun) (by rw [row_depth]; omega) ⟨.bl _, H, I, rfl, by rw [row_lt]; exact q⟩
def rLtR (K : PySem.W.Frag) : R2 := fun x y H Q => ∃ (a b : Addr) (ns ms : List Int), x = .ref a ∧ y = .ref b ∧ SqT K H a (ns.map V.int) ∧ SqT K H b (ms.map V.int) ∧ Q (.bl (decide (ns < ms))) H
theorem op_ltR (hu : X.A.units + 64 < cLine) : OpR X (compareOp .Lt) (rLtR X.K) := by
  intro pins s σ H x y v u Q I rx ry h
  obtain ⟨a, b, ns, ms, rfl, rfl, ha, hb, q⟩ := h
  obtain ⟨as, r1⟩ := Dp.reads I _ _ v (dp_row ha) rx
  obtain ⟨bs, r2⟩ := Dp.reads I _ _ u (dp_row hb) ry
  exact PySem.W.lt_data r1 r2 (row_alike ns ms) (by unfold tupI; exact nofun) (by rw [row_depth]; omega) ⟨.bl _, H, I, rfl, by rw [row_lt]; exact q⟩
/-- x in t, t a tuple of data -/
def rInTD (K : PySem.W.Frag) : R2 := fun x y H Q => ∃ d ds, Dp K H x d ∧ Dp K H y (.tuple ds) ∧ SeqAt.shaped d = true ∧ SeqAt.shaped (.list ds) = true ∧ Q (.bl (ds.any fun z => PyData.eqv z d)) H
theorem op_inTD (hu : X.A.units + 65 < cLine) : OpR X (compareOp .In) (rInTD X.K) := by
  intro pins s σ H x y v u Q I rx ry h
  obtain ⟨d, ds, hd, he, sd, se, q⟩ := h
  obtain ⟨as, r1⟩ := Dp.reads I d x v hd rx
  obtain ⟨bs, r2⟩ := Dp.reads I (.tuple ds) y u he ry
  exact SeqAt.in_tuple_reads r2 r1 (SeqAt.canLay_of_shaped se) (SeqAt.canLay_of_shaped sd) (room_in_shaped sd hu) ⟨.bl _, H, I, rfl, q⟩
/-- the order of sorting -/
def leR (a b : List Int) : Bool := !decide (b < a)
def rSortR (K : PySem.W.Frag) : List V → Hp → VK → Prop := fun vs H Q => ∃ (a : Addr) (xs : List V) (rs : List (List Int)), vs = [V.ref a] ∧ SqL K H a xs ∧ DtAll K H xs (rs.map tupI) ∧ rs.length ≤ 1000 ∧ (∀ r ∈ rs, r ≠ []) ∧
  ∀ (ys : List V) (p : Addr), H p = none → DtAll K H ys ((rs.mergeSort leR).map tupI) → Q (.ref p) (upd H p (.lst ys))
theorem each_of {K : PySem.W.Frag} {H : Hp} : ∀ {rs : List (List Int)} {xs : List V} {us : List Value}, DtAll K H xs (rs.map tupI) → Vals xs us → PySem.W.EachIs (fun u r => ∃ t, u = Value.ref t ∧ SqT K H t (r.map V.int)) us rs
  | [], _, _, h, r => by
    cases h
    cases r
    exact .nil
  | b :: bs, _, _, h, r => by
    cases h with
    | cons h1 h2 =>
      cases r with
      | cons r1 r2 =>
        refine .cons ?_ (each_of h2 r2)
        cases h1 with
        | @tup a ys ds hs ha =>
          cases r1
          refine ⟨a, rfl, ?_⟩
          have e : ys = b.map V.int := by
            clear hs h2 r2
            induction b generalizing ys with
            | nil => cases ha; rfl
            | cons x b ih =>
              cases ha with
              | cons h h' =>
                cases h
                rw [List.map_cons, ← ih h']
          rw [← e]
          exact hs
theorem each_back {K : PySem.W.Frag} {H : Hp} : ∀ {rs : List (List Int)} {us : List Value}, PySem.W.EachIs (fun u r => ∃ t, u = Value.ref t ∧ SqT K H t (r.map V.int)) us rs → ∃ ys, Vals ys us ∧ DtAll K H ys (rs.map tupI)
  | [], _, .nil => ⟨[], .nil, .nil⟩
  | b :: bs, _, .cons ⟨t, e, h⟩ r => by
    obtain ⟨ys, v, d⟩ := each_back r
    subst e
    exact ⟨.ref t :: ys, .cons rfl v, .cons (.tup h (DtAll.ints b)) d⟩
theorem cr_sortR (hu : X.A.units + 64 < cLine) : CallR X (.builtin "sorted") (rSortR X.K) := by
  intro pins s σ H vs us Q I r h
  obtain ⟨a, xs, rs, rfl, hs, hd, hz, ne, q⟩ := h
  obtain ⟨its, rv, hl, hz2⟩ := I.list hs
  rw [Vals.ref1 r]
  have ea := each_of hd rv
  have er : PySem.W.EachIs (fun v b => ∃ as, Reads s.heap v (tupI b) as) its rs := ea.mono fun u b ⟨t, e, ht⟩ => by
    subst e
    exact Dp.reads I _ _ _ (dp_row ht) rfl
  have al : PySem.W.AllAlike (rs.map tupI) := fun d hd d' hd' => by
    obtain ⟨x, _, rfl⟩ := List.mem_map.mp hd
    obtain ⟨y, _, rfl⟩ := List.mem_map.mp hd'
    exact row_alike x y
  have so : PySem.W.Sortable (rs.map tupI) := .inl fun d hd => by
    obtain ⟨x, hx, rfl⟩ := List.mem_map.mp hd
    cases x with
    | nil => exact absurd rfl (ne _ hx)
    | cons i x => exact ⟨_, _, rfl⟩
  refine PySem.W.sorted_data hl.isList ea er al so (Nat.le_trans hz (by decide)) (fun b _ => by rw [row_depth]; omega) fun out hlen hout => ?_
  have eo : PySem.W.dataLe false tupI = leR := by
    rw [PySem.W.dataLe_eq]
    funext x y
    simp only [cond_false, row_lt]
    rfl
  rw [eo] at hout
  obtain ⟨ys, vy, dy⟩ := each_back hout
  obtain ⟨ep, he'⟩ := PyProof.Rows.sortedAll_at s.heap its out.toArray
  have len : ys.length ≤ sizeLine := by
    rw [vy.length, hlen]
    exact Nat.le_trans hz (by decide)
  exact ⟨.ref _, upd H (s.heap.objs.size + 1) (.lst ys), I.laid (t' := s.toks) (fun _ _ => PyProof.Rows.sortedAll_old) (Nat.le_succ _) ⟨len, out, ep, vy, he'⟩, rfl, q _ _ (I.hok.fresh (Nat.le_succ _)) dy⟩
end
end LG
/-! ### data with dicts at any place -/
namespace LG
open PySem PySem.Spec PyProof.Rows L2
mutual
inductive Dn (M : Addr → Prop) (K : PySem.W.Frag) (H : Hp) : V → PyData → Prop
  | non : Dn M K H .non .none
  | bl (b : Bool) : Dn M K H (.bl b) (.bool b)
  | int (i : Int) : Dn M K H (.int i) (.int i)
  | str (x : Str) : Dn M K H (.str x) (.str x)
  | lst {a : Addr} {xs : List V} {ds : List PyData} : ¬ M a → H a = some (.lst xs) → DnAll M K H xs ds → Dn M K H (.ref a) (.list ds)
  | tup {a : Addr} {xs : List V} {ds : List PyData} : SqT K H a xs → DnAll M K H xs ds → Dn M K H (.ref a) (.tuple ds)
  | dct {a : Addr} {kvs : List (Key × V)} {ds : List PyData} : ¬ M a → H a = some (.dK kvs) → DnAll M K H (kvs.map (·.2)) ds → Dn M K H (.ref a) (.dict ((kvs.map fun p => keyD p.1).zip ds))
inductive DnAll (M : Addr → Prop) (K : PySem.W.Frag) (H : Hp) : List V → List PyData → Prop
  | nil : DnAll M K H [] []
  | cons {v : V} {vs : List V} {d : PyData} {ds : List PyData} : Dn M K H v d → DnAll M K H vs ds → DnAll M K H (v :: vs) (d :: ds)
end
section
variable {M M' : Addr → Prop} {K : PySem.W.Frag} {H H' : Hp}
mutual
theorem Dt.dn : ∀ {v : V} {d : PyData}, Dt K H v d → Dn M K H v d
  | _, _, .non => .non
  | _, _, .bl b => .bl b
  | _, _, .int i => .int i
  | _, _, .str x => .str x
  | _, _, .tup h a => .tup h a.dn
theorem DtAll.dn : ∀ {vs : List V} {ds : List PyData}, DtAll K H vs ds → DnAll M K H vs ds
  | _, _, .nil => .nil
  | _, _, .cons h a => .cons h.dn a.dn
end
mutual
theorem Dn.stay (t : Go M H H') : ∀ {v : V} {d : PyData}, Dn M K H v d → Dn M K H' v d
  | _, _, .non => .non
  | _, _, .bl b => .bl b
  | _, _, .int i => .int i
  | _, _, .str x => .str x
  | _, _, .lst m h a => .lst m (t.out _ _ m h) (a.stay t)
  | _, _, .tup h a => .tup (t.seqT h) (a.stay t)
  | _, _, .dct m h a => .dct m (t.out _ _ m h) (a.stay t)
theorem DnAll.stay (t : Go M H H') : ∀ {vs : List V} {ds : List PyData}, DnAll M K H vs ds → DnAll M K H' vs ds
  | _, _, .nil => .nil
  | _, _, .cons h a => .cons (h.stay t) (a.stay t)
end
theorem DnAll.len : ∀ {vs : List V} {ds : List PyData}, DnAll M K H vs ds → vs.length = ds.length
  | _, _, .nil => rfl
  | _, _, .cons _ a => by rw [List.length_cons, List.length_cons, a.len]
theorem DnAll.at : ∀ {vs : List V} {ds : List PyData} {i : Nat} {d : PyData}, DnAll M K H vs ds → ds[i]? = some d → ∃ v, vs[i]? = some v ∧ Dn M K H v d
  | _, _, _, _, .nil, e => by simp at e
  | _, _, 0, _, .cons h _, e => by simp at e; subst e; exact ⟨_, rfl, h⟩
  | _, _, i + 1, d, .cons _ a, e => by simpa using a.at (i := i) (by simpa using e)
theorem DnAll.of : ∀ {vs : List V} {ds : List PyData} {i : Nat} {v : V}, DnAll M K H vs ds → vs[i]? = some v → ∃ d, ds[i]? = some d ∧ Dn M K H v d
  | _, _, _, _, .nil, e => by simp at e
  | _, _, 0, _, .cons h _, e => by simp at e; subst e; exact ⟨_, rfl, h⟩
  | _, _, i + 1, d, .cons _ a, e => by simpa using a.of (i := i) (by simpa using e)
theorem DnAll.app : ∀ {vs ws : List V} {ds es : List PyData}, DnAll M K H vs ds → DnAll M K H ws es → DnAll M K H (vs ++ ws) (ds ++ es)
  | _, _, _, _, .nil, b => b
  | _, _, _, _, .cons h a, b => .cons h (a.app b)
theorem DnAll.take : ∀ {vs : List V} {ds : List PyData} (n : Nat), DnAll M K H vs ds → DnAll M K H (vs.take n) (ds.take n)
  | _, _, 0, _ => .nil
  | _, _, _ + 1, .nil => .nil
  | _, _, n + 1, .cons h a => .cons h (a.take n)
theorem DnAll.drop : ∀ {vs : List V} {ds : List PyData} (n : Nat), DnAll M K H vs ds → DnAll M K H (vs.drop n) (ds.drop n)
  | _, _, 0, a => a
  | _, _, _ + 1, .nil => .nil
  | _, _, n + 1, .cons _ a => a.drop n
theorem DnAll.pick {xs : List V} {ds : List PyData} {i : Int} (a : DnAll M K H xs ds) (h0 : -(ds.length : Int) ≤ i) (h1 : i < (ds.length : Int)) : ∃ y e, atI xs i = some y ∧ e ∈ ds ∧ Dn M K H y e := by
  rw [← a.len] at h0 h1
  obtain ⟨j, y, hj, hy⟩ := at_any h0 h1
  obtain ⟨e, he, d⟩ := a.of hj
  exact ⟨y, e, hy, List.mem_of_getElem? he, d⟩
theorem Dn.ty {v : V} {d : PyData} (h : Dn M K H v d) : TyX K H v (.type (tyD d)) := by
  cases h with
  | non => exact .base .non
  | bl b => exact .base (.bl b)
  | int i => exact .base (.int i)
  | str x => exact .base (.str x)
  | lst _ h _ => exact tyx_lst (SqL.of h)
  | tup h _ => exact tyx_tup h
  | dct _ h _ => exact .base (.dK h)
theorem dn_tup {x : V} {ds : List PyData} (h : Dn M K H x (.tuple ds)) : ∃ a xs, x = .ref a ∧ SqT K H a xs ∧ DnAll M K H xs ds := by
  cases h with
  | tup h1 h2 => exact ⟨_, _, rfl, h1, h2⟩
theorem dn_int {x : V} {i : Int} (h : Dn M K H x (.int i)) : x = .int i := by
  cases h
  rfl
theorem dn_str {x : V} {i : Str} (h : Dn M K H x (.str i)) : x = .str i := by
  cases h
  rfl
/-- without dicts it is the library's data -/
theorem Dn.dp : ∀ (d : PyData) {v : V}, d.hasDict = false → Dn M K H v d → Dp K H v d
  | .none, _, _, .non => .non
  | .bool b, _, _, .bl _ => .bl b
  | .int i, _, _, .int _ => .int i
  | .str x, _, _, .str _ => .str x
  | .list ds, _, n, .lst _ h a => .lst (SqL.of h) (go ds (by simpa only [PyData.hasDict] using n) a)
  | .tuple ds, _, n, .tup h a => .tup h (go ds (by simpa only [PyData.hasDict] using n) a)
  | .dict _, _, n, _ => by simp [PyData.hasDict] at n
where go : ∀ (ds : List PyData) {vs : List V}, PyData.hasDictAll ds = false → DnAll M K H vs ds → DpAll K H vs ds
  | [], _, _, .nil => .nil
  | d :: ds, _, n, .cons h a => by
    simp only [PyData.hasDictAll, Bool.or_eq_false_iff] at n
    exact .cons (Dn.dp d n.1 h) (go ds n.2 a)
/-- the table of modules is no list of ours -/
def Sys (K : PySem.W.Frag) (H : Hp) : Prop := ∃ o u, H sysModules = some (.frz o u)
theorem Sys.same (s : Sys K H) (e : Same H H') : Sys K H' := by
  obtain ⟨o, u, h⟩ := s
  exact ⟨o, u, e _ _ h⟩
theorem Sys.go (s : Sys K H) (e : Go M H H') (m : ¬ M sysModules) : Sys K H' := by
  obtain ⟨o, u, h⟩ := s
  exact ⟨o, u, e.out _ _ m h⟩
theorem Sys.lst (s : Sys K H) {a : Addr} {xs : List V} (h : H a = some (.lst xs)) : sysModules ≠ a := by
  obtain ⟨o, u, e⟩ := s
  rintro rfl
  rw [e] at h
  cases h
theorem Sys.ne (s : Sys K H) {a : Addr} {xs : List V} (h : H a = some (.lst xs)) : ¬ sysModules = a := s.lst h
end
section
variable {X : Cx} {pins : List (Addr × Obj)} {σ : L2.St} {H : Hp} {s : Shared} {M : Addr → Prop}
mutual
theorem Dn.reads (I : Inv X pins σ H s) (S : Sys X.K H) : ∀ {v : V} {d : PyData}, Dn M X.K H v d → ∀ u : Value, RelV v u → ∃ as, Reads s.heap u d as ∧ sysModules ∉ as
  | _, _, .non, _, r => by
    cases r
    exact ⟨_, Reads.none, List.not_mem_nil⟩
  | _, _, .bl b, _, r => by
    cases r
    exact ⟨_, Reads.bool b, List.not_mem_nil⟩
  | _, _, .int i, _, r => by
    obtain ⟨t, rfl⟩ := r
    exact ⟨_, Reads.int i t, List.not_mem_nil⟩
  | _, _, .str x, _, r => by
    obtain ⟨t, rfl⟩ := r
    exact ⟨_, Reads.str x t, List.not_mem_nil⟩
  | _, _, .lst _ hs ha, _, r => by
    cases r
    obtain ⟨its, rv, ⟨o, n, ho, hc, _, hd⟩, _⟩ := I.list (SqL.of hs)
    obtain ⟨as, q1, q2⟩ := DnAll.reads I S ha its rv
    refine ⟨_, Reads.list ho hc hd (by simpa using q1), ?_⟩
    rw [List.mem_cons]
    rintro (e | e)
    · exact S.lst hs e
    · exact q2 e
  | _, _, .tup hs ha, _, r => by
    cases r
    obtain ⟨its, rv, ⟨o, ho, hc, n, hd⟩, _⟩ := I.tuple hs
    obtain ⟨as, q1, q2⟩ := DnAll.reads I S ha its rv
    exact ⟨_, Reads.tuple ho hc hd (by simpa using q1), q2⟩
  | _, _, .dct (a := a) (kvs := kvs) (ds := ds) _ hH ha, _, r => by
    cases r
    obtain ⟨_, sys, vs, kv, o, es, ep, ho, ex, hdat, _, ps, _⟩ := (show ObjOk X.prog X.w H s.heap a (.dK kvs) from I.hok a _ hH)
    obtain ⟨r1, r2⟩ := pairs_read kv ps
    have k1 := DtAll.bare I _ _ _ (keys_dt kvs) r1
    have len : (kvs.map fun p => keyD p.1).length = ds.length := by rw [List.length_map, ← ha.len, List.length_map]
    have z1 : ((kvs.map fun p => keyD p.1).zip ds).map (·.1) = kvs.map fun p => keyD p.1 := List.map_fst_zip (by rw [len]; exact Nat.le_refl _)
    have z2 : ((kvs.map fun p => keyD p.1).zip ds).map (·.2) = ds := List.map_snd_zip (by rw [len]; exact Nat.le_refl _)
    obtain ⟨as, q1, q2⟩ := DnAll.reads I S ha _ r2
    refine ⟨_, Reads.dict ho ex.1 hdat (by rw [z1]; exact k1) (by rw [z2]; exact q1), ?_⟩
    rw [List.mem_append, List.mem_singleton]
    rintro (e | e)
    · rw [← e] at sys
      simp at sys
    · exact q2 e
theorem DnAll.reads (I : Inv X pins σ H s) (S : Sys X.K H) : ∀ {vs : List V} {ds : List PyData}, DnAll M X.K H vs ds → ∀ us : List Value, Vals vs us → ∃ as, ReadsAll s.heap us ds as ∧ sysModules ∉ as
  | _, _, .nil, _, r => by
    cases r
    exact ⟨_, ReadsAll.nil, List.not_mem_nil⟩
  | _, _, .cons h1 h2, _, r => by
    cases r with
    | cons r1 r2 =>
      obtain ⟨as, q1, n1⟩ := Dn.reads I S h1 _ r1
      obtain ⟨bs, q2, n2⟩ := DnAll.reads I S h2 _ r2
      refine ⟨_, ReadsAll.cons q1 q2, ?_⟩
      rw [List.mem_append]
      rintro (e | e)
      · exact n1 e
      · exact n2 e
end
end
section
variable {X : Cx}
/-- repr of such data -/
def rRepN (K : PySem.W.Frag) : List V → Hp → VK → Prop := fun xs H Q => ∃ (M : Addr → Prop) (v : V) (d : PyData), xs = [v] ∧ Dn M K H v d ∧ Sys K H ∧ d.showable = true ∧ d.depth ≤ 60 ∧ d.shown.length ≤ sizeLine ∧ Q (.str d.shown) H
theorem call_repN (guard : X.A.guards = some []) (room : X.A.units + 64 < cLine) : CallR X (.builtin "repr") (rRepN X.K) := by
  intro pins s σ H xs us Q inv rel want
  obtain ⟨M, v, d, rfl, hd, S, h1, h2, h3, q⟩ := want
  cases rel with
  | cons r0 rr =>
  rename_i u us'
  cases rr
  obtain ⟨as, reads, no⟩ := Dn.reads inv S hd u r0
  have dict : d.hasDict = true → sysModules ∉ as := fun _ => no
  cases hd with
  | non =>
    cases r0
    exact PySem.P.repr_of_none ⟨.str _, H, inv.tok _, ⟨_, rfl⟩, by simpa only [PyData.shown] using q⟩
  | bl b =>
    cases r0
    refine PySem.P.repr_of_bool ⟨.str _, H, inv.tok _, ⟨_, rfl⟩, by simpa only [PyData.shown] using q⟩
  | int i =>
    obtain ⟨t, rfl⟩ := r0
    exact PySem.P.repr_of_int (by simpa [PyData.showable] using h1) ⟨.str _, H, inv.tok _, ⟨_, rfl⟩, by simpa only [PyData.shown] using q⟩
  | str x =>
    obtain ⟨t, rfl⟩ := r0
    exact PySem.P.repr_of_str ⟨.str _, H, inv.tok _, ⟨_, rfl⟩, by simpa only [PyData.shown] using q⟩ (by simpa only [PyData.shown] using h3)
  | lst _ _ _ =>
    cases r0
    exact repr_of_reads' reads h1 dict guard (by omega) (fun _ _ z => z) (fun h' u' tk keep => ⟨.str _, H, inv.kept keep, ⟨_, rfl⟩, q⟩) h3
  | tup _ _ =>
    cases r0
    exact repr_of_reads' reads h1 dict guard (by omega) (fun _ _ z => z) (fun h' u' tk keep => ⟨.str _, H, inv.kept keep, ⟨_, rfl⟩, q⟩) h3
  | dct _ _ _ =>
    cases r0
    exact repr_of_reads' reads h1 dict guard (by omega) (fun _ _ z => z) (fun h' u' tk keep => ⟨.str _, H, inv.kept keep, ⟨_, rfl⟩, q⟩) h3
end
end LG
/-! ### the end, the table of modules told apart -/
namespace LG
open PySem PySem.W PySem.Spec PyProof.Rows L2
section
variable {P : Program} {w : World} {K : PySem.W.Frag} {mg mb : Str → Option Value} {k : Nat} {fa a : Addr} {fd : FuncData} {x : Str} {sp : Sp} {s : Shared} {vs : List Value} {ns : List Int}
theorem endS_from (inK : K.In s.heap) (mains : s.heap.Ns mainGlobals mg) (blts : s.heap.Ns builtinsNs mb) (boot : ∀ y : Str, y ≠ "__name__" → mb y = bootBuiltins y) (noLim : s.heap.NoLimit) (gens : s.gens = #[])
    (obj : s.heap.get? a = some { cls := .type "list", data := .seq vs.toArray }) (room : Room k callerA) (goesF : ∀ base : Heap, K.In base → base.Ns mainGlobals mg → FnG P w K mg base k fa fd [x] sp)
    (bind : ∀ (s : Shared) (u : Value), BindsTo s fd ⟨[u], []⟩ [(x, u)]) (H : Hp) (only : ∀ b, H b = none ∨ ∃ o u, H b = some (.frz o u)) (held : HOk P w H s.heap) (alone : ∀ b, H b ≠ none → b = a ∨ b = sysModules) (away : ∀ b, H b ≠ none → K.lookup b = none)
    (want : sp [.ref a] H (fun v _ => v = .bl true) E0) :
    codeAny (model P w) callerA (.call (.ref fa) ⟨[.ref a], []⟩) (fun r s' => r = .ok (.ret (.bool true)) ∧ OldK s.heap s'.heap ∧ s'.os = s.os ∧ AllBare s'.gens) s := by
  have space : ∀ {b : Addr} {m : Str → Option Value}, b ≠ sysModules → s.heap.Ns b m → (hidT s.heap H).Ns b m := fun {b m} nb ⟨o, es, ep, e, d, more⟩ =>
    ⟨o, es, ep, hidT_get e (by
      cases q : H b with
      | none => rfl
      | some u =>
        rcases alone b (by rw [q]; exact nofun) with here | here
        · rw [here, obj] at e
          have e2 := Option.some.inj e
          rw [← e2] at d
          exact nomatch d
        · exact absurd here nb), d, more⟩
  have baseK : K.In (hidT s.heap H) := fun b o e => hidT_get (inK b o e) (by
    cases q : H b with
    | none => rfl
    | some u =>
      have no := away b (by rw [q]; exact nofun)
      rw [no] at e
      exact nomatch e)
  have lim : (hidT s.heap H).NoLimit := by
    obtain ⟨mc, h1, h2⟩ := noLim
    exact ⟨mc, space (by decide) h1, h2⟩
  have mains2 := space (by decide) mains
  have modu : Mod K mg (hidT s.heap H) := ⟨baseK, mains2, ⟨mb, space (by decide) blts, boot⟩, lim⟩
  have e0 : Env0 P w K mg (hidT s.heap H) callerA [] s H := ⟨rfl, modu, fun _ _ e => of_hidT e, Nat.le_of_eq (hidT_size _ _), trivial, (fun _ hb => absurd (show _ ∈ ([] : List Addr) from hb) List.not_mem_nil), held, .of_eq gens⟩
  refine codeAny_mono ((goesF _ baseK mains2).goes callerA [] s H [.ref a] [.ref a] _ E0 rfl room e0 (bind s (.ref a)) (.cons rfl .nil) want) fun r s' got => ?_
  cases r with
  | error _ => exact False.elim got
  | ok flow =>
  cases flow with
  | next => exact False.elim got
  | brk => exact False.elim got
  | cont => exact False.elim got
  | ret u =>
    obtain ⟨v, H', sameOs, bare, un, held', rel, yes⟩ := got
    have yes' : v = .bl true := yes
    subst yes'
    obtain rfl : u = Value.bool true := rel
    refine ⟨rfl, OldK.of_keep fun b o e => ?_, sameOs, bare⟩
    rcases only b with free | ⟨ob, xs, fz⟩
    · exact un.keep b o e free (fun z => nomatch z) (fun z => nomatch z)
    · obtain ⟨e1, _⟩ := held b _ fz
      obtain ⟨e2, _⟩ := held' b _ (un.frzs b ob _ fz)
      rw [e2, ← e1, e]
theorem endS_call (inK : K.In s.heap) (mains : s.heap.Ns mainGlobals mg) (blts : s.heap.Ns builtinsNs mb) (boot : ∀ y : Str, y ≠ "__name__" → mb y = bootBuiltins y) (noLim : s.heap.NoLimit) (gens : s.gens = #[])
    (obj : s.heap.get? a = some { cls := .type "list", data := .seq vs.toArray }) (numbs : PyProof.Rows.IntsAre vs ns) (small : ns.length ≤ sizeLine) (room : Room k callerA) (sysK : K.lookup sysModules = none) (seer : s.heap.NoSeer)
    (goesF : ∀ base : Heap, K.In base → base.Ns mainGlobals mg → FnG P w K mg base k fa fd [x] sp) (bind : ∀ (s : Shared) (u : Value), BindsTo s fd ⟨[u], []⟩ [(x, u)])
    (want : ∀ H : Hp, Sys K H → SqL K H a (ns.map V.int) → sp [.ref a] H (fun v _ => v = .bl true) E0) :
    codeAny (model P w) callerA (.call (.ref fa) ⟨[.ref a], []⟩) (fun r s' => r = .ok (.ret (.bool true)) ∧ OldK s.heap s'.heap ∧ s'.os = s.os ∧ AllBare s'.gens) s := by
  have rel := vals_ints numbs
  obtain ⟨ob, hob⟩ : ∃ ob, s.heap.get? sysModules = some ob := by
    obtain ⟨mm, ⟨o, es, ep, e, _⟩, _⟩ := seer.mods
    exact ⟨o, e⟩
  let two : Hp := fun b => if b = a ∧ K.lookup a = none then some (.frz { cls := .type "list", data := .seq vs.toArray } (.lst (ns.map V.int))) else if b = sysModules then some (.frz ob (.ext fun h => h.get? sysModules = some ob)) else none
  have only : ∀ b, two b = none ∨ ∃ o u, two b = some (.frz o u) := fun b => by
    by_cases h1 : b = a ∧ K.lookup a = none
    · exact .inr ⟨_, _, if_pos h1⟩
    · by_cases h2 : b = sysModules
      · exact .inr ⟨_, _, (if_neg h1).trans (if_pos h2)⟩
      · exact .inl ((if_neg h1).trans (if_neg h2))
  have alone : ∀ b, two b ≠ none → b = a ∨ b = sysModules := fun b h => by
    by_cases h1 : b = a ∧ K.lookup a = none
    · exact .inl h1.1
    · by_cases h2 : b = sysModules
      · exact .inr h2
      · exact absurd ((if_neg h1).trans (if_neg h2)) h
  have away : ∀ b, two b ≠ none → K.lookup b = none := fun b h => by
    by_cases h1 : b = a ∧ K.lookup a = none
    · rw [h1.1]
      exact h1.2
    · by_cases h2 : b = sysModules
      · rw [h2]
        exact sysK
      · exact absurd ((if_neg h1).trans (if_neg h2)) h
  have held : HOk P w two s.heap := fun b u z => by
    by_cases h1 : b = a ∧ K.lookup a = none
    · have e : two b = _ := if_pos h1
      rw [e] at z
      obtain rfl := Option.some.inj z
      rw [h1.1]
      exact ⟨obj, by rw [List.length_map]; exact small, vs, _, rel, obj⟩
    · by_cases h2 : b = sysModules
      · have e : two b = _ := (if_neg h1).trans (if_pos h2)
        rw [e] at z
        obtain rfl := Option.some.inj z
        rw [h2]
        exact ⟨hob, hob, ⟨_, hob⟩, fun h1 h2 e k => k _ e⟩
      · have e : two b = _ := (if_neg h1).trans (if_neg h2)
        rw [e] at z
        cases z
  have sys : Sys K two := by
    by_cases h1 : sysModules = a ∧ K.lookup a = none
    · exact ⟨_, _, if_pos h1⟩
    · exact ⟨_, _, (if_neg h1).trans (if_pos rfl)⟩
  refine endS_from inK mains blts boot noLim gens obj room goesF bind two only held alone away (want two sys ?_)
  cases hk : K.lookup a with
  | some o =>
    have e := inK a o hk
    rw [obj] at e
    obtain rfl := Option.some.inj e
    exact Or.inr ⟨_, vs.toArray, _, hk, rfl, rfl, rfl, by rw [List.size_toArray, numbs.length]; exact small, by simpa using rel⟩
  | none => exact .inl (.inr ⟨_, if_pos ⟨rfl, hk⟩⟩)
end
theorem walk_S {l : PySem.W.OpenLaw} {n k : Nat} {q : Program} {loose : List Str} {XP : (Str → Option Value) → Heap → Prop} {YP : World → Heap → Prop} {d : DefRec} {K : Params → PySem.W.Frag} {sp : PySem.W.Frag → Sp} {x : Str}
    (hn : l.most = some n) (small : n ≤ sizeLine) (plain : d.params.defaults = []) (room : Room k callerA) (hq : importsNone q = true) (hY : ∀ (w : World) (h : Heap), YP w h → (K w.params).In h)
    (F : ∀ (w : World) (mg : Str → Option Value) (fa : Addr) (h : Heap), (K w.params).In h → h.Ns mainGlobals mg → mg d.name = some (.ref fa) →
      ∃ fd : FuncData, (K w.params).lookup sysModules = none ∧ (∀ (s : Shared) (u : Value), BindsTo s fd ⟨[u], []⟩ [(x, u)]) ∧ ∀ base : Heap, (K w.params).In base → base.Ns mainGlobals mg → FnG l.prog w (K w.params) mg base k fa fd [x] (sp (K w.params)))
    (want : ∀ (K : PySem.W.Frag) (H : Hp) (a : Addr) (ns : List Int), ns.length ≤ n → Sys K H → SqL K H a (ns.map V.int) → sp K [.ref a] H (fun v _ => v = .bl true) E0) :
    PySem.W.WalkO q loose XP YP l.row.toRowW d [] (fun f vs => PySem.call f vs) := by
  refine Att.attach_call hn plain fun w s0 s1 mg mb fa o pm cd doc a vs ns ground told ho hd hcd hmg obj numbs many gens => ?_
  have inK := hY w _ told
  obtain ⟨fd, sysK, bind, goesF⟩ := F w mg fa _ inK ground.T.g hmg
  exact endS_call inK ground.T.g ground.T.b ground.T.builtins ground.T.nolimit gens obj numbs (Nat.le_trans many small) room sysK (ground.T.seer hq) goesF bind fun H S held => want (K w.params) H a ns many S held
end LG
/-! ### enumerate of a tuple, from 0 or from a count given by its name -/
namespace LG
open PySem PySem.Spec PyProof.Rows L2
/-- the tuple at a as it stands at each turn, each item in a new pair, counted from c -/
def IteT (K : PySem.W.Frag) (a : Addr) (c : Nat) : It :=
  ⟨fun i H => ∃ (xs : List V) (x : V), SqT K H a xs ∧ xs[i]? = some x, fun i H v H' => ∃ T x, v = .ref T ∧ H T = none ∧ H' = upd H T (.tup [.int ((c + i : Nat) : Int), x]) ∧ ∀ xs, SqT K H a xs → xs[i]? = some x, fun i H => ∃ xs : List V, SqT K H a xs ∧ xs.length = i⟩
theorem tuple_apart {h : Heap} {it a b : Addr} {i : Nat} {items : Array Value} (x : h.IsTupleIter it b i) (y : h.IsTuple a items) : a ≠ it := by
  rintro rfl
  obtain ⟨o, e, c, _⟩ := x
  obtain ⟨o2, e2, c2, _⟩ := y
  rw [e] at e2
  cases e2
  rw [c] at c2
  simp at c2
theorem enum_apart {h : Heap} {it a e : Addr} {i : Int} {old : Value} {items : Array Value} (x : IsEnum h e it i old) (y : h.IsTuple a items) : e ≠ a := by
  rintro rfl
  obtain ⟨o2, e2, c2, _⟩ := y
  rw [x] at e2
  cases e2
  simp at c2
theorem turn_enumT {P : Program} {w : World} {K : PySem.W.Frag} {elts : List Expr} {kk : Nat} {tpos : Pos} (a e it : Addr) (c : Nat) :
    Turn P w K (.Tuple elts kk tpos) (IteT K a c) [e, it] e (fun i h => (∃ old, IsEnum h e it ((c + i : Nat) : Int) old) ∧ h.IsTupleIter it a i ∧ e ≠ it) where
  mem := by simp
  obj := fun i h st b hb => by
    obtain ⟨⟨old, he⟩, ⟨o, ho, hc, hd⟩, _⟩ := st
    rcases List.mem_cons.mp hb with z | z
    · rw [z]; exact ⟨_, he, fun v q => nomatch q⟩
    · rw [List.mem_singleton.mp z]; exact ⟨o, ho, fun v q => by rw [hd] at q; cases q⟩
  keep := fun i h h' st k => let ⟨⟨old, he⟩, hi, hne⟩ := st; ⟨⟨old, k e (by simp) _ he⟩, hi.at fun o q => k it (by simp) o q, hne⟩
  item := by
    intro X hP hw hK hc i pins s σ H E I hf st hg
    subst hP hw hK
    obtain ⟨⟨old, he⟩, hit, hne⟩ := st
    obtain ⟨xs, x, hq, hx⟩ := hg
    obtain ⟨its, rv, p, hz⟩ := I.tuple hq
    obtain ⟨u, hu, ru⟩ := rv.get hx
    have hel : e < s.heap.objs.size := Heap.lt_size he
    have hil : it < s.heap.objs.size := by obtain ⟨_, q, _⟩ := hit; exact Heap.lt_size q
    have na := tuple_apart hit p
    have ne' := enum_apart he p
    have hh : X.A.in1.handled = none := I.ok.hd hc
    have il : i < its.toArray.size := by
      have := (List.getElem?_eq_some_iff.mp hu).1
      simpa using this
    refine wpAny_pyNext_enum_itemC (Draws.tuple (prog := X.prog) (w := X.w) hh it a na its.toArray) he ⟨hit, p⟩ il hne (by simp [hne, ne']) fun y h' tk hy ho st' hT hsz hk => ?_
    obtain ⟨hit', _⟩ := st'
    have hy : its.toArray[i]? = some y := hy
    obtain rfl : y = u := by
      have q : its.toArray[i]? = some u := by simpa using hu
      rw [hy] at q
      exact Option.some.inj q
    refine ⟨_, rfl, wpAny_letOwnedTupleGo_enum (s := { s with heap := h', toks := tk + 1 }) ho fun h'' he' sb => ?_⟩
    have hT2 := (sb.2 _ (Nat.ne_of_gt hel)).trans hT
    have new : ObjOk X.prog X.w (upd H s.heap.objs.size (.tup [.int ((c + i : Nat) : Int), x])) h'' s.heap.objs.size (.tup [.int ((c + i : Nat) : Int), x]) :=
      ⟨by show 2 ≤ sizeLine; decide, _, .cons ⟨tk, rfl⟩ (.cons ru .nil), ⟨_, hT2, rfl, _, rfl⟩⟩
    have I1 : Inv X pins σ (upd H s.heap.objs.size (.tup [.int ((c + i : Nat) : Int), x])) { s with heap := h'', toks := tk + 1 } :=
      I.turnedNew (ch := [e, it]) (fun b ob hb q => (sb.2 b (fun z => hb (by simp [z]))).trans (hk b ob (fun z => hb (by simp [z])) (fun z => hb (by simp [z])) q)) hf (Nat.le_refl _) new
    refine ⟨.ref s.heap.objs.size, _, I1, rfl, ⟨_, x, rfl, I.hok.fresh (Nat.le_refl _), rfl, fun ys hy => by rw [I.tuple_inj hy hq]; exact hx⟩, ⟨⟨y, ?_⟩, hit'.at fun o q => (sb.2 it (Ne.symm hne)).trans q, hne⟩, fun b hb => ?_⟩
    · rw [show ((c + (i + 1) : Nat) : Int) = ((c + i : Nat) : Int) + 1 by omega]
      exact he'
    · have hb' : b < s.heap.objs.size := by
        rcases List.mem_cons.mp hb with z | z
        · rw [z]; exact hel
        · rw [List.mem_singleton.mp z]; exact hil
      rw [upd_ne (Nat.ne_of_lt hb')]
      exact (hf b hb).1
  done := by
    intro X hP hw hK hc i pins s σ H E I hf st hg
    subst hP hw hK
    obtain ⟨⟨old, he⟩, hit, hne⟩ := st
    obtain ⟨xs, hq, hx⟩ := hg
    obtain ⟨its, rv, p, hz⟩ := I.tuple hq
    obtain ⟨f0, f1, f2, f3, f4, f5⟩ := hf it (by simp)
    have hl := rv.length
    have hh : X.A.in1.handled = none := I.ok.hd hc
    have na := tuple_apart hit p
    have ei : i = its.toArray.size := by simp; omega
    refine wpAny_pyNext_enum_endD (Draws.tuple (prog := X.prog) (w := X.w) hh it a na its.toArray) he ⟨by rw [← ei]; exact hit, p⟩ fun h' eb => ⟨rfl, I.turned (t' := s.toks) (fun b o hb q => eb b o hb q) f0 f1 f3 f4 f5⟩
  self := fun A i s Q E st h => let ⟨⟨_, he⟩, _⟩ := st; wpAny_pyIter_enum he h
set_option maxHeartbeats 1000000 in
theorem meets_enumT {v : Value} {o : Obj} {H : Heap → Prop} (B : Begins v o H) :
    Meets (Builtin.«enumerate.__new__» ⟨[.type "enumerate", v], []⟩) (fun _ R s => H s.heap ∧
      R (.ok (.ret (.ref (s.heap.push o).objs.size))) { s with heap := (s.heap.push o).push { cls := .type "enumerate", data := .fields #[.none, .bool false, .ref s.heap.objs.size, rawInt 0, .none, .none] } }) :=
  .of_wp fun prog w A R s h => by
    obtain ⟨hp, g, d, tk, os⟩ := s
    obtain ⟨h1, h⟩ := h
    have hsub := sub_enumerate
    have q1 : ∀ {A' : Around} {E : Value → Shared → Prop} {Q : Value → Shared → Prop}, Q (.ref hp.objs.size) ⟨hp.push o, g, d, tk, os⟩ → wpAny (model prog w) A' (pyIter v) Q E ⟨hp, g, d, tk, os⟩ :=
      fun q => B.iter prog w _ _ ⟨hp, g, d, tk, os⟩ _ h1 q
    wp_walk using q1
    refine wpAny_stack_any fun st => wpAny_pure ?_
    split
    · rename_i c _ _ _ _ _
      cases (c == Value.type "enumerate") <;> (wp_walk using q1; exact ⟨_, rfl, h⟩)
    · wp_walk using q1
      exact ⟨_, rfl, h⟩
theorem enum_beginsT {M0 : Program} {w : World} {A : Around} {E : Value → Shared → Prop} {s : Shared} {v : Value} {o : Obj} {H : Heap → Prop} {Q : Value → Shared → Prop} (B : Begins v o H) (h1 : H s.heap)
    (h : ∀ h', IsEnum h' (s.heap.objs.size + 1) s.heap.objs.size 0 .none → h'.get? s.heap.objs.size = some o → h'.objs.size = s.heap.objs.size + 2 →
      (∀ b o, s.heap.get? b = some o → h'.get? b = some o) → Q (.ref (s.heap.objs.size + 1)) { s with heap := h' }) :
    wpAny (model M0 w) A (call (.type "enumerate") [v]) Q E s := by
  refine callType_new F.called_enumerate (by decide) (F.typeCall_enumerate_1 _) (F.newCall_enumerate_1 _) (fun obj => F.args_object_init_2 obj _) F.entry_enumerate_new (meets_enumT B) ⟨h1, ?_⟩
  have hz : (s.heap.push o).objs.size = s.heap.objs.size + 1 := Heap.size_push ..
  show _ ∧ _
  rw [hz]
  have he := Heap.get?_push_size (s.heap.push o) (o := { cls := .type "enumerate", data := .fields #[.none, .bool false, .ref s.heap.objs.size, rawInt 0, .none, .none] }) rfl
  rw [hz] at he
  exact ⟨⟨_, he, rfl⟩, h _ he (Heap.get?_push_of_some _ (Heap.get?_push_size _ B.free)) (by rw [Heap.size_push, hz]) fun b o x => Heap.get?_push_of_some _ (Heap.get?_push_of_some _ x)⟩
def iEnT (K : PySem.W.Frag) (ta : TA) : TI := fun σ H R => ta σ H fun vs H1 => ∃ a xs, vs = [.ref a] ∧ SqT K H1 a xs ∧ R (IteT K a 0) H1
def iEnTS (K : PySem.W.Frag) (ta tk : TA) : TI := fun σ H R => ta σ H fun vs H1 => tk σ H1 fun zs H2 => ∃ a xs c, vs = [.ref a] ∧ zs = [.int ((c : Nat) : Int)] ∧ c ≤ 1000 ∧ SqT K H2 a xs ∧ R (IteT K a c) H2
section
variable {X : Cx} {e : Expr} {ta tk : TA} {p pos tpos : Pos} {elts : List Expr} {kk : Nat} {kws : List Keyword}
theorem pi_enT (hg : Gl X "enumerate") (hm : X.mg "enumerate" = none) (ha : PA X [e] ta) (hs : starEach [e] X.env = [(false, eval e X.env)] := by rfl) :
    PI X (.Tuple elts kk tpos) (.Call (.Name "enumerate" p) [e] [] pos) (iEnT X.K ta) := by
  refine ⟨fun pins s σ H R I h => ?_⟩
  refine Call_ (ld_blt I hg hm boot_enumerate (PyProof.Rows.callWith_type1 (thn (ha.run pos pins s σ H _ I h) fun us s1 ⟨vs, H1, I1, r1, q1⟩ => ?_) hs rfl))
  obtain ⟨a, xs, rfl, hq, q⟩ := q1
  rw [Vals.ref1 r1]
  obtain ⟨its, rv, p', hz⟩ := I1.tuple hq
  refine enum_beginsT (begins_tuple a its.toArray) p' fun h' he hit hsz hk => wpAny_pyIter_enum he ?_
  have I2 : Inv X pins σ H1 { s1 with heap := h' } := I1.kept (t' := s1.toks) hk
  refine ⟨s1.heap.objs.size + 1, [s1.heap.objs.size + 1, s1.heap.objs.size], _, _, H1, rfl, I2, turn_enumT a (s1.heap.objs.size + 1) s1.heap.objs.size 0, ⟨⟨.none, he⟩, ⟨_, hit, rfl, rfl⟩, Nat.succ_ne_self _⟩, fun b hb => ?_, q⟩
  have hle : s1.heap.objs.size ≤ b := by
    rcases List.mem_cons.mp hb with z | z
    · rw [z]; exact Nat.le_add_right _ _
    · rw [List.mem_singleton.mp z]; exact Nat.le_refl _
  exact I1.fpOk hle (I1.hok.fresh hle)
theorem pi_enTS (hg : Gl X "enumerate") (hm : X.mg "enumerate" = none) (ha : PA X [e] ta) (hkw : PK X kws tk) (hall : (backToKw pos (keywordEach kws X.env)).all (·.1.isSome) = true := by rfl)
    (hks : (backToKw pos (keywordEach kws X.env)).filterMap (·.1) = [Str.ofString "start"] := by rfl) (he : starEach [e] X.env = (false, eval e X.env) :: starEach [] X.env := by rfl)
    (hpl : ((backTo pos (starEach [e] X.env)).any (·.1) || (backToKw pos (keywordEach kws X.env)).any (·.1.isNone)) = false := by rfl) :
    PI X (.Tuple elts kk tpos) (.Call (.Name "enumerate" p) [e] kws pos) (iEnTS X.K ta tk) := by
  refine ⟨fun pins s σ H R I h => ?_⟩
  refine wpAny_Call_Name_kw (ld_blt I hg hm boot_enumerate ?_)
  refine PySem.W.callWith_of (P := fun _ => True) hpl (fun _ _ => ⟨.machine, .inr (.inl rfl), .now⟩) (evalArgs_kw2 hall (thn (ha.run pos pins s σ H _ I h) fun us s1 ⟨vs, H1, I1, r, q⟩ => ?_) he)
  refine thn (hkw.run pos pins s1 σ H1 _ I1 q) fun ws s2 ⟨zs, H2, I2, rz, q2⟩ => ⟨trivial, ?_⟩
  rw [hks]
  obtain ⟨a, xs, c, rfl, rfl, few, hq, q⟩ := q2
  rw [Vals.ref1 r]
  cases rz with
  | cons r0 rr =>
  cases rr
  obtain ⟨t, rfl⟩ := r0
  obtain ⟨its, rv, p', hz⟩ := I2.tuple hq
  refine enum_begins_start (begins_tuple a its.toArray) p' (by omega) (by omega) fun h' he hit hsz hk => wpAny_pyIter_enum he ?_
  have I3 : Inv X pins σ H2 { s2 with heap := h' } := I2.kept (t' := s2.toks) hk
  refine ⟨s2.heap.objs.size + 1, [s2.heap.objs.size + 1, s2.heap.objs.size], _, _, H2, rfl, I3, turn_enumT a (s2.heap.objs.size + 1) s2.heap.objs.size c, ⟨⟨.none, he⟩, ⟨_, hit, rfl, rfl⟩, Nat.succ_ne_self _⟩, fun b hb => ?_, q⟩
  have hle : s2.heap.objs.size ≤ b := by
    rcases List.mem_cons.mp hb with z | z
    · rw [z]; exact Nat.le_add_right _ _
    · rw [List.mem_singleton.mp z]; exact Nat.le_refl _
  exact I2.fpOk hle (I2.hok.fresh hle)
end
end LG
/-! ### steps of a reading, one at a time -/
namespace LG
open PySem PySem.Spec PyProof.Rows L2
section
variable {σ : L2.St} {H : Hp} {Q : VK} {K : PySem.W.Frag} {n b c : L2.St → Hp → Prop} {r : VK}
theorem st_seq {t u : TS} (h : t ⟨u ⟨n, r, b, c⟩, r, b, c⟩ σ H) : tSeq t u ⟨n, r, b, c⟩ σ H := h
theorem st_next (h : n σ H) : tNext ⟨n, r, b, c⟩ σ H := h
theorem st_break (h : b σ H) : tBreak ⟨n, r, b, c⟩ σ H := h
theorem st_cont (h : c σ H) : tCont ⟨n, r, b, c⟩ σ H := h
theorem st_drop {te : TE} (h : te σ H fun _ H1 => n σ H1) : tDrop te ⟨n, r, b, c⟩ σ H := h
theorem st_ret {te : TE} (h : te σ H r) : tRet te ⟨n, r, b, c⟩ σ H := h
theorem st_retN (h : r .non H) : tRetN ⟨n, r, b, c⟩ σ H := h
theorem st_if {tc : TT} {t u : TS} (h : tc σ H fun k H1 => if k = true then t ⟨n, r, b, c⟩ σ H1 else u ⟨n, r, b, c⟩ σ H1) : tIfS tc t u ⟨n, r, b, c⟩ σ H := h
theorem st_asg {te : TE} {g : TG} (h : te σ H fun x H1 => g x σ H1 n) : tAsg te g ⟨n, r, b, c⟩ σ H := h
theorem st_name {i : Nat} {v : V} {q : L2.St → Hp → Prop} (h : q (σ.set i (some v)) H) : gName i v σ H q := h
theorem st_gnil {q : L2.St → Hp → Prop} (h : q σ H) : gNil [] σ H q := ⟨rfl, h⟩
theorem st_gcons {t : TG} {u : TGs} {v : V} {vs : List V} {q : L2.St → Hp → Prop} (h : t v σ H fun σ' H' => u vs σ' H' q) : gCons t u (v :: vs) σ H q := ⟨v, vs, rfl, h⟩
theorem st_gtup {m : Nat} {t : TGs} {a : Addr} {xs : List V} {q : L2.St → Hp → Prop} (hx : SqT K H a xs) (hl : xs.length = m) (h : t xs σ H q) : gTup K m t (.ref a) σ H q := ⟨a, xs, rfl, hx, hl, h⟩
theorem st_gsub {to ti : TE} {t : TSet} {v : V} {q : L2.St → Hp → Prop} (h : to σ H fun o H1 => ti σ H1 fun i H2 => t o i v H2 fun H3 => q σ H3) : gSub to ti t v σ H q := h
theorem st_aug {i : Nat} {te : TE} {ti : TIp} {x : V} (hx : σ[i]? = some (some x)) (h : te σ H fun y H1 => ti x y H1 fun z H2 => n (σ.set i (some z)) H2) : tAug i te ti ⟨n, r, b, c⟩ σ H := ⟨x, hx, h⟩
theorem st_var {i : Nat} {v : V} (hx : σ[i]? = some (some v)) (h : Q v H) : tVar i σ H Q := ⟨v, hx, h⟩
theorem st_c {v : V} (h : Q v H) : tC v σ H Q := h
theorem st_op {f : R2} {ta tb : TE} (h : ta σ H fun x H1 => tb σ H1 fun y H2 => f x y H2 Q) : tOp f ta tb σ H Q := h
theorem st_un {f : V → Hp → VK → Prop} {ta : TE} (h : ta σ H fun x H1 => f x H1 Q) : tUn f ta σ H Q := h
theorem st_test {t : TE} {q : Bool → Hp → Prop} (h : t σ H fun x H' => ∃ k, x = .bl k ∧ q k H') : tTest t σ H q := h
theorem st_B {t : TE} {q : Bool → Hp → Prop} (h : t σ H fun x H' => ∃ k, x = .bl k ∧ q k H') : tB t σ H q := h
theorem st_ex {k : Bool} {p : Bool → Prop} (h : p k) : ∃ k', V.bl k = .bl k' ∧ p k' := ⟨k, rfl, h⟩
theorem st_and {t u : TT} {q : Bool → Hp → Prop} (h : t σ H fun k H1 => if k = true then u σ H1 q else q false H1) : tAnd t u σ H q := h
theorem st_or {t u : TT} {q : Bool → Hp → Prop} (h : t σ H fun k H1 => if k = true then q true H1 else u σ H1 q) : tOr t u σ H q := h
theorem st_not {t : TT} {q : Bool → Hp → Prop} (h : t σ H fun k H1 => q (!k) H1) : tNot t σ H q := h
theorem st_andV {ta tb : TE} (h : ta σ H fun x H1 => ∃ k, x = .bl k ∧ if k = true then tb σ H1 Q else Q (.bl false) H1) : tAndV ta tb σ H Q := h
theorem st_orV {ta tb : TE} (h : ta σ H fun x H1 => ∃ k, x = .bl k ∧ if k = true then Q (.bl true) H1 else tb σ H1 Q) : tOrV ta tb σ H Q := h
theorem st_notV {ta : TE} (h : ta σ H fun x H1 => ∃ k, x = .bl k ∧ Q (.bl (!k)) H1) : tNotV ta σ H Q := h
theorem st_ife {t : TT} {ta tb : TE} (h : t σ H fun k H1 => if k = true then ta σ H1 Q else tb σ H1 Q) : L2.tIf t ta tb σ H Q := h
theorem st_isN {ta : TE} (h : ta σ H fun x H1 => Q (.bl (decide (x = .non))) H1) : tIsN ta σ H Q := h
theorem st_notN {ta : TE} (h : ta σ H fun x H1 => Q (.bl (!decide (x = .non))) H1) : tNotN ta σ H Q := h
theorem st_chain {f g : R2} {ta tb tc : TE} (h : ta σ H fun x H1 => tb σ H1 fun y H2 => f x y H2 fun z H3 => ∃ k, z = .bl k ∧ (if k = true then tc σ H3 fun w' H4 => g y w' H4 Q else Q (.bl false) H3)) : tChain f g ta tb tc σ H Q := h
theorem st_tup {t : TA} (h : t σ H fun xs H1 => xs.length ≤ sizeLine ∧ ∀ p, H1 p = none → Q (.ref p) (upd H1 p (.tup xs))) : tTup t σ H Q := h
theorem st_lst {t : TA} (h : t σ H fun xs H1 => xs.length ≤ sizeLine ∧ ∀ p, H1 p = none → Q (.ref p) (upd H1 p (.lst xs))) : tLst t σ H Q := h
theorem st_cons {ta : TE} {tr : TA} {q : List V → Hp → Prop} (h : ta σ H fun x H1 => tr σ H1 fun xs H2 => q (x :: xs) H2) : tCons ta tr σ H q := h
theorem st_nil {q : List V → Hp → Prop} (h : q [] H) : tNil σ H q := h
theorem st_CB {f : List V → Hp → VK → Prop} {t : TA} (h : t σ H fun vs H1 => f vs H1 Q) : tCB f t σ H Q := h
theorem st_call {sp : Sp} {dvs : List V} {E : XK} {t : TA} (h : t σ H fun vs H1 => sp (vs ++ dvs) H1 Q E) : tCall sp dvs E t σ H Q := h
theorem st_BM {T : String} {f : V → List V → Hp → VK → Prop} {to : TE} {t : TA} (h : to σ H fun x H1 => tyV K T x H1 ∧ t σ H1 fun xs H2 => f x xs H2 Q) : tBM K T f to t σ H Q := h
theorem st_BM0 {T : String} {f : V → List V → Hp → VK → Prop} {to : TE} (h : to σ H fun x H1 => tyV K T x H1 ∧ f x [] H1 Q) : tBM0 K T f to σ H Q := h
theorem st_sl {f : V → Option Int → Option Int → Hp → VK → Prop} {te : TE} {tl th : TO} (h : te σ H fun x H1 => tl σ H1 fun l H2 => th σ H2 fun u H3 => f x l u H3 Q) : tSl f te tl th σ H Q := h
theorem st_noPart {q : Option Int → Hp → Prop} (h : q none H) : tNoPart σ H q := h
theorem st_part {t : TE} {q : Option Int → Hp → Prop} (h : t σ H fun x H1 => ∃ i, x = .int i ∧ q (some i) H1) : tPart t σ H q := h
theorem st_exi {i : Int} {p : Int → Prop} (h : p i) : ∃ j, V.int i = .int j ∧ p j := ⟨i, rfl, h⟩
theorem st_I0 {g : Int → Int → V} {i j : Int} (h : Q (g i j) H) : rI0 g (.int i) (.int j) H Q := ⟨i, j, rfl, rfl, h⟩
theorem st_I {C : Int → Int → Prop} {g : Int → Int → V} {i j : Int} (hc : C i j) (h : Q (g i j) H) : rI C g (.int i) (.int j) H Q := ⟨i, j, rfl, rfl, hc, h⟩
theorem st_add {i j : Int} (h : Q (.int (i + j)) H) : L2.rAdd (.int i) (.int j) H Q := ⟨i, j, rfl, rfl, h⟩
theorem st_sub {i j : Int} (h : Q (.int (i - j)) H) : L2.rSub (.int i) (.int j) H Q := ⟨i, j, rfl, rfl, h⟩
theorem st_U {g : Int → V} {i : Int} (h : Q (g i) H) : rU g (.int i) H Q := ⟨i, rfl, h⟩
theorem st_eq {x y : V} (hs : scal x y = true) (h : Q (.bl (decide (x = y))) H) : rEq x y H Q := ⟨hs, h⟩
theorem st_ne {x y : V} (hs : scal x y = true) (h : Q (.bl (!decide (x = y))) H) : rNe x y H Q := ⟨hs, h⟩
theorem st_list {tl : TE} {R : It → Hp → Prop} (h : tl σ H fun x H1 => ∃ a, x = .ref a ∧ (∃ xs, SqL K H1 a xs) ∧ R (Itl K a) H1) : iList K tl σ H R := h
theorem st_itup {tl : TE} {R : It → Hp → Prop} (h : tl σ H fun x H1 => ∃ a, x = .ref a ∧ (∃ xs, SqT K H1 a xs) ∧ R (Itt K a) H1) : iTup K tl σ H R := h
theorem st_rng1 {ta : TA} {R : It → Hp → Prop} (h : ta σ H fun vs H1 => ∃ j : Int, vs = [.int j] ∧ -(2 ^ 62) ≤ j ∧ j < 2 ^ 62 ∧ R (Itr 0 j.toNat) H1) : iRng1 ta σ H R := h
theorem st_rng2 {ta : TA} {R : It → Hp → Prop} (h : ta σ H fun vs H1 => ∃ i j : Int, vs = [.int i, .int j] ∧ (-(2 ^ 62) ≤ i ∧ i < 2 ^ 62 ∧ -(2 ^ 62) ≤ j ∧ j < 2 ^ 62) ∧ R (Itr i (j - i).toNat) H1) : iRng2 ta σ H R := h
theorem st_lc {wi : TI} {g : TG} {tt : TT} {te : TE} {vs : List Nat} (h : wi σ H fun J H1 => ∀ D, H1 D = none → ∃ W : Nat → Nat → Hp → Prop, (∃ m, W 0 m (upd H1 D (.lst []))) ∧ ∀ i m H, W i m H →
    (J.stop i H ∧ Q (.ref D) H) ∨ (J.go i H ∧ ∃ Nx : Hp → Prop, (∀ H', Nx H' → ∃ m', m' < m ∧ W (i + 1) m' H') ∧ ∀ x H', J.yld i H x H' → g x (wipe σ vs) H' fun σ2 H2 => wipe σ2 vs = wipe σ vs ∧ tt σ2 H2 fun b H3 =>
      if b = true then te σ2 H3 fun y H4 => ∃ acc, H4 D = some (.lst acc) ∧ acc.length < sizeLine ∧ Nx (upd H4 D (.lst (acc ++ [y]))) else Nx H3)) : tLc wi g tt te vs σ H Q := h
theorem st_for {wi : TI} {g : TG} {tb : TS} (h : wi σ H fun J H1 => ∃ W : Nat → Nat → L2.St → Hp → Prop, (∃ m, W 0 m σ H1) ∧ ∀ i m σ H, W i m σ H →
    (J.stop i H ∧ n σ H) ∨ (J.go i H ∧ ∃ N : L2.St → Hp → Prop, (∀ σ' H', N σ' H' → ∃ m', m' < m ∧ W (i + 1) m' σ' H') ∧ ∀ x H', J.yld i H x H' → g x σ H' fun σ2 H2 => tb ⟨N, r, n, N⟩ σ2 H2)) : tFor wi g tb ⟨n, r, b, c⟩ σ H := h
theorem st_yes {q : Bool → Hp → Prop} (h : q true H) : tYes σ H q := h
theorem st_wipe {σ1 σ2 : L2.St} {vs : List Nat} {A : Prop} (e : wipe σ1 vs = wipe σ2 vs) (h : A) : wipe σ1 vs = wipe σ2 vs ∧ A := ⟨e, h⟩
theorem st_rj {j : Int} {R : Int → Prop} (h1 : -(2 ^ 62) ≤ j) (h2 : j < 2 ^ 62) (h : R j) : ∃ k : Int, [V.int j] = [.int k] ∧ -(2 ^ 62) ≤ k ∧ k < 2 ^ 62 ∧ R k := ⟨j, rfl, h1, h2, h⟩
theorem st_rij {i j : Int} {R : Int → Int → Prop} (h1 : -(2 ^ 62) ≤ i ∧ i < 2 ^ 62 ∧ -(2 ^ 62) ≤ j ∧ j < 2 ^ 62) (h : R i j) : ∃ k l : Int, [V.int i, V.int j] = [.int k, .int l] ∧ (-(2 ^ 62) ≤ k ∧ k < 2 ^ 62 ∧ -(2 ^ 62) ≤ l ∧ l < 2 ^ 62) ∧ R k l := ⟨i, j, rfl, h1, h⟩
theorem st_srcT {a : Addr} {xs : List V} {R : Addr → Prop} (hx : SqT K H a xs) (h : R a) : ∃ b, V.ref a = .ref b ∧ (∃ ys, SqT K H b ys) ∧ R b := ⟨a, rfl, ⟨xs, hx⟩, h⟩
theorem st_srcL {a : Addr} {xs : List V} {R : Addr → Prop} (hx : SqL K H a xs) (h : R a) : ∃ b, V.ref a = .ref b ∧ (∃ ys, SqL K H b ys) ∧ R b := ⟨a, rfl, ⟨xs, hx⟩, h⟩
theorem st_call0 {sp : Sp} {E : XK} {t : TA} (h : t σ H fun vs H1 => sp vs H1 Q E) : tCall sp [] E t σ H Q := by
  show t σ H fun vs H1 => sp (vs ++ []) H1 Q E
  simp only [List.append_nil]
  exact h
theorem st_int1 {i : Int} {P : Int → Prop} {R : Prop} (h : P i) : (∃ j, [V.int i] = [.int j] ∧ P j) ∨ R := .inl ⟨i, rfl, h⟩
theorem st_int1b {k : Bool} {P : Bool → Prop} {R : Prop} (h : P k) : R ∨ (∃ j, [V.bl k] = [.bl j] ∧ P j) := .inr ⟨k, rfl, h⟩
theorem st_ints {i : Int} {P : Int → Prop} (h : P i) : ∃ j, [V.int i] = [.int j] ∧ P j := ⟨i, rfl, h⟩
theorem st_ints2 {i j : Int} {P : Int → Int → Prop} (h : P i j) : ∃ k l, [V.int i, V.int j] = [.int k, .int l] ∧ P k l := ⟨i, j, rfl, h⟩
theorem st_lenL {a : Addr} {xs : List V} {P : List V → Prop} (hx : SqL K H a xs) (h : P xs) : ∃ p ys, [V.ref a] = [.ref p] ∧ (SqL K H p ys ∨ SqT K H p ys) ∧ P ys := ⟨a, xs, rfl, .inl hx, h⟩
theorem st_lenT {a : Addr} {xs : List V} {P : List V → Prop} (hx : SqT K H a xs) (h : P xs) : ∃ p ys, [V.ref a] = [.ref p] ∧ (SqL K H p ys ∨ SqT K H p ys) ∧ P ys := ⟨a, xs, rfl, .inr hx, h⟩
theorem st_tupL {a : Addr} {xs : List V} {P : List V → Prop} {R : List V → Addr → Prop} (hx : SqL K H a xs) (h : P xs) : ∃ p ys, [V.ref a] = [.ref p] ∧ ((SqL K H p ys ∧ P ys) ∨ (SqT K H p ys ∧ R ys p)) := ⟨a, xs, rfl, .inl ⟨hx, h⟩⟩
theorem st_tupT {a : Addr} {xs : List V} {P : List V → Prop} {R : List V → Addr → Prop} (hx : SqT K H a xs) (h : R xs a) : ∃ p ys, [V.ref a] = [.ref p] ∧ ((SqL K H p ys ∧ P ys) ∨ (SqT K H p ys ∧ R ys p)) := ⟨a, xs, rfl, .inr ⟨hx, h⟩⟩
/-- a test that is decided, or is not -/
theorem st_y {p A B : Prop} [Decidable p] (hp : p) (h : A) : if decide p = true then A else B := by
  rw [if_pos (decide_eq_true hp)]
  exact h
theorem st_n {p A B : Prop} [Decidable p] (hp : ¬ p) (h : B) : if decide p = true then A else B := by
  rw [decide_eq_false hp]
  exact iteF h
theorem st_ny {p A B : Prop} [Decidable p] (hp : ¬ p) (h : A) : if (!decide p) = true then A else B := by
  rw [decide_eq_false hp]
  exact iteT h
theorem st_nn {p A B : Prop} [Decidable p] (hp : p) (h : B) : if (!decide p) = true then A else B := iteNS hp h
theorem st_two {p A B : Prop} [Decidable p] (h1 : p → A) (h2 : ¬ p → B) : if decide p = true then A else B := ite2 (fun z => h1 (of_decide_eq_true z)) fun z => h2 fun q => z (decide_eq_true q)
theorem st_ntwo {p A B : Prop} [Decidable p] (h1 : ¬ p → A) (h2 : p → B) : if (!decide p) = true then A else B := by
  by_cases q : p
  · exact st_nn q (h2 q)
  · exact st_ny q (h1 q)
theorem st_bool {k : Bool} {A B : Prop} (h1 : k = true → A) (h2 : k = false → B) : if k = true then A else B := by
  cases k with
  | true => exact iteT (h1 rfl)
  | false => exact iteF (h2 rfl)
/-- items and lengths -/
theorem st_ixT {a : Addr} {xs : List V} {i : Int} {v : V} (hx : SqT K H a xs) (hi : atI xs i = some v) (h : Q v H) : rIxT K (.ref a) (.int i) H Q := ⟨a, xs, i, v, rfl, rfl, hx, hi, h⟩
theorem st_ixL {a : Addr} {xs : List V} {i : Int} {v : V} (hx : SqL K H a xs) (hi : atI xs i = some v) (h : Q v H) : rIxL K (.ref a) (.int i) H Q := ⟨a, xs, i, v, rfl, rfl, hx, hi, h⟩
theorem st_app {l : Addr} {xs : List V} {y : V} (hl : H l = some (.lst xs)) (room : xs.length < sizeLine) (h : Q .non (upd H l (.lst (xs ++ [y])))) : rAppend (.ref l) [y] H Q := ⟨l, xs, y, rfl, rfl, hl, room, h⟩
theorem st_tyL {l : Addr} {xs : List V} {A : Prop} (hl : H l = some (.lst xs)) (h : A) : tyV K "list" (.ref l) H ∧ A := ⟨.inl ⟨rfl, _, SqL.of hl⟩, h⟩
theorem st_setL {l : Addr} {xs : List V} {k : Int} {j : Nat} {v : V} {q : Hp → Prop} (hl : H l = some (.lst xs)) (hk : ixN xs.length k = some j) (h : q (upd H l (.lst (xs.set j v)))) : rSetL (.ref l) (.int k) v H q := ⟨l, xs, k, j, rfl, rfl, hl, hk, h⟩
theorem st_new {xs : List V} {A : Prop} (hz : xs.length ≤ sizeLine) (h : A) : xs.length ≤ sizeLine ∧ A := ⟨hz, h⟩
/-! loops, the body a variable -/
theorem fr_range {lo : Int} {m : Nat} {B : (L2.St → Hp → Prop) → V → L2.St → Hp → Prop} {Qn : L2.St → Hp → Prop} {σ0 : L2.St} {H0 : Hp} (Pv : Nat → L2.St → Hp → Prop) (h0 : Pv 0 σ0 H0)
    (hs : ∀ i σ H, i < m → Pv i σ H → B (Pv (i + 1)) (.int (lo + i)) σ H) (hd : ∀ σ H, Pv m σ H → Qn σ H) :
    ∃ W : Nat → Nat → L2.St → Hp → Prop, (∃ k, W 0 k σ0 H0) ∧ ∀ i k σ H, W i k σ H →
      ((Itr lo m).stop i H ∧ Qn σ H) ∨ ((Itr lo m).go i H ∧ ∃ N : L2.St → Hp → Prop, (∀ σ' H', N σ' H' → ∃ k', k' < k ∧ W (i + 1) k' σ' H') ∧ ∀ x H', (Itr lo m).yld i H x H' → B N x σ H') := by
  refine ⟨fun i k σ H => k = m - i ∧ i ≤ m ∧ Pv i σ H, ⟨m, rfl, Nat.zero_le _, h0⟩, ?_⟩
  rintro i k σ H ⟨rfl, hi, p⟩
  by_cases hlt : i < m
  · refine .inr ⟨hlt, Pv (i + 1), fun σ' H' p' => ⟨m - (i + 1), by omega, rfl, hlt, p'⟩, fun x H' y => ?_⟩
    obtain ⟨e, y⟩ := y
    subst e y
    exact hs i σ _ hlt p
  · have e : i = m := by omega
    subst e
    exact .inl ⟨Nat.le_refl _, hd σ H p⟩
theorem fr_tup {a : Addr} {xs : List V} {B : (L2.St → Hp → Prop) → V → L2.St → Hp → Prop} {Qn : L2.St → Hp → Prop} {σ0 : L2.St} {H0 : Hp} (Pv : Nat → L2.St → Hp → Prop) (h0 : Pv 0 σ0 H0) (hl : ∀ i σ H, i ≤ xs.length → Pv i σ H → SqT K H a xs)
    (hs : ∀ i x σ H, xs[i]? = some x → Pv i σ H → B (Pv (i + 1)) x σ H) (hd : ∀ σ H, Pv xs.length σ H → Qn σ H) :
    ∃ W : Nat → Nat → L2.St → Hp → Prop, (∃ k, W 0 k σ0 H0) ∧ ∀ i k σ H, W i k σ H →
      ((Itt K a).stop i H ∧ Qn σ H) ∨ ((Itt K a).go i H ∧ ∃ N : L2.St → Hp → Prop, (∀ σ' H', N σ' H' → ∃ k', k' < k ∧ W (i + 1) k' σ' H') ∧ ∀ x H', (Itt K a).yld i H x H' → B N x σ H') := by
  refine ⟨fun i k σ H => k = xs.length - i ∧ i ≤ xs.length ∧ Pv i σ H, ⟨xs.length, rfl, Nat.zero_le _, h0⟩, ?_⟩
  rintro i k σ H ⟨rfl, hi, p⟩
  have q := hl i σ H hi p
  by_cases hlt : i < xs.length
  · refine .inr ⟨⟨xs, xs[i], q, by simp [hlt]⟩, Pv (i + 1), fun σ' H' p' => ⟨xs.length - (i + 1), by omega, rfl, hlt, p'⟩, fun x H' y => ?_⟩
    obtain ⟨e, y⟩ := y
    subst e
    exact hs i x σ _ (y xs q) p
  · have e : i = xs.length := by omega
    subst e
    exact .inl ⟨⟨xs, q, Nat.le_refl _⟩, hd σ H p⟩
theorem fr_list {a : Addr} {xs : List V} {B : (L2.St → Hp → Prop) → V → L2.St → Hp → Prop} {Qn : L2.St → Hp → Prop} {σ0 : L2.St} {H0 : Hp} (Pv : Nat → L2.St → Hp → Prop) (h0 : Pv 0 σ0 H0) (hl : ∀ i σ H, i ≤ xs.length → Pv i σ H → SqL K H a xs)
    (hs : ∀ i x σ H, xs[i]? = some x → Pv i σ H → B (Pv (i + 1)) x σ H) (hd : ∀ σ H, Pv xs.length σ H → Qn σ H) :
    ∃ W : Nat → Nat → L2.St → Hp → Prop, (∃ k, W 0 k σ0 H0) ∧ ∀ i k σ H, W i k σ H →
      ((Itl K a).stop i H ∧ Qn σ H) ∨ ((Itl K a).go i H ∧ ∃ N : L2.St → Hp → Prop, (∀ σ' H', N σ' H' → ∃ k', k' < k ∧ W (i + 1) k' σ' H') ∧ ∀ x H', (Itl K a).yld i H x H' → B N x σ H') := by
  refine ⟨fun i k σ H => k = xs.length - i ∧ i ≤ xs.length ∧ Pv i σ H, ⟨xs.length, rfl, Nat.zero_le _, h0⟩, ?_⟩
  rintro i k σ H ⟨rfl, hi, p⟩
  have q := hl i σ H hi p
  by_cases hlt : i < xs.length
  · refine .inr ⟨⟨xs, xs[i], q, by simp [hlt]⟩, Pv (i + 1), fun σ' H' p' => ⟨xs.length - (i + 1), by omega, rfl, hlt, p'⟩, fun x H' y => ?_⟩
    obtain ⟨e, y⟩ := y
    subst e
    exact hs i x σ _ (y xs q) p
  · have e : i = xs.length := by omega
    subst e
    exact .inl ⟨⟨xs, q, Nat.le_refl _⟩, hd σ H p⟩
end
/-! new objects, the heap behind them unnamed -/
section
variable {X : Cx} {es : List Expr} {t : TA} {pos : Pos}
theorem pa_weak (h : PA X es t) : PA X es (fun σ H Q => ∃ R : List V → Hp → Prop, t σ H R ∧ ∀ xs H1, R xs H1 → Q xs H1) :=
  ⟨fun pos pins s σ H Q I ⟨R, hR, hi⟩ => thn (h.run pos pins s σ H R I hR) fun us s1 ⟨vs, H1, I1, r, q⟩ => ⟨vs, H1, I1, r, hi vs H1 q⟩⟩
theorem pe_less {e : Expr} {t u : TE} (h : PE X e t) (i : ∀ σ H Q, u σ H Q → t σ H Q) : PE X e u := ⟨fun pins s σ H Q I q => h.run pins s σ H Q I (i σ H Q q)⟩
def tTupN (t : TA) : TE := fun σ H Q => t σ H fun xs H1 => xs.length ≤ sizeLine ∧ ∀ p H', H1 p = none → Same H1 H' → H' p = some (.tup xs) → Q (.ref p) H'
def tLstN (t : TA) : TE := fun σ H Q => t σ H fun xs H1 => xs.length ≤ sizeLine ∧ ∀ p H', H1 p = none → Same H1 H' → H' p = some (.lst xs) → Q (.ref p) H'
theorem pe_tupN {x1} (h : PA X es t) : PE X (.Tuple es x1 pos) (tTupN t) :=
  pe_less (pe_tup (pa_weak h)) fun σ H Q q => ⟨_, q, fun xs H1 z => ⟨z.1, fun p hp => z.2 p _ hp (same_new hp _) upd_same⟩⟩
theorem pe_lstN (h : PA X es t) : PE X (.List es pos) (tLstN t) :=
  pe_less (pe_lst (pa_weak h)) fun σ H Q q => ⟨_, q, fun xs H1 z => ⟨z.1, fun p hp => z.2 p _ hp (same_new hp _) upd_same⟩⟩
def rTupN (K : PySem.W.Frag) : List V → Hp → VK → Prop := fun vs H Q => ∃ (a : Addr) (xs : List V), vs = [.ref a] ∧ SqL K H a xs ∧ ∀ p H', H p = none → Same H H' → H' p = some (.tup xs) → Q (.ref p) H'
theorem call_tupN : CallR X (.type "tuple") (rTupN X.K) := fun pins s σ H vs us Q J r want => by
  obtain ⟨a, xs, rfl, h1, q⟩ := want
  exact call_tuple_of pins s σ H _ us Q J r ⟨a, xs, rfl, .inl ⟨h1, fun l hl => q l _ hl (same_new hl _) upd_same⟩⟩
def rListN (K : PySem.W.Frag) : List V → Hp → VK → Prop := fun vs H Q => ∃ (a : Addr) (xs : List V), vs = [.ref a] ∧ (SqL K H a xs ∨ SqT K H a xs) ∧ ∀ p H', H p = none → Same H H' → H' p = some (.lst xs) → Q (.ref p) H'
theorem call_listN : CallR X (.type "list") (rListN X.K) := fun pins s σ H vs us Q J r want => by
  obtain ⟨a, xs, rfl, h1, q⟩ := want
  exact call_list_of pins s σ H _ us Q J r ⟨a, xs, rfl, h1, fun l hl => q l _ hl (same_new hl _) upd_same⟩
def rSlN (K : PySem.W.Frag) : V → Option Int → Option Int → Hp → VK → Prop := fun x lo hi H Q => ∃ a xs, x = .ref a ∧ SqL K H a xs ∧ ∀ p H', H p = none → Same H H' → H' p = some (.lst (cutV xs lo hi)) → Q (.ref p) H'
theorem sl_listN : SlR X (rSlN X.K) := by
  intro pins s σ H x v vl vu lo hi sl Q inv rx hs pl pu want
  obtain ⟨a, xs, rfl, hx, q⟩ := want
  exact sl_list pins s σ H _ v vl vu lo hi sl Q inv rx hs pl pu ⟨a, xs, rfl, hx, fun p hp => q p _ hp (same_new hp _) upd_same⟩
def rCatN : R2 := fun x y H Q => ∃ l b xs zs, x = .ref l ∧ y = .ref b ∧ H l = some (.lst xs) ∧ H b = some (.lst zs) ∧ xs.length + zs.length ≤ sizeLine ∧ ∀ p H', H p = none → Same H H' → H' p = some (.lst (xs ++ zs)) → Q (.ref p) H'
theorem op_catN : OpR X (binaryOp .Add) rCatN := by
  intro pins s σ H x y v u Q inv rx ry want
  obtain ⟨l, b, xs, zs, rfl, rfl, hl, hb, hz, q⟩ := want
  exact op_cat pins s σ H _ _ v u Q inv rx ry ⟨l, b, xs, zs, rfl, rfl, hl, hb, hz, fun p hp => q p _ hp (same_new hp _) upd_same⟩
end
section
variable {σ : L2.St} {H : Hp} {Q : VK} {K : PySem.W.Frag}
theorem st_tupN {t : TA} (h : t σ H fun xs H1 => xs.length ≤ sizeLine ∧ ∀ p H', H1 p = none → Same H1 H' → H' p = some (.tup xs) → Q (.ref p) H') : tTupN t σ H Q := h
theorem st_lstN {t : TA} (h : t σ H fun xs H1 => xs.length ≤ sizeLine ∧ ∀ p H', H1 p = none → Same H1 H' → H' p = some (.lst xs) → Q (.ref p) H') : tLstN t σ H Q := h
theorem st_room {xs : List V} {A : Prop} (hz : xs.length ≤ 100000) (h : A) : xs.length ≤ sizeLine ∧ A := ⟨Nat.le_trans hz (by decide), h⟩
theorem st_rTup {a : Addr} {xs : List V} (hx : SqL K H a xs) (h : ∀ p H', H p = none → Same H H' → H' p = some (.tup xs) → Q (.ref p) H') : rTupN K [.ref a] H Q := ⟨a, xs, rfl, hx, h⟩
theorem st_rList {a : Addr} {xs : List V} (hx : SqT K H a xs) (h : ∀ p H', H p = none → Same H H' → H' p = some (.lst xs) → Q (.ref p) H') : rListN K [.ref a] H Q := ⟨a, xs, rfl, .inr hx, h⟩
theorem st_rSl {a : Addr} {xs : List V} {lo hi : Option Int} (hx : SqL K H a xs) (h : ∀ p H', H p = none → Same H H' → H' p = some (.lst (cutV xs lo hi)) → Q (.ref p) H') : rSlN K (.ref a) lo hi H Q := ⟨a, xs, rfl, hx, h⟩
theorem st_rCat {a b : Addr} {xs zs : List V} (hx : H a = some (.lst xs)) (hy : H b = some (.lst zs)) (hz : xs.length + zs.length ≤ 100000) (h : ∀ p H', H p = none → Same H H' → H' p = some (.lst (xs ++ zs)) → Q (.ref p) H') : rCatN (.ref a) (.ref b) H Q := ⟨a, b, xs, zs, rfl, rfl, hx, hy, Nat.le_trans hz (by decide), h⟩
theorem st_rCut {a : Addr} {xs : List V} {lo hi : Option Int} (hx : SqT K H a xs) (h : ∀ p H', Same H H' → SqT K H' p (cutV xs lo hi) → Q (.ref p) H') : LG.rCut K (.ref a) lo hi H Q := ⟨a, xs, rfl, hx, h⟩
theorem st_rPlus {a b : Addr} {xs ys : List V} (hx : SqT K H a xs) (hy : SqT K H b ys) (hz : xs.length + ys.length ≤ 100000) (h : ∀ p H', Same H H' → SqT K H' p (xs ++ ys) → Q (.ref p) H') : LG.rPlus K (.ref a) (.ref b) H Q := ⟨a, b, xs, ys, rfl, rfl, hx, hy, Nat.le_trans hz (by decide), h⟩
end
/-! f(k = v, ..): a def that is called by names alone, in its parameters' order -/
section
def tCallK0 (sp : Sp) (E : XK) (tk : TA) : TE := fun σ H Q => tk σ H fun zs H2 => sp zs H2 Q E
structure HasK (P : Program) (w : World) (K : PySem.W.Frag) (mg : Str → Option Value) (base : Heap) (CX : CXT) (k : Nat) (x : Str) (ps : List Str) (sp : Sp) : Prop where
  ex : ∃ (f : Addr) (fd : FuncData), FnOk P w K mg base CX k f fd ps sp ∧ mg x = some (.ref f) ∧ PySem.W.keepIn K (.ref f) = true ∧ ∀ (s : Shared) (ws : List Value), ws.length = ps.length → BindsTo s fd ⟨[], ps.zip ws⟩ (ps.zip ws)
structure DefK (K : PySem.W.Frag) (mg : Str → Option Value) (x : Str) (st : Stmt) (ps : List Str) : Prop where
  ex : ∃ (f : Addr) (fd : FuncData), Fun K x x st f fd ∧ mg x = some (.ref f) ∧ ∀ (s : Shared) (ws : List Value), ws.length = ps.length → BindsTo s fd ⟨[], ps.zip ws⟩ (ps.zip ws)
theorem DefK.has {P : Program} {w : World} {K : PySem.W.Frag} {mg : Str → Option Value} {base : Heap} {CX : CXT} {k : Nat} {x : Str} {ps : List Str} {sp : Sp} {st : Stmt} (d : DefK K mg x st ps) (h : ∀ (f : Addr) (fd : FuncData), Fun K x x st f fd → FnOk P w K mg base CX k f fd ps sp) : HasK P w K mg base CX k x ps sp := by
  obtain ⟨f, fd, F, m, b⟩ := d.ex
  exact ⟨f, fd, h f fd F, m, F.kp, b⟩
variable {X : Cx} {CX : CXT} {k j : Nat} {ps : List Str} {sp : Sp} {x : Str} {p pos : Pos} {E : XK} {kws : List Keyword} {tk : TA}
theorem pcK0 (h : HasK X.prog X.w X.K X.mg X.base CX k x ps sp) (hr : Room j X.A) (hx : Passes CX X E) (hkw : PK X kws tk) (hg : Gl X x := by rfl) (hj : k ≤ j := by first | decide | omega)
    (hall : (backToKw pos (keywordEach kws X.env)).all (·.1.isSome) = true := by rfl) (hks : (backToKw pos (keywordEach kws X.env)).filterMap (·.1) = ps := by rfl) (hdb : (x == ("__debug__" : Str)) = false := by decide)
    (hpl : ((backTo pos (starEach [] X.env)).any (·.1) || (backToKw pos (keywordEach kws X.env)).any (·.1.isNone)) = false := by rfl) : PE X (.Call (.Name x p) [] kws pos) (tCallK0 sp E tk) := by
  obtain ⟨f, fd, F, hm, hk, hb⟩ := h.ex
  refine ⟨fun pins s σ H Q I h => ?_⟩
  refine wpAny_Call_Name_kw (ld_glob I hg hm ?_ hdb)
  refine PySem.W.callWith_KW0 (h₀ := X.base) I.ok.mod.kin hk hall ?_ hpl
  refine thn (hkw.run pos pins s σ H _ I h) fun ws s2 ⟨zs, H2, I2, rz, q2⟩ => ⟨I2.kIn, ?_⟩
  rw [hks]
  have hl : ws.length = ps.length := by rw [← rz.length]; exact F.len _ _ _ _ q2
  refine wpAny_call (codeAny_mono (F.run X.A X.stack s2 H2 ⟨[], ps.zip ws⟩ ws zs Q E (hr.mono hj) I2.env0 (hb s2 ws hl) rz q2) fun r s' hq => ?_)
  cases r with
  | error e => exact hx pins σ H2 s2 e s' I2 hq
  | ok fl =>
    cases fl with
    | ret u => exact I2.after hq
    | next => exact False.elim hq
    | brk => exact False.elim hq
    | cont => exact False.elim hq
theorem st_callK0 {σ : L2.St} {H : Hp} {Q : VK} {t : TA} (h : t σ H fun vs H1 => sp vs H1 Q E) : tCallK0 sp E t σ H Q := h
end
end LG
namespace LG
open PySem PySem.Spec PyProof.Rows L2
def rMulLN : R2 := fun x y H Q => ∃ l k xs, x = .ref l ∧ y = .int k ∧ H l = some (.lst xs) ∧ 0 ≤ k ∧ k ≤ 100000 ∧ xs.length * k.toNat ≤ 100000 ∧ ∀ p H', H p = none → Same H H' → H' p = some (.lst (List.replicate k.toNat xs).flatten) → Q (.ref p) H'
theorem op_mulLN {X : Cx} : OpR X (binaryOp .Mult) rMulLN := by
  intro pins s σ H x y v u Q I rx ry h
  obtain ⟨l, k, xs, rfl, rfl, hl, h1, h2, hz, q⟩ := h
  exact op_rep pins s σ H _ _ v u Q I rx ry ⟨l, k, xs, rfl, rfl, hl, by omega, by omega, Nat.le_trans hz (by decide), fun p hp => q p _ hp (same_new hp _) upd_same⟩
def rRepTN (K : PySem.W.Frag) : R2 := fun x y H Q => ∃ l k xs, x = .ref l ∧ y = .int k ∧ SqT K H l xs ∧ xs ≠ [] ∧ 2 ≤ k ∧ k ≤ 1000 ∧ xs.length ≤ 1000 ∧ ∀ p H', H p = none → Same H H' → H' p = some (.tup (List.replicate k.toNat xs).flatten) → Q (.ref p) H'
theorem op_repTN {X : Cx} : OpR X (binaryOp .Mult) (rRepTN X.K) := by
  intro pins s σ H x y v u Q I rx ry h
  obtain ⟨l, k, xs, rfl, rfl, hl, h0, h1, h2, hz, q⟩ := h
  exact op_repT pins s σ H _ _ v u Q I rx ry ⟨l, k, xs, rfl, rfl, hl, h0, h1, h2, hz, fun p hp => q p _ hp (same_new hp _) upd_same⟩
theorem st_strs {x y : Str} {P : Str → Str → Prop} (h : P x y) : ∃ a b, V.str x = .str a ∧ V.str y = .str b ∧ P a b := ⟨x, y, rfl, rfl, h⟩
section
variable {σ : L2.St} {H : Hp} {Q : VK} {K : PySem.W.Frag}
theorem st_rep {v : V} {d : PyData} (hd : Dp K H v d) (h1 : d.showable = true ∧ d.depth ≤ 60 ∧ d.shown.length ≤ sizeLine) (h : Q (.str d.shown) H) : LG.rRep K [v] H Q := ⟨v, d, rfl, hd, h1.1, h1.2.1, h1.2.2, h⟩
theorem st_en {ta : TA} {R : It → Hp → Prop} (h : ta σ H fun vs H1 => ∃ a xs, vs = [.ref a] ∧ SqT K H1 a xs ∧ R (IteT K a 0) H1) : iEnT K ta σ H R := h
theorem st_enS {ta tk : TA} {R : It → Hp → Prop} (h : ta σ H fun vs H1 => tk σ H1 fun zs H2 => ∃ a xs c, vs = [.ref a] ∧ zs = [.int ((c : Nat) : Int)] ∧ c ≤ 1000 ∧ SqT K H2 a xs ∧ R (IteT K a c) H2) : iEnTS K ta tk σ H R := h
theorem st_srcE {a : Addr} {xs : List V} {R : Addr → Prop} (hx : SqT K H a xs) (h : R a) : ∃ b ys, [V.ref a] = [.ref b] ∧ SqT K H b ys ∧ R b := ⟨a, xs, rfl, hx, h⟩
theorem st_srcE1 {a : Addr} {xs : List V} {R : Addr → Nat → Prop} (hx : SqT K H a xs) (h : R a 1) : ∃ b ys c, [V.ref a] = [.ref b] ∧ [V.int 1] = [.int ((c : Nat) : Int)] ∧ c ≤ 1000 ∧ SqT K H b ys ∧ R b c := ⟨a, xs, 1, rfl, rfl, by decide, hx, h⟩
theorem st_dget {td ty : TE} (h : td σ H fun x H1 => ty σ H1 fun y H2 => ∃ a v, x = .ref a ∧ DGet H2 a y (some v) ∧ Q v H2) : tDGet td ty σ H Q := h
theorem st_disp {trs : List (TE × TE)} (h : ∀ p, H p = none → tPairs trs σ (upd H p (.dK [])) fun ps H2 => H2 p = some (.dK []) ∧ ∃ kvs : List (Key × V), ps = kvs.map (fun kv => (kV kv.1, kv.2)) ∧ kvs.length ≤ 15 ∧ Q (.ref p) (upd H2 p (.dK (mergeK [] kvs)))) : tDisp trs σ H Q := h
theorem st_pn {q : List (V × V) → Hp → Prop} (h : q [] H) : tPairs [] σ H q := h
theorem st_pc {tk tv : TE} {r : List (TE × TE)} {q : List (V × V) → Hp → Prop} (h : tk σ H fun x H1 => tv σ H1 fun y H2 => tPairs r σ H2 fun ps H3 => q ((x, y) :: ps) H3) : tPairs ((tk, tv) :: r) σ H q := h
theorem fr_enum {a : Addr} {xs : List V} {c : Nat} {B : (L2.St → Hp → Prop) → V → L2.St → Hp → Prop} {Qn : L2.St → Hp → Prop} {σ0 : L2.St} {H0 : Hp} (Pv : Nat → L2.St → Hp → Prop) (h0 : Pv 0 σ0 H0) (hl : ∀ i σ H, i ≤ xs.length → Pv i σ H → SqT K H a xs)
    (hs : ∀ i x σ H (T : Addr) (H' : Hp), xs[i]? = some x → Pv i σ H → H T = none → Same H H' → H' T = some (.tup [.int ((c + i : Nat) : Int), x]) → B (Pv (i + 1)) (.ref T) σ H') (hd : ∀ σ H, Pv xs.length σ H → Qn σ H) :
    ∃ W : Nat → Nat → L2.St → Hp → Prop, (∃ k, W 0 k σ0 H0) ∧ ∀ i k σ H, W i k σ H →
      ((IteT K a c).stop i H ∧ Qn σ H) ∨ ((IteT K a c).go i H ∧ ∃ N : L2.St → Hp → Prop, (∀ σ' H', N σ' H' → ∃ k', k' < k ∧ W (i + 1) k' σ' H') ∧ ∀ x H', (IteT K a c).yld i H x H' → B N x σ H') := by
  refine ⟨fun i k σ H => k = xs.length - i ∧ i ≤ xs.length ∧ Pv i σ H, ⟨xs.length, rfl, Nat.zero_le _, h0⟩, ?_⟩
  rintro i k σ H ⟨rfl, hi, p⟩
  have q := hl i σ H hi p
  by_cases hlt : i < xs.length
  · refine .inr ⟨⟨xs, xs[i], q, by simp [hlt]⟩, Pv (i + 1), fun σ' H' p' => ⟨xs.length - (i + 1), by omega, rfl, hlt, p'⟩, fun x H' y => ?_⟩
    obtain ⟨T, z, rfl, hT, rfl, y⟩ := y
    exact hs i z σ H T _ (y xs q) p hT (same_new hT _) upd_same
  · have e : i = xs.length := by omega
    subst e
    exact .inl ⟨⟨xs, q, rfl⟩, hd σ H p⟩
end
end LG
/-! a def that is called without its last values -/
namespace LG
open PySem PySem.Spec PyProof.Rows L2
structure HasD (P : Program) (w : World) (K : PySem.W.Frag) (mg : Str → Option Value) (base : Heap) (CX : CXT) (k : Nat) (x : Str) (ps : List Str) (dvs : List V) (sp : Sp) : Prop where
  ex : ∃ (f : Addr) (fd : FuncData) (ds : List Value), FnOk P w K mg base CX k f fd ps sp ∧ mg x = some (.ref f) ∧ PySem.W.keepIn K (.ref f) = true ∧ Vals dvs ds ∧ Binds K fd ps ds
section
variable {X : Cx} {k j : Nat} {ps : List Str} {sp : Sp} {x : Str} {p pos : Pos} {e : Expr} {es : List Expr} {t : TA} {dvs : List V}
theorem pcD (h : HasD X.prog X.w X.K X.mg X.base CX0 k x ps dvs sp) (hr : Room j X.A) (ha : PA X (e :: es) t) (hg : Gl X x := by rfl) (hj : k ≤ j := by first | decide | omega) (hdb : (x == ("__debug__" : Str)) = false := by decide)
    (he : starEach (e :: es) X.env = (false, eval e X.env) :: starEach es X.env := by rfl) (hpl : (backTo pos (starEach es X.env)).any (·.1) = false := by rfl) : PE X (.Call (.Name x p) (e :: es) [] pos) (tCall sp dvs E0 t) := by
  obtain ⟨f, fd, ds, F, m, kp, hv, b⟩ := h.ex
  exact pe_call F (hr.mono hj) hg m kp b hv pass0 ha hdb he hpl
theorem pcDX (h : HasD X.prog X.w X.K X.mg X.base (L2.CX X.prog X.w) k x ps dvs sp) (hr : Room j X.A) (ha : PA X (e :: es) t) (hg : Gl X x := by rfl) (hj : k ≤ j := by first | decide | omega) (hdb : (x == ("__debug__" : Str)) = false := by decide)
    (he : starEach (e :: es) X.env = (false, eval e X.env) :: starEach es X.env := by rfl) (hpl : (backTo pos (starEach es X.env)).any (·.1) = false := by rfl) : PE X (.Call (.Name x p) (e :: es) [] pos) (tCall sp dvs E0 t) := by
  obtain ⟨f, fd, ds, F, m, kp, hv, b⟩ := h.ex
  exact pe_call F (hr.mono hj) hg m kp b hv passL ha hdb he hpl
end
end LG
namespace LG
open PySem PySem.Spec PyProof.Rows L2
/-! ### defs that have values for what is not handed in -/
section
variable {P : Program} {w : World} {K : PySem.W.Frag} {mg : Str → Option Value} {base : Heap} {x : Str} {st : Stmt} {ps : List Str} {k : Nat} {sp : Sp} {CX : CXT} {dvs : List V}
abbrev FunV (K : PySem.W.Frag) (x : Str) (st : Stmt) (dvs : List V) (f : Addr) (fd : FuncData) : Prop := FunD K x x (defArgs st) (defBody st) (defScope st) dvs [] f fd
theorem funV_ok {f : Addr} {fd : FuncData} {N : List Str} (F : FunV K x st dvs f fd) (S : FnScope N ps (defScope st)) (many : ∀ vs H Q E, sp vs H Q E → vs.length = ps.length)
    (body : ∀ (cdv : Value) (A : Around) (outer : List Env) (s : Shared) (H : Hp) (vs : List V) (Q : VK) (E : XK), Room k (A.deeper (envOfC x (defScope st) s.heap.objs.size f cdv)) → sp vs H Q E →
      ∃ t, PSs (cxOf CX0 P w K mg base N x (defScope st) f cdv A outer s H E).nox (defBody st) t ∧ t { nx := fun _ H' => Q .non H', rt := Q } (start N vs) H) : FnOk P w K mg base CX0 (k + 1) f fd ps sp :=
  F.ok S many fun cdv A outer s H vs Q E hr want => by
    obtain ⟨t, ht, q⟩ := body cdv A outer s H vs Q E hr want
    exact ⟨t, ht.nox, q⟩
structure DefV (K : PySem.W.Frag) (mg : Str → Option Value) (x : Str) (st : Stmt) (ps : List Str) (dvs : List V) : Prop where
  ex : ∃ (f : Addr) (fd : FuncData), FunV K x st dvs f fd ∧ mg x = some (.ref f) ∧ Binds K fd ps []
theorem DefV.has (d : DefV K mg x st ps dvs) (h : ∀ (f : Addr) (fd : FuncData), FunV K x st dvs f fd → FnOk P w K mg base CX k f fd ps sp) : Has P w K mg base CX k x ps sp := by
  obtain ⟨f, fd, F, g, b⟩ := d.ex
  exact ⟨f, fd, h f fd F, g, F.kp, b⟩
theorem defV_mk {h : Heap} {f D : Addr} {od an : Option Addr} {sl : Array (Option Value)} {oc kV dc pm cd ct : Value} (X : K.In h) (G : h.Ns mainGlobals mg)
    (a : PySem.W.nsIn K mainGlobals x = some (some (.ref f))) (l : K.lookup f = some ⟨oc, od, .func (PySem.W.fnOf x x (defArgs st) (defBody st) (defScope st) (.ref D) kV dc pm an cd ct), sl⟩) (c : PySem.W.codeIn K cd x = true) (kp : PySem.W.keepIn K (.ref f) = true) (v : DflV K (.ref D) dvs) (ne : dvs ≠ [])
    (b : ∀ (T : Addr) (kV doc pm : Value) (an : Option Addr) (cdv ct : Value) (us its : List Value), us.length = ps.length → its.length = dvs.length →
      ∃ kk, bindArgs (PySem.W.fnOf x x (defArgs st) (defBody st) (defScope st) (.ref T) kV doc pm an cdv ct) ⟨us, []⟩ = seqItems? (.ref T) >>= kk ∧ kk (some its.toArray) = pure (ps.zip (us ++ its.drop dvs.length))) : DefV K mg x st ps dvs := by
  have F : FunV K x st dvs f _ := ⟨⟨oc, od, .ref D, kV, dc, pm, an, cd, ct, sl, rfl, l, c, v, .inl rfl⟩, kp⟩
  obtain ⟨ds, hv, hb⟩ := FunD.binds1 F ps.length dvs.length ne (by omega) b
  rw [List.drop_length] at hv
  cases hv
  exact ⟨f, _, F, PySem.W.mg_of X G a, hb⟩
structure DefD (K : PySem.W.Frag) (mg : Str → Option Value) (x : Str) (st : Stmt) (ps : List Str) (dvs : List V) : Prop where
  ex : ∃ (f : Addr) (fd : FuncData), FunV K x st dvs f fd ∧ mg x = some (.ref f) ∧ ∃ ds, Vals dvs ds ∧ Binds K fd ps ds
theorem DefD.has (d : DefD K mg x st ps dvs) (h : ∀ (f : Addr) (fd : FuncData), FunV K x st dvs f fd → FnOk P w K mg base CX k f fd ps sp) : HasD P w K mg base CX k x ps dvs sp := by
  obtain ⟨f, fd, F, g, ds, hv, b⟩ := d.ex
  exact ⟨f, fd, ds, h f fd F, g, F.kp, hv, b⟩
theorem defD_mk {h : Heap} {f D : Addr} {od an : Option Addr} {sl : Array (Option Value)} {oc kV dc pm cd ct : Value} (n : Nat) (X : K.In h) (G : h.Ns mainGlobals mg)
    (a : PySem.W.nsIn K mainGlobals x = some (some (.ref f))) (l : K.lookup f = some ⟨oc, od, .func (PySem.W.fnOf x x (defArgs st) (defBody st) (defScope st) (.ref D) kV dc pm an cd ct), sl⟩) (c : PySem.W.codeIn K cd x = true) (kp : PySem.W.keepIn K (.ref f) = true) (v : DflV K (.ref D) dvs) (ne : dvs ≠ []) (hn : n + dvs.length = ps.length)
    (b : ∀ (T : Addr) (kV doc pm : Value) (an : Option Addr) (cdv ct : Value) (us its : List Value), us.length = n → its.length = dvs.length →
      ∃ kk, bindArgs (PySem.W.fnOf x x (defArgs st) (defBody st) (defScope st) (.ref T) kV doc pm an cdv ct) ⟨us, []⟩ = seqItems? (.ref T) >>= kk ∧ kk (some its.toArray) = pure (ps.zip (us ++ its.drop 0))) : DefD K mg x st ps dvs := by
  have F : FunV K x st dvs f _ := ⟨⟨oc, od, .ref D, kV, dc, pm, an, cd, ct, sl, rfl, l, c, v, .inl rfl⟩, kp⟩
  obtain ⟨ds, hv, hb⟩ := FunD.binds1 F n 0 ne (by rw [Nat.sub_zero]; exact hn) b
  exact ⟨f, _, F, PySem.W.mg_of X G a, ds, hv, hb⟩
end
end LG
local macro_rules | `(tactic| close_w) => `(tactic| first | (exact Or.inl ⟨by omega, by omega⟩) | (exact Or.inr ⟨by omega, by omega⟩) | (exact And.intro (by omega) (by omega)) | (exact And.intro (by omega) (And.intro (by omega) (by omega))) | ((show (0 : Int) < _); omega) | ((show (0 : Int) ≤ _); omega) | omega)
local macro_rules | `(tactic| w_left) => `(tactic| (first
  | (with_reducible first
    | refine LG.st_seq ?_ | refine LG.st_asg ?_ | refine LG.st_c ?_ | refine LG.st_op ?_ | refine LG.st_cons ?_ | refine LG.st_nil ?_ | refine LG.st_name ?_ | refine LG.st_call0 ?_ | refine LG.st_callK0 ?_ | refine LG.st_CB ?_
    | refine LG.st_I0 ?_ | refine LG.st_ex ?_ | refine LG.st_exi ?_ | refine LG.st_test ?_ | refine LG.st_if ?_ | refine LG.st_tup ?_ | refine LG.st_tupN ?_ | refine LG.st_lstN ?_ | refine LG.st_lst ?_ | refine LG.st_drop ?_ | refine LG.st_ret ?_ | refine LG.st_retN ?_ | refine LG.st_next ?_
    | refine LG.st_BM ?_ | refine LG.st_BM0 ?_ | refine LG.st_sl ?_ | refine LG.st_noPart ?_ | refine LG.st_part ?_ | refine LG.st_list ?_ | refine LG.st_itup ?_ | refine LG.st_rng1 ?_ | refine LG.st_rng2 ?_
    | refine LG.st_add ?_ | refine LG.st_sub ?_ | refine LG.st_U ?_ | refine LG.st_and ?_ | refine LG.st_or ?_ | refine LG.st_not ?_ | refine LG.st_andV ?_ | refine LG.st_orV ?_ | refine LG.st_notV ?_ | refine LG.st_ife ?_ | refine LG.st_isN ?_ | refine LG.st_notN ?_ | refine LG.st_chain ?_ | refine LG.st_B ?_
    | refine LG.st_un ?_ | refine LG.st_lc ?_ | refine LG.st_for ?_ | refine LG.st_yes ?_ | refine LG.st_gnil ?_ | refine LG.st_gcons ?_ | refine LG.st_gsub ?_ | refine LG.st_break ?_ | refine LG.st_cont ?_ | refine L2.iteT ?_ | refine L2.iteF ?_)
  | ((with_reducible refine' LG.st_var ?hx ?_); (case hx => rfl)) | ((with_reducible refine' LG.st_aug ?hx ?_); (case hx => rfl)) | ((with_reducible refine LG.st_eq ?hx ?_); (case hx => rfl)) | ((with_reducible refine LG.st_ne ?hx ?_); (case hx => rfl)) | ((with_reducible refine LG.st_wipe ?hx ?_); (case hx => rfl))
  | ((with_reducible refine LG.st_I ?hx ?_); (case hx => close_w))
  | ((with_reducible refine LG.st_rj ?hx ?hy ?_); (case hx => omega); (case hy => omega)) | ((with_reducible refine LG.st_rij ?hx ?_); (case hx => omega))
  | (with_reducible first | refine LG.st_strs ?_ | refine LG.st_en ?_ | refine LG.st_enS ?_ | refine LG.st_dget ?_ | refine LG.st_disp ?_ | refine LG.st_pn ?_ | refine LG.st_pc ?_ | refine LG.st_call ?_)
  | (with_reducible first | refine LG.st_int1 ?_ | refine LG.st_ints ?_ | refine LG.st_ints2 ?_ | refine LG.st_int1b ?_)
  | ((with_reducible refine' LG.st_ixT ?hx ?hy ?_); (case hx => first | (with_reducible assumption) | exact L2.SqT.of (by with_reducible assumption)); (case hy => rfl))
  | ((with_reducible refine' LG.st_ixL ?hx ?hy ?_); (case hx => first | (with_reducible assumption) | exact L2.SqL.of (by with_reducible assumption)); (case hy => rfl))
  | ((with_reducible refine' LG.st_lenT ?hx ?_); (case hx => first | (with_reducible assumption) | exact L2.SqT.of (by with_reducible assumption)))
  | ((with_reducible refine' LG.st_lenL ?hx ?_); (case hx => first | (with_reducible assumption) | exact L2.SqL.of (by with_reducible assumption)))
  | ((with_reducible refine' LG.st_srcT ?hx ?_); (case hx => first | (with_reducible assumption) | exact L2.SqT.of (by with_reducible assumption)))
  | ((with_reducible refine' LG.st_srcE ?hx ?_); (case hx => first | (with_reducible assumption) | exact L2.SqT.of (by with_reducible assumption)))
  | ((with_reducible refine' LG.st_srcE1 ?hx ?_); (case hx => first | (with_reducible assumption) | exact L2.SqT.of (by with_reducible assumption)))
  | ((with_reducible refine' LG.st_srcL ?hx ?_); (case hx => first | (with_reducible assumption) | exact L2.SqL.of (by with_reducible assumption)))
  | ((with_reducible refine LG.st_room ?hx ?_); (case hx => first | (simp only [List.length_cons, List.length_nil]; omega) | simp))
  | ((with_reducible refine' LG.st_rTup ?hx ?_); (case hx => first | (with_reducible assumption) | exact L2.SqL.of (by with_reducible assumption)))
  | ((with_reducible refine' LG.st_rList ?hx ?_); (case hx => first | (with_reducible assumption) | exact L2.SqT.of (by with_reducible assumption)))
  | ((with_reducible refine' LG.st_rSl ?hx ?_); (case hx => first | (with_reducible assumption) | exact L2.SqL.of (by with_reducible assumption)))
  | ((with_reducible refine' LG.st_rCut ?hx ?_); (case hx => first | (with_reducible assumption) | exact L2.SqT.of (by with_reducible assumption)))
  | ((with_reducible refine' LG.st_tyL ?hx ?_); (case hx => with_reducible assumption))
))
local macro_rules | `(tactic| w_fin) => `(tactic| repeat w_left)
namespace Lw
open PySem PySem.Spec PyProof.Rows L2 LG
def top (i : Nat) : Stmt := PySem.Challenge.pw_looksfar_k17_view_in.main.body.getD i (.Pass ⟨0, 0, 0, 0⟩)
abbrev sis_number : Stmt := top 4
abbrev scheck_reach : Stmt := top 5
abbrev sother_side : Stmt := top 7
abbrev sview_in : Stmt := top 11
abbrev sends_of : Stmt := top 12
abbrev sinputs_of : Stmt := top 13
abbrev s_seen : Stmt := top 14
abbrev s_law_draws : Stmt := top 16
abbrev s_law_take : Stmt := top 17
abbrev s_law_order : Stmt := top 18
abbrev s_law_network : Stmt := top 19
abbrev s_law_behind : Stmt := top 20
abbrev s_law_walk : Stmt := top 21
abbrev s_law_refused : Stmt := top 22
abbrev s_law_all : Stmt := top 23
abbrev slaw : Stmt := top 24
/-- the built-ins that the text uses -/
structure Blt (mg : Str → Option Value) : Prop where
  abs : mg "abs" = none
  int : mg "int" = none
  len : mg "len" = none
  range : mg "range" = none
  tuple : mg "tuple" = none
  isinstance : mg "isinstance" = none
  bool : mg "bool" = none
  list : mg "list" = none
  repr : mg "repr" = none
  enumerate : mg "enumerate" = none
/-- the module's constants -/
structure Cst (mg : Str → Option Value) : Prop where
  MOST_REACH : ∃ t, mg "MOST_REACH" = some (.int 4 t)
  NO_COLOUR : ∃ t, mg "NO_COLOUR" = some (.int 0 t)
theorem _root_.L2.Room.units2 {k : Nat} {A : Around} (r : L2.Room k A) : A.units + 65 < cLine := by have := r.un; omega
/-! ### what a task is -/
def isNum (d : PyData) (lo hi : Int) : Bool := match d with
  | .int i => decide (lo ≤ i) && decide (i ≤ hi)
  | _ => false
def isInt2 : PyData → Bool
  | .int _ => true
  | .bool _ => true
  | _ => false
def isBool : PyData → Bool
  | .bool _ => true
  | _ => false
def isTup : PyData → Bool
  | .tuple _ => true
  | _ => false
theorem kit_int (d : PyData) : kitB (tyD d) "int" = some (isInt2 d) := by cases d <;> (simp only [tyD, isInt2]; decide +kernel)
theorem kit_bool (d : PyData) : kitB (tyD d) "bool" = some (isBool d) := by cases d <;> (simp only [tyD, isBool]; decide +kernel)
theorem kit_tup (d : PyData) : kitB (tyD d) "tuple" = some (isTup d) := by cases d <;> (simp only [tyD, isTup]; decide +kernel)
theorem isTup_of {d : PyData} (h : isTup d = true) : ∃ ds, d = .tuple ds := by
  cases d <;> first | exact ⟨_, rfl⟩ | cases h
/-- the number of an int -/
def numD : PyData → Int
  | .int i => i
  | _ => 0
/-- the ints of a tuple -/
def intsD : PyData → List Int
  | .tuple ds => ds.map numD
  | _ => []
theorem num_of {d : PyData} {lo hi : Int} (h : isNum d lo hi = true) : d = .int (numD d) ∧ lo ≤ numD d ∧ numD d ≤ hi := by
  cases d with
  | int i =>
    have h' : (decide (lo ≤ i) && decide (i ≤ hi)) = true := h
    rw [Bool.and_eq_true, decide_eq_true_eq, decide_eq_true_eq] at h'
    exact ⟨rfl, h'⟩
  | _ => cases h
section
variable {P : Program} {w : World} {K : PySem.W.Frag} {mg : Str → Option Value} {base : Heap}
theorem ints_vs {M : Addr → Prop} {H : Hp} : ∀ {ls : List Int} {xs : List V}, DnAll M K H xs (ls.map PyData.int) → xs = ls.map V.int
  | [], _, h => by
    cases h
    rfl
  | l :: ls, _, h => by
    cases h with
    | cons h1 h2 =>
      cases h1
      rw [List.map_cons, ← ints_vs h2]
theorem itz_walk {a b : Addr} {xs ys : List V} {B : (Hp → Prop) → V → Hp → Prop} {H0 : Hp} {Qd : Hp → Prop} (hl : xs.length = ys.length) (Pv : Nat → Hp → Prop) (h0 : Pv 0 H0) (hq : ∀ i H, Pv i H → SqT K H a xs ∧ SqT K H b ys)
    (hs : ∀ (i : Nat) (x y : V) (T : Addr) (H : Hp), xs[i]? = some x → ys[i]? = some y → Pv i H → H T = none → B (Pv (i + 1)) (.ref T) (upd H T (.tup [x, y]))) (hd : ∀ H, Pv xs.length H → Qd H) :
    ∃ W : Nat → Nat → Hp → Prop, (∃ m, W 0 m H0) ∧ ∀ i m H, W i m H →
      ((RZ.ItzT K a b).stop i H ∧ Qd H) ∨ ((RZ.ItzT K a b).go i H ∧ ∃ Nx : Hp → Prop, (∀ H', Nx H' → ∃ m', m' < m ∧ W (i + 1) m' H') ∧ ∀ x H', (RZ.ItzT K a b).yld i H x H' → B Nx x H') := by
  refine ⟨fun i m H => m = xs.length - i ∧ i ≤ xs.length ∧ Pv i H, ⟨xs.length, rfl, Nat.zero_le _, h0⟩, ?_⟩
  rintro i m H ⟨rfl, hi, p⟩
  obtain ⟨qx, qy⟩ := hq i H p
  by_cases hlt : i < xs.length
  · have hx : xs[i]? = some xs[i] := List.getElem?_eq_getElem hlt
    have hlt2 : i < ys.length := by omega
    have hy : ys[i]? = some ys[i] := List.getElem?_eq_getElem hlt2
    refine .inr ⟨⟨xs, ys, _, _, qx, qy, hx, hy⟩, Pv (i + 1), fun H' p' => ⟨xs.length - (i + 1), by omega, rfl, hlt, p'⟩, fun v H' y => ?_⟩
    obtain ⟨T, x', y', rfl, hT, rfl, f1, f2⟩ := y
    exact hs i x' y' T H (f1 xs qx) (f2 ys qy) p hT
  · have e : i = xs.length := by omega
    subst e
    exact .inl ⟨⟨xs, ys, qx, qy, Or.inl (Nat.le_refl _)⟩, hd H p⟩
theorem itt_walk {a : Addr} {xs : List V} {B : (Hp → Prop) → V → Hp → Prop} {H0 : Hp} {Qd : Hp → Prop} (Pv : Nat → Hp → Prop) (h0 : Pv 0 H0) (hl : ∀ i H, i ≤ xs.length → Pv i H → SqT K H a xs)
    (hs : ∀ i x H, xs[i]? = some x → Pv i H → B (Pv (i + 1)) x H) (hd : ∀ H, Pv xs.length H → Qd H) :
    ∃ W : Nat → Nat → Hp → Prop, (∃ m, W 0 m H0) ∧ ∀ i m H, W i m H →
      ((Itt K a).stop i H ∧ Qd H) ∨ ((Itt K a).go i H ∧ ∃ Nx : Hp → Prop, (∀ H', Nx H' → ∃ m', m' < m ∧ W (i + 1) m' H') ∧ ∀ x H', (Itt K a).yld i H x H' → B Nx x H') := by
  refine ⟨fun i m H => m = xs.length - i ∧ i ≤ xs.length ∧ Pv i H, ⟨xs.length, by simp, Nat.zero_le _, h0⟩, ?_⟩
  rintro i m H ⟨rfl, hi, p⟩
  have q := hl i H hi p
  by_cases hlt : i < xs.length
  · refine .inr ⟨⟨xs, xs[i], q, by simp [hlt]⟩, Pv (i + 1), fun H' p' => ⟨xs.length - (i + 1), by omega, rfl, hlt, p'⟩, fun x H' y => ?_⟩
    obtain ⟨e, y⟩ := y
    subst e
    exact hs i x _ (y xs q) p
  · have e : i = xs.length := by omega
    subst e
    exact .inl ⟨⟨xs, q, Nat.le_refl _⟩, hd H p⟩
theorem itr_walk {lo : Int} {n : Nat} {B : (Hp → Prop) → V → Hp → Prop} {H0 : Hp} {Qd : Hp → Prop} (Pv : Nat → Hp → Prop) (h0 : Pv 0 H0)
    (hs : ∀ i H, i < n → Pv i H → B (Pv (i + 1)) (.int (lo + i)) H) (hd : ∀ H, Pv n H → Qd H) :
    ∃ W : Nat → Nat → Hp → Prop, (∃ m, W 0 m H0) ∧ ∀ i m H, W i m H →
      ((Itr lo n).stop i H ∧ Qd H) ∨ ((Itr lo n).go i H ∧ ∃ Nx : Hp → Prop, (∀ H', Nx H' → ∃ m', m' < m ∧ W (i + 1) m' H') ∧ ∀ x H', (Itr lo n).yld i H x H' → B Nx x H') := by
  refine ⟨fun i m H => m = n - i ∧ i ≤ n ∧ Pv i H, ⟨n, by simp, Nat.zero_le _, h0⟩, ?_⟩
  rintro i m H ⟨rfl, hi, p⟩
  by_cases hlt : i < n
  · refine .inr ⟨hlt, Pv (i + 1), fun H' p' => ⟨n - (i + 1), by omega, rfl, hlt, p'⟩, fun x H' y => ?_⟩
    obtain ⟨e, y⟩ := y
    subst e y
    exact hs i _ hlt p
  · have e : i = n := by omega
    subst e
    exact .inl ⟨Nat.le_refl _, hd H p⟩
theorem itl_walk {a : Addr} {xs : List V} {B : (Hp → Prop) → V → Hp → Prop} {H0 : Hp} {Qd : Hp → Prop} (Pv : Nat → Hp → Prop) (h0 : Pv 0 H0) (hl : ∀ i H, i ≤ xs.length → Pv i H → SqL K H a xs)
    (hs : ∀ i x H, xs[i]? = some x → Pv i H → B (Pv (i + 1)) x H) (hd : ∀ H, Pv xs.length H → Qd H) :
    ∃ W : Nat → Nat → Hp → Prop, (∃ m, W 0 m H0) ∧ ∀ i m H, W i m H →
      ((Itl K a).stop i H ∧ Qd H) ∨ ((Itl K a).go i H ∧ ∃ Nx : Hp → Prop, (∀ H', Nx H' → ∃ m', m' < m ∧ W (i + 1) m' H') ∧ ∀ x H', (Itl K a).yld i H x H' → B Nx x H') := by
  refine ⟨fun i m H => m = xs.length - i ∧ i ≤ xs.length ∧ Pv i H, ⟨xs.length, by simp, Nat.zero_le _, h0⟩, ?_⟩
  rintro i m H ⟨rfl, hi, p⟩
  have q := hl i H hi p
  by_cases hlt : i < xs.length
  · refine .inr ⟨⟨xs, xs[i], q, by simp [hlt]⟩, Pv (i + 1), fun H' p' => ⟨xs.length - (i + 1), by omega, rfl, hlt, p'⟩, fun x H' y => ?_⟩
    obtain ⟨e, y⟩ := y
    subst e
    exact hs i x _ (y xs q) p
  · have e : i = xs.length := by omega
    subst e
    exact .inl ⟨⟨xs, q, Nat.le_refl _⟩, hd H p⟩
theorem word_eqv (d : PyData) (x : Str) : PyData.eqv d (.str x) = match d with
    | .str y => decide (y = x)
    | _ => false := by
  cases d with
  | str y =>
    simp only [PyData.eqv]
    by_cases h : y = x
    · rw [decide_eq_true h, h]
      exact beq_self_eq_true x
    · rw [decide_eq_false h]
      exact beq_eq_false_iff_ne.mpr h
  | _ => simp [PyData.eqv]
end
def isStrB : PyData → Bool
  | .str _ => true
  | _ => false
theorem kit_str (d : PyData) : kitB (tyD d) "str" = some (isStrB d) := by cases d <;> (simp only [tyD, isStrB]; decide +kernel)
/-- what the law holds against what was told: tuples of numbers, None and the word -/
inductive Pl : PyData → Prop
  | non : Pl .none
  | int (i : Int) : Pl (.int i)
  | word : Pl (.str "task")
  | tup {ds : List PyData} : (∀ d ∈ ds, Pl d) → ds.length ≤ 1000 → Pl (.tuple ds)
theorem deep_mem : ∀ {ds : List PyData} {d : PyData}, d ∈ ds → d.depth ≤ PyData.depthAll ds
  | x :: ds, d, h => by
    simp only [PyData.depthAll]
    rcases List.mem_cons.mp h with rfl | h
    · omega
    · have := deep_mem h
      omega
section
variable {P : Program} {w : World} {K : PySem.W.Frag} {mg : Str → Option Value} {base : Heap}
theorem lt_small {n : Nat} (h : n ≤ 100000) : n < sizeLine := Nat.lt_of_le_of_lt h (by decide)
theorem le_sz {n : Nat} (h : n ≤ 100000) : n ≤ sizeLine := Nat.le_of_lt (lt_small h)
theorem hand_out {H0 : Hp} {h d p : Addr} {ds : List Int} {n : Nat} (x : Hand H0 h d ds n) (hp : H0 p = none) : p ≠ h ∧ p ≠ d := ⟨(ne_of_none x.1 hp).symm, (ne_of_none x.2 hp).symm⟩
/-! ### rows that are tuples of their own -/
def RT (H : Hp) (v : V) (r : List Int) : Prop := ∃ t, v = .ref t ∧ H t = some (.tup (r.map V.int))
theorem RT.stay {H H' : Hp} {v : V} {r : List Int} (s : TupsStay H H') (h : RT H v r) : RT H' v r := by
  obtain ⟨t, rfl, e⟩ := h
  exact ⟨t, rfl, s _ _ (.inl ⟨_, rfl⟩) e⟩
theorem RT.dt {H : Hp} {v : V} {r : List Int} (h : RT H v r) : Dt K H v (tupI r) := by
  obtain ⟨t, rfl, e⟩ := h
  exact .tup (SqT.of e) (DtAll.ints r)
inductive RTs (H : Hp) : List V → List (List Int) → Prop
  | nil : RTs H [] []
  | cons {v : V} {vs : List V} {r : List Int} {rs : List (List Int)} : RT H v r → RTs H vs rs → RTs H (v :: vs) (r :: rs)
theorem RTs.stay {H H' : Hp} (s : TupsStay H H') : ∀ {vs : List V} {rs : List (List Int)}, RTs H vs rs → RTs H' vs rs
  | _, _, .nil => .nil
  | _, _, .cons h a => .cons (h.stay s) (a.stay s)
theorem RTs.len {H : Hp} : ∀ {vs : List V} {rs : List (List Int)}, RTs H vs rs → vs.length = rs.length
  | _, _, .nil => rfl
  | _, _, .cons _ a => by rw [List.length_cons, List.length_cons, a.len]
theorem RTs.app {H : Hp} : ∀ {vs ws : List V} {rs qs : List (List Int)}, RTs H vs rs → RTs H ws qs → RTs H (vs ++ ws) (rs ++ qs)
  | _, _, _, _, .nil, b => b
  | _, _, _, _, .cons h a, b => .cons h (a.app b)
theorem RTs.dt {H : Hp} : ∀ {vs : List V} {rs : List (List Int)}, RTs H vs rs → DtAll K H vs (rs.map tupI)
  | _, _, .nil => .nil
  | _, _, .cons h a => .cons h.dt a.dt
theorem RTs.of {H : Hp} : ∀ {vs : List V} {rs : List (List Int)} {i : Nat} {v : V}, RTs H vs rs → vs[i]? = some v → ∃ r, rs[i]? = some r ∧ RT H v r
  | _, _, _, _, .nil, e => by simp at e
  | _, _, 0, _, .cons h _, e => by simp at e; subst e; exact ⟨_, rfl, h⟩
  | _, _, i + 1, _, .cons _ a, e => by simpa using a.of (i := i) (by simpa using e)
theorem RTs.at {H : Hp} : ∀ {vs : List V} {rs : List (List Int)} {i : Nat} {r : List Int}, RTs H vs rs → rs[i]? = some r → ∃ v, vs[i]? = some v ∧ RT H v r
  | _, _, _, _, .nil, e => by simp at e
  | _, _, 0, _, .cons h _, e => by simp at e; subst e; exact ⟨_, rfl, h⟩
  | _, _, i + 1, _, .cons _ a, e => by simpa using a.at (i := i) (by simpa using e)
/-- sets of labels: addresses of lists, of tuples -/
inductive SLs (S : Addr → List V → Prop) : List V → List (List Int) → Prop
  | nil : SLs S [] []
  | cons {a : Addr} {vs : List V} {r : List Int} {rs : List (List Int)} : S a (r.map V.int) → SLs S vs rs → SLs S (.ref a :: vs) (r :: rs)
theorem SLs.imp {S S' : Addr → List V → Prop} (s : ∀ a xs, S a xs → S' a xs) : ∀ {vs : List V} {rs : List (List Int)}, SLs S vs rs → SLs S' vs rs
  | _, _, .nil => .nil
  | _, _, .cons h a => .cons (s _ _ h) (a.imp s)
theorem SLs.len {S : Addr → List V → Prop} : ∀ {vs : List V} {rs : List (List Int)}, SLs S vs rs → vs.length = rs.length
  | _, _, .nil => rfl
  | _, _, .cons _ a => by rw [List.length_cons, List.length_cons, a.len]
theorem SLs.app {S : Addr → List V → Prop} : ∀ {vs ws : List V} {rs qs : List (List Int)}, SLs S vs rs → SLs S ws qs → SLs S (vs ++ ws) (rs ++ qs)
  | _, _, _, _, .nil, b => b
  | _, _, _, _, .cons h a, b => .cons h (a.app b)
theorem SLs.of {S : Addr → List V → Prop} : ∀ {vs : List V} {rs : List (List Int)} {i : Nat} {v : V}, SLs S vs rs → vs[i]? = some v → ∃ a r, v = .ref a ∧ rs[i]? = some r ∧ S a (r.map V.int)
  | _, _, _, _, .nil, e => by simp at e
  | _, _, 0, _, .cons h _, e => by simp at e; subst e; exact ⟨_, _, rfl, rfl, h⟩
  | _, _, i + 1, _, .cons _ a, e => by simpa using a.of (i := i) (by simpa using e)
theorem SLs.at {S : Addr → List V → Prop} : ∀ {vs : List V} {rs : List (List Int)} {i : Nat} {r : List Int}, SLs S vs rs → rs[i]? = some r → ∃ a, vs[i]? = some (.ref a) ∧ S a (r.map V.int)
  | _, _, _, _, .nil, e => by simp at e
  | _, _, 0, _, .cons h _, e => by simp at e; subst e; exact ⟨_, rfl, h⟩
  | _, _, i + 1, _, .cons _ a, e => by simpa using a.at (i := i) (by simpa using e)
theorem SLs.take {S : Addr → List V → Prop} : ∀ {vs : List V} {rs : List (List Int)} (n : Nat), SLs S vs rs → SLs S (vs.take n) (rs.take n)
  | _, _, 0, _ => .nil
  | _, _, _ + 1, .nil => .nil
  | _, _, n + 1, .cons h a => .cons h (a.take n)
theorem SLs.drop {S : Addr → List V → Prop} : ∀ {vs : List V} {rs : List (List Int)} (n : Nat), SLs S vs rs → SLs S (vs.drop n) (rs.drop n)
  | _, _, 0, a => a
  | _, _, _ + 1, .nil => .nil
  | _, _, n + 1, .cons _ a => a.drop n
theorem SLs.set {S : Addr → List V → Prop} {b : Addr} {q : List Int} (h : S b (q.map V.int)) : ∀ {vs : List V} {rs : List (List Int)} (n : Nat), SLs S vs rs → SLs S (vs.set n (.ref b)) (rs.set n q)
  | _, _, _, .nil => .nil
  | _, _, 0, .cons _ a => .cons h a
  | _, _, n + 1, .cons h' a => .cons h' (a.set h n)
/-! ### a + b of such rows -/
def rPlusT : R2 := fun x y H Q => ∃ a b xs ys, x = .ref a ∧ y = .ref b ∧ H a = some (.tup xs) ∧ H b = some (.tup ys) ∧ xs.length + ys.length ≤ sizeLine ∧ ∀ p H', Same H H' → H' p = some (.tup (xs ++ ys)) → Q (.ref p) H'
theorem op_plusT {X : Cx} : OpR X (binaryOp .Add) rPlusT := by
  intro pins s σ H x y v u Q inv rx ry want
  obtain ⟨a, b, xs, ys, rfl, rfl, ha, hb, hz, q⟩ := want
  refine op_catA pins s σ H _ _ v u Q inv rx ry ⟨a, b, xs, ys, rfl, rfl, SqT.of ha, SqT.of hb, hz, fun e => q b H (Same.refl H) ?_, fun _ e => q a H (Same.refl H) ?_, fun _ _ p hp => q p _ (same_new hp _) upd_same⟩
  · rw [e]
    exact hb
  · rw [e, List.append_nil]
    exact ha
/-- a list of rows that grows -/
structure AccT (H0 : Hp) (q : Addr) (rs : List (List Int)) (H : Hp) : Prop where
  free : H0 q = none
  same : Same H0 H
  ex : ∃ acc, H q = some (.lst acc) ∧ RTs H acc rs
theorem AccT.start {H0 : Hp} {q : Addr} (h : H0 q = none) : AccT H0 q [] (upd H0 q (.lst [])) := ⟨h, same_new h _, [], upd_same, .nil⟩
theorem AccT.step {H0 H H' : Hp} {q : Addr} {rs : List (List Int)} (a : AccT H0 q rs H) (s : Same H H') : AccT H0 q rs H' := by
  obtain ⟨acc, e, d⟩ := a.ex
  exact ⟨a.free, a.same.trans s, acc, s _ _ e, d.stay s.tups⟩
theorem AccT.push {H0 H : Hp} {q : Addr} {rs : List (List Int)} {v : V} {r : List Int} (a : AccT H0 q rs H) (hv : RT H v r) : ∃ acc, H q = some (.lst acc) ∧ acc.length = rs.length ∧ AccT H0 q (rs ++ [r]) (upd H q (.lst (acc ++ [v]))) := by
  obtain ⟨acc, e, d0⟩ := a.ex
  have t := tups_lst (ys := acc ++ [v]) e
  exact ⟨acc, e, d0.len, a.free, same_own a.same a.free _, _, upd_same, (d0.stay t).app (.cons (hv.stay t) .nil)⟩
theorem eqv_all_i : ∀ a b : List Int, PyData.eqvAll (a.map PyData.int) (b.map PyData.int) = decide (a = b)
  | [], [] => by simp [PyData.eqvAll]
  | [], _ :: _ => by simp [PyData.eqvAll]
  | _ :: _, [] => by simp [PyData.eqvAll]
  | x :: a, y :: b => by
    rw [List.map_cons, List.map_cons, PyData.eqvAll, eqv_all_i a b]
    simp only [PyData.eqv]
    by_cases h : x = y
    · subst h
      simp
    · simp [h]
theorem eqv_i (a b : List Int) : PyData.eqv (tupI a) (tupI b) = decide (a = b) := by
  unfold tupI
  simp only [PyData.eqv]
  exact eqv_all_i a b
theorem any_i (rs : List (List Int)) (r : List Int) : ((rs.map tupI).any fun z => PyData.eqv z (tupI r)) = decide (r ∈ rs) := by
  rw [List.any_map]
  have e : ((fun z => PyData.eqv z (tupI r)) ∘ tupI) = fun a => decide (a = r) := by
    funext a
    exact eqv_i a r
  rw [e]
  induction rs with
  | nil => simp
  | cons a rs ih =>
    rw [List.any_cons, ih]
    by_cases h : a = r
    · simp [h]
    · have h' : ¬ r = a := fun z => h z.symm
      simp [h, h']
theorem lay_i : ∀ a : List Int, PyData.canLayAll0 (a.map PyData.int) = true
  | [] => by simp [PyData.canLayAll0]
  | x :: a => by
    rw [List.map_cons, PyData.canLayAll0, lay_i a]
    simp [PyData.canLay0]
theorem lay_t : ∀ rs : List (List Int), PyData.canLayAll0 (rs.map tupI) = true
  | [] => by simp [PyData.canLayAll0]
  | x :: a => by
    rw [List.map_cons, PyData.canLayAll0, lay_t a]
    unfold tupI
    simp only [PyData.canLay0]
    rw [lay_i]
    rfl
theorem dep_t : ∀ rs : List (List Int), PyData.depthAll (rs.map tupI) ≤ 1
  | [] => by simp [PyData.depthAll]
  | x :: a => by
    have := dep_t a
    rw [List.map_cons, PyData.depthAll, row_depth]
    omega
theorem shaped_i (r : List Int) : SeqAt.shaped (tupI r) = true := by
  unfold SeqAt.shaped
  rw [row_depth]
  unfold tupI
  simp only [PyData.canLay0]
  rw [lay_i]
  rfl
theorem shaped_l (rs : List (List Int)) : SeqAt.shaped (.list (rs.map tupI)) = true := by
  have e : (PyData.list (rs.map tupI)).depth ≤ 64 := by
    simp only [PyData.depth]
    have := dep_t rs
    omega
  unfold SeqAt.shaped
  rw [decide_eq_true e, Bool.and_true]
  simp only [PyData.canLay0]
  exact lay_t rs
theorem intsD_t (ns : List Int) : intsD (tupI ns) = ns := by
  show (ns.map PyData.int).map numD = ns
  rw [List.map_map]
  exact List.map_id'' (fun x => rfl) ns
theorem inV_int (z : Int) : ∀ ns : List Int, inV (.int z) (ns.map V.int) = decide (z ∈ ns)
  | [] => rfl
  | y :: ns => by
    have ih := inV_int z ns
    unfold inV at ih ⊢
    rw [List.map_cons, List.any_cons, ih]
    show (decide (y = z) || _) = _
    by_cases e : y = z
    · subst e
      simp
    · have e' : ¬ z = y := fun q => e q.symm
      simp [e, e']
theorem flat_ints (ns : List Int) : (ns.map V.int).all flatV = true := by simp [flatV]
/-- tuple(l) of a list; list(t) of a tuple -/
def rTupOfL (K : PySem.W.Frag) : List V → Hp → VK → Prop := fun vs H Q => ∃ (a : Addr) (xs : List V), vs = [.ref a] ∧ SqL K H a xs ∧ ∀ p, H p = none → Q (.ref p) (upd H p (.tup xs))
theorem call_tupL {X : Cx} : CallR X (.type "tuple") (rTupOfL X.K) := fun pins s σ H vs us Q J r want => by
  obtain ⟨a, xs, rfl, h1, q⟩ := want
  exact call_tuple_of pins s σ H _ us Q J r ⟨a, xs, rfl, .inl ⟨h1, q⟩⟩
def rListOfT (K : PySem.W.Frag) : List V → Hp → VK → Prop := fun vs H Q => ∃ (a : Addr) (xs : List V), vs = [.ref a] ∧ SqT K H a xs ∧ ∀ p, H p = none → Q (.ref p) (upd H p (.lst xs))
theorem call_listT {X : Cx} : CallR X (.type "list") (rListOfT X.K) := fun pins s σ H vs us Q J r want => by
  obtain ⟨a, xs, rfl, h1, q⟩ := want
  exact call_list_of pins s σ H _ us Q J r ⟨a, xs, rfl, .inr h1, q⟩
/-- x not in t -/
def rNotInTD (K : PySem.W.Frag) : R2 := fun x y H Q => ∃ d ds, Dp K H x d ∧ Dp K H y (.tuple ds) ∧ SeqAt.shaped d = true ∧ SeqAt.shaped (.list ds) = true ∧ Q (.bl (!ds.any fun z => PyData.eqv z d)) H
theorem op_notInTD {X : Cx} (hu : X.A.units + 65 < cLine) : OpR X (compareOp .NotIn) (rNotInTD X.K) := by
  intro pins s σ H x y v u Q J rx ry want
  obtain ⟨d, ds, hd, he, sd, se, q⟩ := want
  obtain ⟨as, r1⟩ := Dp.reads J d x v hd rx
  obtain ⟨bs, r2⟩ := Dp.reads J (.tuple ds) y u he ry
  exact SeqAt.notIn_tuple_reads r2 r1 (SeqAt.canLay_of_shaped se) (SeqAt.canLay_of_shaped sd) (room_in_shaped sd hu) ⟨.bl _, H, J, rfl, q⟩
theorem RT.dp {H : Hp} {v : V} {r : List Int} (h : RT H v r) : Dp K H v (tupI r) := by
  obtain ⟨t, rfl, e⟩ := h
  exact dp_row (SqT.of e)
theorem any_rows (rs : List (List Int)) (r : List Int) : ((rs.map tupI).any fun z => PyData.eqv z (tupI r)) = decide (r ∈ rs) := any_i rs r
theorem go_own {M : Addr → Prop} {H0 H : Hp} {q : Addr} (g : Go M H0 H) (f : H0 q = none) {xs : List V} (e : H q = some (.lst xs)) (ys : List V) : Go M H0 (upd H q (.lst ys)) :=
  ⟨fun b o n h => by
    have ne : b ≠ q := fun z => by
      rw [z, f] at h
      cases h
    rw [upd_ne ne]
    exact g.out b o n h, g.tups.trans (tups_lst e)⟩
/-- a list of data that grows -/
structure AccD (K : PySem.W.Frag) (H0 : Hp) (q : Addr) (rs : List PyData) (H : Hp) : Prop where
  free : H0 q = none
  same : Same H0 H
  ex : ∃ acc, H q = some (.lst acc) ∧ DtAll K H acc rs
theorem AccD.start {H0 : Hp} {q : Addr} (h : H0 q = none) : AccD K H0 q [] (upd H0 q (.lst [])) := ⟨h, same_new h _, [], upd_same, .nil⟩
theorem AccD.step {H0 H H' : Hp} {q : Addr} {rs : List PyData} (a : AccD K H0 q rs H) (s : Same H H') : AccD K H0 q rs H' := by
  obtain ⟨acc, e, d⟩ := a.ex
  exact ⟨a.free, a.same.trans s, acc, s _ _ e, d.stay s.tups⟩
theorem AccD.push {H0 H : Hp} {q : Addr} {rs : List PyData} {v : V} {r : PyData} (a : AccD K H0 q rs H) (hv : Dt K H v r) : ∃ acc, H q = some (.lst acc) ∧ acc.length = rs.length ∧ AccD K H0 q (rs ++ [r]) (upd H q (.lst (acc ++ [v]))) := by
  obtain ⟨acc, e, d0⟩ := a.ex
  have t := tups_lst (ys := acc ++ [v]) e
  exact ⟨acc, e, d0.len, a.free, same_own a.same a.free _, _, upd_same, (d0.stay t).app (.cons (hv.stay t) .nil)⟩
/-- a list of ints that grows -/
structure AccI (H0 : Hp) (q : Addr) (ns : List Int) (H : Hp) : Prop where
  free : H0 q = none
  same : Same H0 H
  ex : H q = some (.lst (ns.map V.int))
theorem AccI.start {H0 : Hp} {q : Addr} (h : H0 q = none) : AccI H0 q [] (upd H0 q (.lst [])) := ⟨h, same_new h _, upd_same⟩
theorem AccI.step {H0 H H' : Hp} {q : Addr} {ns : List Int} (a : AccI H0 q ns H) (s : Same H H') : AccI H0 q ns H' := ⟨a.free, a.same.trans s, s _ _ a.ex⟩
theorem AccI.push {H0 H : Hp} {q : Addr} {ns : List Int} (a : AccI H0 q ns H) (z : Int) : AccI H0 q (ns ++ [z]) (upd H q (.lst (ns.map V.int ++ [V.int z]))) :=
  ⟨a.free, same_own a.same a.free _, by rw [upd_same, List.map_append]; rfl⟩
theorem AccI.fin {H0 H : Hp} {q : Addr} {ns : List Int} {z : Int} {N : Hp → Prop} (a : AccI H0 q ns H) (few : ns.length ≤ 100000) (h : ∀ H', AccI H0 q (ns ++ [z]) H' → N H') : ∃ acc, H q = some (.lst acc) ∧ acc.length < sizeLine ∧ N (upd H q (.lst (acc ++ [V.int z]))) :=
  ⟨_, a.ex, lt_small (by rw [List.length_map]; exact few), h _ (a.push z)⟩
theorem AccT.fin {H0 H : Hp} {q : Addr} {rs : List (List Int)} {v : V} {r : List Int} {N : Hp → Prop} (a : AccT H0 q rs H) (hv : RT H v r) (few : rs.length ≤ 100000) (h : ∀ H', AccT H0 q (rs ++ [r]) H' → N H') : ∃ acc, H q = some (.lst acc) ∧ acc.length < sizeLine ∧ N (upd H q (.lst (acc ++ [v]))) := by
  obtain ⟨ac, e, l, a4⟩ := a.push hv
  exact ⟨ac, e, lt_small (by omega), h _ a4⟩
theorem AccD.fin {H0 H : Hp} {q : Addr} {rs : List PyData} {v : V} {r : PyData} {N : Hp → Prop} (a : AccD K H0 q rs H) (hv : Dt K H v r) (few : rs.length ≤ 100000) (h : ∀ H', AccD K H0 q (rs ++ [r]) H' → N H') : ∃ acc, H q = some (.lst acc) ∧ acc.length < sizeLine ∧ N (upd H q (.lst (acc ++ [v]))) := by
  obtain ⟨ac, e, l, a4⟩ := a.push hv
  exact ⟨ac, e, lt_small (by omega), h _ a4⟩
end
/-! ### the draws that the law makes of the script -/
section
variable {P : Program} {w : World} {K : PySem.W.Frag} {mg : Str → Option Value} {base : Heap}
/-- a new list of as many small numbers as are asked -/
def spDraws (K : PySem.W.Frag) : Sp := fun vs H Q _ => ∃ (a : Addr) (ns : List Int) (m : Nat), vs = [.ref a, .int m] ∧ SqL K H a (ns.map V.int) ∧ ns.length ≤ 63 ∧ m ≤ 2000 ∧
  ∀ (p : Addr) (H' : Hp) (ds : List Int), H p = none → Same H H' → H' p = some (.lst (ds.map V.int)) → ds.length = m → (∀ d ∈ ds, 0 ≤ d ∧ d < 2 ^ 31) → Q (.ref p) H'
theorem ok_draws {f : Addr} {fd : FuncData} (B : Blt mg) (F : Fun K "_law_draws" "_law_draws" s_law_draws f fd) : FnOk P w K mg base CX0 1 f fd ["script", "many"] (spDraws K) := by
  have sc : FnScope ["script", "many", "rests", "draws", "k", "cell", "mixed", "at"] ["script", "many"] (defScope s_law_draws) := ⟨rfl, rfl, rfl, by decide +kernel, rfl, by decide +kernel, by decide +kernel⟩
  refine F.ok sc (fun vs H Q E h => ?_) (fun cdv A outer s H vs Q E hr h => ?_)
  · obtain ⟨a, ns, m, rfl, _⟩ := h
    rfl
  obtain ⟨a, ns, m, rfl, hS, h63, hm, k⟩ := h
  refine ⟨_, (pss_cons (ps_setLc (i := 2) (own := [("cell", 5)]) (g := gName 5) (tt := tYes) rfl sc.nd rfl rfl (sw_true rfl rfl rfl (by decide +kernel)) (pi_list (pv 0)) (blkOk_by (N := ["script", "many", "rests", "draws", "k", "cell", "mixed", "at"]) (sc := defScope s_law_draws) (by decide +kernel)) (fun _ _ _ _ _ => pg_name (i := 5) sc.nd rfl (Or.inl rfl)) (fun _ _ _ _ _ => pts_nil) (fun _ _ _ _ _ => (pe_callB call_abs (by rfl) B.abs (by decide +kernel) (pa_cons (pe_callTy call_int1 (by rfl) B.int (by decide +kernel) (pa_cons (pv 5) pa_nil)) pa_nil))))
    (pss_cons (ps_set (i := 3) sc.nd rfl (Or.inl rfl) (pe_lst pa_nil))
    (pss_cons (ps_for PassesOwn.never rfl (pi_range1 (by rfl) B.range (pa_cons (pv 1) pa_nil)) (pg_name (i := 4) sc.nd rfl (Or.inl rfl))
      (pss_cons (ps_set (i := 5) sc.nd rfl (Or.inl rfl) (pv 4))
      (pss_cons (ps_if (pt_cmpR op_gt (pe_callB call_len_seq (by rfl) B.len (by decide +kernel) (pa_cons (pv 0) pa_nil)) pe_int (nomark _))
        (pss_cons (ps_set (i := 7) sc.nd rfl (Or.inl rfl) (pe_op op_mod (pv 4) (pe_callB call_len_seq (by rfl) B.len (by decide +kernel) (pa_cons (pv 0) pa_nil))))
        (pss_cons (ps_set (i := 5) sc.nd rfl (Or.inl rfl) (pe_callTy call_int1 (by rfl) B.int (by decide +kernel) (pa_cons (pe_ix ix_list (pv 0) (pv 7) (fun _ _ => rfl)) pa_nil)))
        (pss_one (ps_if (PW.pt (pw_and (pt_cmpR op_ge (pv 5) (pe_op op_pow pe_int pe_int) (nomark _)) (pw_and1 (pt_cmpR op_gt (pe_ix ix_list (pv 2) (pv 7) (fun _ _ => rfl)) pe_int (nomark _)))))
          (pss_cons (ps_expr (pe_bm PySem.F.plainAttrs_list PySem.F.slot_list_append PySem.F.type_list_append mt_append (pv 3) (pa_cons (pe_op op_mod (pe_callTy call_int1 (by rfl) B.int (by decide +kernel) (pa_cons (pe_ix ix_list (pv 2) (pv 7) (fun _ _ => rfl)) pa_nil)) pe_int) pa_nil)))
          (pss_cons (ps_asg (pe_op op_fdiv (pe_callTy call_int1 (by rfl) B.int (by decide +kernel) (pa_cons (pe_ix ix_list (pv 2) (pv 7) (fun _ _ => rfl)) pa_nil)) pe_int) (pg_sub (pv 2) (pv 7) set_list))
          (pss_one ps_continue)))
          pss_nil))))
        pss_nil)
      (pss_cons (ps_set (i := 6) sc.nd rfl (Or.inl rfl) (pe_op op_mod (pe_callTy call_int1 (by rfl) B.int (by decide +kernel) (pa_cons (pe_op op_add (pe_op op_add (pe_op op_mul (pv 5) pe_int) (pe_op op_mul (pv 4) pe_int)) pe_int) pa_nil)) pe_int))
      (pss_cons (ps_set (i := 6) sc.nd rfl (Or.inl rfl) (pe_op op_mod (pe_callTy call_int1 (by rfl) B.int (by decide +kernel) (pa_cons (pe_op op_add (pe_op op_fdiv (pe_op op_mul (pv 6) (pv 6)) pe_int) (pv 6)) pa_nil)) pe_int))
      (pss_one (ps_expr (pe_bm PySem.F.plainAttrs_list PySem.F.slot_list_append PySem.F.type_list_append mt_append (pv 3) (pa_cons (pe_op op_mod (pe_callTy call_int1 (by rfl) B.int (by decide +kernel) (pa_cons (pe_op op_add (pe_op op_fdiv (pe_op op_mul (pv 6) (pv 6)) pe_int) (pe_op op_mul (pv 4) pe_int)) pa_nil)) pe_int) pa_nil)))))))))
    (pss_one (ps_ret (pv 3)))))), ?_⟩
  -- rests
  refine ⟨_, rfl, a, rfl, ⟨_, hS⟩, fun r hr0 => ?_⟩
  refine lc_list (K := K) (a := a) (xs := ns.map V.int) (fun i H' => ∃ acc : List Int, acc.length = i ∧ H' r = some (.lst (acc.map V.int)) ∧ Same H H')
    ⟨[], rfl, upd_same, same_new hr0 _⟩ (fun i H' _ ⟨_, _, _, s⟩ => s.seq hS) ?_ ?_
  · rintro i y H' hi ⟨acc, hl, hD, s⟩
    obtain ⟨z, hz, rfl⟩ := item_of hi
    have hi63 : i < ns.length := (List.getElem?_eq_some_iff.mp hz).1
    refine ⟨rfl, ?_⟩

    refine ⟨_, rfl, .inl ⟨_, rfl, _, rfl, _, hD, small1000 (by rw [List.length_map]; omega), acc ++ [if z < 0 then -z else z], by simp [hl], ?_, same_own s hr0 _⟩⟩
    rw [upd_same, List.map_append]
    rfl
  rintro H1 ⟨rs, hrs, hr1, s1⟩
  rw [List.length_map] at hrs
  -- draws
  refine ⟨Nat.zero_le _, fun p hp1 => ?_⟩
  have hp0 : H p = none := s1.free hp1
  have npr : r ≠ p := ne_of_none hr1 hp1
  -- the loop
  refine ⟨_, rfl, (m : Int), rfl, by omega, by omega, for_range (lo := 0) (n := (m : Int).toNat) (fun i σ H' => ∃ (ds rs : List Int) (kv cv mv av : Option V), σ = [some (.ref a), some (.int m), some (.ref r), some (.ref p), kv, cv, mv, av] ∧
      H' r = some (.lst (rs.map V.int)) ∧ H' p = some (.lst (ds.map V.int)) ∧ rs.length = ns.length ∧ ds.length = i ∧ (∀ d ∈ ds, 0 ≤ d ∧ d < 2 ^ 31) ∧ Same H H')
    ⟨[], rs, none, none, none, none, rfl, by rw [upd_ne npr]; exact hr1, upd_same, hrs, rfl, by simp, same_own s1 hp0 _⟩ ?_ ?_⟩
  · rintro i σ H' hi ⟨ds, rs, kv, cv, mv, av, rfl, hr', hp', hrl, hdl, hb, s⟩
    have hi2 : ds.length < 2000 := by omega
    have grown : ∀ (d : Int), 0 ≤ d → d < 2 ^ 31 → ∀ z ∈ ds ++ [d], 0 ≤ z ∧ z < 2 ^ 31 := fun d h0 h1 z hz => by
      rcases List.mem_append.mp hz with q | q
      · exact hb z q
      · rw [List.mem_singleton.mp q]
        exact ⟨h0, h1⟩
    have put : ∀ (d : Int), (upd H' p (.lst (ds.map V.int ++ [V.int d]))) p = some (.lst ((ds ++ [d]).map V.int)) := fun d => by
      rw [upd_same, List.map_append]
      rfl
    have room : (ds.map V.int).length < sizeLine := by rw [List.length_map]; exact Nat.lt_trans hi2 (by decide)
    have m48 : -(2 ^ 64) < (48271 : Int) ∧ (48271 : Int) < 2 ^ 64 := by decide
    have m69 : -(2 ^ 64) < (69621 : Int) ∧ (69621 : Int) < 2 ^ 64 := by decide
    have m79 : -(2 ^ 64) < (7919 : Int) ∧ (7919 : Int) < 2 ^ 64 := by decide
    have b1 : ∀ x : Int, -(2 ^ 64) < x % 2147483647 ∧ x % 2147483647 < 2 ^ 64 := fun x => by omega
    have b2 : ∀ x : Int, -(2 ^ 64) < x % 2147483629 ∧ x % 2147483629 < 2 ^ 64 := fun x => by omega
    refine ⟨_, rfl, ?_⟩
    refine ⟨_, rfl, a, _, rfl, .inl (s.seq hS), _, _, rfl, rfl, _, rfl, ?_⟩
    refine ite2 (fun c => ?_) (fun c => ?_)
    · have c' := dec_t c
      rw [List.length_map] at c'
      have m0 : 0 ≤ (0 + (i : Int)) % (ns.length : Int) := Int.emod_nonneg _ (by omega)
      have m1 : (0 + (i : Int)) % (ns.length : Int) < (ns.length : Int) := Int.emod_lt_of_pos _ c'
      obtain ⟨z, _, _, hz⟩ := at_int m0 m1
      obtain ⟨y, hy0, _, hy⟩ := at_int (ns := rs) m0 (by rw [hrl]; exact m1)
      refine ⟨_, rfl, _, rfl, a, _, rfl, .inl (s.seq hS), _, _, rfl, rfl, (by rw [List.length_map]; exact c'), ?_⟩
      rw [List.length_map]
      refine ⟨_, rfl, _, rfl, a, _, _, _, rfl, rfl, s.seq hS, hz, .inl ⟨_, rfl, ?_⟩⟩
      refine ⟨_, rfl, _, _, rfl, rfl, ⟨by decide, by decide, by decide⟩, _, _, rfl, rfl, _, rfl, ?_⟩
      refine ite2 (fun _ => ?_) (fun _ => ?_)
      · refine ⟨_, rfl, _, rfl, r, _, _, _, rfl, rfl, SqL.of hr', hy, _, _, rfl, rfl, _, rfl, ?_⟩
        refine ite2 (fun _ => ?_) (fun _ => ?_)
        · refine ⟨_, rfl, .inl ⟨rfl, _, SqL.of hp'⟩, _, rfl, _, rfl, r, _, _, _, rfl, rfl, SqL.of hr', hy, .inl ⟨_, rfl, _, _, rfl, rfl, (by show (0 : Int) < 1000003; decide), p, _, _, rfl, rfl, hp', room, ?_⟩⟩
          have hr2 : (upd H' p (.lst (ds.map V.int ++ [V.int (y % 1000003)]))) r = some (.lst (rs.map V.int)) := by rw [upd_ne npr]; exact hr'
          refine ⟨_, rfl, _, rfl, r, _, _, _, rfl, rfl, SqL.of hr2, hy, .inl ⟨_, rfl, _, _, rfl, rfl, ⟨by decide, by decide⟩, _, rfl, _, rfl, r, _, _, ((0 + (i : Int)) % (ns.length : Int)).toNat, rfl, rfl, hr2, ix_of m0 (by rw [List.length_map, hrl]; exact m1), ?_⟩⟩
          refine ⟨ds ++ [y % 1000003], rs.set ((0 + (i : Int)) % (ns.length : Int)).toNat (y / 1000003), _, _, _, _, rfl, ?_, ?_, by rw [List.length_set]; exact hrl, by rw [List.length_append, List.length_singleton]; omega, grown _ (Int.emod_nonneg _ (by decide)) (Int.lt_trans (Int.emod_lt_of_pos _ (by decide)) (by decide)), same_own (same_own s hp0 _) hr0 _⟩
          · rw [upd_same, List.map_set]
          · rw [upd_ne npr.symm]
            exact put _
        · refine ⟨_, rfl, _, _, rfl, rfl, .inr m48, _, rfl, _, _, rfl, rfl, .inr m69, _, _, rfl, rfl, _, _, rfl, rfl, .inl ⟨_, rfl, _, _, rfl, rfl, (by show (0 : Int) < 2147483647; decide), ?_⟩⟩
          refine ⟨_, rfl, _, rfl, _, _, rfl, rfl, .inl (b1 _), _, _, rfl, rfl, ⟨by decide, by decide⟩, _, rfl, _, _, rfl, rfl, .inl ⟨_, rfl, _, _, rfl, rfl, (by show (0 : Int) < 2147483629; decide), ?_⟩⟩
          refine ⟨_, rfl, .inl ⟨rfl, _, SqL.of hp'⟩, _, rfl, _, rfl, _, _, rfl, rfl, .inl (b2 _), _, _, rfl, rfl, ⟨by decide, by decide⟩, _, rfl, _, _, rfl, rfl, .inr m79, _, _, rfl, rfl, .inl ⟨_, rfl, _, _, rfl, rfl, (by show (0 : Int) < 2147483629; decide), p, _, _, rfl, rfl, hp', room, ?_⟩⟩
          exact ⟨ds ++ [_], rs, _, _, _, _, rfl, by rw [upd_ne npr]; exact hr', put _, hrl, by rw [List.length_append, List.length_singleton]; omega, grown _ (Int.emod_nonneg _ (by decide)) (Int.lt_trans (Int.emod_lt_of_pos _ (by decide)) (by decide)), same_own s hp0 _⟩
      · refine ⟨_, rfl, _, _, rfl, rfl, .inr m48, _, rfl, _, _, rfl, rfl, .inr m69, _, _, rfl, rfl, _, _, rfl, rfl, .inl ⟨_, rfl, _, _, rfl, rfl, (by show (0 : Int) < 2147483647; decide), ?_⟩⟩
        refine ⟨_, rfl, _, rfl, _, _, rfl, rfl, .inl (b1 _), _, _, rfl, rfl, ⟨by decide, by decide⟩, _, rfl, _, _, rfl, rfl, .inl ⟨_, rfl, _, _, rfl, rfl, (by show (0 : Int) < 2147483629; decide), ?_⟩⟩
        refine ⟨_, rfl, .inl ⟨rfl, _, SqL.of hp'⟩, _, rfl, _, rfl, _, _, rfl, rfl, .inl (b2 _), _, _, rfl, rfl, ⟨by decide, by decide⟩, _, rfl, _, _, rfl, rfl, .inr m79, _, _, rfl, rfl, .inl ⟨_, rfl, _, _, rfl, rfl, (by show (0 : Int) < 2147483629; decide), p, _, _, rfl, rfl, hp', room, ?_⟩⟩
        exact ⟨ds ++ [_], rs, _, _, _, _, rfl, by rw [upd_ne npr]; exact hr', put _, hrl, by rw [List.length_append, List.length_singleton]; omega, grown _ (Int.emod_nonneg _ (by decide)) (Int.lt_trans (Int.emod_lt_of_pos _ (by decide)) (by decide)), same_own s hp0 _⟩
    · refine ⟨_, rfl, _, _, rfl, rfl, .inr m48, _, rfl, _, _, rfl, rfl, .inr m69, _, _, rfl, rfl, _, _, rfl, rfl, .inl ⟨_, rfl, _, _, rfl, rfl, (by show (0 : Int) < 2147483647; decide), ?_⟩⟩
      refine ⟨_, rfl, _, rfl, _, _, rfl, rfl, .inl (b1 _), _, _, rfl, rfl, ⟨by decide, by decide⟩, _, rfl, _, _, rfl, rfl, .inl ⟨_, rfl, _, _, rfl, rfl, (by show (0 : Int) < 2147483629; decide), ?_⟩⟩
      refine ⟨_, rfl, .inl ⟨rfl, _, SqL.of hp'⟩, _, rfl, _, rfl, _, _, rfl, rfl, .inl (b2 _), _, _, rfl, rfl, ⟨by decide, by decide⟩, _, rfl, _, _, rfl, rfl, .inr m79, _, _, rfl, rfl, .inl ⟨_, rfl, _, _, rfl, rfl, (by show (0 : Int) < 2147483629; decide), p, _, _, rfl, rfl, hp', room, ?_⟩⟩
      exact ⟨ds ++ [_], rs, _, _, _, _, rfl, by rw [upd_ne npr]; exact hr', put _, hrl, by rw [List.length_append, List.length_singleton]; omega, grown _ (Int.emod_nonneg _ (by decide)) (Int.lt_trans (Int.emod_lt_of_pos _ (by decide)) (by decide)), same_own s hp0 _⟩
  · rintro σ H' ⟨ds, rs, kv, cv, mv, av, rfl, hr', hp', hrl, hdl, hb, s⟩
    exact ⟨_, rfl, k p H' ds hp0 s hp' (by omega) hb⟩
/-- the next draw, below many; the place goes on by one -/
def spTake (K : PySem.W.Frag) : Sp := fun vs H Q _ => ∃ (h d : Addr) (ds : List Int) (i : Nat) (m : Int), vs = [.ref h, .int m] ∧ H h = some (.lst [.ref d, .int i]) ∧ H d = some (.lst (ds.map V.int)) ∧ 0 < m ∧ m < 1000000 ∧
  ∀ r : Int, 0 ≤ r → r < m → Q (.int r) (upd H h (.lst [.ref d, .int ((i + 1 : Nat) : Int)]))
theorem ok_take {f : Addr} {fd : FuncData} (B : Blt mg) (F : Fun K "_law_take" "_law_take" s_law_take f fd) : FnOk P w K mg base CX0 1 f fd ["hand", "many"] (spTake K) := by
  have sc : FnScope ["hand", "many", "at", "draws"] ["hand", "many"] (defScope s_law_take) := ⟨rfl, rfl, rfl, by decide +kernel, rfl, by decide +kernel, by decide +kernel⟩
  refine F.ok sc (fun vs H Q E h => ?_) (fun cdv A outer s H vs Q E hr h => ?_)
  · obtain ⟨h, d, ds, i, m, rfl, _⟩ := h
    rfl
  obtain ⟨h, d, ds, i, m, rfl, hh, hd, m0, m1, k⟩ := h
  refine ⟨_, (pss_cons (ps_set (i := 2) sc.nd rfl (Or.inl rfl) (pe_ix ix_list (pv 0) pe_int (fun _ _ => rfl)))
    (pss_cons (ps_asg (pe_op op_add (pv 2) pe_int) (pg_sub (pv 0) pe_int set_list))
    (pss_cons (ps_set (i := 3) sc.nd rfl (Or.inl rfl) (pe_ix ix_list (pv 0) pe_int (fun _ _ => rfl)))
    (pss_cons (ps_if (pt_cmpR op_ge (pv 2) (pe_callB call_len_seq (by rfl) B.len (by decide +kernel) (pa_cons (pv 3) pa_nil)) (nomark _))
      (pss_one (ps_ret pe_int))
      pss_nil)
    (pss_one (ps_ret (pe_op op_mod (pe_op op_fdiv (pe_callTy call_int1 (by rfl) B.int (by decide +kernel) (pa_cons (pe_ix ix_list (pv 3) (pv 2) (fun _ _ => rfl)) pa_nil)) pe_int) (pv 1)))))))), ?_⟩
  have ndh : d ≠ h := by
    rintro rfl
    rw [hh] at hd
    cases ds with
    | nil => cases hd
    | cons z ds => cases hd
  refine ⟨_, rfl, h, _, _, _, rfl, rfl, SqL.of hh, at_of (j := 1) rfl rfl, ?_⟩
  refine ⟨_, rfl, _, _, rfl, rfl, _, rfl, h, _, _, 1, rfl, rfl, hh, by rfl, ?_⟩
  refine ⟨_, rfl, h, _, _, _, rfl, rfl, SqL.of upd_same, at_of (j := 0) rfl rfl, ?_⟩
  have hd2 : (upd H h (.lst ([V.ref d, V.int (i : Int)].set 1 (.int ((i : Int) + 1))))) d = some (.lst (ds.map V.int)) := by rw [upd_ne ndh]; exact hd
  refine ⟨_, rfl, _, rfl, d, _, rfl, .inl (SqL.of hd2), _, _, rfl, rfl, _, rfl, ?_⟩
  have q : ∀ r : Int, 0 ≤ r → r < m → Q (.int r) (upd H h (.lst ([V.ref d, V.int (i : Int)].set 1 (.int ((i : Int) + 1))))) := k
  refine ite2 (fun _ => q 0 (by decide) m0) (fun c => ?_)
  have c' := dec_f c
  rw [List.length_map] at c'
  obtain ⟨z, _, _, hz⟩ := at_int (ns := ds) (i := (i : Int)) (by omega) (by omega)
  exact ⟨_, rfl, _, rfl, d, _, _, _, rfl, rfl, SqL.of hd2, hz, .inl ⟨_, rfl, _, _, rfl, rfl, ⟨by decide, by decide⟩, _, rfl, _, _, rfl, rfl, m0, q _ (Int.emod_nonneg _ (by omega)) (Int.emod_lt_of_pos _ m0)⟩⟩
end
section
variable {P : Program} {w : World} {K : PySem.W.Frag} {mg : Str → Option Value} {base : Heap}
def spNumber (K : PySem.W.Frag) : Sp := fun vs H Q _ => ∃ (M : Addr → Prop) (x : V) (d : PyData) (lo hi : Int), vs = [x, .int lo, .int hi] ∧ Dn M K H x d ∧ Q (.bl (isNum d lo hi)) H
theorem ok_number {f : Addr} {fd : FuncData} (B : Blt mg) (F : Fun K "is_number" "is_number" sis_number f fd) : FnOk P w K mg base CX0 1 f fd ["value", "low", "high"] (spNumber K) := by
  have sc : FnScope ["value", "low", "high"] ["value", "low", "high"] (defScope sis_number) := ⟨rfl, rfl, rfl, by decide +kernel, rfl, by decide +kernel, by decide +kernel⟩
  refine F.ok sc (fun vs H Q E h => ?_) (fun cdv A outer s H vs Q E hr h => ?_)
  · obtain ⟨_, _, _, _, _, rfl, _⟩ := h
    rfl
  obtain ⟨M, x, d, lo, hi, rfl, hd, k⟩ := h
  refine ⟨_, (pss_cons (ps_if (PW.pt (pw_or (pt_not (pt_val (pe_callB call_isi (by rfl) B.isinstance (by decide +kernel) (pa_cons (pv 0) (pa_cons (pe_bltn (v := V.ty "int") (u := Value.type "int") (by rfl) B.int (by decide +kernel) rfl) pa_nil))))) (pw_or1 (pt_val (pe_callB call_isi (by rfl) B.isinstance (by decide +kernel) (pa_cons (pv 0) (pa_cons (pe_bltn (v := V.ty "bool") (u := Value.type "bool") (by rfl) B.bool (by decide +kernel) rfl) pa_nil)))))))
      (pss_one (ps_ret pe_bl))
      pss_nil)
    (pss_one (ps_ret (pe_chain op_le op_le (pv 1) (pv 0) (pv 2))))), ?_⟩
  refine ⟨_, rfl, x, _, _, _, isInt2 d, rfl, ClsV.ty _, hd.ty, kit_ty (kit_int d), _, rfl, ?_⟩
  have no : isNum d lo hi = false → Q (.bl false) H := fun e => by rw [e] at k; exact k
  cases hi2 : isInt2 d with
  | false =>
    refine iteT ?_
    refine iteT ?_
    exact no (by cases d <;> first | rfl | cases hi2)
  | true =>
    refine iteF ?_
    refine ⟨_, rfl, x, _, _, _, isBool d, rfl, ClsV.ty _, hd.ty, kit_ty (kit_bool d), _, rfl, ?_⟩
    cases hb : isBool d with
    | true =>
      refine iteT ?_
      exact no (by cases d <;> first | rfl | cases hb)
    | false =>
      refine iteF ?_
      cases d with
      | int i =>
        cases hd
        refine ⟨_, rfl, _, rfl, _, _, rfl, rfl, _, rfl, ?_⟩
        have e : isNum (.int i) lo hi = (decide (lo ≤ i) && decide (i ≤ hi)) := rfl
        rw [e] at k
        cases h1 : decide (lo ≤ i) with
        | true =>
          rw [h1] at k
          refine iteT ?_
          exact ⟨_, rfl, _, _, rfl, rfl, k⟩
        | false =>
          rw [h1] at k
          exact iteF k
      | _ => first | (simp [isInt2] at hi2; done) | (simp [isBool] at hb; done)
/-- the reach is looked at -/
def spCheck (K : PySem.W.Frag) (C : Addr) : Sp := fun vs H Q E => ∃ (M : Addr → Prop) (r : V) (re : PyData) (lo hi : Int), vs = [r, .int lo, .int hi] ∧ Dn M K H r re ∧ (isNum re lo hi = true → Q .non H) ∧ (isNum re lo hi = false → E (.ref C) none H)
theorem ok_check {C : Addr} {f : Addr} {fd : FuncData} (B : Blt mg) (eBadReach : Err K mg "BadReach" C) (gis_number : Has P w K mg base CX0 1 "is_number" ["value", "low", "high"] (spNumber K)) (F : Fun K "check_reach" "check_reach" scheck_reach f fd) : FnOk P w K mg base (L2.CX P w) 2 f fd ["reach", "low", "high"] (spCheck K C) := by
  have sc : FnScope ["reach", "low", "high"] ["reach", "low", "high"] (defScope scheck_reach) := ⟨rfl, rfl, rfl, by decide +kernel, rfl, by decide +kernel, by decide +kernel⟩
  refine F.okX sc (fun vs H Q E h => ?_) (fun cdv A outer s H vs Q E hr h => ?_)
  · obtain ⟨_, _, _, _, _, rfl, _⟩ := h
    rfl
  obtain ⟨M, r, re, lo, hi, rfl, hd, kt, kf⟩ := h
  refine ⟨_, (pss_one (ps_if (pt_not (pt_val (pc gis_number hr (pa_cons (pv 0) (pa_cons (pv 1) (pa_cons (pv 2) pa_nil))))))
      (pss_one (ps_raise rfl (takes_of rfl rfl rfl rfl) (pmk_own PySem.F.excBase_ValueError eBadReach.xi eBadReach.g eBadReach.k (raises_own eBadReach.b eBadReach.t) rfl)))
      pss_nil)), ?_⟩
  refine ⟨_, rfl, _, rfl, _, rfl, M, r, re, lo, hi, rfl, hd, _, rfl, ?_⟩
  cases hn : isNum re lo hi with
  | true =>
    refine iteF ?_
    exact kt hn
  | false =>
    refine iteT ?_
    exact kf hn
end
/-! ### finite networks -/
def rgn (n : Nat) : List Int := (List.range n).map fun (i : Nat) => (i : Int)
theorem mem_rgn {n : Nat} {z : Int} : z ∈ rgn n ↔ 0 ≤ z ∧ z < n := by
  unfold rgn
  rw [List.mem_map]
  constructor
  · rintro ⟨k, hk, rfl⟩
    have := List.mem_range.mp hk
    omega
  · rintro ⟨h0, h1⟩
    exact ⟨z.toNat, List.mem_range.mpr (by omega), by omega⟩
theorem rgn_len (n : Nat) : (rgn n).length = n := by simp [rgn]
theorem rgn_nodup (n : Nat) : (rgn n).Nodup := by
  unfold rgn
  refine List.Pairwise.map _ (fun a b (h : a ≠ b) => ?_) (List.nodup_range (n := n))
  omega
theorem rgn_take {n i : Nat} (h : i < n) : (rgn n).take (i + 1) = (rgn n).take i ++ [(i : Int)] :=
  take_more (by unfold rgn; rw [List.getElem?_map, List.getElem?_range h]; rfl)
/-- a column of links: each of the numbers below n once -/
def Col (n : Nat) (c : List Int) : Prop := c.Perm (rgn n)
theorem Col.len {n : Nat} {c : List Int} (h : Col n c) : c.length = n := by rw [List.Perm.length_eq h, rgn_len]
theorem Col.mem {n : Nat} {c : List Int} (h : Col n c) {z : Int} : z ∈ c ↔ 0 ≤ z ∧ z < n := by rw [List.Perm.mem_iff h, mem_rgn]
theorem Col.nodup {n : Nat} {c : List Int} (h : Col n c) : c.Nodup := (List.Perm.nodup_iff h).mpr (rgn_nodup n)
theorem Col.start (n : Nat) : Col n (rgn n) := List.Perm.refl _
theorem Col.at {n : Nat} {c : List Int} (h : Col n c) {i : Int} (h0 : 0 ≤ i) (h1 : i < n) : ∃ z, c[i.toNat]? = some z ∧ 0 ≤ z ∧ z < n := by
  have l : i.toNat < c.length := by rw [h.len]; omega
  exact ⟨c[i.toNat], List.getElem?_eq_getElem l, h.mem.mp (List.getElem_mem l)⟩
theorem Col.swap {n : Nat} {c : List Int} (h : Col n c) {i j : Nat} {x y : Int} (hx : c[i]? = some x) (hy : c[j]? = some y) : Col n ((c.set i y).set j x) := by
  obtain ⟨i1, ex⟩ := List.getElem?_eq_some_iff.mp hx
  obtain ⟨j1, ey⟩ := List.getElem?_eq_some_iff.mp hy
  subst ex ey
  exact (List.set_set_perm i1 j1).trans h
/-- where a number stands in a column -/
def spotN (c : List Int) (b : Int) : Int := ((c.idxOf b : Nat) : Int)
theorem Col.spot {n : Nat} {c : List Int} (h : Col n c) {b : Int} (h0 : 0 ≤ b) (h1 : b < n) : 0 ≤ spotN c b ∧ spotN c b < n ∧ c[(spotN c b).toNat]? = some b := by
  have l : c.idxOf b < c.length := List.idxOf_lt_length_iff.mpr (h.mem.mpr ⟨h0, h1⟩)
  unfold spotN
  refine ⟨by omega, by rw [h.len] at l; omega, ?_⟩
  rw [show ((c.idxOf b : Nat) : Int).toNat = c.idxOf b by omega, List.getElem?_eq_getElem l, List.getElem_idxOf l]
theorem Col.spot_of {n : Nat} {c : List Int} (h : Col n c) {i : Nat} {b : Int} (e : c[i]? = some b) : spotN c b = i := by
  obtain ⟨i1, ex⟩ := List.getElem?_eq_some_iff.mp e
  subst ex
  unfold spotN
  rw [List.Nodup.idxOf_getElem h.nodup i i1]
theorem Col.inj {n : Nat} {c : List Int} (h : Col n c) {i j : Nat} {b : Int} (e : c[i]? = some b) (f : c[j]? = some b) : i = j := by
  have := h.spot_of e
  have := h.spot_of f
  omega
/-- the column the other way -/
def back (n : Nat) (c : List Int) : List Int := (rgn n).map (spotN c)
theorem back_len (n : Nat) (c : List Int) : (back n c).length = n := by rw [back, List.length_map, rgn_len]
theorem back_at {n : Nat} {c : List Int} {b : Int} (h0 : 0 ≤ b) (h1 : b < n) : (back n c)[b.toNat]? = some (spotN c b) := by
  unfold back rgn
  rw [List.getElem?_map, List.getElem?_map, List.getElem?_range (by omega)]
  simp only [Option.map_some]
  rw [show ((b.toNat : Nat) : Int) = b by omega]
/-- of so many the places have been written -/
def Ends (n : Nat) (c es : List Int) (i : Nat) : Prop := es.length = n ∧ ∀ (k : Nat) (z : Int), k < i → c[k]? = some z → es[z.toNat]? = some (k : Int)
theorem Ends.start {n : Nat} {c es : List Int} (h : es.length = n) : Ends n c es 0 := ⟨h, fun k z hk => absurd hk (Nat.not_lt_zero k)⟩
theorem Ends.step {n : Nat} {c es : List Int} {i : Nat} {z : Int} (hc : Col n c) (h : Ends n c es i) (e : c[i]? = some z) : Ends n c (es.set z.toNat (i : Int)) (i + 1) := by
  refine ⟨by rw [List.length_set]; exact h.1, fun k y hk ey => ?_⟩
  have rz := hc.mem.mp (List.mem_of_getElem? e)
  have ry := hc.mem.mp (List.mem_of_getElem? ey)
  by_cases q : k = i
  · subst q
    rw [e] at ey
    cases ey
    rw [List.getElem?_set_self (by rw [h.1]; omega)]
  · rw [List.getElem?_set_ne]
    · exact h.2 k y (by omega) ey
    · intro w
      have : z = y := by omega
      subst this
      exact q (hc.inj ey e)
theorem Ends.full {n : Nat} {c es : List Int} (hc : Col n c) (h : Ends n c es n) : es = back n c := by
  refine List.ext_getElem? fun b => ?_
  by_cases hb : b < n
  · obtain ⟨s0, s1, s2⟩ := hc.spot (b := (b : Int)) (by omega) (by omega)
    have e1 := h.2 (spotN c b).toNat b (by omega) s2
    have e2 := back_at (n := n) (c := c) (b := (b : Int)) (by omega) (by omega)
    rw [show ((b : Int)).toNat = b by omega] at e1 e2
    rw [e1, e2]
    congr 1
  · rw [List.getElem?_eq_none (by rw [h.1]; omega), List.getElem?_eq_none (by rw [back_len]; omega)]
/-- what a walker sees: f a state's input, nx the state behind an edge, b the edge it came by -/
def gview {α : Type} (f : α → Int) (nx : Int → α → α) (D : Nat) : Nat → α → Int → PyData
  | 0, s, _ => .tuple [.int (f s)]
  | T + 1, s, b => .tuple [.int (f s), .tuple ((List.range D).map fun (j : Nat) => if 1 + (j : Int) = b then .none else gview f nx D T (nx (1 + (j : Int)) s) (1 + (j : Int)))]
def gparts {α : Type} (f : α → Int) (nx : Int → α → α) (D T : Nat) (s : α) (b : Int) : List PyData := (List.range D).map fun (j : Nat) => if 1 + (j : Int) = b then .none else gview f nx D T (nx (1 + (j : Int)) s) (1 + (j : Int))
section
variable {α : Type} {f : α → Int} {nx : Int → α → α} {D T : Nat} {s : α} {b : Int}
theorem gview_succ : gview f nx D (T + 1) s b = .tuple [.int (f s), .tuple (gparts f nx D T s b)] := rfl
theorem gparts_len : (gparts f nx D T s b).length = D := by simp [gparts]
theorem gparts_at {j : Nat} (hj : j < D) : (gparts f nx D T s b)[j]? = some (if 1 + (j : Int) = b then .none else gview f nx D T (nx (1 + (j : Int)) s) (1 + (j : Int))) := by
  unfold gparts
  rw [List.getElem?_map, List.getElem?_range hj]
  rfl
theorem gparts_take {i : Nat} (hi : i < D) : (gparts f nx D T s b).take (i + 1) = (gparts f nx D T s b).take i ++ [if 1 + (i : Int) = b then .none else gview f nx D T (nx (1 + (i : Int)) s) (1 + (i : Int))] := take_more (gparts_at hi)
end
def gbulk (D : Nat) : Nat → Nat
  | 0 => 2
  | T + 1 => D * (gbulk D T + 1) + 4
theorem gview_sized {α : Type} {f : α → Int} {nx : Int → α → α} {D : Nat} (hf : ∀ s, 0 ≤ f s ∧ f s < 1000) : ∀ (T : Nat) (s : α) (b : Int), Sized (gbulk D T) (2 * T + 1) (gview f nx D T s b)
  | 0, s, _ => by
    have h := sized_tup (m := 0) (h := 0) (ds := [.int (f s)]) fun d hd => by
      rw [List.mem_singleton.mp hd]
      exact sized_int (by have := hf s; omega)
    exact h.more (by simp [gbulk]) (by omega)
  | T + 1, s, b => by
    have hp : Sized (D * (gbulk D T + 1)) (2 * T + 2) (.tuple (gparts f nx D T s b)) := by
      have h := sized_tup (m := gbulk D T) (h := 2 * T + 1) (ds := gparts f nx D T s b) fun d hd => by
        obtain ⟨j, _, rfl⟩ := List.mem_map.mp hd
        show Sized _ _ (if 1 + (j : Int) = b then .none else gview f nx D T (nx (1 + (j : Int)) s) (1 + (j : Int)))
        split
        · exact sized_non.more (Nat.zero_le _) (Nat.zero_le _)
        · exact gview_sized hf T _ _
      rw [gparts_len] at h
      exact h
    have hi : Sized (D * (gbulk D T + 1)) (2 * T + 2) (.int (f s)) := (sized_int (i := f s) (by have := hf s; omega)).more (Nat.zero_le _) (Nat.zero_le _)
    obtain ⟨i1, i2, i3, i4⟩ := hi
    obtain ⟨p1, p2, p3, p4⟩ := hp
    refine ⟨?_, ?_, ?_, ?_⟩
    · simp only [gview_succ, PyData.leavesShort, PyData.leavesShortAll] at p1 i1 ⊢
      simp only [p1, i1, Bool.and_self]
    · simp only [gview_succ, PyData.showable, PyData.showableAll] at p2 i2 ⊢
      simp only [p2, i2, Bool.and_self]
    · simp only [gview_succ, PyData.depth, PyData.depthAll] at p3 i3 ⊢
      omega
    · have z : PyData.bulk (.int (f s)) = 0 := by simp only [PyData.bulk]
      simp only [gview_succ, PyData.bulk, PyData.bulkAll, gbulk] at p4 ⊢
      omega
theorem gbulk_le {D : Nat} (hD : D ≤ 4) : ∀ {T : Nat}, T ≤ 4 → gbulk D T ≤ 390000 := by
  have h : ∀ T m, gbulk D T ≤ m → gbulk D (T + 1) ≤ 4 * (m + 1) + 4 := fun T m h => by
    have := Nat.mul_le_mul hD (Nat.add_le_add_right h 1)
    show D * (gbulk D T + 1) + 4 ≤ _
    omega
  have h0 : gbulk D 0 ≤ 2 := Nat.le_refl _
  have h1 := h _ _ h0
  have h2 := h _ _ h1
  have h3 := h _ _ h2
  have h4 := h _ _ h3
  intro T hT
  match T, hT with
  | 0, _ => exact Nat.le_trans h0 (by decide)
  | 1, _ => exact Nat.le_trans h1 (by decide)
  | 2, _ => exact Nat.le_trans h2 (by decide)
  | 3, _ => exact Nat.le_trans h3 (by decide)
  | 4, _ => exact Nat.le_trans h4 (by decide)
/-- a state: white or not, the node's number -/
abbrev NSt := Bool × Int
def atN (xs : List Int) (i : Int) : Int := xs[i.toNat]?.getD 0
def colsOf (n : Nat) (cols : List (List Int)) (sd : Bool) : List (List Int) := if sd then cols else cols.map (back n)
def nfun (ws bs : List Int) (s : NSt) : Int := atN (if s.1 then ws else bs) s.2
def nnx (n : Nat) (cols : List (List Int)) (c : Int) (s : NSt) : NSt := (!s.1, atN (((colsOf n cols s.1)[(c - 1).toNat]?).getD []) s.2)
def sideS (sd : Bool) : Str := if sd then "white" else "black"
def netD (n : Nat) (cols : List (List Int)) (ws bs : List Int) : PyData := .tuple [.str "network", .int n, .tuple (cols.map tupI), tupI ws, tupI bs]
structure Net (n : Nat) (cols : List (List Int)) (ws bs : List Int) : Prop where
  pos : 1 ≤ n
  few : n ≤ 1000
  col : ∀ c ∈ cols, Col n c
  D4 : cols.length ≤ 4
  wl : ws.length = n
  bl : bs.length = n
  wr : ∀ z ∈ ws, 0 ≤ z ∧ z < 1000
  br : ∀ z ∈ bs, 0 ≤ z ∧ z < 1000
theorem colsOf_len {n : Nat} {cols : List (List Int)} {sd : Bool} : (colsOf n cols sd).length = cols.length := by
  cases sd <;> simp [colsOf]
theorem getD_range {xs : List Int} {n : Nat} {i : Int} {m : Int} (m0 : 0 < m) (h : ∀ z ∈ xs, 0 ≤ z ∧ z < m) : 0 ≤ atN xs i ∧ atN xs i < m := by
  unfold atN
  cases e : xs[i.toNat]? with
  | none => exact ⟨Int.le_refl _, m0⟩
  | some z => exact h z (List.mem_of_getElem? e)
theorem Net.fun_range {n : Nat} {cols : List (List Int)} {ws bs : List Int} (N : Net n cols ws bs) (s : NSt) : 0 ≤ nfun ws bs s ∧ nfun ws bs s < 1000 := by
  unfold nfun
  cases s.1
  · exact getD_range (n := n) (by decide) N.br
  · exact getD_range (n := n) (by decide) N.wr
/-- the node behind an edge -/
theorem Net.nx {n : Nat} {cols : List (List Int)} {ws bs : List Int} (N : Net n cols ws bs) {sd : Bool} {i : Int} {j : Nat} (i0 : 0 ≤ i) (i1 : i < n) (hj : j < cols.length) :
    ∃ c z, (colsOf n cols sd)[j]? = some c ∧ c[i.toNat]? = some z ∧ 0 ≤ z ∧ z < n ∧ nnx n cols (1 + (j : Int)) (sd, i) = (!sd, z) := by
  have hc : cols[j]? = some cols[j] := List.getElem?_eq_getElem hj
  have C := N.col _ (List.getElem_mem hj)
  have e : ((1 + (j : Int)) - 1).toNat = j := by omega
  cases sd with
  | true =>
    obtain ⟨z, hz, z0, z1⟩ := C.at i0 i1
    refine ⟨_, z, hc, hz, z0, z1, ?_⟩
    unfold nnx colsOf atN
    rw [e]
    simp [hc, hz]
  | false =>
    obtain ⟨z0, z1, _⟩ := C.spot i0 i1
    have hb : (cols.map (back n))[j]? = some (back n cols[j]) := by rw [List.getElem?_map, hc]; rfl
    refine ⟨_, _, hb, back_at i0 i1, z0, z1, ?_⟩
    unfold nnx colsOf atN
    rw [e]
    simp [hb, hc, back_at (c := cols[j]) i0 i1]
section
variable {P : Program} {w : World} {K : PySem.W.Frag} {mg : Str → Option Value} {base : Heap}
/-- how a network lies -/
def NetV (K : PySem.W.Frag) (H : Hp) (a : Addr) (n : Nat) (cols : List (List Int)) (ws bs : List Int) : Prop := ∃ (la wa ba : Addr) (cs : List V), SqT K H a [.str "network", .int n, .ref la, .ref wa, .ref ba] ∧ SqT K H la cs ∧ SLs (SqT K H) cs cols ∧ SqT K H wa (ws.map V.int) ∧ SqT K H ba (bs.map V.int)
theorem NetV.stay {H H' : Hp} {a : Addr} {n : Nat} {cols : List (List Int)} {ws bs : List Int} (t : TupsStay H H') (h : NetV K H a n cols ws bs) : NetV K H' a n cols ws bs := by
  obtain ⟨la, wa, ba, cs, h1, h2, h3, h4, h5⟩ := h
  exact ⟨la, wa, ba, cs, t.seq h1, t.seq h2, h3.imp fun _ _ z => t.seq z, t.seq h4, t.seq h5⟩
theorem sls_dt {H : Hp} : ∀ {vs : List V} {cols : List (List Int)}, SLs (SqT K H) vs cols → DtAll K H vs (cols.map tupI)
  | _, _, .nil => .nil
  | _, _, .cons h a => .cons (.tup h (DtAll.ints _)) (sls_dt a)
theorem NetV.dt {H : Hp} {a : Addr} {n : Nat} {cols : List (List Int)} {ws bs : List Int} (h : NetV K H a n cols ws bs) : Dt K H (.ref a) (netD n cols ws bs) := by
  obtain ⟨la, wa, ba, cs, h1, h2, h3, h4, h5⟩ := h
  exact .tup h1 (.cons (.str _) (.cons (.int _) (.cons (.tup h2 (sls_dt h3)) (.cons (.tup h4 (DtAll.ints _)) (.cons (.tup h5 (DtAll.ints _)) .nil)))))
theorem sized_ints {r : List Int} {m : Nat} (h : r.length ≤ m) (b : ∀ z ∈ r, 0 ≤ z ∧ z < 1000) : Sized m 1 (tupI r) := by
  have q := sized_tup (m := 0) (h := 0) (ds := r.map PyData.int) fun d hd => by
    obtain ⟨z, hz, rfl⟩ := List.mem_map.mp hd
    have := b z hz
    exact sized_int (by omega)
  rw [List.length_map] at q
  exact q.more (by omega) (by omega)
theorem sized_net {n : Nat} {cols : List (List Int)} {ws bs : List Int} (N : Net n cols ws bs) : Sized 30000 3 (netD n cols ws bs) := by
  have a := sized_ints (r := ws) (m := 1000) (by rw [N.wl]; exact N.few) N.wr
  have b := sized_ints (r := bs) (m := 1000) (by rw [N.bl]; exact N.few) N.br
  have c : Sized 4004 2 (.tuple (cols.map tupI)) := by
    have q := sized_tup (m := 1000) (h := 1) (ds := cols.map tupI) fun d hd => by
      obtain ⟨r, hr, rfl⟩ := List.mem_map.mp hd
      have C := N.col r hr
      exact sized_ints (by rw [C.len]; exact N.few) fun z hz => by
        have := C.mem.mp hz
        have := N.few
        omega
    rw [List.length_map] at q
    refine q.more ?_ (by omega)
    have := Nat.mul_le_mul_right 1001 N.D4
    omega
  have q := sized_tup (m := 4004) (h := 2) (ds := [.str "network", .int n, .tuple (cols.map tupI), tupI ws, tupI bs]) fun d hd => by
    simp only [List.mem_cons, List.not_mem_nil, or_false] at hd
    rcases hd with rfl | rfl | rfl | rfl | rfl
    · exact ⟨by decide +kernel, by decide +kernel, by simp only [PyData.depth]; omega, by decide +kernel⟩
    · exact (sized_int (by have := N.few; omega)).more (by omega) (by omega)
    · exact c
    · exact a.more (by omega) (by omega)
    · exact b.more (by omega) (by omega)
  exact q.more (by simp) (by omega)
/-- the next draw, the heap behind it unnamed -/
def spTakeN (K : PySem.W.Frag) : Sp := fun vs H Q _ => ∃ (h d : Addr) (ds : List Int) (i : Nat) (m : Int), vs = [.ref h, .int m] ∧ Hand H h d ds i ∧ 0 < m ∧ m < 1000000 ∧
  ∀ (r : Int) (H' : Hp), 0 ≤ r → r < m → Hand H' h d ds (i + 1) → Go (· = h) H H' → Q (.int r) H'
theorem takeN {P : Program} {w : World} {K : PySem.W.Frag} {mg : Str → Option Value} {base : Heap} (g : Has P w K mg base CX0 1 "_law_take" ["hand", "many"] (spTake K)) : Has P w K mg base CX0 1 "_law_take" ["hand", "many"] (spTakeN K) :=
  g.imp fun vs H Q E ⟨h, d, ds, i, m, e, hh, m0, m1, k⟩ => ⟨h, d, ds, i, m, e, hh.1, hh.2, m0, m1, fun r r0 r1 => k r _ r0 r1 hh.next hh.go⟩
end
theorem _root_.LG.Hand.ints {H : Hp} {h d a : Addr} {ds ns : List Int} {n : Nat} (x : Hand H h d ds n) (e : H a = some (.lst (ns.map V.int))) : ¬ a = h := by
  rintro rfl
  have q := x.1.symm.trans e
  cases ns with
  | nil => cases q
  | cons z ns => cases q
section
variable {P : Program} {w : World} {K : PySem.W.Frag} {mg : Str → Option Value} {base : Heap}
/-- lists that grow while other things change -/
structure GI (M : Addr → Prop) (H0 : Hp) (q : Addr) (ns : List Int) (H : Hp) : Prop where
  free : H0 q = none
  go : Go M H0 H
  ex : H q = some (.lst (ns.map V.int))
theorem GI.start {M : Addr → Prop} {H0 : Hp} {q : Addr} (h : H0 q = none) : GI M H0 q [] (upd H0 q (.lst [])) := ⟨h, Go.new h _, upd_same⟩
theorem GI.step {M : Addr → Prop} {H0 H H' : Hp} {q : Addr} {ns : List Int} (a : GI M H0 q ns H) (nq : ¬ M q) (g : Go M H H') : GI M H0 q ns H' := ⟨a.free, a.go.trans g, g.out _ _ nq a.ex⟩
theorem GI.push {M : Addr → Prop} {H0 H : Hp} {q : Addr} {ns : List Int} (a : GI M H0 q ns H) (z : Int) (few : ns.length ≤ 100000) : H q = some (.lst (ns.map V.int)) ∧ (ns.map V.int).length < sizeLine ∧ GI M H0 q (ns ++ [z]) (upd H q (.lst (ns.map V.int ++ [V.int z]))) :=
  ⟨a.ex, lt_small (by rw [List.length_map]; exact few), a.free, go_own a.go a.free a.ex _, by rw [upd_same, List.map_append]; rfl⟩
structure GS (K : PySem.W.Frag) (M : Addr → Prop) (H0 : Hp) (q : Addr) (cs : List (List Int)) (H : Hp) : Prop where
  free : H0 q = none
  go : Go M H0 H
  ex : ∃ acc, H q = some (.lst acc) ∧ SLs (SqT K H) acc cs
theorem GS.start {M : Addr → Prop} {H0 : Hp} {q : Addr} (h : H0 q = none) : GS K M H0 q [] (upd H0 q (.lst [])) := ⟨h, Go.new h _, [], upd_same, .nil⟩
theorem GS.step {M : Addr → Prop} {H0 H H' : Hp} {q : Addr} {cs : List (List Int)} (a : GS K M H0 q cs H) (nq : ¬ M q) (g : Go M H H') : GS K M H0 q cs H' := by
  obtain ⟨acc, e, s⟩ := a.ex
  exact ⟨a.free, a.go.trans g, acc, g.out _ _ nq e, s.imp fun _ _ z => g.seqT z⟩
theorem GS.push {M : Addr → Prop} {H0 H : Hp} {q p : Addr} {cs : List (List Int)} {c : List Int} (a : GS K M H0 q cs H) (hp : SqT K H p (c.map V.int)) (few : cs.length ≤ 100000) :
    ∃ acc, H q = some (.lst acc) ∧ acc.length < sizeLine ∧ GS K M H0 q (cs ++ [c]) (upd H q (.lst (acc ++ [V.ref p]))) := by
  obtain ⟨acc, e, s⟩ := a.ex
  have t := tups_lst (ys := acc ++ [V.ref p]) e
  exact ⟨acc, e, lt_small (by rw [s.len]; exact few), a.free, go_own a.go a.free e _, _, upd_same, (s.imp fun _ _ z => t.seq z).app (.cons (t.seq hp) .nil)⟩
def spOrder (K : PySem.W.Frag) : Sp := fun vs H Q _ => ∃ (h d : Addr) (ds : List Int) (i n : Nat), vs = [.ref h, .int n] ∧ Hand H h d ds i ∧ 1 ≤ n ∧ n ≤ 1000 ∧
  ∀ (p : Addr) (H' : Hp) (i' : Nat) (c : List Int), Hand H' h d ds i' → Go (· = h) H H' → SqT K H' p (c.map V.int) → Col n c → Q (.ref p) H'
set_option maxHeartbeats 1000000 in
theorem ok_order {f : Addr} {fd : FuncData} (B : Blt mg) (g_law_take : Has P w K mg base CX0 1 "_law_take" ["hand", "many"] (spTakeN K)) (F : Fun K "_law_order" "_law_order" s_law_order f fd) : FnOk P w K mg base CX0 2 f fd ["hand", "many"] (spOrder K) := by
  have sc : FnScope ["hand", "many", "order", "k", "at", "kept"] ["hand", "many"] (defScope s_law_order) := ⟨rfl, rfl, rfl, by decide +kernel, rfl, by decide +kernel, by decide +kernel⟩
  refine F.ok sc (fun vs H Q E h => ?_) (fun cdv A outer s H vs Q E hr h => ?_)
  · obtain ⟨_, _, _, _, _, rfl, _⟩ := h
    rfl
  obtain ⟨h, d, ds, i0, n, rfl, hh, n1, n2, k⟩ := h
  refine ⟨_, (pss_cons (ps_setLc (i := 2) (own := [("k", 3)]) (g := gName 3) (tt := tYes) rfl sc.nd rfl rfl (sw_true rfl rfl rfl (by decide +kernel)) (pi_range1 (by rfl) B.range (pa_cons (pv 1) pa_nil)) (blkOk_by (N := ["hand", "many", "order", "k", "at", "kept"]) (sc := defScope s_law_order) (by decide +kernel)) (fun _ _ _ _ _ => pg_name (i := 3) sc.nd rfl (Or.inl rfl)) (fun _ _ _ _ _ => pts_nil) (fun _ _ _ _ _ => (pv 3)))
    (pss_cons (ps_for PassesOwn.never rfl (pi_range1 (by rfl) B.range (pa_cons (pv 1) pa_nil)) (pg_name (i := 3) sc.nd rfl (Or.inl rfl))
      (pss_cons (ps_set (i := 4) sc.nd rfl (Or.inl rfl) (pc g_law_take hr (pa_cons (pv 0) (pa_cons (pv 1) pa_nil))))
      (pss_cons (ps_set (i := 5) sc.nd rfl (Or.inl rfl) (pe_ix ix_list (pv 2) (pv 3) (fun _ _ => rfl)))
      (pss_cons (ps_asg (pe_ix ix_list (pv 2) (pv 4) (fun _ _ => rfl)) (pg_sub (pv 2) (pv 3) set_list))
      (pss_one (ps_asg (pv 5) (pg_sub (pv 2) (pv 4) set_list)))))))
    (pss_one (ps_ret (pe_callTy (show CallR _ _ (rTupN K) from call_tupN) (by rfl) B.tuple (by decide +kernel) (pa_cons (pv 2) pa_nil)))))), ?_⟩
  try dsimp only [cxOf]
  w_fin
  intro ol hol
  obtain ⟨nh, nd⟩ := hand_out hh hol
  refine itr_walk (lo := 0) (n := ((n : Nat) : Int).toNat) (fun i H' => GI (· = h) H ol ((rgn n).take i) H' ∧ Hand H' h d ds i0) ⟨GI.start hol, hh.new hol _⟩ ?_ ?_
  · rintro i H1 hi ⟨acc, hh1⟩
    w_fin
    obtain ⟨e, f, a⟩ := acc.push (0 + (i : Int)) (by rw [List.length_take, rgn_len]; omega)
    refine ⟨_, e, f, ?_, hh1.off nh nd _⟩
    rw [Int.zero_add] at a ⊢
    rw [rgn_take (by omega)]
    exact a
  · rintro H1 ⟨acc, hh1⟩
    rw [List.take_of_length_le (by rw [rgn_len]; omega)] at acc
    have gol := acc.go
    have eol := acc.ex
    w_fin
    refine fr_range (fun i σ H' => ∃ (m : Nat) (c : List Int) (kv av pv : Option V), σ = [some (.ref h), some (.int n), some (.ref ol), kv, av, pv] ∧ Hand H' h d ds m ∧ Go (· = h) H H' ∧ H' ol = some (.lst (c.map V.int)) ∧ Col n c) ⟨i0, rgn n, none, none, none, rfl, hh1, gol, eol, Col.start n⟩ ?_ ?_
    · rintro i σ H2 hi ⟨m, c, kv, av, pv, rfl, hh2, g2, e2, C⟩
      w_fin
      refine ⟨h, d, ds, m, n, rfl, hh2, by omega, by omega, fun a H3 a0 a1 hh3 g3 => ?_⟩
      have e3 := g3.out _ _ nh e2
      obtain ⟨x, hx, _, _⟩ := C.at (i := (i : Int)) (by omega) (by omega)
      obtain ⟨y, hy, _, _⟩ := C.at a0 a1
      rw [show ((i : Int)).toNat = i by omega] at hx
      w_fin
      refine st_ixL (SqL.of e3) (at_of (j := i) (v := .int x) (by omega) (by rw [List.getElem?_map, hx]; rfl)) ?_
      w_fin
      refine st_ixL (SqL.of e3) (at_of (j := a.toNat) (v := .int y) (by omega) (by rw [List.getElem?_map, hy]; rfl)) ?_
      w_fin
      refine st_setL e3 (ix_of (by omega) (by rw [List.length_map, C.len]; omega)) ?_
      have hh4 := hh3.off nh nd (.lst ((c.map V.int).set (0 + (i : Int)).toNat (.int y)))
      have g4 := go_own (g2.trans g3) hol e3 ((c.map V.int).set (0 + (i : Int)).toNat (.int y))
      have e4 : (upd H3 ol (.lst ((c.map V.int).set (0 + (i : Int)).toNat (.int y)))) ol = some (.lst ((c.set i y).map V.int)) := by
        rw [upd_same, show (0 + (i : Int)).toNat = i by omega, List.map_set]
      generalize upd H3 ol (.lst ((c.map V.int).set (0 + (i : Int)).toNat (.int y))) = H4 at hh4 g4 e4 ⊢
      w_fin
      refine st_setL e4 (ix_of a0 (by rw [List.length_map, List.length_set, C.len]; omega)) ?_
      refine ⟨m + 1, (c.set i y).set a.toNat x, _, _, _, rfl, hh4.off nh nd _, go_own g4 hol e4 _, ?_, C.swap hx hy⟩
      rw [upd_same, List.map_set (l := c.set i y)]
    · rintro σ H2 ⟨m, c, kv, av, pv, rfl, hh2, g2, e2, C⟩
      w_fin
      intro t H3 _ s3 ht
      exact k t H3 m c (hh2.same s3) (g2.trans s3.go) (SqT.of ht) C
end
section
variable {P : Program} {w : World} {K : PySem.W.Frag} {mg : Str → Option Value} {base : Heap}
theorem sls_rep {S : Addr → List V → Prop} {p : Addr} {c : List Int} (h : S p (c.map V.int)) : ∀ n : Nat, SLs S (List.replicate n (.ref p)) (List.replicate n c)
  | 0 => .nil
  | n + 1 => .cons h (sls_rep h n)
def spNet (K : PySem.W.Frag) : Sp := fun vs H Q _ => ∃ (h d : Addr) (ds : List Int) (i D n : Nat), vs = [.ref h, .int D, .int n] ∧ Hand H h d ds i ∧ 2 ≤ D ∧ D ≤ 4 ∧ 1 ≤ n ∧ n ≤ 1000 ∧
  ∀ (p : Addr) (H' : Hp) (i' : Nat) (cols : List (List Int)) (ws bs : List Int), Hand H' h d ds i' → Go (· = h) H H' → NetV K H' p n cols ws bs → Net n cols ws bs → cols.length = D → (∀ z ∈ ws, 0 ≤ z ∧ z < 4) → (∀ z ∈ bs, 0 ≤ z ∧ z < 4) → Q (.ref p) H'
set_option maxHeartbeats 1000000 in
theorem ok_net {f : Addr} {fd : FuncData} (B : Blt mg) (g_law_take : Has P w K mg base CX0 1 "_law_take" ["hand", "many"] (spTakeN K)) (g_law_order : Has P w K mg base CX0 2 "_law_order" ["hand", "many"] (spOrder K))
    (F : Fun K "_law_network" "_law_network" s_law_network f fd) : FnOk P w K mg base CX0 3 f fd ["hand", "colours", "many"] (spNet K) := by
  have sc : FnScope ["hand", "colours", "many", "links", "white", "c", "k"] ["hand", "colours", "many"] (defScope s_law_network) := ⟨rfl, rfl, rfl, by decide +kernel, rfl, by decide +kernel, by decide +kernel⟩
  refine F.ok sc (fun vs H Q E h => ?_) (fun cdv A outer s H vs Q E hr h => ?_)
  · obtain ⟨_, _, _, _, _, _, rfl, _⟩ := h
    rfl
  obtain ⟨h, d, ds, i0, D, n, rfl, hh, D2, D4, n1, n2, k⟩ := h
  refine ⟨_, (pss_cons (ps_set (i := 3) sc.nd rfl (Or.inl rfl) (pe_callTy (show CallR _ _ (rTupN K) from call_tupN) (by rfl) B.tuple (by decide +kernel) (pa_cons (pe_lc (own := [("c", 5)]) (g := gName 5) (tt := tYes) rfl sc.nd (pi_range1 (by rfl) B.range (pa_cons (pv 1) pa_nil)) (blkOk_by (N := ["hand", "colours", "many", "links", "white", "c", "k"]) (sc := defScope s_law_network) (by decide +kernel)) (fun _ _ _ _ _ => pg_name (i := 5) sc.nd rfl (Or.inl rfl)) (fun _ _ _ _ _ => pts_nil) (fun _ _ _ _ _ => (pc g_law_order hr (pa_cons (pv 0) (pa_cons (pv 2) pa_nil))))) pa_nil)))
    (pss_cons (ps_if (pt_cmpR op_eqi (pc g_law_take hr (pa_cons (pv 0) (pa_cons pe_int pa_nil))) pe_int (nomark _))
      (pss_one (ps_set (i := 3) sc.nd rfl (Or.inl rfl) (pe_op (show OpR _ _ (rRepTN K) from op_repTN) (pe_tupN (pa_cons (pe_ix ix_tup (pv 3) pe_int (fun _ _ => rfl)) pa_nil)) (pv 1))))
      pss_nil)
    (pss_cons (ps_set (i := 4) sc.nd rfl (Or.inl rfl) (pe_callTy (show CallR _ _ (rTupN K) from call_tupN) (by rfl) B.tuple (by decide +kernel) (pa_cons (pe_lc (own := [("k", 6)]) (g := gName 6) (tt := tYes) rfl sc.nd (pi_range1 (by rfl) B.range (pa_cons (pv 2) pa_nil)) (blkOk_by (N := ["hand", "colours", "many", "links", "white", "c", "k"]) (sc := defScope s_law_network) (by decide +kernel)) (fun _ _ _ _ _ => pg_name (i := 6) sc.nd rfl (Or.inl rfl)) (fun _ _ _ _ _ => pts_nil) (fun _ _ _ _ _ => (pc g_law_take hr (pa_cons (pv 0) (pa_cons pe_int pa_nil))))) pa_nil)))
    (pss_one (ps_ret (pe_tupN (pa_cons pe_str (pa_cons (pv 2) (pa_cons (pv 3) (pa_cons (pv 4) (pa_cons (pe_callTy (show CallR _ _ (rTupN K) from call_tupN) (by rfl) B.tuple (by decide +kernel) (pa_cons (pe_lc (own := [("k", 6)]) (g := gName 6) (tt := tYes) rfl sc.nd (pi_range1 (by rfl) B.range (pa_cons (pv 2) pa_nil)) (blkOk_by (N := ["hand", "colours", "many", "links", "white", "c", "k"]) (sc := defScope s_law_network) (by decide +kernel)) (fun _ _ _ _ _ => pg_name (i := 6) sc.nd rfl (Or.inl rfl)) (fun _ _ _ _ _ => pts_nil) (fun _ _ _ _ _ => (pc g_law_take hr (pa_cons (pv 0) (pa_cons pe_int pa_nil))))) pa_nil)) pa_nil))))))))))), ?_⟩
  try dsimp only [cxOf]
  w_fin
  intro lp hlp
  obtain ⟨nh, nd⟩ := hand_out hh hlp
  refine itr_walk (lo := 0) (n := ((D : Nat) : Int).toNat) (fun i H' => ∃ (m : Nat) (cs : List (List Int)), GS K (· = h) H lp cs H' ∧ Hand H' h d ds m ∧ cs.length = i ∧ ∀ c ∈ cs, Col n c) ⟨i0, [], GS.start hlp, hh.new hlp _, rfl, fun c hc => by cases hc⟩ ?_ ?_
  · rintro i H1 hi ⟨m, cs, acc, hh1, len, C⟩
    w_fin
    refine ⟨h, d, ds, m, n, rfl, hh1, n1, n2, fun p H2 m2 c hh2 g2 hp hc => ?_⟩
    obtain ⟨ac, e, f, a⟩ := (acc.step nh g2).push hp (by omega)
    refine ⟨_, e, f, m2, _, a, hh2.off nh nd _, by rw [List.length_append, len]; rfl, fun c' hc' => ?_⟩
    rcases List.mem_append.mp hc' with q | q
    · exact C c' q
    · rw [List.mem_singleton.mp q]
      exact hc
  rintro H1 ⟨m, cs, acc, hh1, len, C⟩
  have len : cs.length = D := by omega
  obtain ⟨lxs, elp, hls⟩ := acc.ex
  w_fin
  intro lt H2 _ s2 hlt
  have g2 : Go (· = h) H H2 := acc.go.trans s2.go
  have hh2 := hh1.same s2
  have hls2 := hls.imp fun _ _ z => s2.seqT z
  w_fin
  refine ⟨h, d, ds, m, 4, rfl, hh2, by omega, by omega, fun r H3 r0 r1 hh3 g3 => ?_⟩
  have hlt3 : SqT K H3 lt lxs := g3.seqT (SqT.of hlt)
  have hls3 := hls2.imp fun _ _ z => g3.seqT z
  have g13 := g2.trans g3
  w_fin
  refine st_two (fun c0 => ?_) (fun c0 => ?_)
  · w_fin
    obtain ⟨c, cs', rfl⟩ : ∃ c cs', cs = c :: cs' := by
      cases cs with
      | nil => simp at len; omega
      | cons c cs' => exact ⟨c, cs', rfl⟩
    cases hls3 with
    | @cons ca lxs' _ _ hc0 hrest =>
    refine st_ixT hlt3 (v := .ref ca) (at_of (j := 0) rfl rfl) ?_
    w_fin
    intro one H4 _ s4 hone
    w_fin
    refine ⟨one, _, _, rfl, rfl, SqT.of hone, by simp, by omega, by omega, by simp, fun ltR HR _ sR hltR => ?_⟩
    rw [List.flatten_replicate_singleton, show ((D : Nat) : Int).toNat = D by omega] at hltR
    have hc0R : SqT K HR ca (c.map V.int) := sR.seqT (s4.seqT hc0)
    have hlsR := sls_rep (S := SqT K HR) hc0R D
    have hhR := (hh3.same s4).same sR
    have gRR : Go (· = h) H HR := g13.trans (s4.trans sR).go
    have hltR : SqT K HR ltR (List.replicate D (.ref ca)) := SqT.of hltR
    have CR : ∀ c' ∈ List.replicate D c, Col n c' := fun c' hc' => by
      rw [(List.mem_replicate.mp hc').2]
      exact C c List.mem_cons_self
    have lenR : (List.replicate D c).length = D := List.length_replicate
    generalize List.replicate D (V.ref ca) = lxsR at hltR hlsR
    generalize List.replicate D c = colsR at hlsR CR lenR
    w_fin
    intro wp hwp
    obtain ⟨nwh, nwd⟩ := hand_out hhR hwp
    refine itr_walk (lo := 0) (n := ((n : Nat) : Int).toNat) (fun i H' => ∃ (m : Nat) (ws : List Int), GI (· = h) HR wp ws H' ∧ Hand H' h d ds m ∧ ws.length = i ∧ ∀ z ∈ ws, 0 ≤ z ∧ z < 4) ⟨_, [], GI.start hwp, hhR.new hwp _, rfl, fun c hc => by cases hc⟩ ?_ ?_
    · rintro i H4 hi ⟨m4, ws, aw, hh4, lw, rw4⟩
      w_fin
      refine ⟨h, d, ds, m4, 4, rfl, hh4, by omega, by omega, fun x H5 x0 x1 hh5 g5 => ?_⟩
      obtain ⟨e, f, a⟩ := (aw.step nwh g5).push x (by omega)
      refine ⟨_, e, f, _, _, a, hh5.off nwh nwd _, by rw [List.length_append, lw]; rfl, fun z hz => ?_⟩
      rcases List.mem_append.mp hz with q | q
      · exact rw4 z q
      · rw [List.mem_singleton.mp q]
        exact ⟨x0, x1⟩
    rintro H4 ⟨m4, ws, aw, hh4, lw, rw4⟩
    have ew := aw.ex
    w_fin
    intro wt H5 _ s5 hwt
    have hh5 := hh4.same s5
    w_fin
    intro bp hbp
    obtain ⟨nbh, nbd⟩ := hand_out hh5 hbp
    refine itr_walk (lo := 0) (n := ((n : Nat) : Int).toNat) (fun i H' => ∃ (m : Nat) (ws : List Int), GI (· = h) H5 bp ws H' ∧ Hand H' h d ds m ∧ ws.length = i ∧ ∀ z ∈ ws, 0 ≤ z ∧ z < 4) ⟨_, [], GI.start hbp, hh5.new hbp _, rfl, fun c hc => by cases hc⟩ ?_ ?_
    · rintro i H6 hi ⟨m6, bs, ab, hh6, lb, rb6⟩
      w_fin
      refine ⟨h, d, ds, m6, 4, rfl, hh6, by omega, by omega, fun x H7 x0 x1 hh7 g7 => ?_⟩
      obtain ⟨e, f, a⟩ := (ab.step nbh g7).push x (by omega)
      refine ⟨_, e, f, _, _, a, hh7.off nbh nbd _, by rw [List.length_append, lb]; rfl, fun z hz => ?_⟩
      rcases List.mem_append.mp hz with q | q
      · exact rb6 z q
      · rw [List.mem_singleton.mp q]
        exact ⟨x0, x1⟩
    rintro H6 ⟨m6, bs, ab, hh6, lb, rb6⟩
    have eb := ab.ex
    w_fin
    intro bt H7 _ s7 hbt
    w_fin
    intro p H8 _ s8 hp
    have gR8 : Go (· = h) HR H8 := (aw.go.trans s5.go).trans (ab.go.trans (s7.trans s8).go)
    have g58 : Go (· = h) H5 H8 := ab.go.trans (s7.trans s8).go
    refine k p H8 m6 colsR ws bs (hh6.same (s7.trans s8)) (gRR.trans gR8) ⟨ltR, wt, bt, lxsR, SqT.of hp, gR8.seqT hltR, hlsR.imp fun _ _ z => gR8.seqT z, g58.seqT (SqT.of hwt), s8.seqT (SqT.of hbt)⟩
      ⟨n1, n2, CR, by omega, by omega, by omega, fun z hz => by have := rw4 z hz; omega, fun z hz => by have := rb6 z hz; omega⟩ lenR rw4 rb6
  · have hhR := hh3
    have gRR := g13
    have hltR := hlt3
    have hlsR := hls3
    have CR := C
    have lenR := len
    generalize H3 = HR at hhR gRR hltR hlsR ⊢
    generalize hgl : lt = ltR at hltR ⊢
    generalize lxs = lxsR at hltR hlsR
    generalize cs = colsR at hlsR CR lenR
    w_fin
    intro wp hwp
    obtain ⟨nwh, nwd⟩ := hand_out hhR hwp
    refine itr_walk (lo := 0) (n := ((n : Nat) : Int).toNat) (fun i H' => ∃ (m : Nat) (ws : List Int), GI (· = h) HR wp ws H' ∧ Hand H' h d ds m ∧ ws.length = i ∧ ∀ z ∈ ws, 0 ≤ z ∧ z < 4) ⟨_, [], GI.start hwp, hhR.new hwp _, rfl, fun c hc => by cases hc⟩ ?_ ?_
    · rintro i H4 hi ⟨m4, ws, aw, hh4, lw, rw4⟩
      w_fin
      refine ⟨h, d, ds, m4, 4, rfl, hh4, by omega, by omega, fun x H5 x0 x1 hh5 g5 => ?_⟩
      obtain ⟨e, f, a⟩ := (aw.step nwh g5).push x (by omega)
      refine ⟨_, e, f, _, _, a, hh5.off nwh nwd _, by rw [List.length_append, lw]; rfl, fun z hz => ?_⟩
      rcases List.mem_append.mp hz with q | q
      · exact rw4 z q
      · rw [List.mem_singleton.mp q]
        exact ⟨x0, x1⟩
    rintro H4 ⟨m4, ws, aw, hh4, lw, rw4⟩
    have ew := aw.ex
    w_fin
    intro wt H5 _ s5 hwt
    have hh5 := hh4.same s5
    w_fin
    intro bp hbp
    obtain ⟨nbh, nbd⟩ := hand_out hh5 hbp
    refine itr_walk (lo := 0) (n := ((n : Nat) : Int).toNat) (fun i H' => ∃ (m : Nat) (ws : List Int), GI (· = h) H5 bp ws H' ∧ Hand H' h d ds m ∧ ws.length = i ∧ ∀ z ∈ ws, 0 ≤ z ∧ z < 4) ⟨_, [], GI.start hbp, hh5.new hbp _, rfl, fun c hc => by cases hc⟩ ?_ ?_
    · rintro i H6 hi ⟨m6, bs, ab, hh6, lb, rb6⟩
      w_fin
      refine ⟨h, d, ds, m6, 4, rfl, hh6, by omega, by omega, fun x H7 x0 x1 hh7 g7 => ?_⟩
      obtain ⟨e, f, a⟩ := (ab.step nbh g7).push x (by omega)
      refine ⟨_, e, f, _, _, a, hh7.off nbh nbd _, by rw [List.length_append, lb]; rfl, fun z hz => ?_⟩
      rcases List.mem_append.mp hz with q | q
      · exact rb6 z q
      · rw [List.mem_singleton.mp q]
        exact ⟨x0, x1⟩
    rintro H6 ⟨m6, bs, ab, hh6, lb, rb6⟩
    have eb := ab.ex
    w_fin
    intro bt H7 _ s7 hbt
    w_fin
    intro p H8 _ s8 hp
    have gR8 : Go (· = h) HR H8 := (aw.go.trans s5.go).trans (ab.go.trans (s7.trans s8).go)
    have g58 : Go (· = h) H5 H8 := ab.go.trans (s7.trans s8).go
    refine k p H8 m6 colsR ws bs (hh6.same (s7.trans s8)) (gRR.trans gR8) ⟨ltR, wt, bt, lxsR, SqT.of hp, gR8.seqT hltR, hlsR.imp fun _ _ z => gR8.seqT z, g58.seqT (SqT.of hwt), s8.seqT (SqT.of hbt)⟩
      ⟨n1, n2, CR, by omega, by omega, by omega, fun z hz => by have := rw4 z hz; omega, fun z hz => by have := rb6 z hz; omega⟩ lenR rw4 rb6
end
section
variable {P : Program} {w : World} {K : PySem.W.Frag} {mg : Str → Option Value} {base : Heap}
def spOther (K : PySem.W.Frag) : Sp := fun vs H Q _ => ∃ sd : Bool, vs = [.str (sideS sd)] ∧ Q (.str (sideS (!sd))) H
theorem ok_other {f : Addr} {fd : FuncData} (F : Fun K "other_side" "other_side" sother_side f fd) : FnOk P w K mg base CX0 1 f fd ["side"] (spOther K) := by
  have sc : FnScope ["side"] ["side"] (defScope sother_side) := ⟨rfl, rfl, rfl, by decide +kernel, rfl, by decide +kernel, by decide +kernel⟩
  refine F.ok sc (fun vs H Q E h => ?_) (fun cdv A outer s H vs Q E hr h => ?_)
  · obtain ⟨_, rfl, _⟩ := h
    rfl
  obtain ⟨sd, rfl, k⟩ := h
  refine ⟨_, (pss_one (ps_ret (pe_ifExp (pt_cmpR op_eqs (pv 0) pe_str (nomark _)) pe_str pe_str))), ?_⟩
  try dsimp only [cxOf]
  w_fin
  cases sd with
  | true =>
    refine st_y rfl ?_
    w_fin
    exact k
  | false =>
    refine st_n (by decide) ?_
    w_fin
    exact k
/-- for each side the columns that lead from it -/
def EndsV (K : PySem.W.Frag) (H : Hp) (e : Addr) (n : Nat) (cols : List (List Int)) : Prop := ∃ (wl bl : Addr) (cs cs' : List V), H e = some (.dK [(Sum.inr "white", .ref wl), (Sum.inr "black", .ref bl)]) ∧ SqT K H wl cs ∧ SLs (SqT K H) cs cols ∧ SqT K H bl cs' ∧ SLs (SqT K H) cs' (cols.map (back n))
theorem EndsV.stay {H H' : Hp} {e : Addr} {n : Nat} {cols : List (List Int)} (s : Same H H') (h : EndsV K H e n cols) : EndsV K H' e n cols := by
  obtain ⟨wl, bl, cs, cs', h1, h2, h3, h4, h5⟩ := h
  exact ⟨wl, bl, cs, cs', s _ _ h1, s.seqT h2, h3.imp fun _ _ z => s.seqT z, s.seqT h4, h5.imp fun _ _ z => s.seqT z⟩
theorem EndsV.get {H : Hp} {e : Addr} {n : Nat} {cols : List (List Int)} (h : EndsV K H e n cols) (sd : Bool) : ∃ (l : Addr) (cs : List V), (∀ H', Same H H' → DGet H' e (.str (sideS sd)) (some (.ref l))) ∧ SqT K H l cs ∧ SLs (SqT K H) cs (colsOf n cols sd) := by
  obtain ⟨wl, bl, cs, cs', h1, h2, h3, h4, h5⟩ := h
  cases sd with
  | true => exact ⟨wl, cs, fun H' s => .inl ⟨_, Sum.inr "white", .inl (s _ _ h1), rfl, rfl⟩, h2, h3⟩
  | false => exact ⟨bl, cs', fun H' s => .inl ⟨_, Sum.inr "black", .inl (s _ _ h1), rfl, rfl⟩, h4, h5⟩
def spEnds (K : PySem.W.Frag) : Sp := fun vs H Q _ => ∃ (a : Addr) (n : Nat) (cols : List (List Int)) (ws bs : List Int), vs = [.ref a] ∧ NetV K H a n cols ws bs ∧ Net n cols ws bs ∧
  ∀ (e : Addr) (H' : Hp), Same H H' → EndsV K H' e n cols → Q (.ref e) H'
set_option maxHeartbeats 1000000 in
theorem ok_ends {f : Addr} {fd : FuncData} (B : Blt mg) (F : Fun K "ends_of" "ends_of" sends_of f fd) : FnOk P w K mg base CX0 1 f fd ["network"] (spEnds K) := by
  have sc : FnScope ["network", "back", "column", "_", "n", "links", "ends", "white", "black"] ["network"] (defScope sends_of) := ⟨rfl, rfl, rfl, by decide +kernel, rfl, by decide +kernel, by decide +kernel⟩
  refine F.ok sc (fun vs H Q E h => ?_) (fun cdv A outer s H vs Q E hr h => ?_)
  · obtain ⟨_, _, _, _, _, rfl, _⟩ := h
    rfl
  obtain ⟨a, n, cols, ws, bs, rfl, ⟨la, wa, ba, cs, h1, h2, h3, h4, h5⟩, N, k⟩ := h
  refine ⟨_, (pss_cons (ps_asg (pv 0) (pg_tup rfl (pgs_cons (pg_name (i := 3) sc.nd rfl (Or.inl rfl)) (pgs_cons (pg_name (i := 4) sc.nd rfl (Or.inl rfl)) (pgs_cons (pg_name (i := 5) sc.nd rfl (Or.inl rfl)) (pgs_cons (pg_name (i := 3) sc.nd rfl (Or.inl rfl)) (pgs_cons (pg_name (i := 3) sc.nd rfl (Or.inl rfl)) pgs_nil)))))))
    (pss_cons (ps_set (i := 1) sc.nd rfl (Or.inl rfl) (pe_lstN pa_nil))
    (pss_cons (ps_for PassesOwn.never rfl (pi_tup (pv 5)) (pg_name (i := 2) sc.nd rfl (Or.inl rfl))
      (pss_cons (ps_set (i := 6) sc.nd rfl (Or.inl rfl) (pe_op (show OpR _ _ rMulLN from op_mulLN) (pe_lstN (pa_cons pe_int pa_nil)) (pv 4)))
      (pss_cons (ps_for PassesOwn.never rfl (pi_enT (by rfl) B.enumerate (pa_cons (pv 2) pa_nil)) (pg_tup rfl (pgs_cons (pg_name (i := 7) sc.nd rfl (Or.inl rfl)) (pgs_cons (pg_name (i := 8) sc.nd rfl (Or.inl rfl)) pgs_nil)))
        (pss_one (ps_asg (pv 7) (pg_sub (pv 6) (pv 8) set_list))))
      (pss_one (ps_expr (pe_bm PySem.F.plainAttrs_list PySem.F.slot_list_append PySem.F.type_list_append mt_append (pv 1) (pa_cons (pe_callTy (show CallR _ _ (rTupN K) from call_tupN) (by rfl) B.tuple (by decide +kernel) (pa_cons (pv 6) pa_nil)) pa_nil)))))))
    (pss_one (ps_ret (pe_disp (pps_cons pe_str (pv 5) (pps_cons pe_str (pe_callTy (show CallR _ _ (rTupN K) from call_tupN) (by rfl) B.tuple (by decide +kernel) (pa_cons (pv 1) pa_nil)) pps_nil)) (by rfl) (by rfl) (fun z => by cases z) (by decide))))))), ?_⟩
  try dsimp only [cxOf]
  w_fin
  refine st_gtup h1 rfl ?_
  w_fin
  intro bp H1 hbp s1 ebp
  have h2' := s1.seqT h2
  w_fin
  refine fr_tup (xs := cs) (fun i σ H' => ∃ (cv ev wv bv : Option V) (xv : V), σ = [some (.ref a), some (.ref bp), cv, some xv, some (.int n), some (.ref la), ev, wv, bv] ∧ GS K (fun _ => False) H bp ((cols.map (back n)).take i) H' ∧ Same H H')
    ⟨none, none, none, none, _, rfl, ⟨hbp, s1.go, [], ebp, .nil⟩, s1⟩ (fun i σ H' _ z => by
      obtain ⟨_, _, _, _, _, _, _, s⟩ := z
      exact s.seqT h2) ?_ ?_
  · rintro i y σ H2 hi ⟨cv, ev, wv, bv, xv, rfl, acc, s2⟩
    obtain ⟨ca, c, rfl, hc, hca⟩ := h3.of hi
    have C := N.col c (List.mem_of_getElem? hc)
    have il : i < cols.length := (List.getElem?_eq_some_iff.mp hc).1
    w_fin
    intro ol H3 hol s3 eol
    w_fin
    refine ⟨ol, _, _, rfl, rfl, eol, by omega, by have := N.few; omega, by have := N.few; simp; omega, fun el H4 hel s4 eel => ?_⟩
    rw [List.flatten_replicate_singleton, show ((n : Nat) : Int).toNat = n by omega] at eel
    have hca4 := s4.seqT (s3.seqT (s2.seqT hca))
    have acc4 := acc.step (fun z => z) (s3.trans s4).go
    have s24 := s2.trans (s3.trans s4)
    have hel0 : H el = none := (s2.trans s3).free hel
    w_fin
    refine fr_enum (xs := c.map V.int) (fun j σ H' => ∃ (wv bv : Option V) (es : List Int), σ = [some (.ref a), some (.ref bp), some (.ref ca), some xv, some (.int n), some (.ref la), some (.ref el), wv, bv] ∧ H' el = some (.lst (es.map V.int)) ∧ Ends n c es j ∧ GS K (fun _ => False) H bp ((cols.map (back n)).take i) H' ∧ Same H H' ∧ SqT K H' ca (c.map V.int))
      ⟨_, _, List.replicate n 0, rfl, by rw [eel, List.map_replicate], Ends.start List.length_replicate, acc4, s24, hca4⟩ (fun j σ H' _ z => by
        obtain ⟨_, _, _, _, _, _, _, _, q⟩ := z
        exact q) ?_ ?_
    · rintro j x σ H5 T H6 hj ⟨wv, bv, es, rfl, ees, En, acc5, s5, hca5⟩ hT s6 eT
      obtain ⟨z, hz, rfl⟩ := item_of hj
      have rz := C.mem.mp (List.mem_of_getElem? hz)
      refine st_gtup (SqT.of eT) rfl ?_
      have ees6 := s6 _ _ ees
      w_fin
      refine st_setL ees6 (ix_of rz.1 (by rw [List.length_map, En.1]; exact rz.2)) ?_
      obtain ⟨ac1, e1, _⟩ := acc.ex
      have nbe : bp ≠ el := ne_of_none (s3 _ _ e1) hel
      have t := tups_lst (ys := (es.map V.int).set z.toNat (.int ((0 + j : Nat) : Int))) ees6
      refine ⟨_, _, es.set z.toNat (j : Int), rfl, ?_, En.step C hz, ?_, same_own (s5.trans s6) hel0 _, t.seq (s6.seqT hca5)⟩
      · rw [upd_same, List.map_set, Nat.zero_add]
      · obtain ⟨ac, e1, l1⟩ := (acc5.step (fun z => z) s6.go).ex
        exact ⟨hbp, go_own (acc5.go.trans s6.go) hel0 ees6 _, ac, by rw [upd_ne nbe]; exact e1, l1.imp fun _ _ q => t.seq q⟩
    · rintro σ H5 ⟨wv, bv, es, rfl, ees, En, acc5, s5, hca5⟩
      rw [List.length_map, C.len] at En
      rw [En.full C] at ees
      w_fin
      obtain ⟨ac0, e0, _⟩ := acc5.ex
      refine st_tyL e0 ?_
      w_fin
      intro t H6 _ s6 ht
      obtain ⟨ac, e, f, a6⟩ := (acc5.step (fun z => z) s6.go).push (p := t) (c := back n c) (SqT.of ht) (by rw [List.length_take, List.length_map]; have := N.D4; omega)
      w_fin
      refine st_app e f ?_
      refine ⟨_, _, _, _, _, rfl, ?_, same_own (s5.trans s6) hbp _⟩
      rw [take_more (x := back n c) (by rw [List.getElem?_map, hc]; rfl)]
      exact a6
  · rintro σ H2 ⟨cv, ev, wv, bv, xv, rfl, acc, s2⟩
    rw [List.take_of_length_le (by rw [List.length_map, h3.len]; exact Nat.le_refl _)] at acc
    obtain ⟨ac, e, hac⟩ := acc.ex
    w_fin
    intro q hq
    have sq := same_new hq (.dK [])
    have eq1 : (upd H2 q (.dK [])) q = some (.dK []) := upd_same
    have hq0 := s2.free hq
    generalize upd H2 q (.dK []) = H3 at sq eq1 ⊢
    have e3 := sq _ _ e
    w_fin
    intro t H4 _ s4 ht
    have sAll := s2.trans (sq.trans s4)
    w_fin
    refine ⟨s4 _ _ eq1, [(Sum.inr "white", .ref la), (Sum.inr "black", .ref t)], rfl, by simp, ?_⟩
    have s5 := same_own sAll hq0 (.dK (mergeK [] [(Sum.inr "white", .ref la), (Sum.inr "black", .ref t)]))
    have ntq : t ≠ q := fun z => by
      rw [z, s4 _ _ eq1] at ht
      cases ht
    have hac4 : SLs (SqT K (upd H4 q (.dK (mergeK [] [(Sum.inr "white", .ref la), (Sum.inr "black", .ref t)])))) ac (cols.map (back n)) := hac.imp fun b xs z => by
      have z4 := s4.seqT (sq.seqT z)
      rcases z4 with (z4 | ⟨o, z4⟩) | z4
      · exact .inl (.inl (by rw [upd_ne (fun w => by rw [w, s4 _ _ eq1] at z4; cases z4)]; exact z4))
      · exact .inl (.inr ⟨o, by rw [upd_ne (fun w => by rw [w, s4 _ _ eq1] at z4; cases z4)]; exact z4⟩)
      · exact .inr z4
    exact k q _ s5 ⟨la, t, cs, ac, by rw [upd_same]; rfl, s5.seqT h2, h3.imp fun _ _ z => s5.seqT z, SqT.of (by rw [upd_ne ntq]; exact ht), hac4⟩
end
section
variable {P : Program} {w : World} {K : PySem.W.Frag} {mg : Str → Option Value} {base : Heap}
/-- a node of a side -/
def InV (K : PySem.W.Frag) (H : Hp) (n : Nat) (cols : List (List Int)) (ws bs : List Int) (a : Addr) : Prop := NetV K H a n cols ws bs ∧ Net n cols ws bs
def spInputs (K : PySem.W.Frag) : Sp := fun vs H Q _ => ∃ (a : Addr) (sd : Bool) (n : Nat) (cols : List (List Int)) (ws bs : List Int), vs = [.ref a, .str (sideS sd)] ∧ NetV K H a n cols ws bs ∧ ∀ l : Addr, SqT K H l ((if sd then ws else bs).map V.int) → Q (.ref l) H
theorem ok_inputs {f : Addr} {fd : FuncData} (F : Fun K "inputs_of" "inputs_of" sinputs_of f fd) : FnOk P w K mg base CX0 1 f fd ["network", "side"] (spInputs K) := by
  have sc : FnScope ["network", "side"] ["network", "side"] (defScope sinputs_of) := ⟨rfl, rfl, rfl, by decide +kernel, rfl, by decide +kernel, by decide +kernel⟩
  refine F.ok sc (fun vs H Q E h => ?_) (fun cdv A outer s H vs Q E hr h => ?_)
  · obtain ⟨_, _, _, _, _, _, rfl, _⟩ := h
    rfl
  obtain ⟨a, sd, n, cols, ws, bs, rfl, ⟨la, wa, ba, cs, h1, h2, h3, h4, h5⟩, k⟩ := h
  refine ⟨_, (pss_one (ps_ret (pe_ifExp (pt_cmpR op_eqs (pv 1) pe_str (nomark _)) (pe_ix ix_tup (pv 0) pe_int (fun _ _ => rfl)) (pe_ix ix_tup (pv 0) pe_int (fun _ _ => rfl))))), ?_⟩
  try dsimp only [cxOf]
  w_fin
  cases sd with
  | true =>
    refine st_y rfl ?_
    w_fin
    exact k wa h4
  | false =>
    refine st_n (by decide) ?_
    w_fin
    exact k ba h5
theorem nfun_at {n : Nat} {cols : List (List Int)} {ws bs : List Int} (N : Net n cols ws bs) {sd : Bool} {i : Int} (i0 : 0 ≤ i) (i1 : i < n) : atI ((if sd then ws else bs).map V.int) i = some (.int (nfun ws bs (sd, i))) := by
  have l : (if sd then ws else bs).length = n := by cases sd; exact N.bl; exact N.wl
  obtain ⟨z, hz, _, hat⟩ := at_int (ns := if sd then ws else bs) i0 (by rw [l]; exact i1)
  rw [hat]
  unfold nfun atN
  simp only
  rw [hz]
  rfl
/-- the node's view, or a branch; lvl: how many calls may stand in one another -/
def spSeen (K : PySem.W.Frag) (lvl : Nat) : Sp := fun vs H Q _ => ∃ (a e : Addr) (sd : Bool) (i b : Int) (T n : Nat) (cols : List (List Int)) (ws bs : List Int), vs = [.ref a, .ref e, .str (sideS sd), .int i, .int T, .int b] ∧ NetV K H a n cols ws bs ∧ Net n cols ws bs ∧ EndsV K H e n cols ∧ 0 ≤ i ∧ i < n ∧ T < lvl ∧
  ∀ (p : Addr) (H' : Hp), Same H H' → Dt K H' (.ref p) (gview (nfun ws bs) (nnx n cols) cols.length T (sd, i) b) → Q (.ref p) H'
set_option maxHeartbeats 1000000 in
theorem ok_seen (lvl : Nat) {f : Addr} {fd : FuncData} {dvs : List V} (B : Blt mg) (ginputs_of : Has P w K mg base CX0 1 "inputs_of" ["network", "side"] (spInputs K)) (gother_side : Has P w K mg base CX0 1 "other_side" ["side"] (spOther K))
    (g_seen : Has P w K mg base CX0 (lvl + 1) "_seen" ["network", "ends", "side", "node", "reach", "colour"] (spSeen K lvl)) (F : FunV K "_seen" s_seen dvs f fd) : FnOk P w K mg base CX0 (lvl + 2) f fd ["network", "ends", "side", "node", "reach", "colour"] (spSeen K (lvl + 1)) := by
  have sc : FnScope ["network", "ends", "side", "node", "reach", "colour", "number", "parts", "behind", "column"] ["network", "ends", "side", "node", "reach", "colour"] (defScope s_seen) := ⟨rfl, rfl, rfl, by decide +kernel, rfl, by decide +kernel, by decide +kernel⟩
  refine funV_ok F sc (fun vs H Q E h => ?_) (fun cdv A outer s H vs Q E hr h => ?_)
  · obtain ⟨_, _, _, _, _, _, _, _, _, _, rfl, _⟩ := h
    rfl
  obtain ⟨a, e, sd, i, b, T, n, cols, ws, bs, rfl, hV, N, hE, i0, i1, hT, k⟩ := h
  refine ⟨_, (pss_cons (ps_set (i := 6) sc.nd rfl (Or.inl rfl) (pe_ix ix_tup (pc ginputs_of hr (pa_cons (pv 0) (pa_cons (pv 2) pa_nil))) (pv 3) (fun _ _ => rfl)))
    (pss_cons (ps_if (pt_cmpR op_eqi (pv 4) pe_int (nomark _))
      (pss_one (ps_ret (pe_tupN (pa_cons (pv 6) pa_nil))))
      pss_nil)
    (pss_cons (ps_set (i := 7) sc.nd rfl (Or.inl rfl) (pe_lstN pa_nil))
    (pss_cons (ps_for PassesOwn.never rfl (pi_enTS (by rfl) B.enumerate (pa_cons (pe_dget (hu_of hr) (pv 1) (pv 2) (fun _ _ => rfl)) pa_nil) (pk_cons pe_int pk_nil)) (pg_tup rfl (pgs_cons (pg_name (i := 8) sc.nd rfl (Or.inl rfl)) (pgs_cons (pg_name (i := 9) sc.nd rfl (Or.inl rfl)) pgs_nil)))
      (pss_one (ps_if (pt_cmpR op_eqi (pv 8) (pv 5) (nomark _))
        (pss_one (ps_expr (pe_bm PySem.F.plainAttrs_list PySem.F.slot_list_append PySem.F.type_list_append mt_append (pv 7) (pa_cons pe_non pa_nil))))
        (pss_one (ps_expr (pe_bm PySem.F.plainAttrs_list PySem.F.slot_list_append PySem.F.type_list_append mt_append (pv 7) (pa_cons (pc g_seen hr (pa_cons (pv 0) (pa_cons (pv 1) (pa_cons (pc gother_side hr (pa_cons (pv 2) pa_nil)) (pa_cons (pe_ix ix_tup (pv 9) (pv 3) (fun _ _ => rfl)) (pa_cons (pe_op op_sub (pv 4) pe_int) (pa_cons (pv 8) pa_nil))))))) pa_nil)))))))
    (pss_one (ps_ret (pe_tupN (pa_cons (pv 6) (pa_cons (pe_callTy (show CallR _ _ (rTupN K) from call_tupN) (by rfl) B.tuple (by decide +kernel) (pa_cons (pv 7) pa_nil)) pa_nil))))))))), ?_⟩
  try dsimp only [cxOf]
  w_fin
  refine ⟨a, sd, n, cols, ws, bs, rfl, hV, fun l hl => ?_⟩
  w_fin
  refine st_ixT hl (nfun_at N i0 i1) ?_
  w_fin
  refine st_two (fun c => ?_) (fun c => ?_)
  · obtain rfl : T = 0 := by omega
    w_fin
    intro p H1 _ s1 hp
    exact k p H1 s1 (.tup (SqT.of hp) (.cons (.int _) .nil))
  obtain ⟨S, rfl⟩ : ∃ S, T = S + 1 := ⟨T - 1, by omega⟩
  w_fin
  intro pl H1 hpl s1 epl
  obtain ⟨el, cs, hg, hel, hcs⟩ := hE.get sd
  have hel1 := s1.seqT hel
  w_fin
  refine ⟨e, .ref el, rfl, hg _ s1, ?_⟩
  w_fin
  have D4 := N.D4
  have lcs : cs.length = cols.length := by rw [hcs.len, colsOf_len]
  refine fr_enum (xs := cs) (fun j σ H' => ∃ (bv cv : Option V), σ = [some (.ref a), some (.ref e), some (.str (sideS sd)), some (.int i), some (.int ((S + 1 : Nat) : Int)), some (.int b), some (.int (nfun ws bs (sd, i))), some (.ref pl), bv, cv] ∧
    AccD K H pl ((gparts (nfun ws bs) (nnx n cols) cols.length S (sd, i) b).take j) H') ⟨none, none, rfl, ⟨hpl, s1, [], epl, .nil⟩⟩ (fun j σ H' _ z => by
      obtain ⟨_, _, _, q⟩ := z
      exact q.same.seqT hel) ?_ ?_
  · rintro j y σ H2 Tp H3 hj ⟨bv, cv, rfl, acc⟩ hTp s3 eTp
    have jD : j < cols.length := by
      have := (List.getElem?_eq_some_iff.mp hj).1
      omega
    obtain ⟨c', z, hc', hz, z0, z1, enx⟩ := N.nx (sd := sd) i0 i1 jD
    obtain ⟨ca, hca, hcaS⟩ := hcs.at hc'
    rw [hca] at hj
    cases hj
    have few : ((gparts (nfun ws bs) (nnx n cols) cols.length S (sd, i) b).take j).length ≤ 100000 := by rw [List.length_take, gparts_len]; omega
    have acc3 := acc.step s3
    obtain ⟨ac0, e0, _⟩ := acc3.ex
    rw [show ((1 + j : Nat) : Int) = 1 + (j : Int) by omega] at eTp
    refine st_gtup (SqT.of eTp) rfl ?_
    w_fin
    refine st_two (fun c1 => ?_) (fun c1 => ?_)
    · w_fin
      obtain ⟨ac, e1, l1, a4⟩ := acc3.push (v := .non) (r := .none) .non
      refine st_app e1 (lt_small (by omega)) ?_
      refine ⟨_, _, rfl, ?_⟩
      rw [gparts_take jD, if_pos (by omega)]
      exact a4
    · have sH := acc3.same
      w_fin
      refine ⟨sd, rfl, ?_⟩
      w_fin
      refine st_ixT (sH.seqT hcaS) (at_of (j := i.toNat) (v := .int z) (by omega) (by rw [List.getElem?_map, hz]; rfl)) ?_
      w_fin
      refine ⟨a, e, !sd, z, 1 + (j : Int), S, n, cols, ws, bs, ?_, hV.stay sH.tups, N, hE.stay sH, z0, z1, by omega, fun q H4 s4 hq => ?_⟩
      · rw [show ((S + 1 : Nat) : Int) - 1 = (S : Int) by omega]
      w_fin
      obtain ⟨ac, e1, l1, a5⟩ := (acc3.step s4).push hq
      refine st_app e1 (lt_small (by omega)) ?_
      refine ⟨_, _, rfl, ?_⟩
      rw [gparts_take jD, if_neg (by omega), enx]
      exact a5
  · rintro σ H2 ⟨bv, cv, rfl, acc⟩
    rw [lcs, List.take_of_length_le (by rw [gparts_len]; exact Nat.le_refl _)] at acc
    obtain ⟨ac, e1, hac⟩ := acc.ex
    w_fin
    intro t H3 _ s3 ht
    w_fin
    intro p H4 _ s4 hp
    exact k p H4 (acc.same.trans (s3.trans s4)) (.tup (SqT.of hp) (.cons (.int _) (.cons (.tup (SqT.of (s4 _ _ ht)) (hac.stay (s3.trans s4).tups)) .nil)))
theorem seen_no (vs : List V) (H : Hp) (Q : VK) (E : XK) : ¬ spSeen K 0 vs H Q E := fun h => by
  obtain ⟨_, _, _, _, _, _, _, _, _, _, _, _, _, _, _, _, h, _⟩ := h
  omega
theorem has_seen {dvs : List V} (B : Blt mg) (d : DefV K mg "_seen" s_seen ["network", "ends", "side", "node", "reach", "colour"] dvs) (g1 : Has P w K mg base CX0 1 "inputs_of" ["network", "side"] (spInputs K)) (g2 : Has P w K mg base CX0 1 "other_side" ["side"] (spOther K)) :
    ∀ n : Nat, Has P w K mg base CX0 (n + 1) "_seen" ["network", "ends", "side", "node", "reach", "colour"] (spSeen K n)
  | 0 => d.has fun f fd F => ⟨fun vs H Q E h => absurd h (seen_no vs H Q E), fun A outer s H args us vs Q E _ _ _ _ h => absurd h (seen_no vs H Q E)⟩
  | n + 1 => d.has fun f fd F => ok_seen n B g1 g2 (has_seen B d g1 g2 n) F
/-- the view of a node, by the program -/
def spView (K : PySem.W.Frag) (C : Addr) : Sp := fun vs H Q E => ∃ (M : Addr → Prop) (a : Addr) (sd : Bool) (i : Int) (x : V) (d : PyData) (n : Nat) (cols : List (List Int)) (ws bs : List Int), vs = [.ref a, .str (sideS sd), .int i, x] ∧ Dn M K H x d ∧ NetV K H a n cols ws bs ∧ Net n cols ws bs ∧ 0 ≤ i ∧ i < n ∧
  ((isNum d 0 4 = false ∧ E (.ref C) none H) ∨ (∃ T : Nat, d = .int T ∧ T ≤ 4 ∧ ∀ (p : Addr) (H' : Hp), Same H H' → Dt K H' (.ref p) (gview (nfun ws bs) (nnx n cols) cols.length T (sd, i) 0) → Q (.ref p) H'))
theorem ok_view {C : Addr} {f : Addr} {fd : FuncData} (B : Blt mg) (T : Cst mg) (gcheck_reach : Has P w K mg base (L2.CX P w) 2 "check_reach" ["reach", "low", "high"] (spCheck K C)) (gends_of : Has P w K mg base CX0 1 "ends_of" ["network"] (spEnds K))
    (v_seen : HasD P w K mg base CX0 6 "_seen" ["network", "ends", "side", "node", "reach", "colour"] [.int 0] (spSeen K 5)) (F : Fun K "view_in" "view_in" sview_in f fd) : FnOk P w K mg base (L2.CX P w) 7 f fd ["network", "side", "node", "reach"] (spView K C) := by
  have sc : FnScope ["network", "side", "node", "reach"] ["network", "side", "node", "reach"] (defScope sview_in) := ⟨rfl, rfl, rfl, by decide +kernel, rfl, by decide +kernel, by decide +kernel⟩
  refine F.okX sc (fun vs H Q E h => ?_) (fun cdv A outer s H vs Q E hr h => ?_)
  · obtain ⟨_, _, _, _, _, _, _, _, _, _, rfl, _⟩ := h
    rfl
  obtain ⟨M, a, sd, i, x, d, n, cols, ws, bs, rfl, hd, hV, N, i0, i1, h⟩ := h
  obtain ⟨tk, hMOST_REACH⟩ := T.MOST_REACH
  refine ⟨_, (pss_cons (ps_expr (pcE gcheck_reach hr (takes_of rfl rfl rfl rfl) (pa_cons (pv 3) (pa_cons pe_int (pa_cons (pe_glob (v := V.int _) rfl hMOST_REACH ⟨_, rfl⟩) pa_nil)))))
    (pss_one (ps_ret (pcD v_seen hr (pa_cons (pv 0) (pa_cons (pc gends_of hr (pa_cons (pv 0) pa_nil)) (pa_cons (pv 1) (pa_cons (pv 2) (pa_cons (pv 3) pa_nil))))))))), ?_⟩
  try dsimp only [cxOf]
  w_fin
  rcases h with ⟨hn, e⟩ | ⟨T, rfl, hT, k⟩
  · exact ⟨M, x, d, 0, 4, rfl, hd, fun z => by (rw [z] at hn; cases hn), fun _ => e⟩
  obtain rfl := dn_int hd
  refine ⟨M, _, _, 0, 4, rfl, hd, fun _ => ?_, fun z => ?_⟩
  · w_fin
    refine ⟨a, n, cols, ws, bs, rfl, hV, N, fun e H1 s1 hE => ?_⟩
    w_fin
    exact ⟨a, e, sd, i, 0, T, n, cols, ws, bs, rfl, hV.stay s1.tups, N, hE, i0, i1, by omega, fun p H2 s2 hp => k p H2 (s1.trans s2) hp⟩
  · rw [show isNum (.int ((T : Nat) : Int)) 0 4 = (decide ((0 : Int) ≤ T) && decide ((T : Int) ≤ 4)) from rfl, decide_eq_true (by omega), decide_eq_true (by omega)] at z
    cases z
end
section
variable {P : Program} {w : World} {K : PySem.W.Frag} {mg : Str → Option Value} {base : Heap}
theorem index_flat {K : PySem.W.Frag} {H : Hp} {l : Addr} {c : List Int} {n : Nat} {b : Int} {Q : VK} (C : Col n c) (b0 : 0 ≤ b) (b1 : b < n) (hl : H l = some (.lst (c.map V.int))) (q : Q (.int (spotN c b)) H) : rIndex K (.ref l) [.int b] H Q := by
  obtain ⟨s0, s1, s2⟩ := C.spot b0 b1
  refine ⟨l, _, .int b, (spotN c b).toNat, .int b, rfl, rfl, SqL.of hl, rfl, flat_ints _, by rw [List.getElem?_map, s2]; rfl, ?_, fun m z' hm hz => ?_, ?_⟩
  · show decide (b = b) = true
    exact decide_eq_true rfl
  · obtain ⟨z, hz', rfl⟩ := item_of hz
    show decide (z = b) = false
    refine decide_eq_false fun e => ?_
    subst e
    have := C.inj hz' s2
    omega
  · rw [show (((spotN c b).toNat : Nat) : Int) = spotN c b by omega]
    exact q
def spBehind (K : PySem.W.Frag) : Sp := fun vs H Q _ => ∃ (a : Addr) (sd : Bool) (i : Int) (j n : Nat) (cols : List (List Int)) (ws bs : List Int), vs = [.ref a, .str (sideS sd), .int i, .int (1 + (j : Int))] ∧ NetV K H a n cols ws bs ∧ Net n cols ws bs ∧ 0 ≤ i ∧ i < n ∧ j < cols.length ∧
  ∀ (p : Addr) (H' : Hp), Same H H' → H' p = some (.tup [.str (sideS (!sd)), .int (nnx n cols (1 + (j : Int)) (sd, i)).2]) → Q (.ref p) H'
theorem ok_behind {f : Addr} {fd : FuncData} (B : Blt mg) (F : Fun K "_law_behind" "_law_behind" s_law_behind f fd) : FnOk P w K mg base CX0 1 f fd ["network", "side", "node", "colour"] (spBehind K) := by
  have sc : FnScope ["network", "side", "node", "colour", "link"] ["network", "side", "node", "colour"] (defScope s_law_behind) := ⟨rfl, rfl, rfl, by decide +kernel, rfl, by decide +kernel, by decide +kernel⟩
  refine F.ok sc (fun vs H Q E h => ?_) (fun cdv A outer s H vs Q E hr h => ?_)
  · obtain ⟨_, _, _, _, _, _, _, _, rfl, _⟩ := h
    rfl
  obtain ⟨a, sd, i, j, n, cols, ws, bs, rfl, hV, N, i0, i1, hj, k⟩ := h
  obtain ⟨la, wa, ba, cs, h1, h2, h3, h4, h5⟩ := id hV
  refine ⟨_, (pss_cons (ps_set (i := 4) sc.nd rfl (Or.inl rfl) (pe_ix ix_tup (pe_ix ix_tup (pv 0) pe_int (fun _ _ => rfl)) (pe_op op_sub (pv 3) pe_int) (fun _ _ => rfl)))
    (pss_cons (ps_if (pt_cmpR op_eqs (pv 1) pe_str (nomark _))
      (pss_one (ps_ret (pe_tupN (pa_cons pe_str (pa_cons (pe_ix ix_tup (pv 4) (pv 2) (fun _ _ => rfl)) pa_nil)))))
      pss_nil)
    (pss_one (ps_ret (pe_tupN (pa_cons pe_str (pa_cons (pe_bm PySem.F.plainAttrs_list PySem.F.slot_list_index PySem.F.type_list_index mt_index (pe_callTy (show CallR _ _ (rListN K) from call_listN) (by rfl) B.list (by decide +kernel) (pa_cons (pv 4) pa_nil)) (pa_cons (pv 2) pa_nil)) pa_nil))))))), ?_⟩
  try dsimp only [cxOf]
  have hc : cols[j]? = some cols[j] := List.getElem?_eq_getElem hj
  have C := N.col _ (List.getElem_mem hj)
  obtain ⟨ca, hca, hcaS⟩ := h3.at hc
  obtain ⟨c', z, hc', hz, z0, z1, enx⟩ := N.nx (sd := sd) i0 i1 hj
  rw [enx] at k
  w_fin
  refine st_ixT h2 (at_of (j := j) (by omega) hca) ?_
  w_fin
  cases sd with
  | true =>
    have e : c' = cols[j] := by
      have : cols[j]? = some c' := hc'
      rw [hc] at this
      exact (Option.some.inj this).symm
    subst e
    refine st_y rfl ?_
    w_fin
    refine st_ixT hcaS (at_of (j := i.toNat) (v := .int z) (by omega) (by rw [List.getElem?_map, hz]; rfl)) ?_
    w_fin
    intro p H1 _ s1 hp
    exact k p H1 s1 hp
  | false =>
    have e : c' = back n cols[j] := by
      have : (cols.map (back n))[j]? = some c' := hc'
      rw [List.getElem?_map, hc] at this
      exact (Option.some.inj this).symm
    subst e
    have ez : z = spotN cols[j] i := by
      rw [back_at i0 i1] at hz
      exact (Option.some.inj hz).symm
    subst ez
    refine st_n (by decide) ?_
    w_fin
    intro l H1 _ s1 hl
    refine st_tyL hl ?_
    w_fin
    refine index_flat C i0 i1 hl ?_
    w_fin
    intro p H2 _ s2 hp
    exact k p H2 (s1.trans s2) hp
/-- the law's own view -/
def spWalk (K : PySem.W.Frag) (lvl : Nat) : Sp := fun vs H Q _ => ∃ (a : Addr) (sd : Bool) (i b : Int) (T n : Nat) (cols : List (List Int)) (ws bs : List Int), vs = [.ref a, .str (sideS sd), .int i, .int T, .int b] ∧ NetV K H a n cols ws bs ∧ Net n cols ws bs ∧ 0 ≤ i ∧ i < n ∧ T < lvl ∧
  ∀ (p : Addr) (H' : Hp), Same H H' → Dt K H' (.ref p) (gview (nfun ws bs) (nnx n cols) cols.length T (sd, i) b) → Q (.ref p) H'
set_option maxHeartbeats 1000000 in
theorem ok_walk (lvl : Nat) {f : Addr} {fd : FuncData} (B : Blt mg) (g_law_behind : Has P w K mg base CX0 1 "_law_behind" ["network", "side", "node", "colour"] (spBehind K))
    (g_law_walk : Has P w K mg base CX0 (lvl + 1) "_law_walk" ["network", "side", "node", "reach", "back"] (spWalk K lvl)) (F : Fun K "_law_walk" "_law_walk" s_law_walk f fd) : FnOk P w K mg base CX0 (lvl + 2) f fd ["network", "side", "node", "reach", "back"] (spWalk K (lvl + 1)) := by
  have sc : FnScope ["network", "side", "node", "reach", "back", "number", "parts", "colour", "there"] ["network", "side", "node", "reach", "back"] (defScope s_law_walk) := ⟨rfl, rfl, rfl, by decide +kernel, rfl, by decide +kernel, by decide +kernel⟩
  refine F.ok sc (fun vs H Q E h => ?_) (fun cdv A outer s H vs Q E hr h => ?_)
  · obtain ⟨_, _, _, _, _, _, _, _, _, rfl, _⟩ := h
    rfl
  obtain ⟨a, sd, i, b, T, n, cols, ws, bs, rfl, hV, N, i0, i1, hT, k⟩ := h
  obtain ⟨la, wa, ba, cs, h1, h2, h3, h4, h5⟩ := id hV
  refine ⟨_, (pss_cons (ps_set (i := 5) sc.nd rfl (Or.inl rfl) (pe_ix ix_tup (pe_ix ix_tup (pv 0) (pe_op op_add pe_int (pe_callTy call_int1 (by rfl) B.int (by decide +kernel) (pa_cons (pe_cmpR op_eqs (pv 1) pe_str (nomark _)) pa_nil))) (fun _ _ => rfl)) (pv 2) (fun _ _ => rfl)))
    (pss_cons (ps_if (pt_cmpR op_eqi (pv 3) pe_int (nomark _))
      (pss_one (ps_ret (pe_tupN (pa_cons (pv 5) pa_nil))))
      pss_nil)
    (pss_cons (ps_set (i := 6) sc.nd rfl (Or.inl rfl) (pe_lstN pa_nil))
    (pss_cons (ps_for PassesOwn.never rfl (pi_range2 (by rfl) B.range (pa_cons pe_int (pa_cons (pe_op op_add (pe_callB call_len_seq (by rfl) B.len (by decide +kernel) (pa_cons (pe_ix ix_tup (pv 0) pe_int (fun _ _ => rfl)) pa_nil)) pe_int) pa_nil))) (pg_name (i := 7) sc.nd rfl (Or.inl rfl))
      (pss_one (ps_if (pt_cmpR op_eqi (pv 7) (pv 4) (nomark _))
        (pss_one (ps_expr (pe_bm PySem.F.plainAttrs_list PySem.F.slot_list_append PySem.F.type_list_append mt_append (pv 6) (pa_cons pe_non pa_nil))))
        (pss_cons (ps_set (i := 8) sc.nd rfl (Or.inl rfl) (pc g_law_behind hr (pa_cons (pv 0) (pa_cons (pv 1) (pa_cons (pv 2) (pa_cons (pv 7) pa_nil))))))
        (pss_one (ps_expr (pe_bm PySem.F.plainAttrs_list PySem.F.slot_list_append PySem.F.type_list_append mt_append (pv 6) (pa_cons (pc g_law_walk hr (pa_cons (pv 0) (pa_cons (pe_ix ix_tup (pv 8) pe_int (fun _ _ => rfl)) (pa_cons (pe_ix ix_tup (pv 8) pe_int (fun _ _ => rfl)) (pa_cons (pe_op op_sub (pv 3) pe_int) (pa_cons (pv 7) pa_nil)))))) pa_nil))))))))
    (pss_one (ps_ret (pe_tupN (pa_cons (pv 5) (pa_cons (pe_callTy (show CallR _ _ (rTupN K) from call_tupN) (by rfl) B.tuple (by decide +kernel) (pa_cons (pv 6) pa_nil)) pa_nil))))))))), ?_⟩
  try dsimp only [cxOf]
  w_fin
  have pick : ∃ l : Addr, atI [V.str "network", .int n, .ref la, .ref wa, .ref ba] (3 + (if decide (sideS sd = ("black" : Str)) = true then 1 else 0)) = some (.ref l) ∧ SqT K H l ((if sd then ws else bs).map V.int) := by
    cases sd with
    | true => exact ⟨wa, by rw [show decide (sideS true = ("black" : Str)) = false by decide]; rfl, h4⟩
    | false => exact ⟨ba, by rw [show decide (sideS false = ("black" : Str)) = true by decide]; rfl, h5⟩
  obtain ⟨l, hl1, hl2⟩ := pick
  refine st_ixT h1 hl1 ?_
  w_fin
  refine st_ixT hl2 (nfun_at N i0 i1) ?_
  w_fin
  refine st_two (fun c => ?_) (fun c => ?_)
  · obtain rfl : T = 0 := by omega
    w_fin
    intro p H1 _ s1 hp
    exact k p H1 s1 (.tup (SqT.of hp) (.cons (.int _) .nil))
  obtain ⟨S, rfl⟩ : ∃ S, T = S + 1 := ⟨T - 1, by omega⟩
  w_fin
  intro pl H1 hpl s1 epl
  have h11 := s1.seqT h1
  have h21 := s1.seqT h2
  have D4 := N.D4
  have lcs : cs.length = cols.length := h3.len
  w_fin
  refine fr_range (fun j σ H' => ∃ (bv cv : Option V), σ = [some (.ref a), some (.str (sideS sd)), some (.int i), some (.int ((S + 1 : Nat) : Int)), some (.int b), some (.int (nfun ws bs (sd, i))), some (.ref pl), bv, cv] ∧
    AccD K H pl ((gparts (nfun ws bs) (nnx n cols) cols.length S (sd, i) b).take j) H') ⟨none, none, rfl, ⟨hpl, s1, [], epl, .nil⟩⟩ ?_ ?_
  · rintro j σ H2 hj ⟨bv, cv, rfl, acc⟩
    have jD : j < cols.length := by omega
    have few : ((gparts (nfun ws bs) (nnx n cols) cols.length S (sd, i) b).take j).length ≤ 100000 := by rw [List.length_take, gparts_len]; omega
    obtain ⟨ac0, e0, _⟩ := acc.ex
    w_fin
    refine st_two (fun c1 => ?_) (fun c1 => ?_)
    · w_fin
      obtain ⟨ac, e1, l1, a4⟩ := acc.push (v := .non) (r := .none) .non
      refine st_app e1 (lt_small (by omega)) ?_
      refine ⟨_, _, rfl, ?_⟩
      rw [gparts_take jD, if_pos c1]
      exact a4
    · have sH := acc.same
      w_fin
      obtain ⟨c', z, hc', hz, z0, z1, enx⟩ := N.nx (sd := sd) i0 i1 jD
      refine ⟨a, sd, i, j, n, cols, ws, bs, rfl, hV.stay sH.tups, N, i0, i1, jD, fun t H3 s3 ht => ?_⟩
      rw [enx] at ht
      have acc3 := acc.step s3
      obtain ⟨ac0, e0, _⟩ := acc3.ex
      w_fin
      refine ⟨a, !sd, z, 1 + (j : Int), S, n, cols, ws, bs, ?_, (hV.stay sH.tups).stay s3.tups, N, z0, z1, by omega, fun q H4 s4 hq => ?_⟩
      · rw [show ((S + 1 : Nat) : Int) - 1 = (S : Int) by omega]
      w_fin
      obtain ⟨ac, e1, l1, a5⟩ := (acc3.step s4).push hq
      refine st_app e1 (lt_small (by omega)) ?_
      refine ⟨_, _, rfl, ?_⟩
      rw [gparts_take jD, if_neg c1, enx]
      exact a5
  · rintro σ H2 ⟨bv, cv, rfl, acc⟩
    rw [List.take_of_length_le (by rw [gparts_len]; omega)] at acc
    obtain ⟨ac, e1, hac⟩ := acc.ex
    w_fin
    intro t H3 _ s3 ht
    w_fin
    intro p H4 _ s4 hp
    exact k p H4 (acc.same.trans (s3.trans s4)) (.tup (SqT.of hp) (.cons (.int _) (.cons (.tup (SqT.of (s4 _ _ ht)) (hac.stay (s3.trans s4).tups)) .nil)))
theorem has_walk (B : Blt mg) (d : Def K mg "_law_walk" s_law_walk ["network", "side", "node", "reach", "back"]) (g1 : Has P w K mg base CX0 1 "_law_behind" ["network", "side", "node", "colour"] (spBehind K)) :
    ∀ n : Nat, Has P w K mg base CX0 (n + 1) "_law_walk" ["network", "side", "node", "reach", "back"] (spWalk K n)
  | 0 => d.has fun f fd F => by
    have no : ∀ vs H Q E, ¬ spWalk K 0 vs H Q E := fun vs H Q E h => by
      obtain ⟨_, _, _, _, _, _, _, _, _, _, _, _, _, _, h, _⟩ := h
      omega
    exact ⟨fun vs H Q E h => absurd h (no vs H Q E), fun A outer s H args us vs Q E _ _ _ _ h => absurd h (no vs H Q E)⟩
  | n + 1 => d.has fun f fd F => ok_walk n B g1 (has_walk B d g1 n) F
def spRefused (K : PySem.W.Frag) : Sp := fun vs H Q _ => ∃ (M : Addr → Prop) (a : Addr) (x : V) (d : PyData) (n : Nat) (cols : List (List Int)) (ws bs : List Int), vs = [.ref a, x] ∧ Dn M K H x d ∧ isNum d 0 4 = false ∧ NetV K H a n cols ws bs ∧ Net n cols ws bs ∧ Q (.bl true) H
theorem ok_refused {C : Addr} {f : Addr} {fd : FuncData} (B : Blt mg) (eBadReach : Err K mg "BadReach" C) (hex : PySem.W.exmOne K (.ref C) (.ref C) = some true) (gview_in : Has P w K mg base (L2.CX P w) 7 "view_in" ["network", "side", "node", "reach"] (spView K C))
    (F : Fun K "_law_refused" "_law_refused" s_law_refused f fd) : FnOk P w K mg base CX0 8 f fd ["network", "reach"] (spRefused K) := by
  have sc : FnScope ["network", "reach"] ["network", "reach"] (defScope s_law_refused) := ⟨rfl, rfl, rfl, by decide +kernel, rfl, by decide +kernel, by decide +kernel⟩
  refine F.ok sc (fun vs H Q E h => ?_) (fun cdv A outer s H vs Q E hr h => ?_)
  · obtain ⟨_, _, _, _, _, _, _, _, rfl, _⟩ := h
    rfl
  obtain ⟨M, a, x, d, n, cols, ws, bs, rfl, hd, hn, hV, N, k⟩ := h
  refine ⟨_, (pss_cons (ps_try_only rfl rfl ⟨rfl, by decide, .inl eBadReach.g⟩ takes0 (fun W pn xe tk _ =>
      (pss_one (ps_expr (pcS gview_in hr tk (pa_cons (pv 0) (pa_cons pe_str (pa_cons pe_int (pa_cons (pv 1) pa_nil))))))))
      (fun _ _ _ _ _ _ _ => (pss_one (ps_ret pe_bl))))
    (pss_one (ps_ret pe_bl))), ?_⟩
  exact ⟨_, rfl, _, rfl, M, a, true, 0, x, d, n, cols, ws, bs, rfl, hd, hV, N, by omega, by have := N.pos; omega, .inl ⟨hn, true, hex, fun _ _ _ => k, fun z => nomatch z⟩⟩
end
section
variable {P : Program} {w : World} {K : PySem.W.Frag} {mg : Str → Option Value} {base : Heap}
def spLaw (K : PySem.W.Frag) : Sp := fun vs H Q _ => ∃ (a : Addr) (ns : List Int), vs = [.ref a] ∧ SqL K H a (ns.map V.int) ∧ ns.length ≤ 63 ∧ ∀ H', Q (.bl true) H'
set_option maxHeartbeats 1000000 in
theorem ok_all {C : Addr} {f : Addr} {fd : FuncData} (B : Blt mg) (g_law_draws : Has P w K mg base CX0 1 "_law_draws" ["script", "many"] (spDraws K)) (g_law_take : Has P w K mg base CX0 1 "_law_take" ["hand", "many"] (spTakeN K)) (g_law_network : Has P w K mg base CX0 3 "_law_network" ["hand", "colours", "many"] (spNet K))
    (g_law_walk : Has P w K mg base CX0 6 "_law_walk" ["network", "side", "node", "reach", "back"] (spWalk K 5)) (gview_in : Has P w K mg base (L2.CX P w) 7 "view_in" ["network", "side", "node", "reach"] (spView K C)) (g_law_refused : Has P w K mg base CX0 8 "_law_refused" ["network", "reach"] (spRefused K))
    (F : Fun K "_law_all" "_law_all" s_law_all f fd) : FnG P w K mg base 9 f fd ["script"] (spLaw K) := by
  have sc : FnScope ["script", "hand", "colours", "many", "network", "kept", "reach", "side", "k", "node", "due"] ["script"] (defScope s_law_all) := ⟨rfl, rfl, rfl, by decide +kernel, rfl, by decide +kernel, by decide +kernel⟩
  refine FnG.by F sc (fun vs H Q E h => ?_) (fun cdv A outer s H vs Q E hg hr h => ?_)
  · obtain ⟨_, _, rfl, _⟩ := h
    rfl
  obtain ⟨a, ns, rfl, hS, h63, k⟩ := h
  refine ⟨_, (pss_cons (ps_set (i := 1) sc.nd rfl (Or.inl rfl) (pe_lstN (pa_cons (pc g_law_draws hr (pa_cons (pv 0) (pa_cons pe_int pa_nil))) (pa_cons pe_int pa_nil))))
    (pss_cons (ps_set (i := 2) sc.nd rfl (Or.inl rfl) (pe_op op_add pe_int (pc g_law_take hr (pa_cons (pv 1) (pa_cons pe_int pa_nil)))))
    (pss_cons (ps_set (i := 3) sc.nd rfl (Or.inl rfl) (pe_op op_add pe_int (pc g_law_take hr (pa_cons (pv 1) (pa_cons pe_int pa_nil)))))
    (pss_cons (ps_set (i := 4) sc.nd rfl (Or.inl rfl) (pc g_law_network hr (pa_cons (pv 1) (pa_cons (pv 2) (pa_cons (pv 3) pa_nil)))))
    (pss_cons (ps_set (i := 5) sc.nd rfl (Or.inl rfl) (pe_callB (call_rep hg hr.units) (by rfl) B.repr (by decide +kernel) (pa_cons (pv 4) pa_nil)))
    (pss_cons (ps_for PassesOwn.never rfl (pi_range1 (by rfl) B.range (pa_cons (pe_op op_sub pe_int (pv 2)) pa_nil)) (pg_name (i := 6) sc.nd rfl (Or.inl rfl))
      (pss_one (ps_for PassesOwn.never rfl (pi_list (pe_lstN (pa_cons pe_str (pa_cons pe_str pa_nil)))) (pg_name (i := 7) sc.nd rfl (Or.inl rfl))
        (pss_one (ps_for PassesOwn.never rfl (pi_range1 (by rfl) B.range (pa_cons pe_int pa_nil)) (pg_name (i := 8) sc.nd rfl (Or.inl rfl))
          (pss_cons (ps_set (i := 9) sc.nd rfl (Or.inl rfl) (pc g_law_take hr (pa_cons (pv 1) (pa_cons (pv 3) pa_nil))))
          (pss_cons (ps_set (i := 10) sc.nd rfl (Or.inl rfl) (pe_callB (call_rep hg hr.units) (by rfl) B.repr (by decide +kernel) (pa_cons (pc g_law_walk hr (pa_cons (pv 4) (pa_cons (pv 7) (pa_cons (pv 9) (pa_cons (pv 6) (pa_cons pe_int pa_nil)))))) pa_nil)))
          (pss_cons (ps_if (pt_cmpR op_nes (pe_callB (call_rep hg hr.units) (by rfl) B.repr (by decide +kernel) (pa_cons (pcX gview_in hr (pa_cons (pv 4) (pa_cons (pv 7) (pa_cons (pv 9) (pa_cons (pv 6) pa_nil))))) pa_nil)) (pv 10) (nomark _))
            (pss_one (ps_ret pe_bl))
            pss_nil)
          (pss_one (ps_if (pt_cmpR op_nes (pe_callB (call_rep hg hr.units) (by rfl) B.repr (by decide +kernel) (pa_cons (pcX gview_in hr (pa_cons (pv 4) (pa_cons (pv 7) (pa_cons (pv 9) (pa_cons (pv 6) pa_nil))))) pa_nil)) (pv 10) (nomark _))
            (pss_one (ps_ret pe_bl))
            pss_nil))))))))))
    (pss_cons (ps_for PassesOwn.never rfl (pi_list (pe_lstN (pa_cons (pe_un un_neg pe_int) (pa_cons pe_int (pa_cons pe_bl (pa_cons pe_bl (pa_cons pe_non (pa_cons pe_str (pa_cons (pe_tupN (pa_cons pe_int pa_nil)) (pa_cons (pe_op op_pow pe_int pe_int) pa_nil)))))))))) (pg_name (i := 6) sc.nd rfl (Or.inl rfl))
      (pss_one (ps_if (pt_not (pt_val (pc g_law_refused hr (pa_cons (pv 4) (pa_cons (pv 6) pa_nil)))))
        (pss_one (ps_ret pe_bl))
        pss_nil)))
    (pss_one (ps_ret (pe_cmpR op_eqs (pe_callB (call_rep hg hr.units) (by rfl) B.repr (by decide +kernel) (pa_cons (pv 4) pa_nil)) (pv 5) (nomark _))))))))))), ?_⟩
  try dsimp only [cxOf, Cx.nox, Cx.wish]
  w_fin
  refine ⟨a, ns, 90, rfl, hS, h63, by omega, fun d H1 ds hd0 s1 hd1 hdl hdb => ?_⟩
  w_fin
  intro h H2 hh0 s2 hh
  have hh2 : Hand H2 h d ds 0 := ⟨hh, s2 _ _ hd1⟩
  w_fin
  refine ⟨h, d, ds, 0, _, rfl, hh2, by omega, by omega, fun D0 H3 d0 d1 hh3 g3 => ?_⟩
  w_fin
  refine ⟨h, d, ds, _, _, rfl, hh3, by omega, by omega, fun n0 H4 n00 n01 hh4 g4 => ?_⟩
  obtain ⟨D, hD⟩ : ∃ D : Nat, 2 + D0 = D := ⟨(2 + D0).toNat, by omega⟩
  obtain ⟨n, hn⟩ : ∃ n : Nat, 1 + n0 = n := ⟨(1 + n0).toNat, by omega⟩
  w_fin
  rw [hD, hn]
  refine ⟨h, d, ds, _, D, n, rfl, hh4, by omega, by omega, by omega, by omega, fun np H5 m5 cols ws bs hh5 g5 hV N lenD rw4 rb4 => ?_⟩
  have D4 : cols.length ≤ 4 := N.D4
  have netR := (sized_net N).rep (by omega) (by omega)
  have rep : ∀ {S : Nat} (s : NSt) (b : Int), S ≤ 4 → (gview (nfun ws bs) (nnx n cols) cols.length S s b).showable = true ∧ (gview (nfun ws bs) (nnx n cols) cols.length S s b).depth ≤ 60 ∧ (gview (nfun ws bs) (nnx n cols) cols.length S s b).shown.length ≤ sizeLine := fun {S} s b hS => (gview_sized N.fun_range S s b).rep (gbulk_le D4 hS) (by omega)
  w_fin
  refine st_rep hV.dt.dp netR ?_
  w_fin
  refine fr_range (fun i σ H' => ∃ (m : Nat) (rv sv kv nv dv : Option V), σ = [some (.ref a), some (.ref h), some (.int D), some (.int n), some (.ref np), some (.str (netD n cols ws bs).shown), rv, sv, kv, nv, dv] ∧ Hand H' h d ds m ∧ Go (· = h) H5 H') ⟨m5, none, none, none, none, none, rfl, hh5, Go.refl _⟩ ?_ ?_
  · rintro T σ H6 hT ⟨m, rv, sv, kv, nv, dv, rfl, hh6, g6⟩
    have hT4 : T ≤ 4 := by omega
    w_fin
    intro sl H7 hsl0 s7 esl
    w_fin
    obtain ⟨nsl, _⟩ := hand_out hh6 hsl0
    refine fr_list (xs := [.str "white", .str "black"]) (fun i σ H' => ∃ (m : Nat) (sv kv nv dv : Option V), σ = [some (.ref a), some (.ref h), some (.int D), some (.int n), some (.ref np), some (.str (netD n cols ws bs).shown), some (.int (0 + (T : Int))), sv, kv, nv, dv] ∧ Hand H' h d ds m ∧ Go (· = h) H5 H' ∧ H' sl = some (.lst [.str "white", .str "black"]))
      ⟨m, _, _, _, _, rfl, hh6.same s7, g6.trans s7.go, esl⟩ (fun i σ H' _ z => by
        obtain ⟨_, _, _, _, _, _, _, _, e⟩ := z
        exact SqL.of e) ?_ ?_
    · rintro si sx σ H8 hsi ⟨m, sv, kv, nv, dv, rfl, hh8, g8, esl8⟩
      obtain ⟨sd, rfl⟩ : ∃ sd : Bool, sx = .str (sideS sd) := by
        match si, hsi with
        | 0, hsi => exact ⟨true, (Option.some.inj hsi).symm⟩
        | 1, hsi => exact ⟨false, (Option.some.inj hsi).symm⟩
      w_fin
      refine fr_range (fun i σ H' => ∃ (m : Nat) (kv nv dv : Option V), σ = [some (.ref a), some (.ref h), some (.int D), some (.int n), some (.ref np), some (.str (netD n cols ws bs).shown), some (.int (0 + (T : Int))), some (.str (sideS sd)), kv, nv, dv] ∧ Hand H' h d ds m ∧ Go (· = h) H5 H' ∧ H' sl = some (.lst [.str "white", .str "black"]))
        ⟨m, _, _, _, rfl, hh8, g8, esl8⟩ ?_ ?_
      · rintro ki σ H9 hki ⟨m, kv, nv, dv, rfl, hh9, g9, esl9⟩
        w_fin
        refine ⟨h, d, ds, m, n, rfl, hh9, by omega, by omega, fun i H10 i0 i1 hh10 g10 => ?_⟩
        have g510 := g9.trans g10
        have esl10 := g10.out _ _ nsl esl9
        rw [Int.zero_add (T : Int)]
        w_fin
        refine ⟨np, sd, i, 0, T, n, cols, ws, bs, rfl, hV.stay g510.tups, N, i0, i1, by omega, fun p H11 s11 hp => ?_⟩
        w_fin
        refine st_rep hp.dp (rep _ _ hT4) ?_
        w_fin
        refine ⟨_, np, sd, i, _, .int T, n, cols, ws, bs, rfl, .int _ (M := fun _ => False), (hV.stay g510.tups).stay s11.tups, N, i0, i1, .inr ⟨T, rfl, hT4, fun p2 H12 s12 hp2 => ?_⟩⟩
        w_fin
        refine st_rep hp2.dp (rep _ _ hT4) ?_
        w_fin
        refine st_nn rfl ?_
        w_fin
        refine ⟨_, np, sd, i, _, .int T, n, cols, ws, bs, rfl, .int _ (M := fun _ => False), ((hV.stay g510.tups).stay s11.tups).stay s12.tups, N, i0, i1, .inr ⟨T, rfl, hT4, fun p3 H13 s13 hp3 => ?_⟩⟩
        w_fin
        refine st_rep hp3.dp (rep _ _ hT4) ?_
        w_fin
        refine st_nn rfl ?_
        w_fin
        have s3 := (s11.trans s12).trans s13
        exact ⟨m + 1, _, _, _, rfl, hh10.same s3, g510.trans s3.go, s3 _ _ esl10⟩
      · rintro σ H9 ⟨m, kv, nv, dv, rfl, hh9, g9, esl9⟩
        exact ⟨m, _, _, _, _, rfl, hh9, g9, esl9⟩
    · rintro σ H8 ⟨m, sv, kv, nv, dv, rfl, hh8, g8, esl8⟩
      exact ⟨m, _, _, _, _, _, rfl, hh8, g8⟩
  · rintro σ H6 ⟨m, rv, sv, kv, nv, dv, rfl, hh6, g6⟩
    w_fin
    intro t H7 _ s7 ht
    w_fin
    intro l H8 _ s8 hl
    have ht8 := s8 _ _ ht
    w_fin
    have s68 := s7.trans s8
    refine fr_list (xs := [.int (-1), .int 5, .bl true, .bl false, .non, .str "1", .ref t, .int (10 ^ (30 : Int).toNat)]) (fun i σ H' => ∃ (rv : Option V), σ = [some (.ref a), some (.ref h), some (.int D), some (.int n), some (.ref np), some (.str (netD n cols ws bs).shown), rv, sv, kv, nv, dv] ∧ H' = H8)
      ⟨_, rfl, rfl⟩ (fun i σ H' _ z => by
        obtain ⟨_, _, rfl⟩ := z
        exact SqL.of hl) ?_ ?_
    · rintro ri y σ H9 hri ⟨rv, rfl, rfl⟩
      have all : DnAll (fun _ => False) K H9 [.int (-1), .int 5, .bl true, .bl false, .non, .str "1", .ref t, .int (10 ^ (30 : Int).toNat)] [.int (-1), .int 5, .bool true, .bool false, .none, .str "1", .tuple [.int 1], .int (10 ^ (30 : Int).toNat)] :=
        .cons (.int _) (.cons (.int _) (.cons (.bl _) (.cons (.bl _) (.cons .non (.cons (.str _) (.cons (.tup (SqT.of ht8) (.cons (.int _) .nil)) (.cons (.int _) .nil)))))))
      obtain ⟨e, he, hy⟩ := all.of hri
      have bad : isNum e 0 4 = false := by
        have he := List.mem_of_getElem? he
        simp only [List.mem_cons, List.not_mem_nil, or_false] at he
        rcases he with rfl | rfl | rfl | rfl | rfl | rfl | rfl | rfl <;> decide
      w_fin
      refine ⟨_, np, y, e, n, cols, ws, bs, rfl, hy, bad, hV.stay (g6.trans s68.go).tups, N, ?_⟩
      w_fin
      exact ⟨_, rfl, rfl⟩
    · rintro σ H9 ⟨rv, rfl, rfl⟩
      w_fin
      refine st_rep (hV.stay (g6.trans s68.go).tups).dt.dp netR ?_
      w_fin
      rw [decide_eq_true rfl]
      exact k H9
theorem ok_law {C : Addr} {f : Addr} {fd : FuncData} (B : Blt mg) (eLookError : Err K mg "LookError" C) (g_law_all : HasG P w K mg base 9 "_law_all" ["script"] (spLaw K)) (F : Fun K "law" "law" slaw f fd) : FnG P w K mg base 10 f fd ["script"] (spLaw K) := by
  have sc : FnScope ["script"] ["script"] (defScope slaw) := ⟨rfl, rfl, rfl, by decide +kernel, rfl, by decide +kernel, by decide +kernel⟩
  refine FnG.by F sc (fun vs H Q E h => ?_) (fun cdv A outer s H vs Q E hg hr h => ?_)
  · obtain ⟨_, _, rfl, _⟩ := h
    rfl
  obtain ⟨a, ns, rfl, hS, h63, k⟩ := h
  refine ⟨_, (pss_one (ps_try_only rfl rfl ⟨rfl, by decide, .inl eLookError.g⟩ takes0 (fun W pn xe tk _ =>
      (pss_one (ps_ret (pcG g_law_all hg hr (pa_cons (pv 0) pa_nil)))))
      (fun _ _ _ _ _ _ _ => (pss_one (ps_ret pe_bl))))), ?_⟩
  exact ⟨_, rfl, a, ns, rfl, hS, h63, fun H' => k H'⟩
end
/-! ### the top: the defs stand there as the text says -/
theorem def_mk {K : PySem.W.Frag} {h : Heap} {mg : Str → Option Value} {x : Str} {st : Stmt} {ps : List Str} {f : Addr} {od an : Option Addr} {sl : Array (Option Value)} {oc kV dc pm cd ct : Value} (X : K.In h) (G : h.Ns mainGlobals mg)
    (a : PySem.W.nsIn K mainGlobals x = some (some (.ref f))) (l : K.lookup f = some ⟨oc, od, .func (PySem.W.fnOf x x (defArgs st) (defBody st) (defScope st) .none kV dc pm an cd ct), sl⟩) (c : PySem.W.codeIn K cd x = true) (k : PySem.W.keepIn K (.ref f) = true)
    (b : ∀ (kV doc pm : Value) (an : Option Addr) (cdv ct : Value) (us : List Value), us.length = ps.length → bindArgs (PySem.W.fnOf x x (defArgs st) (defBody st) (defScope st) .none kV doc pm an cdv ct) ⟨us, []⟩ = pure (ps.zip us)) : Def K mg x st ps :=
  ⟨f, _, fun_mk l c k, PySem.W.mg_of X G a, (fun_mk l c k).binds b⟩
theorem all_mk {l : PySem.W.OpenLaw} {w : World} {K : PySem.W.Frag} {h : Heap} {mg : Str → Option Value} {fa f4 f5 f7 f11 f12 f13 f14 f16 f17 f18 f19 f20 f21 f22 f23 f24 CBadReach CLookError : Addr} (X : K.In h) (G : h.Ns mainGlobals mg) (hfa : mg "law" = some (.ref fa))
    {od4 an4 od5 an5 od7 an7 od11 an11 od12 an12 od13 an13 od14 an14 od16 an16 od17 an17 od18 an18 od19 an19 od20 an20 od21 an21 od22 an22 od23 an23 od24 an24 : Option Addr} {D14 : Addr} {sl4 sl5 sl7 sl11 sl12 sl13 sl14 sl16 sl17 sl18 sl19 sl20 sl21 sl22 sl23 sl24 : Array (Option Value)} {oc4 kV4 dc4 pm4 cd4 ct4 oc5 kV5 dc5 pm5 cd5 ct5 oc7 kV7 dc7 pm7 cd7 ct7 oc11 kV11 dc11 pm11 cd11 ct11 oc12 kV12 dc12 pm12 cd12 ct12 oc13 kV13 dc13 pm13 cd13 ct13 oc14 kV14 dc14 pm14 cd14 ct14 oc16 kV16 dc16 pm16 cd16 ct16 oc17 kV17 dc17 pm17 cd17 ct17 oc18 kV18 dc18 pm18 cd18 ct18 oc19 kV19 dc19 pm19 cd19 ct19 oc20 kV20 dc20 pm20 cd20 ct20 oc21 kV21 dc21 pm21 cd21 ct21 oc22 kV22 dc22 pm22 cd22 ct22 oc23 kV23 dc23 pm23 cd23 ct23 oc24 kV24 dc24 pm24 cd24 ct24 : Value}
    (a4 : PySem.W.nsIn K mainGlobals "is_number" = some (some (.ref f4))) (l4 : K.lookup f4 = some ⟨oc4, od4, .func (PySem.W.fnOf "is_number" "is_number" (defArgs sis_number) (defBody sis_number) (defScope sis_number) .none kV4 dc4 pm4 an4 cd4 ct4), sl4⟩) (c4 : PySem.W.codeIn K cd4 "is_number" = true) (k4 : PySem.W.keepIn K (.ref f4) = true)
    (a5 : PySem.W.nsIn K mainGlobals "check_reach" = some (some (.ref f5))) (l5 : K.lookup f5 = some ⟨oc5, od5, .func (PySem.W.fnOf "check_reach" "check_reach" (defArgs scheck_reach) (defBody scheck_reach) (defScope scheck_reach) .none kV5 dc5 pm5 an5 cd5 ct5), sl5⟩) (c5 : PySem.W.codeIn K cd5 "check_reach" = true) (k5 : PySem.W.keepIn K (.ref f5) = true)
    (a7 : PySem.W.nsIn K mainGlobals "other_side" = some (some (.ref f7))) (l7 : K.lookup f7 = some ⟨oc7, od7, .func (PySem.W.fnOf "other_side" "other_side" (defArgs sother_side) (defBody sother_side) (defScope sother_side) .none kV7 dc7 pm7 an7 cd7 ct7), sl7⟩) (c7 : PySem.W.codeIn K cd7 "other_side" = true) (k7 : PySem.W.keepIn K (.ref f7) = true)
    (a11 : PySem.W.nsIn K mainGlobals "view_in" = some (some (.ref f11))) (l11 : K.lookup f11 = some ⟨oc11, od11, .func (PySem.W.fnOf "view_in" "view_in" (defArgs sview_in) (defBody sview_in) (defScope sview_in) .none kV11 dc11 pm11 an11 cd11 ct11), sl11⟩) (c11 : PySem.W.codeIn K cd11 "view_in" = true) (k11 : PySem.W.keepIn K (.ref f11) = true)
    (a12 : PySem.W.nsIn K mainGlobals "ends_of" = some (some (.ref f12))) (l12 : K.lookup f12 = some ⟨oc12, od12, .func (PySem.W.fnOf "ends_of" "ends_of" (defArgs sends_of) (defBody sends_of) (defScope sends_of) .none kV12 dc12 pm12 an12 cd12 ct12), sl12⟩) (c12 : PySem.W.codeIn K cd12 "ends_of" = true) (k12 : PySem.W.keepIn K (.ref f12) = true)
    (a13 : PySem.W.nsIn K mainGlobals "inputs_of" = some (some (.ref f13))) (l13 : K.lookup f13 = some ⟨oc13, od13, .func (PySem.W.fnOf "inputs_of" "inputs_of" (defArgs sinputs_of) (defBody sinputs_of) (defScope sinputs_of) .none kV13 dc13 pm13 an13 cd13 ct13), sl13⟩) (c13 : PySem.W.codeIn K cd13 "inputs_of" = true) (k13 : PySem.W.keepIn K (.ref f13) = true)
    (a14 : PySem.W.nsIn K mainGlobals "_seen" = some (some (.ref f14))) (l14 : K.lookup f14 = some ⟨oc14, od14, .func (PySem.W.fnOf "_seen" "_seen" (defArgs s_seen) (defBody s_seen) (defScope s_seen) (.ref D14) kV14 dc14 pm14 an14 cd14 ct14), sl14⟩) (c14 : PySem.W.codeIn K cd14 "_seen" = true) (k14 : PySem.W.keepIn K (.ref f14) = true) (v14 : DflV K (.ref D14) [.int 0])
    (a16 : PySem.W.nsIn K mainGlobals "_law_draws" = some (some (.ref f16))) (l16 : K.lookup f16 = some ⟨oc16, od16, .func (PySem.W.fnOf "_law_draws" "_law_draws" (defArgs s_law_draws) (defBody s_law_draws) (defScope s_law_draws) .none kV16 dc16 pm16 an16 cd16 ct16), sl16⟩) (c16 : PySem.W.codeIn K cd16 "_law_draws" = true) (k16 : PySem.W.keepIn K (.ref f16) = true)
    (a17 : PySem.W.nsIn K mainGlobals "_law_take" = some (some (.ref f17))) (l17 : K.lookup f17 = some ⟨oc17, od17, .func (PySem.W.fnOf "_law_take" "_law_take" (defArgs s_law_take) (defBody s_law_take) (defScope s_law_take) .none kV17 dc17 pm17 an17 cd17 ct17), sl17⟩) (c17 : PySem.W.codeIn K cd17 "_law_take" = true) (k17 : PySem.W.keepIn K (.ref f17) = true)
    (a18 : PySem.W.nsIn K mainGlobals "_law_order" = some (some (.ref f18))) (l18 : K.lookup f18 = some ⟨oc18, od18, .func (PySem.W.fnOf "_law_order" "_law_order" (defArgs s_law_order) (defBody s_law_order) (defScope s_law_order) .none kV18 dc18 pm18 an18 cd18 ct18), sl18⟩) (c18 : PySem.W.codeIn K cd18 "_law_order" = true) (k18 : PySem.W.keepIn K (.ref f18) = true)
    (a19 : PySem.W.nsIn K mainGlobals "_law_network" = some (some (.ref f19))) (l19 : K.lookup f19 = some ⟨oc19, od19, .func (PySem.W.fnOf "_law_network" "_law_network" (defArgs s_law_network) (defBody s_law_network) (defScope s_law_network) .none kV19 dc19 pm19 an19 cd19 ct19), sl19⟩) (c19 : PySem.W.codeIn K cd19 "_law_network" = true) (k19 : PySem.W.keepIn K (.ref f19) = true)
    (a20 : PySem.W.nsIn K mainGlobals "_law_behind" = some (some (.ref f20))) (l20 : K.lookup f20 = some ⟨oc20, od20, .func (PySem.W.fnOf "_law_behind" "_law_behind" (defArgs s_law_behind) (defBody s_law_behind) (defScope s_law_behind) .none kV20 dc20 pm20 an20 cd20 ct20), sl20⟩) (c20 : PySem.W.codeIn K cd20 "_law_behind" = true) (k20 : PySem.W.keepIn K (.ref f20) = true)
    (a21 : PySem.W.nsIn K mainGlobals "_law_walk" = some (some (.ref f21))) (l21 : K.lookup f21 = some ⟨oc21, od21, .func (PySem.W.fnOf "_law_walk" "_law_walk" (defArgs s_law_walk) (defBody s_law_walk) (defScope s_law_walk) .none kV21 dc21 pm21 an21 cd21 ct21), sl21⟩) (c21 : PySem.W.codeIn K cd21 "_law_walk" = true) (k21 : PySem.W.keepIn K (.ref f21) = true)
    (a22 : PySem.W.nsIn K mainGlobals "_law_refused" = some (some (.ref f22))) (l22 : K.lookup f22 = some ⟨oc22, od22, .func (PySem.W.fnOf "_law_refused" "_law_refused" (defArgs s_law_refused) (defBody s_law_refused) (defScope s_law_refused) .none kV22 dc22 pm22 an22 cd22 ct22), sl22⟩) (c22 : PySem.W.codeIn K cd22 "_law_refused" = true) (k22 : PySem.W.keepIn K (.ref f22) = true)
    (a23 : PySem.W.nsIn K mainGlobals "_law_all" = some (some (.ref f23))) (l23 : K.lookup f23 = some ⟨oc23, od23, .func (PySem.W.fnOf "_law_all" "_law_all" (defArgs s_law_all) (defBody s_law_all) (defScope s_law_all) .none kV23 dc23 pm23 an23 cd23 ct23), sl23⟩) (c23 : PySem.W.codeIn K cd23 "_law_all" = true) (k23 : PySem.W.keepIn K (.ref f23) = true)
    (a24 : PySem.W.nsIn K mainGlobals "law" = some (some (.ref f24))) (l24 : K.lookup f24 = some ⟨oc24, od24, .func (PySem.W.fnOf "law" "law" (defArgs slaw) (defBody slaw) (defScope slaw) .none kV24 dc24 pm24 an24 cd24 ct24), sl24⟩) (c24 : PySem.W.codeIn K cd24 "law" = true) (k24 : PySem.W.keepIn K (.ref f24) = true)
    (gBadReach : PySem.W.nsIn K mainGlobals "BadReach" = some (some (.ref CBadReach))) (xBadReach : PySem.W.excIn K CBadReach [.type "ValueError", .type "Exception", .type "BaseException", .type "object"] "ValueError.__new__" = true) (kBadReach : PySem.W.keepIn K (.ref CBadReach) = true) (bBadReach : PySem.W.subIn K (.ref CBadReach) (.type "BaseException") = some true) (tBadReach : PySem.W.typeIn K (.ref CBadReach) = some (.type "type")) (iBadReach : PySem.W.isClsIn K CBadReach = true)
    (gLookError : PySem.W.nsIn K mainGlobals "LookError" = some (some (.ref CLookError))) (xLookError : PySem.W.excIn K CLookError [.type "ValueError", .type "Exception", .type "BaseException", .type "object"] "ValueError.__new__" = true) (kLookError : PySem.W.keepIn K (.ref CLookError) = true) (bLookError : PySem.W.subIn K (.ref CLookError) (.type "BaseException") = some true) (tLookError : PySem.W.typeIn K (.ref CLookError) = some (.type "type")) (iLookError : PySem.W.isClsIn K CLookError = true)
    (sBadReachBadReach : PySem.W.subIn K (.ref CBadReach) (.ref CBadReach) = some true)
    (zabs : PySem.W.nsIn K mainGlobals "abs" = some none)
    (zint : PySem.W.nsIn K mainGlobals "int" = some none)
    (zlen : PySem.W.nsIn K mainGlobals "len" = some none)
    (zrange : PySem.W.nsIn K mainGlobals "range" = some none)
    (ztuple : PySem.W.nsIn K mainGlobals "tuple" = some none)
    (zisinstance : PySem.W.nsIn K mainGlobals "isinstance" = some none)
    (zbool : PySem.W.nsIn K mainGlobals "bool" = some none)
    (zlist : PySem.W.nsIn K mainGlobals "list" = some none)
    (zrepr : PySem.W.nsIn K mainGlobals "repr" = some none)
    (zenumerate : PySem.W.nsIn K mainGlobals "enumerate" = some none)
    {tkMOST_REACH : Tok} (qMOST_REACH : PySem.W.nsIn K mainGlobals "MOST_REACH" = some (some (.int 4 tkMOST_REACH)))
    {tkNO_COLOUR : Tok} (qNO_COLOUR : PySem.W.nsIn K mainGlobals "NO_COLOUR" = some (some (.int 0 tkNO_COLOUR))) :
    ∃ fd : FuncData, (∀ (s : Shared) (v : Value), BindsTo s fd ⟨[v], []⟩ [("script", v)]) ∧ ∀ base : Heap, K.In base → base.Ns mainGlobals mg → FnG l.prog w K mg base 10 fa fd ["script"] (spLaw K) := by
  have e := hfa.symm.trans (PySem.W.mg_of X G a24)
  cases e
  have B : Blt mg := ⟨PySem.W.mg_none_of X G zabs, PySem.W.mg_none_of X G zint, PySem.W.mg_none_of X G zlen, PySem.W.mg_none_of X G zrange, PySem.W.mg_none_of X G ztuple, PySem.W.mg_none_of X G zisinstance, PySem.W.mg_none_of X G zbool, PySem.W.mg_none_of X G zlist, PySem.W.mg_none_of X G zrepr, PySem.W.mg_none_of X G zenumerate⟩
  have T : Cst mg := ⟨⟨_, PySem.W.mg_of X G qMOST_REACH⟩, ⟨_, PySem.W.mg_of X G qNO_COLOUR⟩⟩
  have eBadReach : Err K mg "BadReach" CBadReach := ⟨xBadReach, PySem.W.mg_of X G gBadReach, kBadReach, bBadReach, tBadReach⟩
  have eLookError : Err K mg "LookError" CLookError := ⟨xLookError, PySem.W.mg_of X G gLookError, kLookError, bLookError, tLookError⟩
  have hBadReachBadReach := exm_of2 bBadReach iBadReach tBadReach sBadReachBadReach
  have dis_number : Def K mg "is_number" sis_number ["value", "low", "high"] := def_mk X G a4 l4 c4 k4 fun _ _ _ _ _ _ us hl => match us, hl with | [_, _, _], _ => rfl
  have dcheck_reach : Def K mg "check_reach" scheck_reach ["reach", "low", "high"] := def_mk X G a5 l5 c5 k5 fun _ _ _ _ _ _ us hl => match us, hl with | [_, _, _], _ => rfl
  have dother_side : Def K mg "other_side" sother_side ["side"] := def_mk X G a7 l7 c7 k7 fun _ _ _ _ _ _ us hl => match us, hl with | [_], _ => rfl
  have dview_in : Def K mg "view_in" sview_in ["network", "side", "node", "reach"] := def_mk X G a11 l11 c11 k11 fun _ _ _ _ _ _ us hl => match us, hl with | [_, _, _, _], _ => rfl
  have dends_of : Def K mg "ends_of" sends_of ["network"] := def_mk X G a12 l12 c12 k12 fun _ _ _ _ _ _ us hl => match us, hl with | [_], _ => rfl
  have dinputs_of : Def K mg "inputs_of" sinputs_of ["network", "side"] := def_mk X G a13 l13 c13 k13 fun _ _ _ _ _ _ us hl => match us, hl with | [_, _], _ => rfl
  have d_seen : DefV K mg "_seen" s_seen ["network", "ends", "side", "node", "reach", "colour"] [.int 0] := defV_mk X G a14 l14 c14 k14 v14 (by simp) fun _ _ _ _ _ _ _ us its hl hi => match us, hl, its, hi with | [_, _, _, _, _, _], _, [_], _ => ⟨_, rfl, rfl⟩
  have v_seen : DefD K mg "_seen" s_seen ["network", "ends", "side", "node", "reach", "colour"] [.int 0] := defD_mk 5 X G a14 l14 c14 k14 v14 (by simp) rfl fun _ _ _ _ _ _ _ us its hl hi => match us, hl, its, hi with | [_, _, _, _, _], _, [_], _ => ⟨_, rfl, rfl⟩
  have d_law_draws : Def K mg "_law_draws" s_law_draws ["script", "many"] := def_mk X G a16 l16 c16 k16 fun _ _ _ _ _ _ us hl => match us, hl with | [_, _], _ => rfl
  have d_law_take : Def K mg "_law_take" s_law_take ["hand", "many"] := def_mk X G a17 l17 c17 k17 fun _ _ _ _ _ _ us hl => match us, hl with | [_, _], _ => rfl
  have d_law_order : Def K mg "_law_order" s_law_order ["hand", "many"] := def_mk X G a18 l18 c18 k18 fun _ _ _ _ _ _ us hl => match us, hl with | [_, _], _ => rfl
  have d_law_network : Def K mg "_law_network" s_law_network ["hand", "colours", "many"] := def_mk X G a19 l19 c19 k19 fun _ _ _ _ _ _ us hl => match us, hl with | [_, _, _], _ => rfl
  have d_law_behind : Def K mg "_law_behind" s_law_behind ["network", "side", "node", "colour"] := def_mk X G a20 l20 c20 k20 fun _ _ _ _ _ _ us hl => match us, hl with | [_, _, _, _], _ => rfl
  have d_law_walk : Def K mg "_law_walk" s_law_walk ["network", "side", "node", "reach", "back"] := def_mk X G a21 l21 c21 k21 fun _ _ _ _ _ _ us hl => match us, hl with | [_, _, _, _, _], _ => rfl
  have d_law_refused : Def K mg "_law_refused" s_law_refused ["network", "reach"] := def_mk X G a22 l22 c22 k22 fun _ _ _ _ _ _ us hl => match us, hl with | [_, _], _ => rfl
  have d_law_all : Def K mg "_law_all" s_law_all ["script"] := def_mk X G a23 l23 c23 k23 fun _ _ _ _ _ _ us hl => match us, hl with | [_], _ => rfl
  refine ⟨PySem.W.fnOf "law" "law" (defArgs slaw) (defBody slaw) (defScope slaw) .none kV24 dc24 pm24 an24 cd24 ct24, fun s v => .of_eq rfl, fun base _ _ => ?_⟩
  have gtake : Has l.prog w K mg base CX0 1 "_law_take" ["hand", "many"] (spTakeN K) := takeN (d_law_take.has fun f fd F => ok_take B F)
  have gdraws : Has l.prog w K mg base CX0 1 "_law_draws" ["script", "many"] (spDraws K) := d_law_draws.has fun f fd F => ok_draws B F
  have gnum : Has l.prog w K mg base CX0 1 "is_number" ["value", "low", "high"] (spNumber K) := dis_number.has fun f fd F => ok_number B F
  have gchk : Has l.prog w K mg base (L2.CX l.prog w) 2 "check_reach" ["reach", "low", "high"] (spCheck K CBadReach) := dcheck_reach.has fun f fd F => ok_check B eBadReach gnum F
  have goth : Has l.prog w K mg base CX0 1 "other_side" ["side"] (spOther K) := dother_side.has fun f fd F => ok_other F
  have ginp : Has l.prog w K mg base CX0 1 "inputs_of" ["network", "side"] (spInputs K) := dinputs_of.has fun f fd F => ok_inputs F
  have gends : Has l.prog w K mg base CX0 1 "ends_of" ["network"] (spEnds K) := dends_of.has fun f fd F => ok_ends B F
  have gseen : Has l.prog w K mg base CX0 5 "_seen" ["network", "ends", "side", "node", "reach", "colour"] (spSeen K 4) := has_seen B d_seen ginp goth 4
  have gseenD : HasD l.prog w K mg base CX0 6 "_seen" ["network", "ends", "side", "node", "reach", "colour"] [.int 0] (spSeen K 5) := v_seen.has fun f fd F => ok_seen 4 B ginp goth gseen F
  have gview : Has l.prog w K mg base (L2.CX l.prog w) 7 "view_in" ["network", "side", "node", "reach"] (spView K CBadReach) := dview_in.has fun f fd F => ok_view B T gchk gends gseenD F
  have gord : Has l.prog w K mg base CX0 2 "_law_order" ["hand", "many"] (spOrder K) := d_law_order.has fun f fd F => ok_order B gtake F
  have gnet : Has l.prog w K mg base CX0 3 "_law_network" ["hand", "colours", "many"] (spNet K) := d_law_network.has fun f fd F => ok_net B gtake gord F
  have gbeh : Has l.prog w K mg base CX0 1 "_law_behind" ["network", "side", "node", "colour"] (spBehind K) := d_law_behind.has fun f fd F => ok_behind B F
  have gwalk : Has l.prog w K mg base CX0 6 "_law_walk" ["network", "side", "node", "reach", "back"] (spWalk K 5) := has_walk B d_law_walk gbeh 5
  have gref : Has l.prog w K mg base CX0 8 "_law_refused" ["network", "reach"] (spRefused K) := d_law_refused.has fun f fd F => ok_refused B eBadReach hBadReachBadReach gview F
  have gall : HasG l.prog w K mg base 9 "_law_all" ["script"] (spLaw K) := d_law_all.hasG fun f fd F => ok_all B gdraws gtake gnet gwalk gview gref F
  exact ok_law B eLookError gall (fun_mk l24 c24 k24)
end Lw
open PySem PySem.W PyProof.Rows
set_option maxRecDepth 100000 in
set_option maxHeartbeats 0 in
theorem PySem.Challenge.cw_looksfar_k17_view_in_holds : PySem.Challenge.rw_looksfar_k17_view_in.Holds := by
  w_on; o_law; k_head; (case hw => w_witness2)
  k_fill
  refine LG.walk_G (l := PySem.Challenge.rw_looksfar_k17_view_in) (n := 63) (k := 10) (sp := Lw.spLaw) (x := "script") rfl (by decide) rfl ⟨rfl, by decide, by decide⟩ (fun w h Y => PySem.W.kIn_of Y) ?F (fun K H a ns hl _ hS => ⟨a, ns, rfl, hS, hl, fun _ => rfl⟩)
  case F =>
    intro w mg fa h KX G hmg
    refine' Lw.all_mk KX G hmg ?a4 ?l4 ?c4 ?k4 ?a5 ?l5 ?c5 ?k5 ?a7 ?l7 ?c7 ?k7 ?a11 ?l11 ?c11 ?k11 ?a12 ?l12 ?c12 ?k12 ?a13 ?l13 ?c13 ?k13 ?a14 ?l14 ?c14 ?k14 ?v14 ?a16 ?l16 ?c16 ?k16 ?a17 ?l17 ?c17 ?k17 ?a18 ?l18 ?c18 ?k18 ?a19 ?l19 ?c19 ?k19 ?a20 ?l20 ?c20 ?k20 ?a21 ?l21 ?c21 ?k21 ?a22 ?l22 ?c22 ?k22 ?a23 ?l23 ?c23 ?k23 ?a24 ?l24 ?c24 ?k24 ?gBadReach ?xBadReach ?kBadReach ?bBadReach ?tBadReach ?iBadReach ?gLookError ?xLookError ?kLookError ?bLookError ?tLookError ?iLookError ?sBadReachBadReach ?zabs ?zint ?zlen ?zrange ?ztuple ?zisinstance ?zbool ?zlist ?zrepr ?zenumerate ?qMOST_REACH ?qNO_COLOUR
    (case a4 => k_is)
    (case l4 => k_is)
    (case c4 => k_is)
    (case k4 => k_is)
    (case a5 => k_is)
    (case l5 => k_is)
    (case c5 => k_is)
    (case k5 => k_is)
    (case a7 => k_is)
    (case l7 => k_is)
    (case c7 => k_is)
    (case k7 => k_is)
    (case a11 => k_is)
    (case l11 => k_is)
    (case c11 => k_is)
    (case k11 => k_is)
    (case a12 => k_is)
    (case l12 => k_is)
    (case c12 => k_is)
    (case k12 => k_is)
    (case a13 => k_is)
    (case l13 => k_is)
    (case c13 => k_is)
    (case k13 => k_is)
    (case a14 => k_is)
    (case l14 => k_is)
    (case c14 => k_is)
    (case k14 => k_is)
    (case v14 => exact .inr ⟨by simp, _, _, [_], _, rfl, rfl, rfl, .cons ⟨_, rfl⟩ .nil⟩)
    (case a16 => k_is)
    (case l16 => k_is)
    (case c16 => k_is)
    (case k16 => k_is)
    (case a17 => k_is)
    (case l17 => k_is)
    (case c17 => k_is)
    (case k17 => k_is)
    (case a18 => k_is)
    (case l18 => k_is)
    (case c18 => k_is)
    (case k18 => k_is)
    (case a19 => k_is)
    (case l19 => k_is)
    (case c19 => k_is)
    (case k19 => k_is)
    (case a20 => k_is)
    (case l20 => k_is)
    (case c20 => k_is)
    (case k20 => k_is)
    (case a21 => k_is)
    (case l21 => k_is)
    (case c21 => k_is)
    (case k21 => k_is)
    (case a22 => k_is)
    (case l22 => k_is)
    (case c22 => k_is)
    (case k22 => k_is)
    (case a23 => k_is)
    (case l23 => k_is)
    (case c23 => k_is)
    (case k23 => k_is)
    (case a24 => k_is)
    (case l24 => k_is)
    (case c24 => k_is)
    (case k24 => k_is)
    (case gBadReach => k_is)
    (case xBadReach => k_exc)
    (case kBadReach => k_is)
    (case bBadReach => k_is)
    (case tBadReach => k_is)
    (case iBadReach => k_is)
    (case gLookError => k_is)
    (case xLookError => k_exc)
    (case kLookError => k_is)
    (case bLookError => k_is)
    (case tLookError => k_is)
    (case iLookError => k_is)
    (case sBadReachBadReach => first | rfl | k_is)
    (case zabs => k_is)
    (case zint => k_is)
    (case zlen => k_is)
    (case zrange => k_is)
    (case ztuple => k_is)
    (case zisinstance => k_is)
    (case zbool => k_is)
    (case zlist => k_is)
    (case zrepr => k_is)
    (case zenumerate => k_is)
    (case qMOST_REACH => k_is)
    (case qNO_COLOUR => k_is)
